import PyProof.Rows.All
import Wide.All
import OpenK.AllK
import Wide.FinOn
import Lean
import PyProof.EqAt
import PyProof.EqKinds
import PyProof.TupleCall
import PySem.Challenge.RW_calmring_k43_mend
abbrev JF:=PySem.Value->PySem.Shared->Prop
abbrev JG:=PySem.Str->Option PySem.Value
abbrev JH:=List (Int×Int)
abbrev JI:=List (PySem.Addr×PySem.Obj)
abbrev JJ:=PySem.Addr->Prop
abbrev JK:=List Int
abbrev JL:=List PySem.Value
abbrev JM:=List PySem.Addr
abbrev JN:=List PySem.Str
abbrev JO:=Option Int
abbrev JP:=Array PySem.Value
open List(range mem_filter mem_range mem_cons_self mem_cons_of_mem mem_cons mem_append mem_append_left getElem_inj getElem?_set_self getElem?_set_ne mem_append_right size_toArray length_cons map_cons length_map append_nil nodup_cons replicate length_take getElem?_append_right getElem?_replicate getElem?_append_left getElem?_map length_append zip_cons_cons map_nil length_set replicate_succ flatten_cons foldl foldl_cons Pairwise nodup_nil nodup_append Sublist all_cons any_eq_true drop_length pairwise_cons mem_map all_eq_true not_mem_nil getD_eq_getElem?_getD getElem_of_mem getElem?_eq_getElem getElem_mem nodup_range ext_getElem take_add_one sum_append sum_cons take_length getElem?_cons_succ getElem?_cons_zero getElem?_set map_map map_set length_range map_append filter_cons range_succ length_filter_le Nodup map_congr_left)
open PySem.W(instObj methodObj hideAll hideAll_get lookIn plainGet hasDictIn handedIn plainGet_of plainOver takerIn makesIn emptyDict callWith_K methodCall_KW kitOne kia_one mroIn clsIn excIn specialIn readsIn findCls exmOne mg_of)
open PySem.Heap(lt_size SameBut get?_push_of_some get?_push_size size_push get?_update_other ExtBut)
open Nat(zero_le le_succ not_lt_zero)
open Bool(or_eq_false_iff and_eq_true false_eq_true not_eq_true' or_eq_true)
open Option(isSome_iff_exists map_eq_some_iff getD_some toList)
open Int(toNat_natCast emod_nonneg emod_lt_of_pos emod_eq_of_lt)
open PyProof.Rows(firstMet evalArgs_kw2 step_dedup)
set_option Elab.async false
set_option linter.all false
set_option maxRecDepth 100000
noncomputable section
set_option genSizeOf false
set_option compiler.extract_closed false
set_option bootstrap.genMatcherCode false
section
local macro_rules|`(())=>`(by omega)
namespace L2
open PySem PySem.Spec PyProof.Rows
section
abbrev Key:=Sum Int Str
def Cv:Key->Value->Bool
 |.inl k,v=>Value.isInt k v
 |.inr x,v=>Value.isStrOf x v
def I_(w:World):Key->Int
 |.inl k=>hashInt k
 |.inr x=>hashStr w x
def cL:∀{k:Key}{v:Value},Cv k v=true->(∃i t,k=Sum.inl i/\v=Value.int i t)\/(∃x t,k=Sum.inr x/\v=Value.str x t)
 |.inl i,v,h=>by obtain⟨t,e⟩:=Value.isInt_shape (k:=i) (v:=v) h;exact .inl ⟨i,t,rfl,e⟩
 |.inr x,v,h=>by obtain⟨t,e⟩:=Value.isStrOf_shape (x:=x) (v:=v) h;exact .inr ⟨x,t,rfl,e⟩
def Ev(a b:Int):decide ((Sum.inl a:Key)=Sum.inl b)=(a==b):=by
 by_cases e:a=b
 .subst e;simp
 .have h:¬(Sum.inl a:Key)=Sum.inl b:=λq=>e (Sum.inl.inj q);rw[decide_eq_false h];exact(beq_eq_false_iff_ne.mpr e).symm
def Es(a b:Str):decide ((Sum.inr a:Key)=Sum.inr b)=decide (a=b):=by
 by_cases e:a=b
 .subst e;simp
 .have h:¬(Sum.inr a:Key)=Sum.inr b:=λq=>e (Sum.inr.inj q);rw[decide_eq_false h,decide_eq_false e]
def Eu(a:Int)(b:Str):decide ((Sum.inl a:Key)=Sum.inr b)=false:=decide_eq_false (λq=>nomatch q)
def Et(a:Str)(b:Int):decide ((Sum.inr a:Key)=Sum.inl b)=false:=decide_eq_false (λq=>nomatch q)
def oS(prog:Program)(w:World):PySem.KeyKind prog w Key where
 is:=Cv
 hash:=I_ w
 inj:=λv a b ha hb=>by
  rcases cL ha with⟨i,t,rfl,rfl⟩ |⟨x,t,rfl,rfl⟩
  .rcases cL hb with⟨j,u,rfl,e⟩ |⟨y,u,rfl,e⟩
   .injection e with e1 _;rw[e1]
   .exact nomatch e
  .rcases cL hb with⟨j,u,rfl,e⟩ |⟨y,u,rfl,e⟩
   .exact nomatch e
   .injection e with e1 _;rw[e1]
 byValue:=λk v h=>by rcases cL h with⟨i,t,rfl,rfl⟩ |⟨x,t,rfl,rfl⟩<;>rfl
 pyHash:=λhv h=>by
  rcases cL hv with⟨i,t,rfl,rfl⟩ |⟨x,t,rfl,rfl⟩
  .exact wpAny_pyHash_int h
  .exact wpAny_pyHash_str h
 eqBool:=λhu hv h=>by
  rcases cL hu with⟨i,t,rfl,rfl⟩ |⟨x,t,rfl,rfl⟩
  .rcases cL hv with⟨j,u,rfl,rfl⟩ |⟨y,u,rfl,rfl⟩
   .rw[Ev]at h;exact wpAny_eqBool_int h
   .rw[Eu]at h;exact SeqAt.EqAt.int_str i t y u _ _ _ _ h
  .rcases cL hv with⟨j,u,rfl,rfl⟩ |⟨y,u,rfl,rfl⟩
   .rw[Et]at h;exact SeqAt.EqAt.str_int x t j u _ _ _ _ h
   .rw[Es]at h;exact wpAny_eqBool_str h
 «strs»:=λk x t v h=>by
  rcases cL h with⟨i,u,rfl,e⟩ |⟨y,u,rfl,e⟩
  .exact nomatch e
  .injection e with e1 _;subst e1;cases v<;>rfl
end
section
inductive V where
 |non|bl (b:Bool)|int (i:Int)|str (x:Str)|byt (b:Array UInt8)|flt (b:UInt64)|ref (a:Addr)|ty (n:String)
 deriving DecidableEq
abbrev JQ:=List V
def bV:V->Value->Prop
 |.non,u=>u=Value.none
 |.bl b,u=>u=Value.bool b
 |.int i,u=>∃t,u=Value.int i t
 |.str x,u=>∃t,u=Value.str x t
 |.byt b,u=>∃t,u=Value.bytes b t
 |.flt b,u=>∃t,u=Value.float b t
 |.ref a,u=>u=Value.ref a
 |.ty n,u=>u=Value.type n
abbrev aU:JQ->JL->Prop:=Paired bV
def aU.length{xs:JQ}{us:JL}(r:aU xs us):xs.length=us.length:=Paired.length r
def aU.get:∀{xs:JQ}{us:JL}{i:Nat}{x:V},aU xs us->xs[i]?=some x->∃u,us[i]?=some u/\bV x u
 |_,_,_,_,.nil,e=>by simp at e
 |_,_,0,_,.cons r _,e=>by simp at e;subst e;exact⟨_,rfl,r⟩
 |_,_,i+1,x,.cons _ t,e=>by obtain⟨u,h1,h2⟩:=aU.get (i:=i) (x:=x) t (by simpa using e);exact⟨u,by simpa using h1,h2⟩
def aU.set{x:V}{u:Value}(r:bV x u):∀{xs:JQ}{us:JL} (i:Nat),aU xs us->aU (xs.set i x) (us.set i u)
 |_,_,_,.nil=>.nil
 |_,_,0,.cons _ t=>.cons r t
 |_,_,i+1,.cons q t=>.cons q (aU.set r i t)
def aU.append:∀{xs ys:JQ}{us ws:JL},aU xs us->aU ys ws->aU (xs++ys) (us++ws)
 |_,_,_,_,.nil,s=>s
 |_,_,_,_,.cons r t,s=>.cons r (aU.append t s)
def aU.take:∀{xs:JQ}{us:JL} (n:Nat),aU xs us->aU (xs.take n) (us.take n)
 |_,_,0,_|_,_,_+1,.nil=>.nil
 |_,_,n+1,.cons r t=>.cons r (aU.take n t)
def aU.drop:∀{xs:JQ}{us:JL} (n:Nat),aU xs us->aU (xs.drop n) (us.drop n)
 |_,_,0,r=>r
 |_,_,_+1,.nil=>.nil
 |_,_,n+1,.cons _ t=>aU.drop n t
def mZ:Option V->Option Value->Prop
 |some v,some u=>bV v u
 |none,none=>True
 |_,_=>False
def KV{κ:Type}:List (κ×V)->List (κ×Value)->Prop:=Paired λ(p:κ×V) (q:κ×Value)=>p.1=q.1/\bV p.2 q.2
def kV:Key->V
 |.inl i=>.int i
 |.inr x=>.str x
inductive HO where
 |lst (xs:JQ)
 |tup (xs:JQ)
 |dK (kvs:List (Key×V))|dT (kvs:List (List Key×V))
 |set(S:Int->Bool) (n:Nat)
 |ins (C dx:Addr) (fs:List (Str×V))
 |own (x:Addr)
 |xd (fs:List (Str×V))
 |met (f x:Addr)
 |rng (lo hi:Int)
 |frz (o:Obj) (u:HO)
 |tbl (ps:JP)
 |ext (φ:Heap->Prop)
abbrev Hp:=Addr->Option HO
abbrev JR:=Hp->Prop
def upd(H:Hp)(a:Addr)(o:HO):Hp:=λb=>if b=a then some o else H b
def ce{H:Hp}{a:Addr}{o:HO}:upd H a o a=some o:=by unfold upd;rw[if_pos rfl]
def aY{H:Hp}{a b:Addr}{o:HO}(h:b≠a):upd H a o b=H b:=by unfold upd;rw[if_neg h]
def cC{H:Hp}{a b:Addr}{o:HO}(h:H a=some o)(h':H b=none):a≠b:=by intro e;subst e;rw[h]at h';cases h'
section
variable(P:Program)(w:World)
def Kp:HO->Prop
 |.tup _|.frz _ _=>True
 |_=>False
def Tab(H:Hp)(ps qs:JP):Prop:=qs=#[]\/ ∃l c q t0 c' oc u vs t,ps=#[l,c,.str q t0]/\qs=#[l,c,.ref c']/\H c'=some (.frz oc u)/\oc.data=.fields vs/\vs[1]?=some (.str q t)
def d0(H:Hp)(h:Heap)(a:Addr):HO->Prop
 |.lst xs=>xs.length<=sizeLine/\∃(its:JL) (n:Nat),aU xs its/\h.get? a=some {cls:=.type "list",data:=.seq its.toArray n}
 |.tup xs=>xs.length<=sizeLine/\∃its:JL,aU xs its/\IsTup h a its.toArray
 |.dK kvs=>kvs.length<=sizeLine/\(a==sysModules)=false/\∃vs,KV kvs vs/\h.DictOf (oS P w) a vs
 |.dT kvs=>kvs.length<=sizeLine/\(a==sysModules)=false/\∃xs:List (List Key×Addr×Value),
   Paired (λ(p:List Key×V) (q:List Key×Addr×Value)=>p.1=q.1/\H q.2.1=some (.tup (p.1.map kV))/\bV p.2 q.2.2) kvs xs /\
   ∃o es ep,h.get? a=some o/\o.ExactDict/\o.data=.dict es ep/\es.toList=xs.map (entryOfKey (tupleKind (oS P w)))/\(xs.map (·.1)).Nodup
 |.set S n=>h.SetOf (intKind P w) a S n
 |.ins C dx fs=>H dx=some (.own a)/\fs.length<=1000/\dx≠a/\h.get? a=some (instObj C dx)/\
   ∃mA,h.Ns1 dx mA/\(∀f,mZ (fs.lookup f) (mA f))/\PySem.Within mA (fs.map (·.1))
 |.own _=>∃o,h.get? a=some o
 |.xd fs=>∃mA,h.Ns1 a mA/\∀f,mZ (fs.lookup f) (mA f)
 |.rng lo hi=>∃t u v,h.get? a=some {cls:=.type "range",data:=.fields #[.int lo t,.int hi u,.int 1 v]}
 |.frz o u=>h.get? a=some o/\d0 H h a u
 |.tbl ps=>∃qs,h.get? a=some {cls:=.none,data:=.fields qs}/\Tab H ps qs
 |.met f x=>h.get? a=some (methodObj (.ref f) (.ref x))
 |.ext φ=>φ h/\(∃o,h.get? a=some o)/\∀h1 h2:Heap,φ h1->(∀o,h1.get? a=some o->h2.get? a=some o)->φ h2
def HOk(H:Hp)(h:Heap):Prop:=∀a o,H a=some o->d0 P w H h a o
end
section
variable{P:Program}{w:World}{H H':Hp}{h h':Heap}{a:Addr}{o:HO}
def d0.lt(x:d0 P w H h a o):a<h.objs.size:=by
 cases o with
 |lst xs=>obtain⟨_,_,_,_,e⟩:=x;exact lt_size e
 |tup xs=>obtain⟨_,_,_,p⟩:=x;exact p.lt
 |dK kvs|dT kvs=>obtain⟨_,_,_,_,o,_,_,e,_⟩:=x;exact lt_size e
 |set S n=>obtain⟨o,_,_,_,e,_⟩:=x;exact lt_size e
 |ins C dx fs=>obtain⟨_,_,_,e,_⟩:=x;exact lt_size e
 |own y=>obtain⟨_,e⟩:=x;exact lt_size e
 |xd fs=>obtain⟨_,⟨_,_,_,e,_⟩,_⟩:=x;exact lt_size e
 |rng lo hi=>obtain⟨_,_,_,e⟩:=x;exact lt_size e
 |frz ob u=>obtain⟨e,_⟩:=x;exact lt_size e
 |tbl ps=>obtain⟨_,e,_⟩:=x;exact lt_size e
 |met f y=>exact lt_size (show h.get? a=some _ from x)
 |ext φ=>obtain⟨_,⟨_,e⟩,_⟩:=x;exact lt_size e
def Paired.mapP{α β:Type}{F G:α->β->Prop}:∀{l₁:List α}{l₂:List β},Paired F l₁ l₂->(∀a b,F a b->G a b)->Paired G l₁ l₂
 |_,_,.nil,_=>.nil
 |_,_,.cons r t,f=>.cons (f _ _ r) (Paired.mapP t f)
def d0.stay(x:d0 P w H h a o)(k:∀b u,(b=a\/H b=some (.own a))->h.get? b=some u->h'.get? b=some u)
  (ho:∀b,H b=some (.own a)->H' b=some (.own a)) (ht:∀b u,Kp u->H b=some u->H' b=some u):d0 P w H' h' a o:=by
 induction o with
 |lst xs=>obtain⟨z,its,n,r,e⟩:=x;exact⟨z,its,n,r,k _ _ (.inl rfl) e⟩
 |tup xs=>obtain⟨z,its,r,ob,e,c⟩:=x;exact⟨z,its,r,ob,k _ _ (.inl rfl) e,c⟩
 |dK kvs=>obtain⟨z,y,vs,r,ob,es,ep,e,c⟩:=x;exact⟨z,y,vs,r,ob,es,ep,k _ _ (.inl rfl) e,c⟩
 |dT kvs=>obtain⟨z,y,xs,r,ob,es,ep,e,c⟩:=x;exact⟨z,y,xs,Paired.mapP r λp q z=>⟨z.1,ht _ _ True.intro z.2.1,z.2.2⟩,ob,es,ep,k _ _ (.inl rfl) e,c⟩
 |set S n=>obtain⟨ob,es,ep,t,e,c⟩:=x;exact⟨ob,es,ep,t,k _ _ (.inl rfl) e,c⟩
 |ins C dx fs=>obtain⟨d,z,ne,e,mA,⟨od,es,ep,e2,c⟩,r⟩:=x;exact⟨ho _ d,z,ne,k _ _ (.inl rfl) e,mA,⟨od,es,ep,k _ _ (.inr d) e2,c⟩,r⟩
 |own y=>obtain⟨ob,e⟩:=x;exact⟨ob,k _ _ (.inl rfl) e⟩
 |xd fs=>obtain⟨mA,⟨od,es,ep,e,c⟩,r⟩:=x;exact⟨mA,⟨od,es,ep,k _ _ (.inl rfl) e,c⟩,r⟩
 |rng lo hi=>obtain⟨t,u,v,e⟩:=x;exact⟨t,u,v,k _ _ (.inl rfl) e⟩
 |frz ob u ih=>obtain⟨e,q⟩:=x;exact⟨k _ _ (.inl rfl) e,ih q⟩
 |tbl ps=>obtain⟨qs,e,c⟩:=x;exact⟨qs,k a _ (.inl rfl) e,c.imp (λz=>z) λz=>by obtain⟨l,c,q,t0,c',oc,u,vs,t,e1,e2,e3,r⟩:=z;exact⟨l,c,q,t0,c',oc,u,vs,t,e1,e2,ht _ _ True.intro e3,r⟩⟩
 |met f y=>have e:h.get? a=some (methodObj (.ref f) (.ref y)):=x;show h'.get? a=some (methodObj (.ref f) (.ref y));exact k a _ (.inl rfl) e
 |ext φ=>obtain⟨p,⟨o,e⟩,st⟩:=x;exact⟨st _ _ p λo q=>k _ _ (.inl rfl) q,⟨o,k _ _ (.inl rfl) e⟩,st⟩
def HOk.lt(x:HOk P w H h)(e:H a=some o):a<h.objs.size:=(x a o e).lt
def HOk.fresh(x:HOk P w H h)(e:h.objs.size<=a):H a=none:=by
 cases q:H a with
 |none=>rfl
 |some u=>exact absurd (Nat.lt_of_lt_of_le (x.lt q) e) (Nat.lt_irrefl _)
def HOk.kept(x:HOk P w H h)(k:∀b u,h.get? b=some u->h'.get? b=some u):HOk P w H h':=λa o e=>
 (x a o e).stay (λb u _ q=>k b u q) (λ_ q=>q) λ_ _ _ q=>q
def HOk.laid(x:HOk P w H h)(k:∀b u,h.get? b=some u->h'.get? b=some u)(hp:h.objs.size<=a)(new:d0 P w (upd H a o) h' a o):HOk P w (upd H a o) h':=λb u e=>by
 have hn:=x.fresh hp;by_cases hb:b=a
 .subst hb;rw[ce]at e;cases e;exact new
 .rw[aY hb]at e;exact(x b u e).stay (λc v _ q=>k c v q) (λc q=>by rw[aY (cC q hn)];exact q) λc xs _ q=>by rw[aY (cC q hn)];exact q
end
def Rd(H:Hp)(a:Addr)(u:HO):Prop:=H a=some u\/∃o,H a=some (.frz o u)
def Rd.ok{P:Program}{w:World}{H:Hp}{h:Heap}{a:Addr}{u:HO}(r:Rd H a u)(x:HOk P w H h):d0 P w H h a u:=by
 rcases r with r |⟨o,r⟩
 .exact x a u r
 .obtain⟨_,q⟩:=x a _ r;exact q
def Mut:Option HO->Prop
 |some (.lst _)|some (.dK _)|some (.dT _)|some (.set _ _)|some (.ins _ _ _)|some (.ext _)=>True
 |_=>False
section
variable{P:Program}{w:World}{H:Hp}{h h':Heap}{x e:Addr}{o':HO}
def HOk.write(ok:HOk P w H h)(mu:Mut (H x))(he:e=x\/H e=some (.own x))(k:∀b u,b≠e->h.get? b=some u->h'.get? b=some u)(heo:∃u,h'.get? e=some u)
  (new:d0 P w (upd H x o') h' x o'):HOk P w (upd H x o') h':=λb u q=>by
 have nown:∀c y,H c=some (.own y)->c≠x:=λc y r z=>by subst z;rw[r]at mu;exact mu
 have ntup:∀c u,Kp u->H c=some u->c≠x:=λc u h r z=>by subst z;rw[r]at mu;cases u<;>first|exact h|exact mu
 by_cases hb:b=x
 .subst hb;rw[ce]at q;cases q;exact new
 .rw[aY hb]at q;by_cases hbe:b=e
  .have q':H b=some (.own x):=by
    rcases he with z|z
    .exact absurd (hbe.trans z) hb
    .rw[hbe];exact z
   rw[q]at q';cases q';obtain⟨v,hv⟩:=heo;exact⟨v,by rw[hbe];exact hv⟩
  .refine(ok b u q).stay (λc v hc r=>k c v ?_ r) (λc r=>by rw[aY (nown c b r)];exact r) λc xs h r=>by rw[aY (ntup c xs h r)];exact r
   rcases hc with rfl|hc
   .exact hbe
   .rintro rfl;rcases he with z|z
    .exact nown c b hc z
    .rw[hc]at z;cases z;exact hb rfl
end
structure Un(fs ex:JM)(H H':Hp)(h h':Heap):Prop where
 keep:∀b o,h.get? b=some o->H b=none->b∉fs->b∉ex->h'.get? b=some o
 slot:∀b o,h.get? b=some o->H b=none->b∈fs->b∉ex->∃sl,h'.get? b=some {o with slots:=sl}
 free:∀b o,h.get? b=some o->H b=none->b∉ex->H' b=none
 there:∀b o,h.get? b=some o->b∉ex->∃o',h'.get? b=some o'
 tups:∀b xs,H b=some (.tup xs)->H' b=some (.tup xs)
 frzs:∀b o u,H b=some (.frz o u)->H' b=some (.frz o u)
 tbls:∀b ps,H b=some (.tbl ps)->∃more,H' b=some (.tbl (ps++more))
section
variable{fs fs' ex ex':JM}{H H1 H2:Hp}{h h1 h2 h':Heap}{a x e:Addr}{o:HO}
def Un.any(u:Un fs ex H H1 h h1){b:Addr}{ob:Obj}(q:h.get? b=some ob)(n:H b=none)(hx:b∉ex):∃sl,h1.get? b=some {ob with slots:=sl}:=by
 by_cases hb:b∈fs
 .exact u.slot b ob q n hb hx
 .exact⟨ob.slots,u.keep b ob q n hb hx⟩
def Un.trans(a:Un fs ex H H1 h h1)(b:Un fs ex H1 H2 h1 h2):Un fs ex H H2 h h2 where
 keep:=λc ob q n hc hx=>b.keep c ob (a.keep c ob q n hc hx) (a.free c ob q n hx) hc hx
 slot:=λc ob q n hc hx=>by obtain⟨sl,e1⟩:=a.slot c ob q n hc hx;obtain⟨sl',e2⟩:=b.slot c _ e1 (a.free c ob q n hx) hc hx;exact⟨sl',e2⟩
 free:=λc ob q n hx=>by obtain⟨o',e1⟩:=a.there c ob q hx;exact b.free c o' e1 (a.free c ob q n hx) hx
 there:=λc ob q hx=>by obtain⟨o',e1⟩:=a.there c ob q hx;exact b.there c o' e1 hx
 tups:=λc xs q=>b.tups c xs (a.tups c xs q)
 frzs:=λc ob xs q=>b.frzs c ob xs (a.frzs c ob xs q)
 tbls:=λc ps q=>by obtain⟨m1,e1⟩:=a.tbls c ps q;obtain⟨m2,e2⟩:=b.tbls c _ e1;exact⟨m1++m2,by rw[e2,Array.append_assoc]⟩
def Un.kept(k:∀b u,h.get? b=some u->h'.get? b=some u):Un fs ex H H h h':=
 ⟨λb ob q _ _ _=>k b ob q,λb ob q _ _ _=>⟨ob.slots,k b ob q⟩,λ_ _ _ n _=>n,λb ob q _=>⟨ob,k b ob q⟩,λ_ _ q=>q,λ_ _ _ q=>q,λ_ ps q=>⟨#[],by rw[q];simp⟩⟩
def Un.refl:Un fs ex H H h h:=Un.kept λ_ _ q=>q
def Un.laid(k:∀b u,h.get? b=some u->h'.get? b=some u)(hp:h.objs.size<=a)(hn:H a=none):Un fs ex H (upd H a o) h h' where
 keep:=λb u q _ _ _=>k b u q
 slot:=λb u q _ _ _=>⟨u.slots,k b u q⟩
 free:=λb u q n _=>by rw[aY (Nat.ne_of_lt (Nat.lt_of_lt_of_le (lt_size q) hp))];exact n
 there:=λb u q _=>⟨u,k b u q⟩
 tups:=λb xs q=>by rw[aY (cC q hn)];exact q
 frzs:=λb u xs q=>by rw[aY (cC q hn)];exact q
 tbls:=λb ps q=>⟨#[],by rw[aY (cC q hn),q];simp⟩
def Un.write(mu:Mut (H x))(he:e=x\/H e=some (.own x))(k:∀b u,b≠e->h.get? b=some u->h'.get? b=some u)(heo:∃u,h'.get? e=some u):Un fs ex H (upd H x o) h h':=by
 have hx:∀b,H b=none->b≠x:=λb n z=>by subst z;rw[n]at mu;exact mu
 have hb:∀b,H b=none->b≠e:=λb n z=>by
  subst z;rcases he with r|r
  .exact hx b n r
  .rw[n]at r;cases r
 have hm:∀b u,H b=some u->¬Mut (some u)->b≠x:=λb u q nm z=>by subst z;rw[q]at mu;exact nm mu
 refine ⟨λb u q n _ _=>k b u (hb b n) q,λb u q n _ _=>⟨u.slots,k b u (hb b n) q⟩,λb u q n _=>by rw [aY (hx b n)];exact n,λb u q _=>?_,
  λb xs q=>by rw[aY (hm b _ q λz=>z)];exact q,λb u xs q=>by rw[aY (hm b _ q λz=>z)];exact q,λb ps q=>⟨#[],by rw[aY (hm b _ q λz=>z),q];simp⟩⟩
 by_cases hbe:b=e
 .subst hbe;exact heo
 .exact⟨u,k b u hbe q⟩
def Un.mono(u:Un fs ex H H1 h h1)(hs:∀b∈fs,b∈fs')(hx:∀b∈ex,b∈ex'):Un fs' ex' H H1 h h1:=
 ⟨λb ob q n hb he=>u.keep b ob q n (λz=>hb (hs b z)) λz=>he (hx b z),λ_ _ q n _ he=>u.any q n λz=>he (hx _ z),λb ob q n he=>u.free b ob q n λz=>he (hx b z),λb ob q he=>u.there b ob q λz=>he (hx b z),u.tups,u.frzs,u.tbls⟩
end
def trk(h:Heap)(H:Hp):JM:=(range h.objs.size).filter λa=>(H a).isSome
def o5(h:Heap)(H:Hp):Heap:=hideAll h (trk h H)
def vD(h:Heap)(H:Hp):(o5 h H).objs.size=h.objs.size:=PySem.W.hideAll_size _ _
def xZ{h:Heap}{H:Hp}{b:Addr}{o:Obj}(e:h.get? b=some o)(n:H b=none):(o5 h H).get? b=some o:=
 hideAll_get _ e λhm=>by have q:(H b).isSome=true:=(mem_filter.mp hm).2;rw[n]at q;simp at q
def Bm{h:Heap}{H:Hp}{b:Addr}{o:Obj}(e:(o5 h H).get? b=some o):h.get? b=some o/\H b=none:=by
 have e':h.get? b=some o:=PySem.W.of_hideAll (trk h H) e;refine⟨e',?_⟩;cases q:H b with
 |none=>rfl
 |some x=>have hm:b∈trk h H:=mem_filter.mpr ⟨mem_range.mpr (lt_size e'),by simp[q]⟩;have z:(o5 h H).get? b=none:=PySem.W.hideAll_none (trk h H) hm;rw[z]at e;cases e
def Cf(g h:Heap)(L:Addr):JI:=(range h.objs.size).filterMap λa=>if a=L \/(g.get? a).isSome=true then none else(h.get? a).map λo=>(a,o)
def rest(g h:Heap)(L d:Addr):JI:=(Cf g h L).filter λp=>decide (p.1≠d)
end
section
structure Mod(K:PySem.W.Frag)(mg:JG)(base:Heap):Prop where
 kin:K.In base
 glob:base.Ns mainGlobals mg
 blt:∃mb,base.Ns builtinsNs mb/\∀x:Str,x≠"__name__" -> mb x=bootBuiltins x
 nolimit:base.NoLimit
structure Cx where
 prog:Program
 w:World
 K:PySem.W.Frag
 mg:JG
 base:Heap
 A:Around
 N:JN
 s₀:Shared
 H₀:Hp
 env:Env
 outer:List Env
 stack:List Env
 ex:JM
 fn:Str->Bool
 calm:Bool
 pn:JI
 xe:JF
def frs(l:List Env):JM:=l.filterMap (·.frame)
abbrev Cx.fs(X:Cx):JM:=frs X.outer
def Vis(sc:Scope)(x:Str):Prop:=sc.names.lookup x=some .local\/sc.names.lookup x=some .cell\/sc.names.lookup x=some .free
def Loc(sc:Scope)(x:Str):Prop:=sc.names.lookup x=some .local\/sc.names.lookup x=some .cell
def Jr(env:Env)(h:Heap)(m:JG)(x:Str)(u:Value):Prop:=
 (env.kindOf x=some .local/\m x=some u)\/((env.kindOf x=some .cell\/env.kindOf x=some .free)/\∃c,env.cells.lookup x=some c/\h.IsCell c (some u))
structure Cx.Ok(X:Cx):Prop where
 mod:Mod X.K X.mg X.base
 kind:X.env.scope.kind=.function
 glob:X.env.globals=mainGlobals
 blt:X.env.builtins=builtinsNs
 above:X.s₀.heap.objs.size<=X.env.locals
 inj:∀x y c,X.env.cells.lookup x=some c->X.env.cells.lookup y=some c->x=y
 has:∀x,(X.env.kindOf x=some .cell\/X.env.kindOf x=some .free)->∃c,X.env.cells.lookup x=some c
 cab:∀x c,X.fn x=true->X.env.cells.lookup x=some c->X.s₀.heap.objs.size<=c
 hd:X.calm=true->X.A.handled=none
 frames:X.A.frames=some X.stack
 stk:X.stack=X.outer \/(X.stack=X.env::X.outer/\X.env.frame=some X.env.locals)
 exf:∀b∈X.ex,b≠X.env.locals/\∀x c,X.env.cells.lookup x=some c->c≠b
 bs:∀b o,X.base.get? b=some o->X.s₀.heap.get? b=some o/\X.H₀ b=none
 bsz:X.base.objs.size<=X.s₀.heap.objs.size
 noex:∀b o,X.base.get? b=some o->b∉X.ex
 exfs:∀b∈X.ex,b∉X.fs
 funs:X.s₀.heap.FunFrames X.base X.outer
 frf:∀b∈X.fs,X.H₀ b=none
structure Inv(X:Cx)(js:JI)(Y:List (Option V))(H:Hp)(s:Shared):Prop where
 ok:X.Ok
 os:s.os=X.s₀.os
 bare:AllBare s.gens
 base:Un X.fs X.ex X.H₀ H X.s₀.heap s.heap
 loc:∃m,s.heap.Ns X.env.locals m/\∀(i:Nat) (x:Str) (v:V),X.N[i]?=some x->Y[i]?=some (some v)->Vis X.env.scope x->∃u,bV v u/\Jr X.env s.heap m x u
 cell:∀x c,X.env.cells.lookup x=some c->∃v,s.heap.IsCell c v
 free:H X.env.locals=none
 freeC:∀x c,X.env.cells.lookup x=some c->H c=none\/X.fn x=false/\∃o u,H c=some (.frz o u)
 pin:∀p∈X.pn++js,s.heap.get? p.1=some p.2/\H p.1=none/\p.1≠X.env.locals/\p.1∉X.fs/\∀v,p.2.data≠.cell v
 hok:HOk X.prog X.w H s.heap
 len:Y.length=X.N.length
section
variable{X:Cx}{js:JI}{Y:List (Option V)}{H H':Hp}{s:Shared}{h':Heap}
def Cx.Ok.nofr(ok:X.Ok){b:Addr}{o:Obj}(e:X.base.get? b=some o):b∉X.fs:=λhb=>by have:=(ok.funs.mem hb).1;rw[e]at this;cases this
def Inv.bs(I:Inv X js Y H s):∀b o,X.base.get? b=some o->s.heap.get? b=some o/\H b=none:=λb o e=>
 ⟨I.base.keep b o (I.ok.bs b o e).1 (I.ok.bs b o e).2 (I.ok.nofr e) (I.ok.noex b o e),I.base.free b o (I.ok.bs b o e).1 (I.ok.bs b o e).2 (I.ok.noex b o e)⟩
def Inv.bk(I:Inv X js Y H s):∀b o,X.base.get? b=some o->s.heap.get? b=some o:=λb o e=>(I.bs b o e).1
def Inv.mod(I:Inv X js Y H s):Mod X.K X.mg X.base:=I.ok.mod
def Inv.kIn(I:Inv X js Y H s):X.K.In s.heap:=I.ok.mod.kin.keeps I.bk
def Inv.lt(I:Inv X js Y H s):X.env.locals<s.heap.objs.size:=let⟨_,hn,_⟩:=I.loc;hn.lt
def Inv.sz(I:Inv X js Y H s):X.s₀.heap.objs.size<=s.heap.objs.size:=Nat.le_trans I.ok.above (Nat.le_of_lt I.lt)
def Inv.nofs(I:Inv X js Y H s){a:Addr}(h:s.heap.objs.size<=a):a∉X.fs:=λhb=>by obtain⟨_,o,ho,_⟩:=I.ok.funs.mem hb;exact absurd (Nat.lt_of_lt_of_le (lt_size ho) (Nat.le_trans I.sz h)) (Nat.lt_irrefl _)
def Inv.cne(I:Inv X js Y H s):∀x c,X.env.cells.lookup x=some c->c≠X.env.locals:=λx c e z=>by obtain⟨v,o,ho,hd⟩:=I.cell x c e;obtain⟨m,⟨o',es,ep,ho',hd',_⟩,_⟩:=I.loc;rw[z,ho']at ho;cases ho;rw[hd']at hd;cases hd
def Inv.funs(I:Inv X js Y H s):s.heap.FunFrames X.base X.outer:=by
 have all:∀(l:List Env),(∀b∈frs l,b∈X.fs)->X.s₀.heap.FunFrames X.base l->s.heap.FunFrames X.base l:=by
  intro l
  induction l with
  |nil=>intro _ _;trivial
  |cons env r ih=>intro hs hl;obtain⟨hk,⟨L,o,hf,hn,ho,hd⟩,hr⟩:=hl;have hL:L∈X.fs:=hs L (by unfold frs;rw[List.filterMap_cons,hf];exact mem_cons_self);obtain⟨sl,e⟩:=I.base.slot L o ho (I.ok.frf L hL) hL λz=>I.ok.exfs L z hL;exact⟨hk,⟨L,_,hf,hn,e,hd⟩,ih (λb hb=>hs b (by unfold frs;rw[List.filterMap_cons,hf];exact mem_cons_of_mem _ hb)) hr⟩
 exact all X.outer (λ_ hb=>hb) I.ok.funs
def Inv.stack(I:Inv X js Y H s):s.heap.FunFrames X.base X.stack:=by
 rcases I.ok.stk with e |⟨e,hf⟩
 .rw[e];exact I.funs
 .rw[e];obtain⟨m,hn,_⟩:=I.loc;refine .cons (by rw[I.ok.kind];decide) hf hn ?_ I.funs;exact Heap.get?_none_of_le (Nat.le_trans I.ok.bsz I.ok.above)
def Inv.stkSub(I:Inv X js Y H s):∀b∈frs X.stack,b∈X.env.locals::X.fs:=λb hb=>by
 rcases I.ok.stk with e |⟨e,hf⟩
 .rw[e]at hb;exact mem_cons_of_mem _ hb
 .rw[e]at hb;unfold frs at hb;rw[List.filterMap_cons,hf]at hb;exact hb
def Inv.stkFree(I:Inv X js Y H s):∀b∈frs X.stack,H b=none:=λb hb=>by
 rcases mem_cons.mp (I.stkSub b hb)with e|hb
 .rw[e];exact I.free
 .obtain⟨_,o,ho,_⟩:=I.ok.funs.mem hb;exact I.base.free b o ho (I.ok.frf b hb) λz=>I.ok.exfs b z hb
def Inv.step{g':Array GenState}{t':Nat}{d':Drawn}{ch:JM}(I:Inv X js Y H s)
  (hch:∀b∈ch,(b∈X.ex\/X.s₀.heap.objs.size<=b)/\b≠X.env.locals/\(∀x c,X.env.cells.lookup x=some c->c≠b)/\∀p∈X.pn++js,p.1≠b)
  (keep:∀b o,b≠X.env.locals->b∉X.fs->b∉ch->s.heap.get? b=some o->H b=none->h'.get? b=some o)
  (slot:∀b o,b≠X.env.locals->b∈X.fs->b∉ch->s.heap.get? b=some o->H b=none->∃sl,h'.get? b=some {o with slots:=sl}) (free:∀b o,b∉ch->s.heap.get? b=some o->H b=none->H' b=none)
  (there:∀b o,b∉ch->s.heap.get? b=some o->∃o',h'.get? b=some o')
  (tups:∀b xs,H b=some (.tup xs)->H' b=some (.tup xs)) (frzs:∀b o u,H b=some (.frz o u)->H' b=some (.frz o u)) (tbls:∀b ps,H b=some (.tbl ps)->∃more,H' b=some (.tbl (ps++more)))
  (ns:∀m,s.heap.Ns X.env.locals m->h'.Ns X.env.locals m) (hok:HOk X.prog X.w H' h') (hg:AllBare g') :
  Inv X js Y H' {s with heap:=h',gens:=g',drawn:=d',toks:=t'}:=by
 have neL:∀b o,X.s₀.heap.get? b=some o->b≠X.env.locals:=λb o e=>Nat.ne_of_lt (Nat.lt_of_lt_of_le (lt_size e) I.ok.above);have neC:∀b o,X.s₀.heap.get? b=some o->b∉X.ex->b∉ch:=λb o e hx hb=>by
  rcases(hch b hb).1 with z|z
  .exact hx z
  .exact absurd (Nat.lt_of_lt_of_le (lt_size e) z) (Nat.lt_irrefl _)
 have cellK:∀x c,X.env.cells.lookup x=some c->∀v,s.heap.IsCell c v->h'.IsCell c v:=λx c e v hz1=>by
  obtain⟨o,ho,hd⟩:=hz1;have nch:c∉ch:=λz=>(hch c z).2.2.1 x c e rfl;rcases I.freeC x c e with n |⟨_,o',u,q⟩
  .by_cases hc:c∈X.fs
   .obtain⟨sl,q⟩:=slot c o (I.cne x c e) hc nch ho n;exact⟨_,q,hd⟩
   .exact⟨o,keep c o (I.cne x c e) hc nch ho n,hd⟩
  .obtain⟨q1,_⟩:=I.hok c _ q;obtain⟨q2,_⟩:=hok c _ (frzs c o' u q);rw[ho]at q1;cases q1;exact⟨o,q2,hd⟩
 refine⟨I.ok,I.os,hg,⟨λb o e n hb hx=>?_,λb o e n hb hx=>?_,λb o e n hx=>?_,λb o e hx=>?_,λb xs e=>tups b xs (I.base.tups b xs e),λb o xs e=>frzs b o xs (I.base.frzs b o xs e),λb ps e=>?_⟩,?_,λx c e=>?_,?_,λx c e=>?_,λp hp=>?_,hok,I.len⟩
 .exact keep b o (neL b o e) hb (neC b o e hx) (I.base.keep b o e n hb hx) (I.base.free b o e n hx)
 .obtain⟨sl,e1⟩:=I.base.slot b o e n hb hx;obtain⟨sl',e2⟩:=slot b _ (neL b o e) hb (neC b o e hx) e1 (I.base.free b o e n hx);exact⟨sl',e2⟩
 .obtain⟨o',e1⟩:=I.base.there b o e hx;exact free b o' (neC b o e hx) e1 (I.base.free b o e n hx)
 .obtain⟨o',e1⟩:=I.base.there b o e hx;exact there b o' (neC b o e hx) e1
 .obtain⟨m1,e1⟩:=I.base.tbls b ps e;obtain⟨m2,e2⟩:=tbls b _ e1;exact⟨m1++m2,by rw[e2,Array.append_assoc]⟩
 .obtain⟨m,hn,hl⟩:=I.loc;refine⟨m,ns m hn,λi x v e1 e2 e3=>?_⟩;obtain⟨u,r,l⟩:=hl i x v e1 e2 e3;refine⟨u,r,?_⟩;rcases l with l |⟨k,c,e,z⟩
  .exact .inl l
  .exact .inr ⟨k,c,e,cellK x c e _ z⟩
 .obtain⟨v,z⟩:=I.cell x c e;exact⟨v,cellK x c e v z⟩
 .obtain⟨m,⟨o,_,_,ho,_⟩,_⟩:=I.loc;exact free _ o (λz=>(hch _ z).2.1 rfl) ho I.free
 .obtain⟨v,o,ho,hd⟩:=I.cell x c e;rcases I.freeC x c e with n |⟨n,o',u,q⟩
  .exact .inl (free c o (λz=>(hch c z).2.2.1 x c e rfl) ho n)
  .exact .inr ⟨n,o',u,frzs c o' u q⟩
 .obtain⟨e,n,ne,nf,d⟩:=I.pin p hp;have nch:p.1∉ch:=λz=>(hch p.1 z).2.2.2 p hp rfl;exact⟨keep p.1 p.2 ne nf nch e n,free p.1 p.2 nch e n,ne,nf,d⟩
def Inv.un{t':Nat}(I:Inv X js Y H s)(u:Un X.fs [] H H' s.heap h')(hok:HOk X.prog X.w H' h'):Inv X js Y H' {s with heap:=h',toks:=t'}:=by
 obtain⟨m,⟨o,es,ep,ho,r⟩,_⟩:=id I.loc;obtain⟨sl,hL⟩:=u.any ho I.free (by simp);exact I.step (g':=s.gens) (d':=s.drawn) (ch:=[]) (λ_ z=>nomatch z) (λb o _ hb _ e n=>u.keep b o e n hb (by simp)) (λb o _ hb _ e n=>u.slot b o e n hb (by simp)) (λb o _ e n=>u.free b o e n (by simp)) (λb o _ e=>u.there b o e (by simp)) u.tups u.frzs u.tbls (λm' hm=>by
  obtain⟨o',es',ep',ho',r'⟩:=hm;rw[ho]at ho';cases ho';exact⟨_,es',ep',hL,r'⟩) hok I.bare
def Inv.call{g':Array GenState}{t':Nat}{d':Drawn}{ch:JM}(I:Inv X js Y H s)(u:Un (frs X.stack) ch H H' s.heap h')(hok:HOk X.prog X.w H' h')(hg:AllBare g')
  (hch:∀b∈ch,(b∈X.ex\/X.s₀.heap.objs.size<=b)/\b≠X.env.locals/\(∀x c,X.env.cells.lookup x=some c->c≠b)/\∀p∈X.pn++js,p.1≠b) :
  Inv X js Y H' {s with heap:=h',gens:=g',drawn:=d',toks:=t'}:=by
 obtain⟨m,⟨o,es,ep,ho,r⟩,_⟩:=id I.loc;obtain⟨sl,hL⟩:=u.any ho I.free λz=>(hch _ z).2.1 rfl;exact I.step (ch:=ch) hch (λb o hL hb hc e n=>u.keep b o e n (λz=>(mem_cons.mp (I.stkSub b z)).elim hL hb) hc) (λb o _ _ hc e n=>u.any e n hc) (λb o hc e n=>u.free b o e n hc) (λb o hc e=>u.there b o e hc) u.tups u.frzs u.tbls (λm' hm=>by
  obtain⟨o',es',ep',ho',r'⟩:=hm;rw[ho]at ho';cases ho';exact⟨_,es',ep',hL,r'⟩) hok hg
def Inv.turned{t':Nat}{it:Addr}(I:Inv X js Y H s)(k:∀b o,b≠it->s.heap.get? b=some o->h'.get? b=some o)(hn:H it=none)(hL:it≠X.env.locals)
  (h1:it∈X.ex\/X.s₀.heap.objs.size<=it) (h2:∀x c,X.env.cells.lookup x=some c->c≠it) (h3:∀p∈X.pn++js,p.1≠it):Inv X js Y H {s with heap:=h',toks:=t'}:=by
 have nit:∀b u,H b=some u->b≠it:=λb u e z=>by rw[z,hn]at e;cases e
 refine I.step (g':=s.gens) (d':=s.drawn) (ch:=[it]) (λb hb=>?_) (λb o _ _ hc e _=>k b o (λz=>hc (by simp[z])) e) (λb o _ _ hc e _=>⟨o.slots,k b o (λz=>hc (by simp[z])) e⟩) (λ_ _ _ _ n=>n)
  (λb o hc e=>⟨o,k b o (λz=>hc (by simp[z])) e⟩) (λ_ _ e=>e) (λ_ _ _ e=>e) (λb ps e=>⟨#[],by rw[e];simp⟩) (λm hm=>?_) (λb u e=>?_) I.bare
 .have e:b=it:=by simpa using hb
  subst e;exact⟨h1,hL,h2,h3⟩
 .obtain⟨o,es,ep,ho,r⟩:=hm;exact⟨o,es,ep,k _ o (Ne.symm hL) ho,r⟩
 .refine(I.hok b u e).stay (λc v hc q=>k c v ?_ q) (λ_ q=>q) λ_ _ _ q=>q;rcases hc with z|z
  .rw[z];exact nit b u e
  .exact nit c _ z
def Inv.tok(I:Inv X js Y H s)(t:Nat):Inv X js Y H {s with toks:=t}:=I.un (h':=s.heap) (t':=t) Un.refl I.hok
def Inv.kept{t':Nat}(I:Inv X js Y H s)(k:∀b u,s.heap.get? b=some u->h'.get? b=some u):Inv X js Y H {s with heap:=h',toks:=t'}:=I.un (Un.kept k) (I.hok.kept k)
def Inv.laid{a:Addr}{o:HO}{t':Nat}(I:Inv X js Y H s)(k:∀b u,s.heap.get? b=some u->h'.get? b=some u)(hp:s.heap.objs.size<=a)(new:d0 X.prog X.w (upd H a o) h' a o) :
  Inv X js Y (upd H a o) {s with heap:=h',toks:=t'}:=I.un (Un.laid k hp (I.hok.fresh hp)) (I.hok.laid k hp new)
def Inv.write{x e:Addr}{o:HO}{t':Nat}(I:Inv X js Y H s)(mu:Mut (H x))(he:e=x\/H e=some (.own x))(k:∀b u,b≠e->s.heap.get? b=some u->h'.get? b=some u)(heo:∃u,h'.get? e=some u)
  (new:d0 X.prog X.w (upd H x o) h' x o):Inv X js Y (upd H x o) {s with heap:=h',toks:=t'}:=I.un (Un.write mu he k heo) (I.hok.write mu he k heo new)
def Inv.pins_of{pins':JI}(I:Inv X js Y H s)(h:∀p∈pins',s.heap.get? p.1=some p.2/\H p.1=none/\p.1≠X.env.locals/\p.1∉X.fs/\∀v,p.2.data≠.cell v):Inv X pins' Y H s:=
 ⟨I.ok,I.os,I.bare,I.base,I.loc,I.cell,I.free,I.freeC,λp hp=>(mem_append.mp hp).elim (λz=>I.pin p (mem_append_left _ z)) (h p),I.hok,I.len⟩
def qr{N:JN}(hN:N.Nodup){i j:Nat}{x:Str}(a:N[i]?=some x)(b:N[j]?=some x):i=j:=by obtain⟨h1,e1⟩:=List.getElem?_eq_some_iff.mp a;obtain⟨h2,e2⟩:=List.getElem?_eq_some_iff.mp b;exact(getElem_inj hN).mp (e1.trans e2.symm)
def ng{M:Model}{A:Around}{E:JF}{i:Nat}{x:Str}{v:V}{u:Value}{Q:Unit->Shared->Prop}(I:Inv X js Y H s)(hN:X.N.Nodup)(hi:X.N[i]?=some x)(hx:Loc X.env.scope x)(r:bV v u)
  (h:∀s',Inv X js (Y.set i (some v)) H s'->(∃a,SameBut a s.heap s'.heap/\(a=X.env.locals\/X.env.cells.lookup x=some a))->Q .unit s') (hf:X.fn x=true\/X.env.scope.names.lookup x=some .local:=by first|exact .inl rfl|exact .inr rfl|assumption):wpAny M A (storeName X.env x u) Q E s:=by
 obtain⟨m,hn,hl⟩:=id I.loc;have hcls:(X.env.scope.kind==.class ||(X.env.scope.kind==.module&&X.env.locals != X.env.globals))=false:=by rw[I.ok.kind];rfl
 have hiσ:i<Y.length:=by rw[I.len];exact(List.getElem?_eq_some_iff.mp hi).1
 have cne:=I.cne;have tracked:∀{a:Addr}{h':Heap},(∃o,s.heap.get? a=some o/\H a=none)->SameBut a s.heap h'->HOk X.prog X.w H h':=λ{a h'} ha hs b ob e=>by
  obtain⟨_,_,hfree⟩:=ha;refine(I.hok b ob e).stay (λc w' hc q=>(hs.2 c ?_).trans q) (λ_ q=>q) λ_ _ _ q=>q;rintro rfl;rcases hc with rfl|hc
  .rw[hfree]at e;cases e
  .rw[hfree]at hc;cases hc
 rcases hx with hk|hk
 .refine wpAny_storeName_local hk hn (λh' hn' hs=>?_) hcls;obtain⟨oL,_,_,hoL,_⟩:=id hn;refine h _ ⟨I.ok,I.os,I.bare,⟨λb o e n hb hx=>?_,λb o e n hb hx=>?_,I.base.free,λb o e hx=>?_,I.base.tups,I.base.frzs,I.base.tbls⟩,⟨_,hn',λj y v' e1 e2 e3=>?_⟩,λy c e=>?_,I.free,I.freeC,λp hp=>?_,tracked ⟨oL,hoL,I.free⟩ hs,by simpa using I.len⟩ ⟨_,hs,.inl rfl⟩
  .exact(hs.2 b (Nat.ne_of_lt (Nat.lt_of_lt_of_le (lt_size e) I.ok.above))).trans (I.base.keep b o e n hb hx)
  .obtain⟨sl,e1⟩:=I.base.slot b o e n hb hx;exact⟨sl,(hs.2 b (Nat.ne_of_lt (Nat.lt_of_lt_of_le (lt_size e) I.ok.above))).trans e1⟩
  .obtain⟨o',e1⟩:=I.base.there b o e hx;exact⟨o',(hs.2 b (Nat.ne_of_lt (Nat.lt_of_lt_of_le (lt_size e) I.ok.above))).trans e1⟩
  .by_cases hj:j=i
   .subst hj;rw[hi]at e1;cases e1;rw[getElem?_set_self hiσ]at e2;cases e2;exact⟨u,r,.inl ⟨hk,by simp⟩⟩
   .rw[getElem?_set_ne (Ne.symm hj)]at e2;obtain⟨u',r',q⟩:=hl j y v' e1 e2 e3;refine⟨u',r',?_⟩;rcases q with⟨k,e⟩ |⟨k,c,e,z⟩
    .refine .inl ⟨k,?_⟩;have:y≠x:=λe=>hj (qr hN e1 (e▸hi));simp[this,e]
    .exact .inr ⟨k,c,e,z.sameBut hs (cne y c e)⟩
  .obtain⟨w',z⟩:=I.cell y c e;exact⟨w',z.sameBut hs (cne y c e)⟩
  .obtain⟨e,n,ne,nf,d⟩:=I.pin p hp;exact⟨(hs.2 p.1 ne).trans e,n,ne,nf,d⟩
 .have hfn:X.fn x=true:=by
   rcases hf with z|z
   .exact z
   .rw[z]at hk;cases hk
  obtain⟨c,hc⟩:=I.ok.has x (.inl hk);obtain⟨w',z⟩:=I.cell x c hc;refine wpAny_storeName_cell I.ok.kind hk hc z (λh' hc' hs=>?_);obtain⟨oc,hoc,hocd⟩:=id z;refine h {s with heap:=h'} ⟨I.ok,I.os,I.bare,⟨λb o e n hb hx=>?_,λb o e n hb hx=>?_,I.base.free,λb o e hx=>?_,I.base.tups,I.base.frzs,I.base.tbls⟩,⟨m,hn.sameBut hs (Ne.symm (cne x c hc)),λj y v' e1 e2 e3=>?_⟩,λy c' e=>?_,I.free,I.freeC,λp hp=>?_,tracked ⟨oc,hoc,(I.freeC x c hc).resolve_right λq=>by rw[hfn]at q;cases q.1⟩ hs,by simpa using I.len⟩ ⟨c,hs,.inr hc⟩
  .exact(hs.2 b (Nat.ne_of_lt (Nat.lt_of_lt_of_le (lt_size e) (I.ok.cab x c hfn hc)))).trans (I.base.keep b o e n hb hx)
  .obtain⟨sl,e1⟩:=I.base.slot b o e n hb hx;exact⟨sl,(hs.2 b (Nat.ne_of_lt (Nat.lt_of_lt_of_le (lt_size e) (I.ok.cab x c hfn hc)))).trans e1⟩
  .obtain⟨o',e1⟩:=I.base.there b o e hx;exact⟨o',(hs.2 b (Nat.ne_of_lt (Nat.lt_of_lt_of_le (lt_size e) (I.ok.cab x c hfn hc)))).trans e1⟩
  .by_cases hj:j=i
   .subst hj;rw[hi]at e1;cases e1;rw[getElem?_set_self hiσ]at e2;cases e2;exact⟨u,r,.inr ⟨.inl hk,c,hc,hc'⟩⟩
   .rw[getElem?_set_ne (Ne.symm hj)]at e2;obtain⟨u',r',q⟩:=hl j y v' e1 e2 e3;refine⟨u',r',?_⟩;rcases q with q |⟨k,c',e,z'⟩
    .exact .inl q
    .refine .inr ⟨k,c',e,z'.sameBut hs ?_⟩;rintro rfl;exact hj (qr hN e1 (I.ok.inj _ _ _ e hc▸hi))
  .by_cases hcc:c'=c
   .subst hcc;exact⟨_,hc'⟩
   .obtain⟨w2,z2⟩:=I.cell y c' e;exact⟨w2,z2.sameBut hs hcc⟩
  .obtain⟨e,n,ne,nf,d⟩:=I.pin p hp;refine⟨(hs.2 p.1 ?_).trans e,n,ne,nf,d⟩;intro q;rw[q,hoc]at e;have q':oc=p.2:=Option.some.inj e;exact d w' (by rw[<- q'];exact hocd)
def pQ{M:Model}{A:Around}{E:JF}{i:Nat}{x:Str}{v:V}{u:Value}{Q:Unit->Shared->Prop}(I:Inv X js Y H s)(hN:X.N.Nodup)(hi:X.N[i]?=some x)(hx:Loc X.env.scope x)(r:bV v u)
  (h:∀s',Inv X js (Y.set i (some v)) H s'->Q .unit s') (hf:X.fn x=true\/X.env.scope.names.lookup x=some .local:=by first|exact .inl rfl|exact .inr rfl|assumption):wpAny M A (storeName X.env x u) Q E s:=
 ng I hN hi hx r (λs' I' _=>h s' I') hf
def Inv.call'{s':Shared}{ch:JM}(I:Inv X js Y H s)(ho:s'.os=s.os)(u:Un (frs X.stack) ch H H' s.heap s'.heap)(hok:HOk X.prog X.w H' s'.heap)(hg:AllBare s'.gens)
  (hch:∀b∈ch,(b∈X.ex\/X.s₀.heap.objs.size<=b)/\b≠X.env.locals/\(∀x c,X.env.cells.lookup x=some c->c≠b)/\∀p∈X.pn++js,p.1≠b):Inv X js Y H' s':=by
 obtain⟨h',g',d',t',o'⟩:=s';have e:o'=s.os:=ho;subst e;exact I.call (g':=g') (t':=t') (d':=d') u hok hg hch
end
abbrev XK:=Value->Option Addr->JR
abbrev St:=List (Option V)
abbrev VK:=V->JR
abbrev TE:=St->Hp->VK->Prop
abbrev TT:=St->Hp->(Bool->JR)->Prop
abbrev TA:=St->Hp->(JQ->JR)->Prop
structure Ends where
 nx:St->JR
 rt:VK
 bk:St->JR:=λ_ _=>False
 ct:St->JR:=λ_ _=>False
abbrev TS:=Ends->St->JR
def EP(X:Cx)(js:JI)(Y:St)(Q:VK)(u:Value)(s':Shared):Prop:=∃v H',Inv X js Y H' s'/\bV v u/\Q v H'
def TP(X:Cx)(js:JI)(Y:St)(Q:Bool->JR)(b:Bool)(s':Shared):Prop:=∃H',Inv X js Y H' s'/\Q b H'
def AP(X:Cx)(js:JI)(Y:St)(Q:JQ->JR)(us:JL)(s':Shared):Prop:=∃vs H',Inv X js Y H' s'/\aU vs us/\Q vs H'
def SP(X:Cx)(js:JI)(D:Ends)(f:Flow)(s':Shared):Prop:=
 match f with
 |.next=>∃σ' H',Inv X js σ' H' s'/\D.nx σ' H'
 |.brk=>∃σ' H',Inv X js σ' H' s'/\D.bk σ' H'
 |.cont=>∃σ' H',Inv X js σ' H' s'/\D.ct σ' H'
 |.ret u=>∃v σ' H',Inv X js σ' H' s'/\bV v u/\D.rt v H'
def PE(X:Cx)(e:Expr)(t:TE):Prop:=
 ∀(js:JI) (s:Shared) (Y:St) (H:Hp) (Q:VK),Inv X js Y H s->t Y H Q->wpAny (model X.prog X.w) X.A (eval e X.env) (EP X js Y Q) X.xe s
def PT(X:Cx)(e:Expr)(t:TT):Prop:=
 ∀(js:JI) (s:Shared) (Y:St) (H:Hp) (Q:Bool->JR),Inv X js Y H s->t Y H Q->wpAny (model X.prog X.w) X.A (isTrue e X.env (eval e X.env)) (TP X js Y Q) X.xe s
def PW(X:Cx)(e:Expr)(t:TT):Prop:=
 ∀(whole:Sem Value) (js:JI) (s:Shared) (Y:St) (H:Hp) (Q:Bool->JR),Inv X js Y H s->t Y H Q->wpAny (model X.prog X.w) X.A (isTrue e X.env whole) (TP X js Y Q) X.xe s
def PW.pt{X:Cx}{e:Expr}{t:TT}(h:PW X e t):PT X e t:=h _
def PA(X:Cx)(es:List Expr)(t:TA):Prop:=
 ∀(pos:Pos) (js:JI) (s:Shared) (Y:St) (H:Hp) (Q:JQ->JR),Inv X js Y H s->t Y H Q->wpAny (model X.prog X.w) X.A (spliced (backTo pos (starEach es X.env))) (AP X js Y Q) X.xe s
def PS(X:Cx)(st:Stmt)(t:TS):Prop:=
 ∀(js:JI) (s:Shared) (Y:St) (H:Hp) (D:Ends),Inv X js Y H s->t D Y H->wpAny (model X.prog X.w) X.A (exec st X.env) (SP X js D) X.xe s
def PSs(X:Cx)(st:List Stmt)(t:TS):Prop:=
 ∀(js:JI) (s:Shared) (Y:St) (H:Hp) (D:Ends),Inv X js Y H s->t D Y H->wpAny (model X.prog X.w) X.A (execs st X.env) (SP X js D) X.xe s
def thn{α:Type}{t:Sem α}{Q Q':α->Shared->Prop}{M:Model}{A:Around}{E:JF}{s:Shared}(h:wpAny M A t Q E s)(hQ:∀a s,Q a s->Q' a s):wpAny M A t Q' E s:=wpAny_mono h hQ λ_ _ x=>x
end
section
section
variable{X:Cx}
def CT(i:Nat):TE:=λY H Q=>∃v,Y[i]?=some (some v)/\Q v H
def tC(v:V):TE:=λ_ H Q=>Q v H
def fR{i:Nat}{x:Str}{pos:Pos}(hN:X.N[i]?=some x)(hv:Vis X.env.scope x)(hd:(x ==("__debug__":Str))=false:=by decide)(hcd:(x ==("__classdict__":Str))=false:=by decide):PE X (.Name x pos) (CT i):=by
 intro js s Y H Q I h;obtain⟨v,e,h⟩:=h;obtain⟨m,hn,hl⟩:=I.loc;obtain⟨u,r,l⟩:=hl i x v hN e hv;have fin:EP X js Y Q u s:=⟨v,H,I,r,h⟩
 rcases l with⟨hk,hm⟩ |⟨hk,c,hc,hcell⟩
 .exact wpAny_Name (wpAny_loadName_local I.ok.kind hk hn hm fin) hd
 .rcases hk with hk|hk
  .exact wpAny_Name (wpAny_loadName_cell I.ok.kind hk hc hcell fin) hd
  .exact wpAny_Name (wpAny_loadName_free I.ok.kind hk hc hcell fin hcd) hd
def oI{i j pos}:PE X (.Constant (.int i) j pos) (tC (.int i)):=λ_ _ _ H _ I h=>wpAny_Constant_int ⟨.int i,H,I.tok _,⟨_,rfl⟩,h⟩
def GJ{b j pos}:PE X (.Constant (.bool b) j pos) (tC (.bl b)):=λ_ _ _ H _ I h=>Constant_bool ⟨.bl b,H,I,rfl,h⟩
def wT{j pos}:PE X (.Constant .none j pos) (tC .non):=λ_ _ _ H _ I h=>Constant_none ⟨.non,H,I,rfl,h⟩
def Dq{x j pos}:PE X (.Constant (.str x) j pos) (tC (.str x)):=λ_ _ _ H _ I h=>Calls.Constant_str ⟨.str x,H,I.tok _,⟨_,rfl⟩,h⟩
def Gl(X:Cx)(x:Str):Prop:=X.env.kindOf x=some .globalImplicit
def kc{E:JF}{js:JI}{s:Shared}{Y:St}{H:Hp}{x:Str}{u:Value}{pos:Pos}{Q:JF}(I:Inv X js Y H s)(hg:Gl X x)(hm:X.mg x=some u)(h:Q u s)
  (hd:(x ==("__debug__":Str))=false:=by decide):wpAny (model X.prog X.w) X.A (eval (.Name x pos) X.env) Q E s:=
 Calls.Name_function_global I.ok.kind hg (Calls.loadGlobal_global (by rw[I.ok.glob];exact I.mod.glob.keeps I.bk) hm h) hd
def gC{E:JF}{js:JI}{s:Shared}{Y:St}{H:Hp}{x:Str}{u:Value}{pos:Pos}{Q:JF}(I:Inv X js Y H s)(hg:Gl X x)(hm:X.mg x=none)(hv:bootBuiltins x=some u)(h:Q u s)
  (hn:x≠"__name__":=by decide) (hd:(x ==("__debug__":Str))=false:=by decide):wpAny (model X.prog X.w) X.A (eval (.Name x pos) X.env) Q E s:=by
 obtain⟨mb,h1,h2⟩:=I.mod.blt;exact Calls.Name_function_global I.ok.kind hg (Calls.loadGlobal_builtin (by rw[I.ok.glob];exact I.mod.glob.keeps I.bk) hm (by rw[I.ok.blt];exact h1.keeps I.bk) ((h2 x hn).trans hv) h) hd
def A8{x:Str}{v:V}{u:Value}{pos:Pos}(hg:Gl X x)(hm:X.mg x=some u)(r:bV v u)(hd:(x ==("__debug__":Str))=false:=by decide):PE X (.Name x pos) (tC v):=
 λ_ _ _ H _ I h=>kc I hg hm ⟨v,H,I,r,h⟩ hd
def A_{x:Str}{v:V}{u:Value}{pos:Pos}(hg:Gl X x)(hm:X.mg x=none)(hv:bootBuiltins x=some u)(r:bV v u)(hn:x≠"__name__":=by decide)(hd:(x ==("__debug__":Str))=false:=by decide):PE X (.Name x pos) (tC v):=
 λ_ _ _ H _ I h=>gC I hg hm hv ⟨v,H,I,r,h⟩ hn hd
variable{a b:Expr}{ta tb:TE}{pos:Pos}
variable{tA tB':TT}{rest:List Expr}
def IO(t u:TT):TT:=λY H Q=>t Y H λc H1=>if c=true then u Y H1 Q else Q false H1
def tOr(t u:TT):TT:=λY H Q=>t Y H λc H1=>if c=true then Q true H1 else u Y H1 Q
def IK(t:TT):TT:=λY H Q=>t Y H λc H1=>Q (!c) H1
def AZ(ha:PT X a tA):PW X (.BoolOp .And [a] pos) tA:=by
 intro wh js s Y H Q I h;refine isTrue_and (thn (ha js s Y H Q I h) λc s1 e=>?_);cases c with
 |true=>exact isTrue_and_nil e
 |false=>exact e
def Dg(ha:PT X a tA):PW X (.BoolOp .Or [a] pos) tA:=by
 intro wh js s Y H Q I h;refine isTrue_or (thn (ha js s Y H Q I h) λc s1 e=>?_);cases c with
 |false=>exact isTrue_or_nil e
 |true=>exact e
def Dh(ha:PT X a tA)(hb:PW X (.BoolOp .And (b::rest) pos) tB'):PW X (.BoolOp .And (a::b::rest) pos) (IO tA tB'):=by
 intro wh js s Y H Q I h;refine isTrue_and (thn (ha js s Y H _ I h) λc s1 ⟨H1,I1,q1⟩=>?_);cases c with
 |true=>exact hb wh js s1 Y H1 Q I1 q1
 |false=>exact⟨H1,I1,q1⟩
def Gz(ha:PT X a tA)(hb:PW X (.BoolOp .Or (b::rest) pos) tB'):PW X (.BoolOp .Or (a::b::rest) pos) (tOr tA tB'):=by
 intro wh js s Y H Q I h;refine isTrue_or (thn (ha js s Y H _ I h) λc s1 ⟨H1,I1,q1⟩=>?_);cases c with
 |true=>exact⟨H1,I1,q1⟩
 |false=>exact hb wh js s1 Y H1 Q I1 q1
def Dj(ha:PT X a tA):PT X (.UnaryOp .Not a pos) (IK tA):=by intro js s Y H Q I h;exact isTrue_not (ha js s Y H (λc H1=>Q (!c) H1) I h)
def Gu(ta tb:TE):TE:=λY H Q=>ta Y H λx H1=>∃c,x=.bl c/\if c=true then tb Y H1 Q else Q (.bl false) H1
def IJ(ta tb:TE):TE:=λY H Q=>ta Y H λx H1=>∃c,x=.bl c/\if c=true then Q (.bl true) H1 else tb Y H1 Q
def Gn(ta:TE):TE:=λY H Q=>ta Y H λx H1=>∃c,x=.bl c/\Q (.bl (!c)) H1
def Dr{op}{t:TE}(h:PE X a t):PE X (.BoolOp op [a] pos) t:=λjs s Y H Q I hw=>BoolOp_one (h js s Y H Q I hw)
def Dv(ha:PE X a ta)(hb:PE X (.BoolOp .And (b::rest) pos) tb):PE X (.BoolOp .And (a::b::rest) pos) (Gu ta tb):=by
 intro js s Y H Q I h;refine BoolOp_and (thn (ha js s Y H _ I h) λv s1 zz=>?_);obtain⟨x,H1,I1,r1,q1⟩:=zz;obtain⟨c,rfl,q1⟩:=q1;cases r1;refine wpAny_truthy_bool ?_;cases c with
 |true=>exact hb js s1 Y H1 Q I1 q1
 |false=>exact⟨.bl false,H1,I1,rfl,q1⟩
def GD(ha:PE X a ta)(hb:PE X (.BoolOp .Or (b::rest) pos) tb):PE X (.BoolOp .Or (a::b::rest) pos) (IJ ta tb):=by
 intro js s Y H Q I h;refine BoolOp_or (thn (ha js s Y H _ I h) λv s1 zz=>?_);obtain⟨x,H1,I1,r1,q1⟩:=zz;obtain⟨c,rfl,q1⟩:=q1;cases r1;refine wpAny_truthy_bool ?_;cases c with
 |false=>exact hb js s1 Y H1 Q I1 q1
 |true=>exact⟨.bl true,H1,I1,rfl,q1⟩
def Ds(ha:PE X a ta):PE X (.UnaryOp .Not a pos) (Gn ta):=by intro js s Y H Q I h;refine UnaryOp_ (thn (ha js s Y H _ I h) λv s1 zz=>?_);obtain⟨x,H1,I1,r1,q1⟩:=zz;obtain⟨c,rfl,q1⟩:=q1;cases r1;exact not_of (wpAny_truthy_bool ⟨.bl (!c),H1,I1,rfl,q1⟩)
def tIf(t:TT)(ta tb:TE):TE:=λY H Q=>t Y H λc H1=>if c=true then ta Y H1 Q else tb Y H1 Q
def wV{c:Expr}(hc:PT X c tA)(ha:PE X a ta)(hb:PE X b tb):PE X (.IfExp c a b pos) (tIf tA ta tb):=by
 intro js s Y H Q I h;refine wpAny_IfExp (thn (hc js s Y H _ I h) λd s1 ⟨H1,I1,q1⟩=>?_);cases d with
 |true=>exact ha js s1 Y H1 Q I1 q1
 |false=>exact hb js s1 Y H1 Q I1 q1
end
end
section
def SqL(K:PySem.W.Frag)(H:Hp)(a:Addr)(xs:JQ):Prop:=
 Rd H a (.lst xs)\/
  ∃(o:Obj) (its:JP) (n:Nat),K.lookup a=some o/\o.cls=.type "list" /\ o.dict=none/\o.data=.seq its n/\its.size<=sizeLine/\aU xs its.toList
def SqT(K:PySem.W.Frag)(H:Hp)(a:Addr)(xs:JQ):Prop:=
 Rd H a (.tup xs)\/
  ∃(o:Obj) (its:JP) (n:Nat),K.lookup a=some o/\o.cls=.type "tuple" /\ o.data=.seq its n/\its.size<=sizeLine/\aU xs its.toList
def Jn:Value->Option V
 |.none=>some .non
 |.bool b=>some (.bl b)
 |.int i _=>some (.int i)
 |.str x _=>some (.str x)
 |.bytes b _=>some (.byt b)
 |.float b _=>some (.flt b)
 |.ref a=>some (.ref a)
 |.type n=>some (.ty n)
 |_=>none
def bV.abs{x:V}{u:Value}(r:bV x u):Jn u=some x:=by
 cases x with
 |non|bl _=>cases r;rfl
 |int _|str _|byt _|flt _=>obtain⟨t,rfl⟩:=r;rfl
 |ref _|ty _=>cases r;rfl
def bV.inj{x y:V}{u:Value}(r:bV x u)(q:bV y u):x=y:=Option.some.inj (r.abs.symm.trans q.abs)
def aU.inj:∀{xs ys:JQ}{us:JL},aU xs us->aU ys us->xs=ys
 |_,_,_,.nil,.nil=>rfl
 |_,_,_,.cons r t,.cons r' t'=>by rw[r.inj r',aU.inj t t']
section
variable{X:Cx}{js:JI}{Y:St}{H:Hp}{s:Shared}{a:Addr}{xs ys:JQ}
def SqL.of{K:PySem.W.Frag}(h:H a=some (.lst xs)):SqL K H a xs:=.inl (.inl h)
def SqT.of{K:PySem.W.Frag}(h:H a=some (.tup xs)):SqT K H a xs:=.inl (.inl h)
theorem Inv.list(I:Inv X js Y H s)(h:SqL X.K H a xs):∃its:JL,aU xs its/\PlainL s.heap a its.toArray/\xs.length<=sizeLine:=by
 rcases h with h |⟨o,its,n,hk,hc,hd,hs,hz,r⟩
 .obtain⟨z,its,n,r,e⟩:=h.ok I.hok;exact⟨its,r,⟨_,n,e,rfl,rfl,rfl⟩,z⟩
 .refine⟨its.toList,r,⟨o,n,I.kIn a o hk,hc,hd,by simpa using hs⟩,?_⟩;have e:=r.length;simp only[Array.length_toList]at e;omega
def Inv.tuple(I:Inv X js Y H s)(h:SqT X.K H a xs):∃its:JL,aU xs its/\IsTup s.heap a its.toArray/\xs.length<=sizeLine:=by
 rcases h with h |⟨o,its,n,hk,hc,hs,hz,r⟩
 .obtain⟨z,its,r,p⟩:=h.ok I.hok;exact⟨its,r,p,z⟩
 .refine⟨its.toList,r,⟨o,I.kIn a o hk,hc,n,by simpa using hs⟩,?_⟩;have e:=r.length;simp only[Array.length_toList]at e;omega
def Inv.list_inj(I:Inv X js Y H s)(h:SqL X.K H a xs)(h':SqL X.K H a ys):xs=ys:=by
 obtain⟨its,r,⟨o,n,e,_,_,d⟩,_⟩:=I.list h;obtain⟨its',r',⟨o',n',e',_,_,d'⟩,_⟩:=I.list h';rw[e]at e';cases e';rw[d]at d';injection d' with d1 _;have:its=its':=by simpa using congrArg Array.toList d1
 subst this;exact r.inj r'
def Inv.tuple_inj(I:Inv X js Y H s)(h:SqT X.K H a xs)(h':SqT X.K H a ys):xs=ys:=by
 obtain⟨its,r,⟨o,e,_,n,d⟩,_⟩:=I.tuple h;obtain⟨its',r',⟨o',e',_,n',d'⟩,_⟩:=I.tuple h';rw[e]at e';cases e';rw[d]at d';injection d' with d1 _;have:its=its':=by simpa using congrArg Array.toList d1
 subst this;exact r.inj r'
end
section
variable{X:Cx}{st:Stmt}{rest:List Stmt}{t u:TS}{e:Expr}{te:TE}{pos:Pos}
def Go:TS:=λD Y H=>D.nx Y H
def Gk(t u:TS):TS:=λD Y H=>t {D with nx:=u D} Y H
def A1:PSs X [] Go:=λ_ _ Y H _ I h=>wpAny_execs_nil ⟨Y,H,I,h⟩
def qg(h1:PS X st t)(h2:PSs X rest u):PSs X (st::rest) (Gk t u):=by
 intro js s Y H D I h;refine wpAny_execs_cons (thn (h1 js s Y H {D with nx:=u D} I h) λf s1 q=>?_);cases f with
 |next=>obtain⟨σ',H',I',q⟩:=q;exact h2 js s1 σ' H' D I' q
 |ret v|brk|cont=>exact q
def tN(h1:PS X st t):PSs X [st] t:=by
 intro js s Y H D I h;refine wpAny_execs_cons (thn (h1 js s Y H D I h) λf s1 q=>?_);cases f with
 |next=>exact wpAny_execs_nil q
 |ret v|brk|cont=>exact q
def Inv.quiet{js:JI}{Y:St}{H:Hp}{s:Shared}(I:Inv X js Y H s):interactive X.env=false:=by simp[interactive,I.ok.kind]
def Gq(te:TE):TS:=λD Y H=>te Y H λ_ H1=>D.nx Y H1
def jY(he:PE X e te)(hs:swapsWith e none pos.line X.env=pure false:=by rfl):PS X (.Expr e pos) (Gq te):=by intro js s Y H D I h;exact wpAny_Expr_any (thn (he js s Y H _ I h) λv s1 ⟨x,H1,I1,r1,q1⟩=>⟨Y,H1,I1,q1⟩) I.quiet hs
def II(te:TE):TS:=λD Y H=>te Y H D.rt
def r_(he:PE X e te):PS X (.Return (some e) pos) (II te):=by intro js s Y H D I h;exact wpAny_Return_some (thn (he js s Y H _ I h) λv s1 ⟨x,H1,I1,r1,q1⟩=>⟨x,Y,H1,I1,r1,q1⟩)
def IM(c:TT)(t u:TS):TS:=λD Y H=>c Y H λb H1=>if b=true then t D Y H1 else u D Y H1
def GB{c:Expr}{a b:List Stmt}{tc:TT}(hc:PT X c tc)(ha:PSs X a t)(hb:PSs X b u):PS X (.If c a b pos) (IM tc t u):=by
 intro js s Y H D I h;refine wpAny_If (thn (hc js s Y H _ I h) λd s1 ⟨H1,I1,q1⟩=>?_);cases d with
 |true=>exact ha js s1 Y H1 D I1 q1
 |false=>exact hb js s1 Y H1 D I1 q1
end
abbrev TG:=V->St->Hp->(St->JR)->Prop
abbrev TGs:=JQ->St->Hp->(St->JR)->Prop
def PG(X:Cx)(target:Expr)(t:TG):Prop:=
 ∀(js:JI) (s:Shared) (Y:St) (H:Hp) (v:V) (u:Value) (Q:St->JR),Inv X js Y H s->bV v u->t v Y H Q ->
  wpAny (model X.prog X.w) X.A (assign target X.env u) (λ_ s'=>∃σ' H',Inv X js σ' H' s'/\Q σ' H') X.xe s
def PGs(X:Cx)(ts:List Expr)(t:TGs):Prop:=
 ∀(js:JI) (s:Shared) (Y:St) (H:Hp) (vs:JQ) (us:JL) (Q:St->JR),Inv X js Y H s->aU vs us->t vs Y H Q ->
  wpAny (model X.prog X.w) X.A (assignInOrder ((assignEach ts X.env).map (·.2)) us) (λ_ s'=>∃σ' H',Inv X js σ' H' s'/\Q σ' H') X.xe s
abbrev FC:=V->V->V->Hp->(JR)->Prop
def HS(X:Cx)(t:FC):Prop:=
 ∀(js:JI) (s:Shared) (Y:St) (H:Hp) (o i v:V) (ov iv u:Value) (Q:JR),Inv X js Y H s->bV o ov->bV i iv->bV v u->t o i v H Q ->
  wpAny (model X.prog X.w) X.A (setItem ov iv u) (λ_ s'=>∃H',Inv X js Y H' s'/\Q H') X.xe s
section
variable{X:Cx}{pos:Pos}
def Cz(i:Nat):TG:=λv Y H Q=>Q (Y.set i (some v)) H
def oH{i:Nat}{x:Str}(hN:X.N.Nodup)(hi:X.N[i]?=some x)(hx:Loc X.env.scope x)(hf:X.fn x=true\/X.env.scope.names.lookup x=some .local:=by first|exact .inl rfl|exact .inr rfl|assumption):PG X (.Name x pos) (Cz i):=by intro js s Y H v u Q I r h;exact wpAny_assign_Name (pQ I hN hi hx r (λs' I'=>⟨_,H,I',h⟩) hf)
def Je:TGs:=λvs Y H Q=>vs=[]/\Q Y H
def HD(t:TG)(u:TGs):TGs:=λvs Y H Q=>∃v r,vs=v::r/\t v Y H λσ' H'=>u r σ' H' Q
def A6:PGs X [] Je:=by intro js s Y H vs us Q I r h;obtain⟨e,h⟩:=h;subst e;cases r;exact assignInOrder_nil ⟨Y,H,I,h⟩
def wQ{e:Expr}{es:List Expr}{t:TG}{u:TGs}(h1:PG X e t)(h2:PGs X es u)
  (hs:(assignEach (e::es) X.env).map (·.2)=assign e X.env::(assignEach es X.env).map (·.2):=by rfl):PGs X (e::es) (HD t u):=by
 intro js s Y H vs us Q I r h;obtain⟨v,vr,e1,h⟩:=h;subst e1;cases r with
 |cons r rr=>rw[hs];refine assignInOrder_cons (thn (h1 js s Y H _ _ _ I r h) λ_ s1 ⟨σ1,H1,I1,q1⟩=>?_);exact h2 js s1 σ1 H1 _ _ Q I1 rr q1
def Jc(K:PySem.W.Frag)(n:Nat)(t:TGs):TG:=λv Y H Q=>∃a xs,v=.ref a/\SqT K H a xs/\xs.length=n/\t xs Y H Q
def Do{es:List Expr}{k:Nat}{t:TGs}{n:Nat}(hc:X.calm=true)(h:PGs X es t)
  (hn:(assignEach es X.env).length=n:=by rfl) (hst:(assignEach es X.env).findIdx? (·.1)=none:=by rfl):PG X (.Tuple es k pos) (Jc X.K n t):=by
 intro js s Y H v u Q I r hw;obtain⟨a,xs,e1,hq,hl,hw⟩:=hw;subst e1;cases r;obtain⟨its,rv,ht,hz⟩:=I.tuple hq;refine assign_Tuple_tuple (I.ok.hd hc) ht (by simp[hn,<- hl,rv.length]) hst λh' hx=>?_;have I1:Inv X js Y H {s with heap:=h'}:=I.kept (t':=s.toks) λb o e=>hx b o (Nat.ne_of_lt (lt_size e)) e;exact h js _ Y H xs _ Q I1 (by simpa using rv) hw
def Jd(to ti:TE)(t:FC):TG:=λv Y H Q=>to Y H λo H1=>ti Y H1 λi H2=>t o i v H2 λH3=>Q Y H3
def Dp{o i:Expr}{to ti:TE}{t:FC}(ho:PE X o to)(hi:PE X i ti)(hs:HS X t)
  (ha:∀ v,assign (.Subscript o i pos) X.env v=(do
   let ov <- holding [v] (eval o X.env)
   let iv <- holding [v,ov] (eval i X.env)
   standAt pos
   holding [v,ov,iv] (setItem ov iv v)
   release [v,ov,iv] []):=by intro _;rfl):PG X (.Subscript o i pos) (Jd to ti t):=by
 intro js s Y H v u Q I r h;rw[ha];refine wpAny_bind (wpAny_holding (thn (ho js s Y H _ I h) λov s1 zz=>?_));obtain⟨x,H1,I1,r1,q1⟩:=zz;refine wpAny_bind (wpAny_holding (thn (hi js s1 Y H1 _ I1 q1) λiv s2 zz=>?_));obtain⟨y,H2,I2,r2,q2⟩:=zz;refine wpAny_bind (wpAny_standAt (wpAny_bind (wpAny_holding (thn (hs js s2 Y H2 x y v ov iv u _ I2 r1 r2 r q2) λ_ s3 ⟨H3,I3,q3⟩=>?_))));exact wpAny_release ⟨Y,H3,I3,q3⟩
def Gs(te:TE)(g:TG):TS:=λD Y H=>te Y H λx H1=>g x Y H1 D.nx
def Dl{tg e:Expr}{te:TE}{g:TG}(he:PE X e te)(hg:PG X tg g)(hs:swapsWithSole [tg] e pos.line X.env=pure false:=by rfl)(hw:swappedStores [tg] e X.env=pure none:=by rfl)
  (h1:(assignEach [tg] X.env).map (·.2)=[assign tg X.env]:=by rfl):PS X (.Assign [tg] e pos) (Gs te g):=by
 intro js s Y H D I h;refine wpAny_Assign_stores (thn (he js s Y H _ I h) λv s1 zz=>?_) hs hw;obtain⟨x,H1,I1,r1,q1⟩:=zz;rw[h1];exact thn (hg js s1 Y H1 x v _ I1 r1 q1) λ_ s2 q=>q
def wJ{i:Nat}{x:Str}{e:Expr}{te:TE}{pos':Pos}(hN:X.N.Nodup)(hi:X.N[i]?=some x)(hx:Loc X.env.scope x)(he:PE X e te)(hs:swapsWith e (some (.Name x pos')) pos.line X.env=pure false:=by rfl)(hf:X.fn x=true\/X.env.scope.names.lookup x=some .local:=by first|exact .inl rfl|exact .inr rfl|assumption) :
  PS X (.Assign [.Name x pos'] e pos) (Gs te (Cz i)):=by
 intro js s Y H D I h;refine wpAny_Assign_Name (thn (he js s Y H _ I h) λv s1 zz=>?_) hs;obtain⟨y,H1,I1,r1,q1⟩:=zz;exact pQ I1 hN hi hx r1 (λs2 I2=>⟨_,H1,I2,q1⟩) hf
def CS(c:TT)(tb:TS):TS:=λD Y H=>∃W:Nat->St->JR,(∃m,W m Y H)/\∀m Y H,W m Y H ->
 c Y H λb H1=>if b=true then ∃N:St->JR,(∀σ' H',N σ' H'->∃m',m'<m/\W m' σ' H')/\tb {D with nx:=N,ct:=N,bk:=D.nx} Y H1 else D.nx Y H1
def wI{c:Expr}{body:List Stmt}{tc:TT}{tb:TS}(hp:PassesOwn (model X.prog X.w) X.A X.env X.xe)(hc:PT X c tc)(hb:PSs X body tb):PS X (.While c body [] pos) (CS tc tb):=by
 intro js s Y H D I h;obtain⟨W,⟨m0,w0⟩,turn⟩:=h;refine wpAny_While (codeAny_whileLoop (λn s'=>∃σ' H',Inv X js σ' H' s'/\W n σ' H') ?_ m0 ⟨Y,H,I,w0⟩);rintro n s1 ⟨σ1,H1,I1,w1⟩;refine wpAny_passesOwn hp (thn (hc js s1 σ1 H1 _ I1 (turn n σ1 H1 w1)) λb s2 ⟨H2,I2,q2⟩=>?_);cases b with
 |true=>
  obtain⟨N,hN,q2⟩:=q2;rw[if_pos rfl];refine wpAny_passesOwn hp (thn (hb js s2 σ1 H2 _ I2 q2) λf s3 q3=>?_);cases f with
  |next=>obtain⟨σ3,H3,I3,n3⟩:=q3;obtain⟨m',hm,w3⟩:=hN σ3 H3 n3;exact⟨m',hm,σ3,H3,I3,w3⟩
  |cont=>obtain⟨σ3,H3,I3,n3⟩:=q3;obtain⟨m',hm,w3⟩:=hN σ3 H3 n3;exact⟨m',hm,σ3,H3,I3,w3⟩
  |brk|ret v=>exact q3
 |false=>rw[if_neg Bool.false_ne_true];exact wpAny_execs_nil ⟨σ1,H2,I2,q2⟩
end
structure It where
 go:Nat->JR
 yld:Nat->Hp->V->JR
 stop:Nat->JR
def mM(X:Cx)(js:JI)(H:Hp)(b:Addr):Prop:=
 H b=none/\b≠X.env.locals/\b∉X.fs/\(b∈X.ex\/X.s₀.heap.objs.size<=b)/\(∀x c,X.env.cells.lookup x=some c->c≠b)/\∀p∈X.pn++js,p.1≠b
def Inv.fpOk{X:Cx}{js:JI}{Y:St}{H H':Hp}{s:Shared}{b:Addr}(I:Inv X js Y H s)(hb:s.heap.objs.size<=b)(hn:H' b=none):mM X js H' b:=by
 refine⟨hn,Nat.ne_of_gt (Nat.lt_of_lt_of_le I.lt hb),I.nofs hb,.inr (Nat.le_trans I.sz hb),λx c e z=>?_,λp hp z=>?_⟩
 .obtain⟨v,q⟩:=I.cell x c e;exact absurd (Nat.lt_of_lt_of_le q.lt (by rw[z];exact hb)) (Nat.lt_irrefl _)
 .exact absurd (Nat.lt_of_lt_of_le (lt_size (I.pin p hp).1) (by rw[z];exact hb)) (Nat.lt_irrefl _)
structure vX(P:Program)(w:World)(K:PySem.W.Frag)(tg:Expr)(J:It)(fp:JM)(it:Addr)(tn:Nat->Heap->Prop):Prop where
 mem:it∈fp
 obj:∀i h,tn i h->∀b∈fp,∃o,h.get? b=some o/\∀v,o.data≠.cell v
 keep:∀i h h',tn i h->(∀b∈fp,∀o,h.get? b=some o->h'.get? b=some o)->tn i h'
 item:∀(X:Cx),X.prog=P->X.w=w->X.K=K->X.calm=true->∀(i:Nat) (js:JI) (s:Shared) (Y:St) (H:Hp) (E:JF),Inv X js Y H s->(∀b∈fp,mM X js H b)->tn i s.heap->J.go i H ->
  wpAny (model P w) X.A (pyNext (.ref it)) (λr s1=>∃ u,r=some u /\
   wpAny (model P w) X.A (letOwnedTupleGo tg (.ref it) u) (λ_ s2=>∃x H',Inv X js Y H' s2/\bV x u/\J.yld i H x H'/\tn (i+1) s2.heap/\∀b∈fp,H' b=none) E s1) E s
 done:∀(X:Cx),X.prog=P->X.w=w->X.K=K->X.calm=true->∀(i:Nat) (js:JI) (s:Shared) (Y:St) (H:Hp) (E:JF),Inv X js Y H s->(∀b∈fp,mM X js H b)->tn i s.heap->J.stop i H ->
  wpAny (model P w) X.A (pyNext (.ref it)) (λr s1=>r=none/\Inv X js Y H s1) E s
 self:∀(A:Around) (i:Nat) (s:Shared) (Q:JF) (E:JF),tn i s.heap->Q (.ref it) s->wpAny (model P w) A (pyIter (.ref it)) Q E s
abbrev TI:=St->Hp->(It->JR)->Prop
def PIE(X:Cx)(js:JI)(Y:St)(tg:Expr)(R:It->JR)(itv:Value)(s2:Shared):Prop:=
 ∃(it:Addr) (fp:JM) (tn:Nat->Heap->Prop) (J:It) (H':Hp),itv=.ref it/\Inv X js Y H' s2/\vX X.prog X.w X.K tg J fp it tn/\tn 0 s2.heap/\(∀b∈fp,mM X js H' b)/\R J H'
def PI(X:Cx)(tg iter:Expr)(wi:TI):Prop:=
 ∀(js:JI) (s:Shared) (Y:St) (H:Hp) (R:It->JR),Inv X js Y H s->wi Y H R ->
  wpAny (model X.prog X.w) X.A (eval iter X.env) (λv s1=>wpAny (model X.prog X.w) X.A (pyIter v) (PIE X js Y tg R) X.xe s1) X.xe s
def ya{M:Model}{A:Around}{E:JF}{s:Shared}{tg:Expr}{it:Addr}{u:Value}{o:Obj}{n:String}{vs:JP}{Q:Unit->Shared->Prop}(ho:s.heap.get? it=some o)(hc:o.cls=.type n)(hd:o.data=.fields vs)
    (hn:["enumerate","zip","dict_itemiterator","dict_reverseitemiterator","odict_iterator","itertools.zip_longest","itertools.pairwise"].contains n=false) (hQ:Q .unit s):wpAny M A (letOwnedTupleGo tg (.ref it) u) Q E s:=by
  unfold letOwnedTupleGo;cases tg<;>first
    |exact wpAny_pure hQ
    | (cases u <;> first
        |exact wpAny_pure hQ
        | (refine wpAny_bind (wpAny_load ho ?_)
           rw[hc,hd];show wpAny M A (if(["enumerate","zip","dict_itemiterator","dict_reverseitemiterator","odict_iterator","itertools.zip_longest","itertools.pairwise"].contains n&&vs[0]?==some (rawInt _))=true then _ else _) Q E s;rw[if_neg (by intro h;rw[hn,Bool.false_and]at h;cases h)];exact wpAny_pure hQ))
def Itl(K:PySem.W.Frag)(a:Addr):It:=
 ⟨λi H=>∃xs x,SqL K H a xs/\xs[i]?=some x,λi H x H'=>H'=H/\∀xs,SqL K H a xs->xs[i]?=some x,λi H=>∃xs,SqL K H a xs/\xs.length<=i⟩
def Itt(K:PySem.W.Frag)(a:Addr):It:=
 ⟨λi H=>∃xs x,SqT K H a xs/\xs[i]?=some x,λi H x H'=>H'=H/\∀xs,SqT K H a xs->xs[i]?=some x,λi H=>∃xs,SqT K H a xs/\xs.length<=i⟩
def Itr(lo:Int)(n:Nat):It:=⟨λi _=>i<n,λi H x H'=>H'=H/\x=.int (lo+i),λi _=>n<=i⟩
theorem uF{P:Program}{w:World}{K:PySem.W.Frag}{tg:Expr}(a it:Addr):vX P w K tg (Itl K a) [it] it (λi h=>h.IsListIter it a i) where
 mem:=by simp
 obj:=λi h st b hb=>by
  have e:b=it:=by simpa using hb
  subst e;obtain⟨o,e,c,d⟩:=st;exact⟨o,e,λv z=>by rw[d]at z;cases z⟩
 keep:=λi h h' st k=>st.at λo e=>k it (by simp) o e
 item:=by intro X hP hw hK hc i js s Y H E I hf st hg;subst hP hw hK;obtain⟨xs,x,hq,hx⟩:=hg;obtain⟨its,rv,p,hz⟩:=I.list hq;obtain⟨u,hu,ru⟩:=rv.get hx;obtain⟨f0,f1,f2,f3,f4,f5⟩:=hf it (by simp);refine wpAny_pyNext_list_item st p.isList (x:=u) (by simpa using hu) λh' st' sb=>?_;have I1:Inv X js Y H {s with heap:=h'}:=I.turned (t':=s.toks) (λb o hb e=>(sb.2 b hb).trans e) f0 f1 f3 f4 f5;obtain⟨o,e,c,d⟩:=id st';exact⟨u,rfl,ya (s:={s with heap:=h'}) e c d (by decide) ⟨x,H,I1,ru,⟨rfl,λys hy=>by rw[I.list_inj hy hq];exact hx⟩,st',λb hb=>(hf b hb).1⟩⟩
 done:=by intro X hP hw hK hc i js s Y H E I hf st hg;subst hP hw hK;obtain⟨xs,hq,hx⟩:=hg;obtain⟨its,rv,p,hz⟩:=I.list hq;obtain⟨f0,f1,f2,f3,f4,f5⟩:=hf it (by simp);have hl:=rv.length;exact wpAny_pyNext_list_end (I.ok.hd hc) st p.isList (by simp;omega) λh' eb=>⟨rfl,I.turned (t':=s.toks) (λb o hb e=>eb b o hb e) f0 f1 f3 f4 f5⟩
 self:=λ_ _ _ _ _ st h=>wpAny_pyIter_listiter st h
def rE{P:Program}{w:World}{K:PySem.W.Frag}{tg:Expr}(a it:Addr):vX P w K tg (Itt K a) [it] it (λi h=>h.IsTupleIter it a i) where
 mem:=by simp
 obj:=λi h st b hb=>by
  have e:b=it:=by simpa using hb
  subst e;obtain⟨o,e,c,d⟩:=st;exact⟨o,e,λv z=>by rw[d]at z;cases z⟩
 keep:=λi h h' st k=>st.at λo e=>k it (by simp) o e
 item:=by intro X hP hw hK hc i js s Y H E I hf st hg;subst hP hw hK;obtain⟨xs,x,hq,hx⟩:=hg;obtain⟨its,rv,p,hz⟩:=I.tuple hq;obtain⟨u,hu,ru⟩:=rv.get hx;obtain⟨f0,f1,f2,f3,f4,f5⟩:=hf it (by simp);refine wpAny_pyNext_tuple_item st (show s.heap.IsTuple a its.toArray from p) (x:=u) (by simpa using hu) λh' st' sb=>?_;have I1:Inv X js Y H {s with heap:=h'}:=I.turned (t':=s.toks) (λb o hb e=>(sb.2 b hb).trans e) f0 f1 f3 f4 f5;obtain⟨o,e,c,d⟩:=id st';exact⟨u,rfl,ya (s:={s with heap:=h'}) e c d (by decide) ⟨x,H,I1,ru,⟨rfl,λys hy=>by rw[I.tuple_inj hy hq];exact hx⟩,st',λb hb=>(hf b hb).1⟩⟩
 done:=by intro X hP hw hK hc i js s Y H E I hf st hg;subst hP hw hK;obtain⟨xs,hq,hx⟩:=hg;obtain⟨its,rv,p,hz⟩:=I.tuple hq;obtain⟨f0,f1,f2,f3,f4,f5⟩:=hf it (by simp);have hl:=rv.length;exact wpAny_pyNext_tuple_end (I.ok.hd hc) st (show s.heap.IsTuple a its.toArray from p) (by simp;omega) λh' eb=>⟨rfl,I.turned (t':=s.toks) (λb o hb e=>eb b o hb e) f0 f1 f3 f4 f5⟩
 self:=λ_ _ _ _ _ st h=>wpAny_pyIter_tupleiter st h
theorem rF{P:Program}{w:World}{K:PySem.W.Frag}{tg:Expr}(it:Addr)(lo:Int)(n:Nat):vX P w K tg (Itr lo n) [it] it (λi h=>IsRangeIter h it (lo+(i:Nat)*1) ((n:Int)-(i:Nat)) 1) where
 mem:=by simp
 obj:=λi h st b hb=>by
  have e:b=it:=by simpa using hb
  subst e;exact ⟨_,st,λv z=>by
   have z':Data.fields _=Data.cell v:=z;cases z'⟩
 keep:=λi h h' st k=>k it (by simp) _ st
 item:=by intro X hP hw hK hc i js s Y H E I hf st hg;subst hP hw hK;obtain⟨f0,f1,f2,f3,f4,f5⟩:=hf it (by simp);have W:=Walks.range (prog:=X.prog) (w:=X.w) (I.ok.hd hc) it lo 1 n;refine W.item i s _ _ hg st λv h' tk hv st' kk=>?_;obtain⟨t,rfl⟩:=hv;have I1:Inv X js Y H {s with heap:=h',toks:=tk}:=I.turned (λb o hb e=>kk b o (by simpa using hb) e) f0 f1 f3 f4 f5;refine⟨_,rfl,ya (s:={s with heap:=h',toks:=tk}) (n:="range_iterator") st' rfl rfl (by decide) ⟨.int (lo+i),H,I1,⟨t,?_⟩,⟨rfl,rfl⟩,st',λb hb=>(hf b hb).1⟩⟩;rw[Int.mul_one]
 done:=by intro X hP hw hK hc i js s Y H E I hf st hg;subst hP hw hK;obtain⟨f0,f1,f2,f3,f4,f5⟩:=hf it (by simp);exact wpAny_pyNext_range_end (I.ok.hd hc) st (by have:n<=i:=hg;omega) λh' eb=>⟨rfl,I.turned (t':=s.toks) (λb o hb e=>eb b o hb e) f0 f1 f3 f4 f5⟩
 self:=λ_ _ _ _ _ st h=>wpAny_pyIter_rangeiter st h
end
section
section
variable{X:Cx}{tg:Expr}
theorem qe{js:JI}{Y:St}{H:Hp}{s:Shared}{R:It->JR}{E:JF}{lo hi:Int}{t u v:Tok}{tk:Nat}(I:Inv X js Y H s)(h1:-(2 ^ 62)<= lo)(h2:lo<2 ^ 62)(h3:-(2 ^ 62)<= hi)(h4:hi<2 ^ 62)
  (q:R (Itr lo (hi-lo).toNat) H):wpAny (model X.prog X.w) X.A (pyIter (.ref s.heap.objs.size)) (PIE X js Y tg R) E {s with heap:=s.heap.push {cls:=.type "range",data:=.fields #[.int lo t,.int hi u,.int 1 v]},toks:=tk}:=by
 refine wpAny_pyIter_range (IsRange.new ..) (small_one h1 h2 h3 h4) ?_;have I1:Inv X js Y H {s with heap:=s.heap.push {cls:=.type "range",data:=.fields #[.int lo t,.int hi u,.int 1 v]},toks:=tk}:=I.kept λb o e=>get?_push_of_some _ e;refine ⟨(s.heap.push { cls:=.type "range", data:=.fields #[.int lo t,.int hi u,.int 1 v] }).objs.size,[(s.heap.push { cls:=.type "range", data:=.fields #[.int lo t,.int hi u,.int 1 v] }).objs.size],_,_,H,rfl,
  I1.kept (t':=tk) λb o e=>get?_push_of_some _ e,rF _ lo (hi-lo).toNat,?_,λb hb=>?_,q⟩
 .have e1:lo+((0:Nat):Int)*1=lo:=by simp
  have e2:(((hi-lo).toNat:Nat):Int)-((0:Nat):Int)=Builtin.Range.rangeSize lo hi 1:=by rw[rangeSize_one];split<;>omega
  show IsRangeIter _ _ (lo+((0:Nat):Int)*1) ((((hi-lo).toNat:Nat):Int)-((0:Nat):Int)) 1;rw[e1,e2];exact get?_push_size _ rfl
 .have e:b=(s.heap.push {cls:=.type "range",data:=.fields #[.int lo t,.int hi u,.int 1 v]}).objs.size:=by simpa using hb
  subst e;exact I1.fpOk (Nat.le_refl _) (I1.hok.fresh (Nat.le_refl _))
def Hz(ta:TA):TI:=λY H R=>ta Y H λvs H1=>∃j:Int,vs=[.int j]/\-(2 ^ 62)<= j/\j<2 ^ 62/\R (Itr 0 j.toNat) H1
def Hy(ta:TA):TI:=λY H R=>ta Y H λvs H1=>∃i j:Int,vs=[.int i,.int j]/\(-(2 ^ 62)<= i/\i<2 ^ 62/\-(2 ^ 62)<= j/\j<2 ^ 62)/\R (Itr i (j-i).toNat) H1
theorem nE{a:Expr}{ta:TA}{p pos:Pos}(hg:Gl X "range")(hm:X.mg "range"=none)(ha:PA X [a] ta)(hs:starEach [a] X.env=[(false,eval a X.env)]:=by rfl):PI X tg (.Call (.Name "range" p) [a] [] pos) (Hz ta):=by
 intro js s Y H R I h;refine Call_ (gC I hg hm boot_range (PyProof.Rows.callWith_type1 (thn (ha pos js s Y H _ I h) λus s1 zz=>?_) hs rfl));obtain⟨vs,H1,I1,r1,q1⟩:=zz;obtain⟨j,e,q1,q2,q⟩:=q1;subst e;cases r1 with
 |cons r rr=>cases rr;obtain⟨t,rfl⟩:=r;exact call_range_1 (qe I1 () () q1 q2 (by simpa using q))
def u_{a b:Expr}{ta:TA}{p pos:Pos}(hg:Gl X "range")(hm:X.mg "range"=none)(ha:PA X [a,b] ta)(hs:starEach [a,b] X.env=[(false,eval a X.env),(false,eval b X.env)]:=by rfl)(hs2:starEach [b] X.env=[(false,eval b X.env)]:=by rfl) :
  PI X tg (.Call (.Name "range" p) [a,b] [] pos) (Hy ta):=by
 intro js s Y H R I h;refine Call_ (gC I hg hm boot_range (PyProof.Rows.callWith_type1 (thn (ha pos js s Y H _ I h) λus s1 zz=>?_) (by rw[hs,hs2]) (by rw[hs2];rfl)));obtain⟨vs,H1,I1,r1,q1⟩:=zz;obtain⟨i,j,e,⟨q1,q2,q3,q4⟩,q⟩:=q1;subst e;cases r1 with
 |cons r rr=>
  cases rr with
  |cons r' rr=>cases rr;obtain⟨t,rfl⟩:=r;obtain⟨t',rfl⟩:=r';exact call_range_2 (qe I1 q1 q2 q3 q4 q)
def IN(wi:TI)(g:TG)(tb:TS):TS:=λD Y H=>wi Y H λJ H1=>∃W:Nat->Nat->St->JR,(∃m,W 0 m Y H1)/\∀i m Y H,W i m Y H ->
 (J.stop i H/\D.nx Y H)\/(J.go i H/\∃N:St->JR,(∀σ' H',N σ' H'->∃m',m'<m/\W (i+1) m' σ' H')/\∀x H',J.yld i H x H'->g x Y H' λσ2 H2=>tb {D with nx:=N,ct:=N,bk:=D.nx} σ2 H2)
def lT(fp:JM)(h:Heap):JI:=fp.filterMap λb=>(h.get? b).map λo=>(b,o)
def ie{fp:JM}{h:Heap}{b:Addr}{o:Obj}(hb:b∈fp)(e:h.get? b=some o):(b,o)∈ lT fp h:=List.mem_filterMap.mpr ⟨b,hb,by rw[e];rfl⟩
def vi{fp:JM}{h:Heap}{p:Addr×Obj}(hp:p∈lT fp h):p.1∈fp/\h.get? p.1=some p.2:=by
 obtain⟨b,hb,e⟩:=List.mem_filterMap.mp hp;cases q:h.get? b with
 |none=>rw[q]at e;cases e
 |some o=>rw[q]at e;have e':(b,o)=p:=Option.some.inj e;subst e';exact⟨hb,q⟩
def Inv.pinned{js:JI}{Y:St}{H:Hp}{s:Shared}{fp:JM}(I:Inv X js Y H s)(hf:∀b∈fp,mM X js H b)(ho:∀b∈fp,∃o,s.heap.get? b=some o/\∀v,o.data≠.cell v):Inv X (js++lT fp s.heap) Y H s:=
 I.pins_of λp hp=>(mem_append.mp hp).elim (λz=>I.pin p (mem_append_right _ z)) λz=>by obtain⟨hb,e⟩:=vi z;obtain⟨f0,f1,f2,_⟩:=hf p.1 hb;obtain⟨o,e',d⟩:=ho p.1 hb;rw[e]at e';cases e';exact⟨e,f0,f1,f2,d⟩
def Inv.unpinned{js pl:JI}{Y:St}{H:Hp}{s:Shared}(I:Inv X (js++pl) Y H s):Inv X js Y H s:=I.pins_of λp hp=>I.pin p (mem_append_right _ (mem_append_left _ hp))
def wK{iter:Expr}{body:List Stmt}{wi:TI}{g:TG}{tb:TS}{pos:Pos}(hp:PassesOwn (model X.prog X.w) X.A X.env X.xe)(hc:X.calm=true)(hi:PI X tg iter wi)(hg:PG X tg g)(hb:PSs X body tb)
  (hs:∀x,foldedSetIterable iter X.env x=pure x:=by intro _;rfl):PS X (.For tg iter body [] pos) (IN wi g tb):=by
 intro js s Y H D I h;refine wpAny_For (thn (hi js s Y H _ I h) λv s1 h1=>thn h1 λitv s2 h2=>?_) hs;obtain⟨it,fp,tn,J,H2,e,I2,T,st2,f2,W,⟨m0,w0⟩,turn⟩:=h2;subst e;have stat:∀{H':Hp},(∀b∈fp,H' b=none)->∀b∈fp,mM X js H' b:=λhn b hb=>⟨hn b hb,(f2 b hb).2⟩
 refine codeAny_forLoop_any (λn s'=>∃i σ' H',Inv X js σ' H' s'/\tn i s'.heap/\(∀b∈fp,H' b=none)/\W i n σ' H') ?_ m0 ⟨0,Y,H2,I2,st2,λb hb=>(f2 b hb).1,w0⟩;rintro n s3 ⟨i,σ3,H3,I3,st3,fr3,w3⟩;rcases turn i n σ3 H3 w3 with⟨stop,qn⟩ |⟨go,N,hN,step⟩
 .refine wpAny_passesOwn hp (thn (T.done X rfl rfl rfl hc i js s3 σ3 H3 X.xe I3 (stat fr3) st3 stop) λr s4 ⟨hr,I4⟩=>?_);subst hr;exact wpAny_execs_nil ⟨σ3,H3,I4,qn⟩
 .refine wpAny_passesOwn hp (thn (T.item X rfl rfl rfl hc i js s3 σ3 H3 X.xe I3 (stat fr3) st3 go) λr s4 ⟨u,hr,h4⟩=>?_);subst hr;refine wpAny_passesOwn hp (thn h4 λ_ s5 zz=>?_);obtain⟨x,H5,I5,r5,y5,st5,fr5⟩:=zz;have I5':=I5.pinned (stat fr5) (T.obj _ _ st5);refine wpAny_passesOwn hp (thn (hg _ s5 σ3 H5 x u _ I5' r5 (step x H5 y5)) λ_ s6 ⟨σ6,H6,I6,q6⟩=>?_);refine wpAny_passesOwn hp (thn (hb _ s6 σ6 H6 _ I6 q6) λf s7 q7=>?_);have again:∀{σ7:St}{H7:Hp},Inv X (js++lT fp s5.heap) σ7 H7 s7->N σ7 H7->∃m,m<n/\∃i σ' H',Inv X js σ' H' s7/\tn i s7.heap/\(∀b∈fp,H' b=none)/\W i m σ' H':=λ{σ7 H7} I7 n7=>by obtain⟨m',hm,w7⟩:=hN σ7 H7 n7;refine⟨m',hm,i+1,σ7,H7,I7.unpinned,T.keep _ _ _ st5 λb hb o e=>(I7.pin (b,o) (mem_append_right _ (mem_append_right _ (ie hb e)))).1,λb hb=>?_,w7⟩;obtain⟨o,e,d⟩:=T.obj _ _ st5 b hb;exact(I7.pin (b,o) (mem_append_right _ (mem_append_right _ (ie hb e)))).2.1
  cases f with
  |next|cont=>obtain⟨σ7,H7,I7,n7⟩:=q7;exact again I7 n7
  |brk=>obtain⟨σ7,H7,I7,q7⟩:=q7;exact⟨σ7,H7,I7.unpinned,q7⟩
  |ret v=>obtain⟨x7,σ7,H7,I7,r7,q7⟩:=q7;exact⟨x7,σ7,H7,I7.unpinned,r7,q7⟩
end
end
section
abbrev R2:=V->V->Hp->VK->Prop
def OpR(X:Cx)(f:Value->Value->Sem Value)(r:R2):Prop:=
 ∀(js:JI) (s:Shared) (Y:St) (H:Hp) (x y:V) (v u:Value) (Q:VK),Inv X js Y H s->bV x v->bV y u->r x y H Q ->
  wpAny (model X.prog X.w) X.A (f v u) (EP X js Y Q) X.xe s
def UnR(X:Cx)(f:Value->Sem Value)(r:V->Hp->VK->Prop):Prop:=
 ∀(js:JI) (s:Shared) (Y:St) (H:Hp) (x:V) (v:Value) (Q:VK),Inv X js Y H s->bV x v->r x H Q ->
  wpAny (model X.prog X.w) X.A (f v) (EP X js Y Q) X.xe s
def eJ(X:Cx)(f:Value)(r:JQ->Hp->VK->Prop):Prop:=
 ∀(js:JI) (s:Shared) (Y:St) (H:Hp) (xs:JQ) (us:JL) (Q:VK),Inv X js Y H s->aU xs us->r xs H Q ->
  wpAny (model X.prog X.w) X.A (call f us) (EP X js Y Q) X.xe s
def Jo(X:Cx)(r:V->Hp->(Bool->JR)->Prop):Prop:=
 ∀(js:JI) (s:Shared) (Y:St) (H:Hp) (x:V) (v:Value) (Q:Bool->JR),Inv X js Y H s->bV x v->r x H Q ->
  wpAny (model X.prog X.w) X.A (truthy v) (TP X js Y Q) X.xe s
def tOp(r:R2)(ta tb:TE):TE:=λY H Q=>ta Y H λx H1=>tb Y H1 λy H2=>r x y H2 Q
def tUn(r:V->Hp->VK->Prop)(ta:TE):TE:=λY H Q=>ta Y H λx H1=>r x H1 Q
def rI(C:Int->Int->Prop)(g:Int->Int->V):R2:=λx y H Q=>∃i j,x=.int i/\y=.int j/\C i j/\Q (g i j) H
def rI0(g:Int->Int->V):R2:=λx y H Q=>∃i j,x=.int i/\y=.int j/\Q (g i j) H
def rU(g:Int->V):V->Hp->VK->Prop:=λx H Q=>∃i,x=.int i/\Q (g i) H
section
variable{X:Cx}{a b c:Expr}{ta tb tc:TE}{pos:Pos}
def E4(ha:PE X a ta)(hb:PE X b tb){js:JI}{s:Shared}{Y:St}{H:Hp}{R:V->V->JR}(I:Inv X js Y H s)
  (h:ta Y H λx H1=>tb Y H1 λy H2=>R x y H2) {Q:JF}{f:Value->Value->Sem Value}
  (hf:∀v u s2 x y H2,Inv X js Y H2 s2->bV x v->bV y u->R x y H2->wpAny (model X.prog X.w) X.A (f v u) Q X.xe s2) :
  wpAny (model X.prog X.w) X.A (eval a X.env) (λv s₁=>wpAny (model X.prog X.w) X.A (eval b X.env) (λu s₂=>wpAny (model X.prog X.w) X.A (f v u) Q X.xe s₂) X.xe s₁) X.xe s:=by
 refine thn (ha js s Y H _ I h) λv s1 hz1=>?_;obtain⟨x,H1,I1,r1,q1⟩:=hz1;refine thn (hb js s1 Y H1 _ I1 q1) λu s2 hz1=>?_;obtain⟨y,H2,I2,r2,q2⟩:=hz1;exact hf v u s2 x y H2 I2 r1 r2 q2
def GH{op:Operator}{r:R2}(ho:OpR X (binaryOp op) r)(ha:PE X a ta)(hb:PE X b tb):PE X (.BinOp a op b pos) (tOp r ta tb):=by intro js s Y H Q I h;exact wpAny_BinOp (E4 ha hb I h λv u s2 x y H2 I2 rx ry q=>ho js s2 Y H2 x y v u Q I2 rx ry q)
def Cn{op:UnaryOp}{r:V->Hp->VK->Prop}(ho:UnR X (unaryOp op) r)(ha:PE X a ta):PE X (.UnaryOp op a pos) (tUn r ta):=by intro js s Y H Q I h;exact UnaryOp_ (thn (ha js s Y H _ I h) λv s1 ⟨x,H1,I1,r1,q1⟩=>ho js s1 Y H1 x v Q I1 r1 q1)
def opI{f:Value->Value->Sem Value}{C:Int->Int->Prop}{g:Int->Int->Int}
  (rule:∀(i j:Int) (t u:Tok) (s:Shared) (Q:JF) (E:JF),C i j->Q (.int (g i j) s.toks) {s with toks:=s.toks+1}->wpAny (model X.prog X.w) X.A (f (.int i t) (.int j u)) Q E s) :
  OpR X f (rI C λi j=>.int (g i j)):=by
 intro js s Y H x y v u Q I rx ry h;obtain⟨i,j,rfl,rfl,hc,q⟩:=h;obtain⟨t,rfl⟩:=rx;obtain⟨t',rfl⟩:=ry;exact rule i j t t' s _ _ hc ⟨.int (g i j),H,I.tok _,⟨_,rfl⟩,q⟩
def GR{f:Value->Value->Sem Value}{g:Int->Int->Int}
  (rule:∀(i j:Int) (t u:Tok) (s:Shared) (Q:JF) (E:JF),Q (.int (g i j) s.toks) {s with toks:=s.toks+1}->wpAny (model X.prog X.w) X.A (f (.int i t) (.int j u)) Q E s) :
  OpR X f (rI0 λi j=>.int (g i j)):=by
 intro js s Y H x y v u Q I rx ry h;obtain⟨i,j,rfl,rfl,q⟩:=h;obtain⟨t,rfl⟩:=rx;obtain⟨t',rfl⟩:=ry;exact rule i j t t' s _ _ ⟨.int (g i j),H,I.tok _,⟨_,rfl⟩,q⟩
def Bk{f:Value->Value->Sem Value}{g:Int->Int->Bool}
  (rule:∀(i j:Int) (t u:Tok) (s:Shared) (Q:JF) (E:JF),Q (.bool (g i j)) s->wpAny (model X.prog X.w) X.A (f (.int i t) (.int j u)) Q E s) :
  OpR X f (rI0 λi j=>.bl (g i j)):=by
 intro js s Y H x y v u Q I rx ry h;obtain⟨i,j,rfl,rfl,q⟩:=h;obtain⟨t,rfl⟩:=rx;obtain⟨t',rfl⟩:=ry;exact rule i j t t' s _ _ ⟨.bl (g i j),H,I,rfl,q⟩
def Jx(i j:Int):Prop:=0<j/\j<1073741824
def Jw(i j:Int):Prop:=0<=j/\j<=1000000/\i.natAbs<2 ^ 64
def FJ(i j:Int):Prop:=(-(2 ^ 64)<i/\i<2 ^ 64)\/(-(2 ^ 64)<j/\j<2 ^ 64)
def FJ.ok{i j:Int}(h:FJ i j):IntMulOk i j:=by
 rcases h with⟨h1,h2⟩ |⟨h1,h2⟩
 .exact .of_left (intBits_le_64 h1 h2)
 .exact .of_right (intBits_le_64 h1 h2)
def rC(k:Nat):(0:Int)<= 2 ^ k:=by rw[two_pow_cast];exact Int.natCast_nonneg _
def DE:OpR X (binaryOp .Add) (rI0 λi j=>.int (i+j)):=GR λ_ _ _ _ _ _ _ q=>add_int q
def Dx:OpR X (binaryOp .Sub) (rI0 λi j=>.int (i-j)):=GR λ_ _ _ _ _ _ _ q=>sub_int q
def DB:OpR X (binaryOp .Mult) (rI FJ λi j=>.int (i*j)):=opI λ_ _ _ _ _ _ _ hc q=>mul_int q hc.ok
theorem Bg:OpR X (binaryOp .FloorDiv) (rI Jx λi j=>.int (i / j)):=opI λi j _ _ _ _ _ hc q=>by have h1:(0:Int)<j:=hc.1;have h2:j<1073741824:=hc.2;exact floordiv_int () (by rw[Int.fdiv_eq_ediv_of_nonneg i ()];exact q) (.inl (PyProof.noPylong_small ()))
theorem DC:OpR X (binaryOp .Mod) (rI (λ_ j=>0<j) λi j=>.int (i%j)):=opI λi j _ _ _ _ _ hc q=>by have h1:(0:Int)<j:=hc;exact mod_int' () (by rw[Int.fmod_eq_emod_of_nonneg i ()];exact q)
def DA:OpR X (binaryOp .Pow) (rI Jw λi j=>.int (i ^ j.toNat)):=opI λ_ _ _ _ _ _ _ hc q=>pow_int_small hc.1 hc.2.1 hc.2.2 q
def Dy:OpR X (binaryOp .RShift) (rI (λ_ j=>0<=j) λi j=>.int (i / 2 ^ j.toNat)):=opI λi j _ _ _ _ _ hc q=>
 rshift_int hc (by rw[Int.fdiv_eq_ediv_of_nonneg i (rC _)];exact q)
def unI{f:Value->Sem Value}{g:Int->Int}
  (rule:∀(i:Int) (t:Tok) (s:Shared) (Q:JF) (E:JF),Q (.int (g i) s.toks) {s with toks:=s.toks+1}->wpAny (model X.prog X.w) X.A (f (.int i t)) Q E s) :
  UnR X f (rU λi=>.int (g i)):=by
 intro js s Y H x v Q I rx h;obtain⟨i,rfl,q⟩:=h;obtain⟨t,rfl⟩:=rx;exact rule i t s _ _ ⟨.int (g i),H,I.tok _,⟨_,rfl⟩,q⟩
def v8:UnR X (unaryOp .USub) (rU λi=>.int (-i)):=unI λ_ _ _ _ _ q=>neg_int q
def yh{js:JI}{Y:St}{H:Hp}{s:Shared}{Q:VK}{k k':Bool}(I:Inv X js Y H s)(q:Q (.bl k) H)(e:k=k'):EP X js Y Q (.bool k') s:=by subst e;exact⟨.bl k,H,I,rfl,q⟩
def GO:OpR X (compareOp .Lt) (rI0 λi j=>.bl (decide (i<j))):=Bk λ_ _ _ _ _ _ _ q=>lt_int q
def Cp:OpR X (compareOp .LtE) (rI0 λi j=>.bl (decide (i<=j))):=Bk λ_ _ _ _ _ _ _ q=>le_int q
def GP:OpR X (compareOp .Gt) (rI0 λi j=>.bl (decide (j<i))):=Bk λ_ _ _ _ _ _ _ q=>gt_int q
def GQ:OpR X (compareOp .GtE) (rI0 λi j=>.bl (decide (j<=i))):=Bk λ_ _ _ _ _ _ _ q=>ge_int q
def w8:OpR X (compareOp .Is) (λx y H Q=>y=.non/\Q (.bl (decide (x=.non))) H):=by
 intro js s Y H x y v u Q I rx ry h;obtain⟨rfl,q⟩:=h;cases ry;refine is_none_gen (yh I q ?_);cases x<;>first
  |(cases rx;rfl)
  |(obtain⟨t,rfl⟩:=rx;rfl)
def Be:OpR X (compareOp .IsNot) (λx y H Q=>y=.non/\Q (.bl (!decide (x=.non))) H):=by
 intro js s Y H x y v u Q I rx ry h;obtain⟨rfl,q⟩:=h;cases ry;refine isnot_none_gen (yh I q ?_);cases x<;>first
  |(cases rx;rfl)
  |(obtain⟨t,rfl⟩:=rx;rfl)
def OpR.or{f:Value->Value->Sem Value}{r r':R2}(h:OpR X f r)(h':OpR X f r'):OpR X f (λx y H Q=>r x y H Q\/r' x y H Q):=by
 intro js s Y H x y v u Q I rx ry q;rcases q with q|q
 .exact h js s Y H x y v u Q I rx ry q
 .exact h' js s Y H x y v u Q I rx ry q
def fk(b:Expr){op:CmpOp}(h:op≠.In:=by decide)(h2:op≠.NotIn:=by decide):behindInMarks op b=false:=by
 have e1:(op==CmpOp.In)=false:=by cases op<;>first|rfl|exact absurd rfl h
 have e2:(op==CmpOp.NotIn)=false:=by cases op<;>first|rfl|exact absurd rfl h2
 cases b<;>simp[behindInMarks,e1,e2]
def A9{op:CmpOp}{r:R2}(ho:OpR X (compareOp op) r)(ha:PE X a ta)(hb:PE X b tb)(hm:behindInMarks op b=false):PE X (.Compare a [op] [b] pos) (tOp r ta tb):=by intro js s Y H Q I h;exact wpAny_Compare1 (E4 ha hb I h λv u s2 x y H2 I2 rx ry q=>ho js s2 Y H2 x y v u Q I2 rx ry q) hm
def Gj(t:TE):TT:=λY H Q=>t Y H λx H'=>∃k,x=.bl k/\Q k H'
def A0{op:CmpOp}{r:R2}(ho:OpR X (compareOp op) r)(ha:PE X a ta)(hb:PE X b tb)(hm:behindInMarks op b=false):PT X (.Compare a [op] [b] pos) (Gj (tOp r ta tb)):=by
 intro js s Y H Q I h;refine wpAny_isTrue_Compare1 (thn (ha js s Y H _ I h) λv s1 ⟨x,H1,I1,r1,q1⟩=>thn (hb js s1 Y H1 _ I1 q1) λu s2 ⟨y,H2,I2,r2,q2⟩=>
  thn (ho js s2 Y H2 x y v u _ I2 r1 r2 q2) λc s3 ⟨z,H3,I3,r3,k,e,q3⟩=>?_) hm
 subst e;cases r3;exact wpAny_truthy_bool ⟨H3,I3,q3⟩
def wb(r r':R2)(ta tb tc:TE):TE:=λY H Q=>ta Y H λx H1=>tb Y H1 λy H2=>r x y H2 λz H3=>∃k,z=.bl k /\
 (if k=true then tc Y H3 λw' H4=>r' y w' H4 Q else Q (.bl false) H3)
def wW{op op':CmpOp}{r r':R2}(ho:OpR X (compareOp op) r)(ho':OpR X (compareOp op') r')(ha:PE X a ta)(hb:PE X b tb)(hc:PE X c tc)
  (hm:lastMarks [op,op'] [b,c]=false:=by with_unfolding_all rfl):PE X (.Compare a [op,op'] [b,c] pos) (wb r r' ta tb tc):=by
 intro js s Y H Q I h;refine Compare_chain (thn (ha js s Y H _ I h) λv s1 ⟨x,H1,I1,r1,q1⟩=>chain_link (thn (hb js s1 Y H1 _ I1 q1) λu s2 ⟨y,H2,I2,r2,q2⟩=>
  thn (ho js s2 Y H2 x y v u _ I2 r1 r2 q2) λd s3 ⟨z,H3,I3,r3,k,e,q3⟩=>?_)) hm
 subst e;cases r3;refine wpAny_truthy_bool ?_;cases k with
 |false=>exact ite_ff ⟨.bl false,H3,I3,rfl,q3⟩
 |true=>exact ite_tt (chain_last (thn (hc js s3 Y H3 _ I3 q3) λw' s4 ⟨z',H4,I4,r4,q4⟩=>ho' js s4 Y H4 y z' u w' Q I4 r2 r4 q4))
def HR(K:PySem.W.Frag)(x:V)(H:Hp)(k:Bool):Prop:=
 match x with
 |.non=>k=false
 |.bl b=>k=b
 |.int i=>k=(i != 0)
 |.str y=>y.length<=sizeLine/\k=((y.length:Int) != 0)
 |.byt y=>y.size<=sizeLine/\k=((y.size:Int) != 0)
 |.ref p=>(∃xs,SqL K H p xs/\k=!xs.isEmpty)\/(∃xs,SqT K H p xs/\k=!xs.isEmpty)\/ ∃kvs,H p=some (.dK kvs)/\k=!kvs.isEmpty
 |_=>False
def sD{κ:Type}{kvs:List (κ×V)}{vs:List (κ×Value)}(r:KV kvs vs):(!vs.isEmpty)=!kvs.isEmpty:=by cases r<;>rfl
def l_{xs:JQ}{its:JL}(r:aU xs its):(!its.toArray.isEmpty)=!xs.isEmpty:=by cases r<;>simp
def kE:(sizeLine:Nat)<2 ^ 63:=by rw[sizeLine_eq];decide
theorem CQ:Jo X (λx H Q=>∃k,HR X.K x H k/\Q k H):=by
 intro js s Y H x v Q I rx h;obtain⟨k,e,q⟩:=h;have hl:=kE;have hs:sizeLine=16777216:=sizeLine_eq;cases x with
 |non=>cases rx;have e':k=false:=e;subst e';exact truthy_none ⟨H,I,q⟩
 |bl b=>cases rx;have e':k=b:=e;subst e';exact wpAny_truthy_bool ⟨H,I,q⟩
 |int i=>obtain⟨t,rfl⟩:=rx;have e':k=(i != 0):=e;subst e';exact PySem.P.truthy_int ⟨H,I,q⟩
 |str y=>obtain⟨t,rfl⟩:=rx;obtain⟨hy,e'⟩:y.length<=sizeLine/\k=((y.length:Int) != 0):=e;subst e';exact PySem.P.truthy_str () ⟨H,I.tok _,q⟩
 |byt y=>obtain⟨t,rfl⟩:=rx;obtain⟨hy,e'⟩:y.size<=sizeLine/\k=((y.size:Int) != 0):=e;subst e';exact PySem.W.truthy_bytes () ⟨H,I.tok _,q⟩
 |ref p=>
  cases rx;have e':(∃xs,SqL X.K H p xs/\k=!xs.isEmpty)\/(∃xs,SqT X.K H p xs/\k=!xs.isEmpty)\/ ∃kvs,H p=some (.dK kvs)/\k=!kvs.isEmpty:=e;rcases e' with⟨xs,hx,e'⟩ |⟨xs,hx,e'⟩ |⟨kvs,hx,e'⟩
  .subst e';obtain⟨its,r,pl,hz⟩:=I.list hx;have hlen:=r.length;exact wpAny_truthy_list pl.isList (by simp only[size_toArray];omega) ⟨H,I.tok _,by rw[l_ r];exact q⟩
  .subst e';obtain⟨its,r,pl,hz⟩:=I.tuple hx;have hlen:=r.length;exact truthy_tuple pl (by simp only[size_toArray];omega) ⟨H,I.tok _,by rw[l_ r];exact q⟩
  .subst e';obtain⟨hz,hS,vs,r,m⟩:kvs.length<=sizeLine/\(p==sysModules)=false/\∃vs,KV kvs vs/\s.heap.DictOf (oS X.prog X.w) p vs:=I.hok p _ hx;have hlen:kvs.length=vs.length:=Paired.length r;exact wpAny_truthy_dict hS m () ⟨H,I.tok _,by rw[sD r];exact q⟩
 |_=>exact(show False from e).elim
def wH(ha:PE X a ta)(he:∀whole,isTrue a X.env whole=(do let v <- whole;standAt a.pos;holding [v] (truthy v))) :
  PT X a (λY H Q=>ta Y H λx H'=>∃k,HR X.K x H' k/\Q k H'):=by
 intro js s Y H Q I h;exact isTrue_plain (thn (ha js s Y H _ I h) λv s1 ⟨x,H1,I1,r1,q1⟩=>CQ js s1 Y H1 x v Q I1 r1 q1) (he _)
def d8{x:V}{us:JL}(r:aU [x] us):∃u,us=[u]/\bV x u:=by
 cases r with
 |cons r1 r2=>cases r2;exact⟨_,rfl,r1⟩
def Gh{x y:V}{us:JL}(r:aU [x,y] us):∃u w',us=[u,w']/\bV x u/\bV y w':=by
 cases r with
 |cons r1 r2=>
  cases r2 with
  |cons r3 r4=>cases r4;exact⟨_,_,rfl,r1,r3⟩
def vT(hc:X.calm=true):eJ X (.builtin "min") (λxs H Q=>∃i j,xs=[.int i,.int j]/\Q (.int (if j<i then j else i)) H):=by
 intro js s Y H xs us Q I r h;obtain⟨i,j,rfl,q⟩:=h;obtain⟨u,w',rfl,⟨t,rfl⟩,⟨t',rfl⟩⟩:=Gh r;refine min_two_ints (I.ok.hd hc) λh' tk k=>⟨_,H,I.kept k,?_,q⟩
 by_cases hj:j<i
 .rw[if_pos hj,if_pos hj];exact⟨_,rfl⟩
 .rw[if_neg hj,if_neg hj];exact⟨_,rfl⟩
end
end
section
structure sT(h:Heap)(x dx C:Addr)(mA:JG):Prop where
 obj:h.get? x=some (instObj C dx)
 ns:h.Ns1 dx mA
 ne:dx≠x
def vw{h:Heap}{dx:Addr}{mA:JG}(n:h.Ns1 dx mA):∃od,h.get? dx=some od/\∀name,lookIn name od=some (mA name):=by
 obtain⟨o,es,ep,ho,hd,hk,_,hm⟩:=n;refine⟨o,ho,λname=>?_⟩;have e:=hm name;unfold nsFind findBy at e;rw[<- Array.find?_toList]at e;unfold lookIn;rw[hd];dsimp only;split
 .rename_i y q
  rw[q]at e;exact congrArg some e
 .rename_i q
  rw[q]at e;have a:es.toList.any (·.refKey)=false:=by rw[List.any_eq_false];intro y hy;obtain⟨z,t,hkey⟩:=hk y (Array.mem_toList_iff.mp hy);simp[DictEntry.refKey,hkey]
  have a':¬es.toList.any (·.refKey)=true:=by rw[a];exact Bool.false_ne_true
  rw[if_neg a'];exact congrArg some e
def sT.look{h:Heap}{x dx C:Addr}{mA:JG}(I:sT h x dx C mA):∃od,PySem.W.InstAt h x (instObj C dx) C (some od)/\∀name,lookIn name od=some (mA name):=
 let⟨od,ho,hl⟩:=vw I.ns
 ⟨od,⟨I.obj,rfl,rfl,ho⟩,hl⟩
section
variable{prog:Program}{w:World}{A:Around}{E:JF}{s:Shared}{K:PySem.W.Frag}{x dx C f:Addr}{mA:JG}{name:Str}{v:Value}
def BP{expr:Bool}{Q:JF}(X:K.In s.heap)(I:sT s.heap x dx C mA)(hg:plainGet K C name=true)(hh:hasDictIn K C=true)
  (ha:PySem.W.findIn K (.ref C) name=some none) (hv:mA name=some v) (hv':handedIn v=true) (h:Q v {s with toks:=s.toks+1}) :
  wpAny (model prog w) A (getAttr (.ref x) name expr) Q E s:=by
 obtain⟨od,J,hl⟩:=I.look;exact PySem.W.get_value X J (plainGet_of hg).1 (PySem.W.findObj_own hh ha rfl (by rw[hl,hv])) hv' h
def yd{pl:Sem Bool}{Q:Value×JL->Shared->Prop}(X:K.In s.heap)(I:sT s.heap x dx C mA)(hg:plainGet K C name=true)
  (hf:PySem.W.findIn K (.ref C) name=some (some (.ref f))) (ht:PySem.W.isFn K (.ref f)=true) (hv:mA name=none) (h:Q (.ref f,[.ref x]) s) :
  wpAny (model prog w) A (getMethod (.ref x) name pl) Q E s:=by
 obtain⟨od,J,hl⟩:=I.look;exact PySem.W.method_fn X J (plainGet_of hg).1 (plainGet_of hg).2 hf (beq_iff_eq.mp ht) (by show(lookIn name od).map (·.isSome)=some false;rw[hl,hv];rfl) h
theorem Ax{ns:JN}{Q:Unit->Shared->Prop}(X:K.In s.heap)(I:sT s.heap x dx C mA)
  (hs:PySem.W.findIn K (.ref C) "__setattr__"=some (some (.builtin "object.__setattr__"))) (hp:plainOver K C=true) (ht:takerIn K C name=some none) (hh:hasDictIn K C=true)
  (hw:PySem.Within mA ns) (hsz:ns.length<=sizeLine)
  (h:∀h',sT h' x dx C (λy=>if y=name then some v else mA y)->SameBut dx s.heap h'->Q .unit {s with heap:=h',toks:=s.toks+2}) :
  wpAny (model prog w) A (setAttr (.ref x) name v) Q E s:=by
 obtain⟨od,J,hl⟩:=I.look;refine PySem.W.set_plain X J hs (PySem.W.osa_open (s:={s with toks:=s.toks+1}) (r:=none) X J hp ht λb=>?_);obtain⟨cd,hc,hd'⟩:=PySem.W.any_some hh;have hx:s.heap.get? x=some ⟨.ref C,some dx,.plain,#[]⟩:=I.obj;refine wpAny_bind (wpAny_pure (wpAny_bind (wpAny_bind (wpAny_loadPart hx (wpAny_bind (PySem.W.Looks.here (s:={s with toks:=s.toks+1}) (PySem.W.looks_clsIn X hc) ?_))))));rw[hd'];refine wpAny_pure (a:=some dx) (wpAny_bind (wpAny_pure (wpAny_bind ?_)));refine wpAny_nsSet1 (s:={s with toks:=s.toks+1}) I.ns λh' hn2 hs2=>?_;obtain⟨oD,esD,epD,hoD,hdD,hcD⟩:=hn2.count (PySem.Within.cons name v hw);refine wpAny_bind (wpAny_lookBehind hoD (by rw[hdD];exact pastItsLine_dict (Nat.le_trans hcD (by rw[length_cons];omega))) ?_);exact wpAny_pure (h _ ⟨(hs2.2 _ (Ne.symm I.ne)).trans I.obj,hn2,I.ne⟩ hs2)
def xL{R:Result->Shared->Prop}{vs:JL}{kw:List (Str×Value)}(X:K.In s.heap)(hm:makesIn K C=true)
  (hi:PySem.W.findIn K (.ref C) "__init__"=some (some (.ref f))) (hf:PySem.W.typeIn K (.ref f)=some (.type "function"))
  (h:codeAny (model prog w) (A.under (.builtin "type.__call__" ⟨.ref C::vs,kw⟩)) (.call (.ref f) ⟨.ref (s.heap.objs.size+1)::vs,kw⟩) (PySem.W.InitBack (s.heap.objs.size+1) R)
   {s with heap:=(s.heap.push emptyDict).push (instObj C s.heap.objs.size)}) :
  codeAny (model prog w) A (.call (.ref C) ⟨vs,kw⟩) R s:=by
 obtain⟨hh,g,d,t,os⟩:=s;exact PySem.W.make_core (PySem.W.makes_of X hm) (PySem.W.looks_findIn X hi) (λself=>PySem.W.bind_fn X self hf) (.inl rfl) h
end
def gZ(f:Str)(v:V):List (Str×V)->List (Str×V)
 | []=>[(f,v)]
 |(g,x)::r=>if g=f then(g,v)::r else(g,x)::gZ f v r
def k6(f g:Str)(v:V):∀fs:List (Str×V),(gZ f v fs).lookup g=if g=f then some v else fs.lookup g
 | []=>by
  show List.lookup g [(f,v)]=_;by_cases h:g=f
  .have hb:(g==f)=true:=beq_iff_eq.mpr h;simp only[List.lookup,hb,if_pos h]
  .have hb:(g==f)=false:=beq_eq_false_iff_ne.mpr h;simp only[List.lookup,hb,if_neg h]
 |(k,x)::r=>by
  have ih:=k6 f g v r;rw[show gZ f v ((k,x)::r)=(if k=f then(k,v)::r else(k,x)::gZ f v r)from rfl];by_cases hk:k=f
  .rw[if_pos hk];by_cases h:g=k
   .have hb:(g==k)=true:=beq_iff_eq.mpr h;simp only[List.lookup,hb,if_pos (h.trans hk)]
   .have hb:(g==k)=false:=beq_eq_false_iff_ne.mpr h;simp only[List.lookup,hb,if_neg (λe:g=f=>h (e.trans hk.symm))]
  .rw[if_neg hk];by_cases h:g=k
   .have hb:(g==k)=true:=beq_iff_eq.mpr h;simp only[List.lookup,hb,if_neg (λe:g=f=>hk (h.symm.trans e))]
   .have hb:(g==k)=false:=beq_eq_false_iff_ne.mpr h;simp only[List.lookup,hb];exact ih
def kG(f:Str)(v:V):∀fs:List (Str×V),f ∈(gZ f v fs).map (·.1)/\∀g,g∈fs.map (·.1)->g ∈(gZ f v fs).map (·.1)
 | []=>⟨by simp[gZ],λg h=>by simp at h⟩
 |(k,x)::r=>by
  obtain⟨i1,i2⟩:=kG f v r;rw[show gZ f v ((k,x)::r)=(if k=f then(k,v)::r else(k,x)::gZ f v r)from rfl];by_cases hk:k=f
  .rw[if_pos hk];subst hk;exact⟨by simp,λg h=>by simpa using h⟩
  .rw[if_neg hk];refine⟨?_,λg h=>?_⟩
   .rw[map_cons];exact mem_cons_of_mem _ i1
   .rw[map_cons]at h ⊢;rcases mem_cons.mp h with e|e
    .exact mem_cons.mpr (.inl e)
    .exact mem_cons_of_mem _ (i2 g e)
theorem k8(f:Str)(v:V):∀fs:List (Str×V),(gZ f v fs).length<=fs.length+1
 | []=>by simp[gZ]
 |(k,x)::r=>by
  have ih:=k8 f v r;rw[show gZ f v ((k,x)::r)=(if k=f then(k,v)::r else(k,x)::gZ f v r)from rfl];by_cases hk:k=f
  .rw[if_pos hk,length_cons,length_cons];omega
  .rw[if_neg hk,length_cons,length_cons];omega
def mZ.some_of{v:V}{o:Option Value}(r:mZ (some v) o):∃u,o=some u/\bV v u:=by
 cases o with
 |none=>exact(show False from r).elim
 |some u=>exact⟨u,rfl,r⟩
def mZ.none_of{o:Option Value}(r:mZ none o):o=none:=by
 cases o with
 |none=>rfl
 |some u=>exact(show False from r).elim
def vE{v:V}{u:Value}(r:bV v u):handedIn u=true:=by
 cases v with
 |non=>cases(show u=Value.none from r);rfl
 |bl b=>cases(show u=Value.bool b from r);rfl
 |int i=>obtain⟨t,e⟩:=(show ∃t,u=Value.int i t from r);cases e;rfl
 |str x=>obtain⟨t,e⟩:=(show ∃t,u=Value.str x t from r);cases e;rfl
 |byt b=>obtain⟨t,e⟩:=(show ∃t,u=Value.bytes b t from r);cases e;rfl
 |flt b=>obtain⟨t,e⟩:=(show ∃t,u=Value.float b t from r);cases e;rfl
 |ref a=>cases(show u=Value.ref a from r);rfl
 |ty n=>cases(show u=Value.type n from r);rfl
section
variable{P:Program}{w:World}{H H':Hp}{h h':Heap}{a C dx:Addr}{fs fs':List (Str×V)}
def o4(hok:HOk P w H h)(e:H a=some (.ins C dx fs)):∃mA,sT h a dx C mA/\(∀f,mZ (fs.lookup f) (mA f))/\PySem.Within mA (fs.map (·.1))/\fs.length<=1000/\H dx=some (.own a):=by
 obtain⟨d,z,ne,ob,mA,n,r,q⟩:=(show d0 P w H h a (.ins C dx fs)from hok a _ e)
 exact⟨mA,⟨ob,n,ne⟩,r,q,z,d⟩
end
structure Cls(K:PySem.W.Frag)(C:Addr):Prop where
 pg:plainGet K C Str.empty=true
 hd:hasDictIn K C=true
 po:plainOver K C=true
 sa:PySem.W.findIn K (.ref C) "__setattr__"=some (some (.builtin "object.__setattr__"))
def Cls.get{K:PySem.W.Frag}{C:Addr}(c:Cls K C)(f:Str):plainGet K C f=true:=c.pg
def fv(K:PySem.W.Frag)(C:Addr)(f:Str):Prop:=PySem.W.findIn K (.ref C) f=some none
def fv.taker{K:PySem.W.Frag}{C:Addr}{f:Str}(n:fv K C f):takerIn K C f=some none:=by unfold takerIn;rw[show PySem.W.findIn K (.ref C) f=some none from n];rfl
structure Ch(K:PySem.W.Frag)(C:Addr)(m:Str)(f:Addr):Prop where
 at_:PySem.W.findIn K (.ref C) m=some (some (.ref f))
 fn:PySem.W.isFn K (.ref f)=true
 kp:PySem.W.keepIn K (.ref f)=true
section
variable{X:Cx}{js:JI}{Y:St}{H:Hp}{s:Shared}{a C dx:Addr}{fs:List (Str×V)}{f:Str}{v:V}{A:Around}{E:JF}
def sJ{b:Bool}{Q:JF}(I:Inv X js Y H s)(e:H a=some (.ins C dx fs))(c:Cls X.K C)(n:fv X.K C f)(l:fs.lookup f=some v)
  (h:∀u s',Inv X js Y H s'->bV v u->Q u s'):wpAny (model X.prog X.w) A (getAttr (.ref a) f b) Q E s:=by
 obtain⟨mA,O,r,_,_,_⟩:=o4 I.hok e;obtain⟨u,hu,ru⟩:=mZ.some_of (v:=v) (o:=mA f) (by rw[<- l];exact r f);exact BP I.kIn O (c.get f) c.hd n hu (vE ru) (h u _ (I.tok _) ru)
def sI{m:Str}{g:Addr}{pl:Sem Bool}{Q:Value×JL->Shared->Prop}(I:Inv X js Y H s)(e:H a=some (.ins C dx fs))(c:Cls X.K C)(k:Ch X.K C m g)(l:fs.lookup m=none)
  (h:Q (.ref g,[.ref a]) s):wpAny (model X.prog X.w) A (getMethod (.ref a) m pl) Q E s:=by
 obtain⟨mA,O,r,_,_,_⟩:=o4 I.hok e;have hn:mA m=none:=mZ.none_of (by rw[<- l];exact r m);exact yd I.kIn O (c.get m) k.at_ k.fn hn h
theorem rT{y:V}{u:Value}{Q:Unit->Shared->Prop}(I:Inv X js Y H s)(e:H a=some (.ins C dx fs))(c:Cls X.K C)(n:fv X.K C f)(hl:fs.length<1000)(ry:bV y u)
  (h:∀s',Inv X js Y (upd H a (.ins C dx (gZ f y fs))) s'->Q .unit s'):wpAny (model X.prog X.w) A (setAttr (.ref a) f u) Q E s:=by
 obtain⟨mA,O,r,wi,_,ho⟩:=o4 I.hok e;have hz:(fs.map (·.1)).length<=sizeLine:=by rw[length_map,sizeLine_eq];omega
 refine Ax I.kIn O c.sa c.po n.taker c.hd wi hz λh' O' sb=>h _ ?_;have hd:∃o,h'.get? dx=some o:=let⟨o,_,_,e',_⟩:=O'.ns;⟨o,e'⟩
 refine I.write (x:=a) (e:=dx) (by rw[e];exact True.intro) (.inr ho) (λb q hb z=>(sb.2 b hb).trans z) hd ?_;refine⟨by rw[aY O.ne];exact ho,?_,O.ne,O'.obj,_,O'.ns,λg=>?_,λg hg=>?_⟩
 .have:=k8 f y fs;omega
 .show mZ ((gZ f y fs).lookup g) (if g=f then some u else mA g);rw[k6];by_cases q:g=f
  .rw[if_pos q,if_pos q];exact ry
  .rw[if_neg q,if_neg q];exact r g
 .by_cases q:g=f
  .rw[q];exact(kG f y fs).1
  .refine(kG f y fs).2 g (wi g λz=>hg ?_);show(if g=f then some u else mA g)=none;rw[if_neg q];exact z
def Inv.made(I:Inv X js Y H s):Inv X js Y (upd (upd H s.heap.objs.size (.own (s.heap.objs.size+1))) (s.heap.objs.size+1) (.ins C s.heap.objs.size []))
  {s with heap:=(s.heap.push emptyDict).push (instObj C s.heap.objs.size)}:=by
 have e1:(s.heap.push emptyDict).get? s.heap.objs.size=some emptyDict:=get?_push_size s.heap rfl;have e2:((s.heap.push emptyDict).push (instObj C s.heap.objs.size)).get? (s.heap.objs.size+1)=some (instObj C s.heap.objs.size):=by
  have:=get?_push_size (s.heap.push emptyDict) (o:=instObj C s.heap.objs.size) rfl
  rwa [size_push]at this
 have e3:(s.heap.push emptyDict).Ns s.heap.objs.size (λ_=>none):=⟨emptyDict,#[],_,e1,rfl,(λe he=>absurd he (by simp)),λ_=>rfl⟩
 have I1:=I.laid (a:=s.heap.objs.size) (o:=.own (s.heap.objs.size+1)) (h':=s.heap.push emptyDict) (t':=s.toks) (λb u q=>get?_push_of_some _ q) (Nat.le_refl _) ⟨_,e1⟩;refine I1.laid (a:=s.heap.objs.size+1) (o:=.ins C s.heap.objs.size []) (t':=s.toks) (λb u q=>get?_push_of_some _ q) (Nat.le_of_eq (size_push _ _)) ?_;have ne:s.heap.objs.size≠s.heap.objs.size+1:=Nat.ne_of_lt (Nat.lt_succ_self _);refine⟨by rw[aY ne,ce],zero_le _,ne,e2,λ_=>none,(Heap.Ns1.of_empty e3).at λo q=>get?_push_of_some _ q,λ_=>True.intro,λy hy=>absurd rfl hy⟩
def Ce{prog:Program}{w:World}{env:Env}{e:Expr}{f:Str}{pos:Pos}{s:Shared}{Q:JF}(hb:attributeBase e f env (eval e env)=eval e env)
  (h:wpAny (model prog w) A (eval e env) (λo s₁=>wpAny (model prog w) A (getAttr o f true) Q E s₁) E s):wpAny (model prog w) A (eval (.Attribute e f pos) env) Q E s:=
 Attribute_any_ h (by rw[arm_eval_Attribute,hb])
end
def Gp(K:PySem.W.Frag)(ta:TE)(f:Str):TE:=λY H Q=>ta Y H λx H1=>∃a C dx fs v,x=.ref a/\H1 a=some (.ins C dx fs)/\Cls K C/\fv K C f/\fs.lookup f=some v/\Q v H1
def sFld(K:PySem.W.Frag)(ta tv:TE)(f:Str):TS:=λD Y H=>tv Y H λy H1=>ta Y H1 λx H2=>∃a C dx fs,x=.ref a/\H2 a=some (.ins C dx fs)/\Cls K C/\fv K C f/\fs.length<1000 /\
 D.nx Y (upd H2 a (.ins C dx (gZ f y fs)))
section
variable{X:Cx}{o e value:Expr}{f:Str}{pos pos' tpos:Pos}{ta tv:TE}
def Du(he:PE X e ta)(hb:attributeBase e f X.env (eval e X.env)=eval e X.env):PE X (.Attribute e f pos) (Gp X.K ta f):=by intro js s Y H Q I h;refine Ce hb (thn (he js s Y H _ I h) λu s1 zz=>?_);obtain⟨x,H1,I1,rx,a,C,dx,fs,v,ex,ea,c,n,l,q⟩:=zz;subst ex;obtain rfl:u=Value.ref a:=rx;exact sJ I1 ea c n l λu' s2 I2 ru=>⟨v,H1,I2,ru,q⟩
def Dk(ha:PE X o ta)(hv:PE X value tv)(hs:swapsWith value (some (.Attribute o f pos')) pos.line X.env=pure false):PS X (.Assign [.Attribute o f pos'] value pos) (sFld X.K ta tv f):=by intro js s Y H D I h;refine plainObj_wpAny_Assign_Attribute (thn (hv js s Y H _ I h) λu s1 ⟨y,H1,I1,ry,q⟩=>thn (ha js s1 Y H1 _ I1 q) λov s2 zz=>?_) hs;obtain⟨x,H2,I2,rx,a,C,dx,fs,ex,ea,c,n,l,q2⟩:=zz;subst ex;obtain rfl:ov=Value.ref a:=rx;exact rT I2 ea c n l ry λs3 I3=>⟨Y,_,I3,q2⟩
end
end
section
structure eH(k:Nat)(A:Around):Prop where
 hd:A.handled=none
 dp:A.depth+3*k+5<recursionLimit
 un:A.units+16*k+200<cLine
theorem eH.mono{j k:Nat}{A:Around}(r:eH k A)(h:j<=k):eH j A:=⟨r.hd,by have:=r.dp;omega,by have:=r.un;omega⟩
theorem eH.deeper{k:Nat}{A:Around}(r:eH (k+1) A)(env:Env):eH k (A.deeper env):=
 ⟨r.hd,by have:=r.dp;show A.depth+1+3*k+5<_;omega,by have:=r.un;show A.units+3+16*k+200<_;omega⟩
def sA{A:Around}{C:Addr}{us:JL}{kw:List (Str×Value)}:(A.under (.builtin "type.__call__" ⟨.ref C::us,kw⟩)).depth=A.depth+1:=by
 first|rfl|simp[Around.under,Code.weight,Code.isCreation,Code.isGuard,Code.isCaller,Code.frames,Code.isFrame,guardIds]
def sy{A:Around}{C:Addr}{us:JL}{kw:List (Str×Value)}:(A.under (.builtin "type.__call__" ⟨.ref C::us,kw⟩)).units=A.units+1:=by
 first|rfl|simp[Around.under,Code.cUnits,Code.frames,Code.isFrame]
theorem eH.make{k:Nat}{A:Around}(r:eH (k+1) A)(C:Addr)(us:JL)(kw:List (Str×Value)):eH k (A.under (.builtin "type.__call__" ⟨.ref C::us,kw⟩)):=
 ⟨r.hd,by have:=r.dp;rw[sA];omega,by have:=r.un;rw[sy];omega⟩
theorem eH.depth{k:Nat}{A:Around}(r:eH k A):A.depth<recursionLimit:=by have:=r.dp;omega
theorem eH.units{k:Nat}{A:Around}(r:eH k A):A.units+64<cLine:=by have:=r.un;omega
def CU:TA:=λ_ H Q=>Q [] H
def sZ(ta:TE)(tr:TA):TA:=λY H Q=>ta Y H λx H1=>tr Y H1 λxs H2=>Q (x::xs) H2
section
variable{X:Cx}{e:Expr}{es:List Expr}{te:TE}{t:TA}{pos:Pos}
def g8:PA X [] CU:=λ_ _ _ _ H Q I h=>Calls.spliced_nil ⟨[],H,I,.nil,h⟩
def dR(ha:PE X e te)(hr:PA X es t)(hs:starEach (e::es) X.env=(false,eval e X.env)::starEach es X.env:=by rfl):PA X (e::es) (sZ te t):=by intro pos js s Y H Q I h;rw[hs];show wpAny _ _ (spliced ((false,eval e X.env)::backTo pos (starEach es X.env))) _ _ s;refine Calls.spliced_cons (thn (ha js s Y H _ I h) λu s1 zz=>?_);obtain⟨x,H1,I1,r1,q1⟩:=zz;exact thn (hr pos js s1 Y H1 _ I1 q1) λus s2 ⟨xs,H2,I2,r2,q2⟩=>⟨x::xs,H2,I2,.cons r1 r2,q2⟩
def IH(t:TA):TE:=λY H Q=>t Y H λxs H1=>xs.length<=sizeLine/\∀p,H1 p=none->Q (.ref p) (upd H1 p (.tup xs))
def IL(t:TA):TE:=λY H Q=>t Y H λxs H1=>xs.length<=sizeLine/\∀p,H1 p=none->Q (.ref p) (upd H1 p (.lst xs))
def wR{x1}(h:PA X es t):PE X (.Tuple es x1 pos) (IH t):=by intro js s Y H Q I hq;refine wpAny_Tuple_spliced (thn (h pos js s Y H _ I hq) λus s1 ⟨xs,H1,I1,r,z,q⟩=>⟨by rw[<- r.length];exact z,?_⟩);have hf:H1 s1.heap.objs.size=none:=I1.hok.fresh (Nat.le_refl _);refine⟨.ref s1.heap.objs.size,upd H1 s1.heap.objs.size (.tup xs),I1.laid (t':=s1.toks) (λb u e=>get?_push_of_some _ e) (Nat.le_refl _) ?_,rfl,q _ hf⟩;exact⟨z,us,r,⟨_,get?_push_size _ rfl,rfl,_,rfl⟩⟩
def Dt(h:PA X es t):PE X (.List es pos) (IL t):=by intro js s Y H Q I hq;refine wpAny_List_spliced (thn (h pos js s Y H _ I hq) λus s1 ⟨xs,H1,I1,r,z,q⟩=>⟨by rw[<- r.length];exact z,?_⟩);have hf:H1 s1.heap.objs.size=none:=I1.hok.fresh (Nat.le_refl _);refine⟨.ref s1.heap.objs.size,upd H1 s1.heap.objs.size (.lst xs),I1.laid (t':=s1.toks) (λb u e=>get?_push_of_some _ e) (Nat.le_refl _) ?_,rfl,q _ hf⟩;exact⟨z,us,0,r,get?_push_size _ rfl⟩
end
abbrev Sp:=JQ->Hp->VK->XK->Prop
abbrev CXT:=List Env->Hp->Shared->XK->JF
structure sU(P:Program)(w:World)(K:PySem.W.Frag)(mg:JG)(base:Heap)(A:Around)(outer:List Env)(s:Shared)(H:Hp):Prop where
 frames:A.frames=some outer
 mod:Mod K mg base
 bs:∀b o,base.get? b=some o->s.heap.get? b=some o/\H b=none
 bsz:base.objs.size<=s.heap.objs.size
 funs:s.heap.FunFrames base outer
 frf:∀b∈frs outer,H b=none
 hok:HOk P w H s.heap
 bare:AllBare s.gens
def CE(outer:List Env)(P:Program)(w:World)(H:Hp)(s:Shared)(Q:VK)(u:Value)(s':Shared):Prop:=
 ∃v H',s'.os=s.os/\AllBare s'.gens/\Un (frs outer) [] H H' s.heap s'.heap/\HOk P w H' s'.heap/\bV v u/\Q v H'
def CR(CX:CXT)(outer:List Env)(P:Program)(w:World)(H:Hp)(s:Shared)(Q:VK)(E:XK)(r:Result)(s':Shared):Prop:=
 match r with
 |.ok (.ret u)=>CE outer P w H s Q u s'
 |.ok _=>False
 |.error e=>CX outer H s E e s'
structure dD(P:Program)(w:World)(K:PySem.W.Frag)(mg:JG)(base:Heap)(CX:CXT)(k:Nat)(f:Addr)(fd:FuncData)(ps:JN)(sp:Sp):Prop where
 len:∀vs H Q E,sp vs H Q E->vs.length=ps.length
 run:∀(A:Around) (outer:List Env) (s:Shared) (H:Hp) (args:Args) (us:JL) (vs:JQ) (Q:VK) (E:XK),eH k A->sU P w K mg base A outer s H->BindsTo s fd args (ps.zip us)->aU vs us->sp vs H Q E ->
  codeAny (model P w) A (.call (.ref f) args) (CR CX outer P w H s Q E) s
def dD.mono{P:Program}{w:World}{K:PySem.W.Frag}{mg:JG}{base:Heap}{CX:CXT}{j k:Nat}{f:Addr}{fd:FuncData}{ps:JN}{sp:Sp}(F:dD P w K mg base CX j f fd ps sp)(h:j<=k) :
  dD P w K mg base CX k f fd ps sp:=⟨F.len,λA outer s H args us vs Q E hr=>F.run A outer s H args us vs Q E (hr.mono h)⟩
def dD.imp{P:Program}{w:World}{K:PySem.W.Frag}{mg:JG}{base:Heap}{CX:CXT}{k:Nat}{f:Addr}{fd:FuncData}{ps:JN}{sp sp':Sp}(F:dD P w K mg base CX k f fd ps sp)
  (h:∀vs H Q E,sp' vs H Q E->sp vs H Q E):dD P w K mg base CX k f fd ps sp':=
 ⟨λvs H Q E q=>F.len vs H Q E (h _ _ _ _ q),λA outer s H args us vs Q E hr he hb hv hs=>F.run A outer s H args us vs Q E hr he hb hv (h _ _ _ _ hs)⟩
def sU.make{P:Program}{w:World}{K:PySem.W.Frag}{mg:JG}{base:Heap}{A:Around}{outer:List Env}{s:Shared}{H:Hp}(e:sU P w K mg base A outer s H)(C:Addr)(us:JL)(kw:List (Str×Value)) :
  sU P w K mg base (A.under (.builtin "type.__call__" ⟨.ref C::us,kw⟩)) outer s H:=⟨by first|exact e.frames |(simpa[Around.under,Code.envs,Code.isFrame,pushEnvs]using e.frames),e.mod,e.bs,e.bsz,e.funs,e.frf,e.hok,e.bare⟩
section
variable{X:Cx}{js:JI}{Y:St}{H:Hp}{s s':Shared}
def Inv.env0(I:Inv X js Y H s):sU X.prog X.w X.K X.mg X.base X.A X.stack s H:=
 ⟨I.ok.frames,I.ok.mod,I.bs,Nat.le_trans I.ok.bsz I.sz,I.stack,I.stkFree,I.hok,I.bare⟩
def Inv.after{Q:VK}{u:Value}(I:Inv X js Y H s)(h:CE X.stack X.prog X.w H s Q u s'):EP X js Y Q u s':=by obtain⟨v,H',os,bare,un,hok,r,q⟩:=h;obtain⟨hh,g,d,t,os'⟩:=s';obtain rfl:os'=s.os:=os;exact⟨v,H',I.call (h':=hh) (g':=g) (d':=d) (t':=t) (ch:=[]) un hok bare (λb z=>absurd z (by simp)),r,q⟩
end
def f8(K:PySem.W.Frag)(fd:FuncData)(ps:JN)(ds:JL):Prop:=
 ∀(s:Shared) (us:JL),K.In s.heap->(us++ds).length=ps.length->BindsTo s fd ⟨us,[]⟩ (ps.zip (us++ds))
def f8.all{K:PySem.W.Frag}{fd:FuncData}{ps:JN}(h:∀us:JL,us.length=ps.length->bindArgs fd ⟨us,[]⟩=pure (ps.zip us)):f8 K fd ps []:=λs us _ hl=>by rw[append_nil]at hl ⊢;exact .of_eq (h us hl)
section
variable{X:Cx}{CX:CXT}{k:Nat}{f C:Addr}{fd:FuncData}{ps:JN}{sp:Sp}{dvs:JQ}{ds:JL}{E:XK}{x m:Str}{p pos apos:Pos}{e o:Expr}{es:List Expr}{ta:TE}{t:TA}
structure Mk(K:PySem.W.Frag)(C f:Addr):Prop where
 makes:makesIn K C=true
 init:PySem.W.findIn K (.ref C) "__init__"=some (some (.ref f))
 fn:PySem.W.isFn K (.ref f)=true
 kp:PySem.W.keepIn K (.ref C)=true
end
def PK(X:Cx)(kws:List Keyword)(t:TA):Prop:=
 ∀(pos:Pos) (js:JI) (s:Shared) (Y:St) (H:Hp) (Q:JQ->JR),Inv X js Y H s->t Y H Q->wpAny (model X.prog X.w) X.A (evalAll ((backToKw pos (keywordEach kws X.env)).map (·.2))) (AP X js Y Q) X.xe s
section
variable{X:Cx}{CX:CXT}{k:Nat}{f C:Addr}{fd:FuncData}{ps ks:JN}{sp:Sp}{E:XK}{x m:Str}{p pos apos kpos:Pos}{e o:Expr}{es:List Expr}{kws:List Keyword}{te ta:TE}{t tk:TA}{nm:Option Str}
def wM:PK X [] CU:=λ_ _ _ _ H Q I h=>wpAny_evalAll_nil ⟨[],H,I,.nil,h⟩
def tQ(ha:PE X e te)(hr:PK X kws t):PK X (⟨nm,e,kpos⟩::kws) (sZ te t):=by intro pos js s Y H Q I h;show wpAny _ _ (evalAll ((do let v <- eval e X.env;standAt pos;pure v)::(backToKw pos (keywordEach kws X.env)).map (·.2))) _ _ s;refine wpAny_evalAll_cons (wpAny_bind (thn (ha js s Y H _ I h) λu s1 ⟨x,H1,I1,r1,q1⟩=>wpAny_bind (wpAny_standAt (wpAny_pure ?_))));exact thn (hr pos js s1 Y H1 _ I1 q1) λus s2 ⟨xs,H2,I2,r2,q2⟩=>⟨x::xs,H2,I2,.cons r1 r2,q2⟩
variable{g:JL->JL->JL}{gV:JQ->JQ->JQ}
end
structure eW(N P:JN)(sc:Scope):Prop where
 kind:sc.kind=.function
 co:sc.isCoroutine=false
 gen:sc.isGenerator=false
 nd:N.Nodup
 pre:N.take P.length=P
 par:∀x∈P,sc.names.lookup x=some .local\/sc.names.lookup x=some .cell
 nofree:∀y∈sc.names,y.2≠.free
def n_{kindOf:Str->Option NameKind}{x:Str}:∀{binds:List (Str×Value)}{m:JG},(∀v,(x,v)∉ binds)->bindL kindOf binds m x=m x
 | [],_,_=>rfl
 |(n,v)::r,m,h=>by
  unfold bindL;rw[n_ λw hw=>h w (mem_cons_of_mem _ hw)];split
  .have:x≠n:=by rintro rfl;exact h v mem_cons_self
   simp[this]
  .rfl
def og{kindOf:Str->Option NameKind}{x:Str}:∀{binds:List (Str×Value)}{m:JG},(∀v,(x,v)∉ binds)->bindC kindOf binds m x=m x
 | [],_,_=>rfl
 |(n,v)::r,m,h=>by
  unfold bindC;rw[og λw hw=>h w (mem_cons_of_mem _ hw)];split
  .rfl
  .have:x≠n:=by rintro rfl;exact h v mem_cons_self
   simp[this]
def oe{kindOf:Str->Option NameKind}{x:Str}{v:Value}:∀{P:JN}{vs:JL}{i:Nat}{m:JG},P.Nodup->P[i]?=some x->vs[i]?=some v->kindOf x=some .local ->
  bindL kindOf (P.zip vs) m x=some v
 | [],_,_,_,_,h,_,_|_::_,[],_,_,_,_,h,_=>by simp at h
 |p::P,w::vs,0,m,nd,h1,h2,hk=>by simp at h1 h2;subst h1;subst h2;show bindL kindOf ((p,w)::P.zip vs) m p=_;unfold bindL;rw[n_ λv hv=>(nodup_cons.mp nd).1 (List.of_mem_zip hv).1,if_pos hk];simp
 |p::P,w::vs,i+1,m,nd,h1,h2,hk=>by show bindL kindOf ((p,w)::P.zip vs) m x=_;unfold bindL;exact oe (i:=i) (nodup_cons.mp nd).2 (by simpa using h1) (by simpa using h2) hk
def oh{kindOf:Str->Option NameKind}{x:Str}{v:Value}:∀{P:JN}{vs:JL}{i:Nat}{m:JG},P.Nodup->P[i]?=some x->vs[i]?=some v->kindOf x≠some .local ->
  bindC kindOf (P.zip vs) m x=some v
 | [],_,_,_,_,h,_,_|_::_,[],_,_,_,_,h,_=>by simp at h
 |p::P,w::vs,0,m,nd,h1,h2,hk=>by simp at h1 h2;subst h1;subst h2;show bindC kindOf ((p,w)::P.zip vs) m p=_;unfold bindC;rw[og λv hv=>(nodup_cons.mp nd).1 (List.of_mem_zip hv).1,if_neg hk];simp
 |p::P,w::vs,i+1,m,nd,h1,h2,hk=>by show bindC kindOf ((p,w)::P.zip vs) m x=_;unfold bindC;exact oh (i:=i) (nodup_cons.mp nd).2 (by simpa using h1) (by simpa using h2) hk
def start(N:JN)(vs:JQ):St:=vs.map some++replicate (N.length-vs.length) none
def fG(CX:CXT)(P:Program)(w:World)(K:PySem.W.Frag)(mg:JG)(base:Heap)(N:JN)(qual:Str)(scope:Scope)(f:Addr)(cd:Value)(A:Around)(outer:List Env)(s:Shared)(H:Hp)(E:XK):Cx where
 prog:=P
 w:=w
 K:=K
 mg:=mg
 base:=base
 A:=A.deeper (envOfC qual scope s.heap.objs.size f cd)
 N:=N
 s₀:=s
 H₀:=H
 env:=envOfC qual scope s.heap.objs.size f cd
 outer:=outer
 stack:=envOfC qual scope s.heap.objs.size f cd::outer
 ex:=[]
 calm:=true
 fn:=λ_=>true
 pn:=[]
 xe:=λe s'=>wpAny (model P w) (A.deeper (envOfC qual scope s.heap.objs.size f cd)) (leaving (envOfC qual scope s.heap.objs.size f cd) e) (λ_ s''=>CX outer H s E e s'') (λe' s''=>CX outer H s E e' s'') s'
def qZ{sc:Scope}{n:Nat}{x:Str}(h:sc.names.lookup x=some .cell):∃c,(cellsFrom n sc.names []).lookup x=some c:=by have q:=PySem.W.cellsFrom_some sc.names n [] (.inl h);exact isSome_iff_exists.mp q
theorem vA{CX:CXT}{P:Program}{w:World}{K:PySem.W.Frag}{mg:JG}{base:Heap}{N ps:JN}{qual:Str}{scope:Scope}{f:Addr}{cd:Value}{A:Around}{outer:List Env}{s s1:Shared}{H:Hp}{E:XK}{us:JL}{vs:JQ}
  (S:eW N ps scope) (hd:A.handled=none) (e0:sU P w K mg base A outer s H) (hl:vs.length=ps.length) (r:aU vs us)
  (x:InCallC s s.heap.objs.size (bindL (envOfC qual scope s.heap.objs.size f cd).kindOf (ps.zip us) λ_=>none) (cellsFrom (s.heap.objs.size+1) scope.names []) (bindC (envOfC qual scope s.heap.objs.size f cd).kindOf (ps.zip us) λ_=>none) s1) :
  Inv (fG CX P w K mg base N qual scope f cd A outer s H E) [] (start N vs) H s1:=by
 have hpl:ps.length<=N.length:=by have:=congrArg List.length S.pre;rw[length_take]at this;omega
 obtain⟨h1,tk,rfl,hk⟩:=x.done;have noA:∀b:Addr,b ∉(fG CX P w K mg base N qual scope f cd A outer s H E).ex:=λb z=>absurd (show b ∈([]:JM)from z) (by simp);refine ⟨⟨e0.mod,S.kind,rfl,rfl,Nat.le_refl _,λy z c h1 h2=>?_,λy hy=>?_,λy c _ h=>?_,λ_=>hd,Around.frames_deeper e0.frames,.inr ⟨rfl,rfl⟩,λb z=>absurd z (noA b),e0.bs,e0.bsz,λb _ _=>noA b,λb z=>absurd z (noA b),e0.funs,e0.frf⟩,
  rfl,e0.bare,Un.kept hk,⟨_,x.toInCall.ns,λi y v h1 h2 h3=>?_⟩,λy c h=>⟨_,x.cell y c h⟩,e0.hok.fresh (Nat.le_refl _),λy c h=>?_,λp hp=>absurd (show p ∈([]:JI)from hp) (by simp),e0.hok.kept hk,?_⟩
 .exact name_of_addr x.apart (PySem.mem_of_lookup h1) (PySem.mem_of_lookup h2)
 .have hy:scope.names.lookup y=some .cell\/scope.names.lookup y=some .free:=hy;rcases hy with hy|hy
  .exact qZ hy
  .exact absurd rfl (S.nofree _ (PySem.mem_of_lookup hy))
 .exact Nat.le_of_lt (x.above y c (PySem.mem_of_lookup h))
 .have hi:i<vs.length:=by
   unfold start at h2;by_cases hi:i<vs.length
   .exact hi
   .rw[getElem?_append_right (by simpa using hi)]at h2;rw[getElem?_replicate]at h2;split at h2<;>cases h2
  have ha:vs[i]?=some v:=by
   unfold start at h2;rw[getElem?_append_left (by simpa using hi),getElem?_map]at h2;cases e:vs[i]? with
   |none=>rw[e]at h2;cases h2
   |some a=>rw[e]at h2;cases h2;rfl
  obtain⟨u,hu,rv⟩:=r.get ha;have hp:ps[i]?=some y:=by rw[<- S.pre,List.getElem?_take_of_lt ()];exact h1
  have ndP:ps.Nodup:=by rw[<- S.pre];exact S.nd.sublist (List.take_sublist _ _)
  refine⟨u,rv,?_⟩;rcases S.par y (List.mem_of_getElem? hp)with k|k
  .exact .inl ⟨k,oe ndP hp hu k⟩
  .obtain⟨c,e⟩:=qZ (n:=s.heap.objs.size+1) k;refine .inr ⟨.inl k,c,e,?_⟩;have q:=x.cell y c e;rw[oh ndP hp hu (by show scope.names.lookup y≠_;rw[k];decide)]at q;exact q
 .exact .inl (e0.hok.fresh (Nat.le_of_lt (x.above y c (PySem.mem_of_lookup h))))
 .unfold start;show _=N.length;rw[length_append,length_map,List.length_replicate];omega
def Cx.low(X:Cx)(g:Str->Bool):Cx:={X with fn:=g}
def Jp(g:Str->Bool)(X:Cx)(st:List Stmt)(t:TS):Prop:=
 ∀(js:JI) (s:Shared) (Y:St) (H:Hp) (D:Ends),Inv X js Y H s->t D Y H->wpAny (model X.prog X.w) X.A (execs st X.env) (SP (X.low g) js D) X.xe s
def ED(g:Str->Bool){CX:CXT}{P:Program}{w:World}{K:PySem.W.Frag}{mg:JG}{base:Heap}{k:Nat}{f:Addr}{name qual:Str}{params:Arguments}{body:List Stmt}{scope:Scope}{dV kV doc pm cdv ct oc:Value}{an od:Option Addr}
  {osl:Array (Option Value)}{N ps:JN}{sp:Sp} (lk:K.lookup f=some ⟨oc,od,.func (PySem.W.fnOf name qual params body scope dV kV doc pm an cdv ct),osl⟩) (hcd:PySem.W.codeIn K cdv qual=true) (S:eW N ps scope)
  (len:∀vs H Q E,sp vs H Q E->vs.length=ps.length)
  (hbody:∀ (A:Around) (outer:List Env) (s:Shared) (H:Hp) (vs:JQ) (Q:VK) (E:XK),eH k (A.deeper (envOfC qual scope s.heap.objs.size f cdv))->sp vs H Q E ->
   ∃t,Jp g (fG CX P w K mg base N qual scope f cdv A outer s H E) body t/\t {nx:=λ_ H'=>Q .non H',rt:=Q} (start N vs) H) :
  dD P w K mg base CX (k+1) f (PySem.W.fnOf name qual params body scope dV kV doc pm an cdv ct) ps sp:=by
 refine⟨len,λA outer s H args us vs Q E hr e0 hb r hsp=>?_⟩;have hl:=len _ _ _ _ hsp;have KX:K.In s.heap:=e0.mod.kin.keeps λb o e=>(e0.bs b o e).1;have lim:s.heap.NoLimit:=e0.mod.nolimit.keeps λb o e=>(e0.bs b o e).1;have hkind:∀y∈ps.zip us,scope.names.lookup y.1=some .local \/(scope.names.lookup y.1=some .cell/\((cellsFrom (s.heap.objs.size+1) scope.names []).lookup y.1).isSome=true):=λhz1 hy=>by
  obtain⟨n,v⟩:=hz1;rcases S.par n (List.of_mem_zip hy).1 with q|q
  .exact .inl q
  .exact .inr ⟨q,PySem.W.cellsFrom_some _ _ _ (.inl q)⟩
 refine codeAny_call_function hr.depth (KX _ _ lk) rfl S.co S.gen rfl (PySem.W.codeRec_of KX hcd) (hb _ _ _ _ ?_);refine wpAny_newFunctionEnv_cells S.kind hkind λenv he s1 x=>?_;subst he;refine⟨lim.keeps x.toInCall.keep,codeAny_func ?_⟩;obtain⟨t,ht,hq⟩:=hbody A outer s H vs Q E (hr.deeper _) hsp;have I:Inv (fG CX P w K mg base N qual scope f cdv A outer s H E) [] (start N vs) H s1:=vA S hr.hd e0 hl r x;refine wpAny_mono (ht [] s1 (start N vs) H _ I hq) (λfl s' hs=>?_) λe s' hs=>hs;have fin:∀{σ':St}{H':Hp}{v:V}{u:Value},Inv ((fG CX P w K mg base N qual scope f cdv A outer s H E).low g) [] σ' H' s'->bV v u->Q v H'->CE outer P w H s Q u s':=
  λ{σ' H' v u} J rv q=>⟨v,H',J.os,J.bare,J.base,J.hok,rv,q⟩
 cases fl with
 |ret u=>obtain⟨v,σ',H',J,rv,q⟩:=hs;exact fin J rv q
 |next=>obtain⟨σ',H',J,q⟩:=hs;exact fin (v:=V.non) (u:=Value.none) J rfl q
 |brk=>obtain⟨_,_,_,q⟩:=hs;exact False.elim q
 |cont=>obtain⟨_,_,_,q⟩:=hs;exact False.elim q
def CA{CX:CXT}{P:Program}{w:World}{K:PySem.W.Frag}{mg:JG}{base:Heap}{k:Nat}{f:Addr}{name qual:Str}{params:Arguments}{body:List Stmt}{scope:Scope}{dV kV doc pm cdv ct oc:Value}{an od:Option Addr}
  {osl:Array (Option Value)}{N ps:JN}{sp:Sp} (lk:K.lookup f=some ⟨oc,od,.func (PySem.W.fnOf name qual params body scope dV kV doc pm an cdv ct),osl⟩) (hcd:PySem.W.codeIn K cdv qual=true) (S:eW N ps scope)
  (len:∀vs H Q E,sp vs H Q E->vs.length=ps.length)
  (hbody:∀ (A:Around) (outer:List Env) (s:Shared) (H:Hp) (vs:JQ) (Q:VK) (E:XK),eH k (A.deeper (envOfC qual scope s.heap.objs.size f cdv))->sp vs H Q E ->
   ∃t,PSs (fG CX P w K mg base N qual scope f cdv A outer s H E) body t/\t {nx:=λ_ H'=>Q .non H',rt:=Q} (start N vs) H) :
  dD P w K mg base CX (k+1) f (PySem.W.fnOf name qual params body scope dV kV doc pm an cdv ct) ps sp:=ED (λ_=>true) lk hcd S len hbody
end
section
section
variable{X:Cx}{x:Str}{p pos:Pos}{e:Expr}{es:List Expr}{t:TA}{id T:String}{r:JQ->Hp->VK->Prop}
def tCB(r:JQ->Hp->VK->Prop)(t:TA):TE:=λY H Q=>t Y H λvs H1=>r vs H1 Q
def lU(hc:eJ X (.builtin id) r)(hg:Gl X x)(hm:X.mg x=none)(hv:bootBuiltins x=some (.builtin id))(ha:PA X (e::es) t)(hn:x≠"__name__":=by decide)(hdb:(x ==("__debug__":Str))=false:=by decide)
  (he:starEach (e::es) X.env=(false,eval e X.env)::starEach es X.env:=by rfl) (hpl:(backTo pos (starEach es X.env)).any (·.1)=false:=by rfl):PE X (.Call (.Name x p) (e::es) [] pos) (tCB r t):=by
 intro js s Y H Q I h;refine wpAny_Call_Name_kw (gC I hg hm hv ?_ hn hdb);exact PyProof.Rows.callWith_builtin1 (thn (ha pos js s Y H _ I h) λus s1 ⟨vs,H1,I1,r1,q1⟩=>hc js s1 Y H1 vs us Q I1 r1 q1) he hpl
def ku(hc:eJ X (.type T) r)(hg:Gl X x)(hm:X.mg x=none)(hv:bootBuiltins x=some (.type T))(ha:PA X (e::es) t)(hn:x≠"__name__":=by decide)(hdb:(x ==("__debug__":Str))=false:=by decide)
  (he:starEach (e::es) X.env=(false,eval e X.env)::starEach es X.env:=by rfl) (hpl:(backTo pos (starEach es X.env)).any (·.1)=false:=by rfl):PE X (.Call (.Name x p) (e::es) [] pos) (tCB r t):=by
 intro js s Y H Q I h;refine wpAny_Call_Name_kw (gC I hg hm hv ?_ hn hdb);exact PyProof.Rows.callWith_type1 (thn (ha pos js s Y H _ I h) λus s1 ⟨vs,H1,I1,r1,q1⟩=>hc js s1 Y H1 vs us Q I1 r1 q1) he hpl
end
end
end L2
namespace HT
open PySem PyProof.Rows
def lexLt:JK->JK->Bool
 | [],[]=>false
 | [],_::_=>true
 |_::_,[]=>false
 |x::xs,y::ys=>if x=y then lexLt xs ys else decide (x<y)
def sC(x y:Int)(xs ys:JK):lexLt (x::xs) (y::ys)=if x=y then lexLt xs ys else decide (x<y):=rfl
def mR:lexLt [] []=false:=rfl
def l6(y:Int)(ys:JK):lexLt [] (y::ys)=true:=rfl
def l7(x:Int)(xs:JK):lexLt (x::xs) []=false:=rfl
def yT(A:Around)(s:Shared)(a:Int)(t:Tok)(c:Int)(u:Tok):∃e,SeqAt.EqAt A s (.int a t) (.int c u) e/\(e=true↔a=c):=
 ⟨(a==c),SeqAt.EqAt.int_int a t c u,by simp⟩
def wE(A:Around)(s:Shared)(a:Int)(t:Tok)(c:Int)(u:Tok)(prog:Program)(w:World)(E:JF)(Q:JF)(h:Q (.bool (decide (a<c))) s) :
  wpAny (model prog w) A (richCompare .Lt (.int a t) (.int c u)) Q E s:=
 (PyProof.Rows.lt_int h:wpAny (model prog w) A (compareOp .Lt (.int a t) (.int c u)) Q E s)
section
open PySem.SeqAt
open PySem.AutoSeq1 (wpAny_loadPart')
open PySem.MeetsSeq PySem.MeetsSeq2 PySem.MeetsSeq3
theorem mO(l b:Addr)(items items2:JP)(n n2:Nat)(dd dd2:Option Addr)(sl sl2:Array (Option Value))(ns ms:JK)(hi:IntsAre items.toList ns)(hj:IntsAre items2.toList ms) :
  Meets (Builtin.«tuple.__lt__» ⟨[.ref l,.ref b],[]⟩)
   (λ_ R s=>s.heap.get? l=some { cls:=.type "tuple", dict:=dd,data:=.seq items n,slots:=sl }/\s.heap.get? b=some { cls:=.type "tuple", dict:=dd2,data:=.seq items2 n2,slots:=sl2 } /\
    R (.ok (.ret (.bool (lexLt ns ms)))) s):=
 .of_wp λprog w A R s h=>by
  obtain⟨hp,g,d,tk,os⟩:=s;obtain⟨hl,hb,h⟩:=h;have f2:=AutoSeq1.sub_tuple_tuple;have z1:items.size=ns.length:=by rw[<- hi.length];simp
  have z2:items2.size=ms.length:=by rw[<- hj.length];simp
  wp_walk using wpAny_loadPart' hl,wpAny_loadPart' hb,wpAny_forIn_list _ (λrest b s'=>b.1=none/\s'=⟨hp,g,d,tk,os⟩/\∃ (vs ws:JL) (ns' ms':JK),rest=vs.zip ws /\
   IntsAre vs ns'/\IntsAre ws ms'/\ns'.length+items2.size=ms'.length+items.size/\R (.ok (.ret (.bool (lexLt ns' ms')))) ⟨hp,g,d,tk,os⟩) _
  case turn=>
   rintro⟨y,x⟩ rest b s' ⟨hb',rfl,vs,ws,ns',ms',hz,hvi,hwi,hlen,hR⟩;cases hvi with
   |nil=>rw[List.zip_nil_left]at hz;cases hz
   |cons a t hvi'=>
    cases hwi with
    |nil=>rw[List.zip_nil_right]at hz;cases hz
    |cons c u hwi'=>
     rw[zip_cons_cons]at hz;injection hz with hyx hrest;injection hyx with hy hx;subst hy hx;rw[sC]at hR;simp only[length_cons]at hlen;obtain⟨e,he,hiff⟩:=yT A.in1 ⟨hp,g,d,tk,os⟩ a t c u;refine wpAny_bind (he prog w _ _ ?_);cases e with
     |true=>
      rw[if_pos (hiff.mp rfl)]at hR
      wp_walk
      exact⟨rfl,rfl,_,_,_,_,hrest,hvi',hwi',by omega,hR⟩
     |false=>
      rw[if_neg (λq=>absurd (hiff.mpr q) Bool.false_ne_true)]at hR;have hri:=wE A.in1 ⟨hp,g,d,tk,os⟩ a t c u prog w
      wp_walk using hri
      exact⟨_,rfl,by simpa using hR⟩
  case fin=>
   rintro⟨b1,b2⟩ s' ⟨hb',rfl,vs,ws,ns',ms',hz,hvi,hwi,hlen,hR⟩;simp only at hb';subst hb';have hv:lexLt ns' ms'=decide (items.size<items2.size):=by
    cases hvi with
    |nil=>
     cases hwi with
     |nil=>simp only[List.length_nil]at hlen;rw[mR];exact(decide_eq_false ()).symm
     |cons c u hw=>simp only[List.length_nil,length_cons]at hlen;rw[l6];exact(decide_eq_true ()).symm
    |cons a t hv=>
     cases hwi with
     |nil=>simp only[List.length_nil,length_cons]at hlen;rw[l7];exact(decide_eq_false ()).symm
     |cons c u hw=>rw[zip_cons_cons]at hz;cases hz
   rw[hv]at hR
   wp_walk
   exact⟨_,rfl,by simpa[Builtin.Tuple.tupleCompareSizes]using hR⟩
  case h=>
   exact⟨rfl,rfl,items.toList,items2.toList,ns,ms,rfl,hi,hj,by omega,h⟩
end
section
variable{prog:Program}{w:World}{A:Around}{E:JF}{s:Shared}
def lt_tupInts{l b:Addr}{items items2:JP}{ns ms:JK}{Q:JF}(hl:IsTup s.heap l items)(hb:IsTup s.heap b items2)(hi:IntsAre items.toList ns)(hj:IntsAre items2.toList ms)
  (hu:A.units<cLine) (h:Q (.bool (lexLt ns ms)) s):wpAny (model prog w) A (compareOp .Lt (.ref l) (.ref b)) Q E s:=by
 obtain⟨⟨cls,dd,data,sl⟩,ho,hc,n,hd⟩:=id hl;obtain⟨⟨cls2,dd2,data2,sl2⟩,ho2,hc2,n2,hd2⟩:=id hb;simp only at hc hd hc2 hd2;subst hc hd hc2 hd2;exact richCompare_meets_room (op:=.Lt) ⟨_,ho,rfl⟩ ⟨_,ho2,rfl⟩ PySem.F.slot_tuple_lt PySem.F.entry_tuple_lt (PySem.F.args_tuple_lt_2 _ _) (mO l b items items2 n n2 dd dd2 sl sl2 ns ms hi hj)
  ⟨ho,ho2,show Value.bool (lexLt ns ms)≠ Value.notImplemented/\Q (.bool (lexLt ns ms)) s from⟨(λx=>nomatch x),h⟩⟩ hu
def sIx(n d:Nat):JO->Nat
 |none=>d
 |some v=>if v<0 then(v+(n:Int)).toNat else min v.toNat n
def sIx_none(n d:Nat):sIx n d none=d:=rfl
theorem sIx_nat(n d k:Nat):sIx n d (some (k:Int))=min k n:=by show(if(k:Int)<0 then((k:Int)+(n:Int)).toNat else min (k:Int).toNat n)=min k n;rw[if_neg (),toNat_natCast]
end
end HT
namespace L2
open PySem PySem.Spec PyProof.Rows
section
abbrev TO:=St->Hp->(JO->JR)->Prop
def PO(X:Cx)(e:Option Expr)(t:TO):Prop:=
 ∀(js:JI) (s:Shared) (Y:St) (H:Hp) (Q:JO->JR),Inv X js Y H s->t Y H Q ->
  wpAny (model X.prog X.w) X.A (evalPart e X.env) (λu s'=>∃o H',Inv X js Y H' s'/\IsPart u o/\Q o H') X.xe s
def An:TO:=λ_ H Q=>Q none H
def Gm(t:TE):TO:=λY H Q=>t Y H λx H1=>∃i,x=.int i/\Q (some i) H1
def md{ns:JK}:∀{us:JL},aU (ns.map V.int) us->IntsAre us ns:=by
 induction ns with
 |nil=>intro us r;rw[map_nil]at r;cases r;exact .nil
 |cons n ns ih=>
  intro us r;rw[map_cons]at r;cases r with
  |cons r1 r2=>obtain⟨t,e⟩:=r1;subst e;exact .cons n t (ih r2)
section
variable{X:Cx}{e:Expr}{te:TE}{lo hi:Option Expr}{tl th:TO}{pos p2:Pos}
def A4:PO X none An:=by intro js s Y H Q I h;rw[evalPart_none];exact wpAny_pure ⟨none,H,I,.none,h⟩
def A3(h:PE X e te):PO X (some e) (Gm te):=by intro js s Y H Q I hw;rw[evalPart_some];refine thn (h js s Y H _ I hw) λu s1 hz1=>?_;obtain⟨x,H1,I1,r1,q1⟩:=hz1;obtain⟨i,rfl,q⟩:=q1;obtain⟨t,rfl⟩:=r1;exact⟨some i,H1,I1,.int i t,q⟩
def SlR(X:Cx)(r:V->JO->JO->Hp->VK->Prop):Prop:=
 ∀(js:JI) (s:Shared) (Y:St) (H:Hp) (x:V) (v vl vu:Value) (lo hi:JO) (sl:Addr) (Q:VK),Inv X js Y H s->bV x v->s.heap.IsSliceOf sl vl vu .none->IsPart vl lo->IsPart vu hi->r x lo hi H Q ->
  ∃T id,typeLookup (.type T) "__getitem__"=pure (some (.builtin id))/\s.TypeIs v T/\wpAny (model X.prog X.w) X.A (getItem v (.ref sl)) (EP X js Y Q) X.xe s
def tSl(r:V->JO->JO->Hp->VK->Prop)(te:TE)(tl th:TO):TE:=λY H Q=>te Y H λx H1=>tl Y H1 λl H2=>th Y H2 λu H3=>r x l u H3 Q
def wS{r:V->JO->JO->Hp->VK->Prop}(hr:SlR X r)(he:PE X e te)(hl:PO X lo tl)(hu:PO X hi th):PE X (.Subscript e (.Slice lo hi none p2) pos) (tSl r te tl th):=by intro js s Y H Q I h;refine Subscript_ (thn (he js s Y H _ I h) λv s1 zz=>?_);obtain⟨x,H1,I1,r1,q1⟩:=zz;refine wpAny_Slice (thn (hl js s1 Y H1 _ I1 q1) λvl s2 ⟨l,H2,I2,pl,q2⟩=>thn (hu js s2 Y H2 _ I2 q2) λvu s3 zz=>?_);obtain⟨u,H3,I3,pu,q3⟩:=zz;rw[evalPart_none];refine wpAny_pure ?_;have I4:Inv X js Y H3 {s3 with heap:=s3.heap.push {cls:=.type "slice",data:=.fields #[vl,vu,.none]}}:=I3.kept (t':=s3.toks) λb ob q=>get?_push_of_some _ q;obtain⟨T,id,hT,ht,hg⟩:=hr js {s3 with heap:=s3.heap.push {cls:=.type "slice",data:=.fields #[vl,vu,.none]}} Y H3 x v vl vu l u s3.heap.objs.size Q I4 r1 (Heap.IsSliceOf.new ..) pl pu q3;show wpAny (model X.prog X.w) X.A (subscriptTail e (.Slice lo hi none p2) v (.ref s3.heap.objs.size)) (EP X js Y Q) X.xe {s3 with heap:=s3.heap.push {cls:=.type "slice",data:=.fields #[vl,vu,.none]}};exact tail_any (ops:=[.ref s3.heap.objs.size,v]) ht hT hg (by with_unfolding_all rfl)
def y6(xs:JQ)(lo hi:JO):JQ:=(xs.drop (HT.sIx xs.length 0 lo)).take (HT.sIx xs.length xs.length hi-HT.sIx xs.length 0 lo)
theorem qX(xs:JQ)(lo hi:JO):(y6 xs lo hi).length<=xs.length:=by unfold y6;rw[length_take,List.length_drop];omega
def Gy(K:PySem.W.Frag):R2:=λx y H Q=>∃a b ns ms,x=.ref a/\y=.ref b/\SqT K H a (ns.map V.int)/\SqT K H b (ms.map V.int)/\Q (.bl (HT.lexLt ns ms)) H
def DD(hu:X.A.units<cLine):OpR X (compareOp .Lt) (Gy X.K):=by intro js s Y H x y v u Q I rx ry h;obtain⟨a,b,ns,ms,rfl,rfl,ha,hb,q⟩:=h;cases rx;cases ry;obtain⟨its,r1,p1,_⟩:=I.tuple ha;obtain⟨its2,r2,p2,_⟩:=I.tuple hb;have i1:IntsAre its.toArray.toList ns:=md r1;have i2:IntsAre its2.toArray.toList ms:=md r2;exact HT.lt_tupInts p1 p2 i1 i2 hu ⟨.bl (HT.lexLt ns ms),H,I,rfl,q⟩
end
end
section
def ixN(n:Nat)(i:Int):Option Nat:=if 0<=i then(if i<n then some i.toNat else none)else if -(n:Int)<= i then some (i+n).toNat else none
def atI{α:Type}(xs:List α)(i:Int):Option α:=(ixN xs.length i).bind λj=>xs[j]?
theorem t9{n:Nat}{i:Int}{j:Nat}(h:ixN n i=some j):seqIndex? i n=some j/\j<n/\-(n:Int)<= i/\i<n:=by
 unfold ixN at h;by_cases h0:0<=i
 .rw[if_pos h0]at h;by_cases h1:i<n
  .rw[if_pos h1]at h;have e:i.toNat=j:=Option.some.inj h;exact⟨by rw[seqIndex_of h0 h1,e],by omega,by omega,h1⟩
  .rw[if_neg h1]at h;cases h
 .rw[if_neg h0]at h;by_cases h1:-(n:Int)<= i
  .rw[if_pos h1]at h;have e:(i+n).toNat=j:=Option.some.inj h;exact⟨by rw[seqIndex_neg () h1,e],by omega,h1,by omega⟩
  .rw[if_neg h1]at h;cases h
def pF{α:Type}{xs:List α}{i:Int}{v:α}(h:atI xs i=some v):∃j,seqIndex? i xs.length=some j/\xs[j]?=some v/\j<xs.length/\-(xs.length:Int)<= i/\i<xs.length:=by
 unfold atI at h;cases e:ixN xs.length i with
 |none=>rw[e]at h;cases h
 |some j=>rw[e]at h;obtain⟨h1,h2,h3,h4⟩:=t9 e;exact⟨j,h1,h,h2,h3,h4⟩
theorem atI_last{α:Type}(xs:List α)(v:α):atI (xs++[v]) (-1)=some v:=by
 have hl:(xs++[v]).length=xs.length+1:=by simp
 have e:ixN (xs++[v]).length (-1)=some xs.length:=by unfold ixN;rw[hl,if_neg (by decide),if_pos ()];congr 1;omega
 unfold atI;rw[e];show(xs++[v])[xs.length]?=some v;simp
def io(b:Expr):Prop:=∀o i,subscripted b false o i=operate [o,i] (getItem o i)
def IxR(X:Cx)(r:R2):Prop:=
 ∀(value slice:Expr) (js:JI) (s:Shared) (Y:St) (H:Hp) (x y:V) (v u:Value) (Q:VK),Inv X js Y H s->bV x v->bV y u->r x y H Q ->
  subscripted slice false v u=operate [v,u] (getItem v u)->wpAny (model X.prog X.w) X.A (subscriptTail value slice v u) (EP X js Y Q) X.xe s
def MtR(X:Cx)(id:String)(r:V->JQ->Hp->VK->Prop):Prop:=
 ∀(js:JI) (s:Shared) (Y:St) (H:Hp) (x:V) (xs:JQ) (v:Value) (us:JL) (Q:VK),Inv X js Y H s->bV x v->aU xs us->r x xs H Q ->
  wpAny (model X.prog X.w) X.A (call (.builtin id) (v::us)) (EP X js Y Q) X.xe s
section
variable{X:Cx}{a b:Expr}{ta tb:TE}{pos:Pos}
def IxR.or{r r':R2}(h:IxR X r)(h':IxR X r'):IxR X (λx y H Q=>r x y H Q\/r' x y H Q):=by
 intro value slice js s Y H x y v u Q I rx ry q hs;rcases q with q|q
 .exact h value slice js s Y H x y v u Q I rx ry q hs
 .exact h' value slice js s Y H x y v u Q I rx ry q hs
def wU{r:R2}(hr:IxR X r)(ha:PE X a ta)(hb:PE X b tb)(hs:io b):PE X (.Subscript a b pos) (tOp r ta tb):=by intro js s Y H Q I h;exact Subscript_ (E4 ha hb I h λv u s2 x y H2 I2 rx ry q=>hr a b js s2 Y H2 x y v u Q I2 rx ry q (hs _ _))
def AW(K:PySem.W.Frag):R2:=λx y H Q=>∃p xs i v,x=.ref p/\y=.int i/\SqL K H p xs/\atI xs i=some v/\Q v H
def AU(K:PySem.W.Frag):R2:=λx y H Q=>∃p xs i v,x=.ref p/\y=.int i/\SqT K H p xs/\atI xs i=some v/\Q v H
def AV:R2:=λx y H Q=>∃z i c,x=.str z/\y=.int i/\z.length<=sizeLine/\atI z.cps.toList i=some c/\Q (.str ⟨#[c]⟩) H
theorem BI:IxR X (AW X.K):=by
 intro value slice js s Y H x y v u Q I rx ry h hs;obtain⟨p,xs,i,z,rfl,rfl,hq,he,q⟩:=h;cases rx;obtain⟨t,rfl⟩:=ry;obtain⟨its,r,pl,hz⟩:=I.list hq;obtain⟨j,h1,h2,h3,h4,h5⟩:=pF he;obtain⟨w,ew,rw'⟩:=r.get h2;have hl:=r.length;have hn:=kE;have fin:EP X js Y Q w s:=⟨z,H,I,rw',q⟩
 by_cases h0:0<=i
 .have hj:i.toNat=j:=by rw[seqIndex_of h0 h5]at h1;exact Option.some.inj h1
  exact item_listR pl.isList h0 () (by rw[hj];simpa using ew) fin hs
 .have hj:(i+(its.toArray.size:Int)).toNat=j:=by rw[seqIndex_neg () h4]at h1;rw[size_toArray,<- hl];exact Option.some.inj h1
  exact subscriptTail_builtinR (x:=w) pl.isList.typeIs slot_list_getitem.lookup
   (wpAny_getItem_list_neg (Q:=λr s'=>r=w/\EP X js Y Q r s') pl.isList () (by rw[size_toArray]<;>omega) () (by rw[hj];simpa using ew) ⟨rfl,fin⟩) hs
theorem Ew:IxR X (AU X.K):=by
 intro value slice js s Y H x y v u Q I rx ry h hs;obtain⟨p,xs,i,z,rfl,rfl,hq,he,q⟩:=h;cases rx;obtain⟨t,rfl⟩:=ry;obtain⟨its,r,pl,hz⟩:=I.tuple hq;obtain⟨j,h1,h2,h3,h4,h5⟩:=pF he;obtain⟨w,ew,rw'⟩:=r.get h2;have hl:=r.length;have hn:=kE;have fin:EP X js Y Q w s:=⟨z,H,I,rw',q⟩
 exact subscriptTail_builtinR (x:=w) pl.typeIs slot_tuple_getitem.lookup
  (getItem_tuple (j:=j) (Q:=λr s'=>r=w/\EP X js Y Q r s') pl () () (by rw[size_toArray,<- hl];exact h1) (by simpa using ew) ⟨rfl,fin⟩) hs
theorem Ex:IxR X AV:=by
 intro value slice js s Y H x y v u Q I rx ry h hs;obtain⟨z,i,c,rfl,rfl,hz,he,q⟩:=h;obtain⟨t,rfl⟩:=rx;obtain⟨t',rfl⟩:=ry;obtain⟨j,h1,h2,h3,h4,h5⟩:=pF he;have hl:z.cps.toList.length=z.length:=by simp[Str.length]
 rw[hl]at h1 h4 h5;have hn:=kE;exact tail_any (typeIs_str s z t) slot_str_getitem.lookup (getItem_str (c:=c) (by
  have e1:decide (i < -(2 ^ 63:Int))=false:=decide_eq_false ();have e2:decide (i >= 2 ^ 63)=false:=decide_eq_false ();rw[e1,e2,Bool.or_false]) (by rw[h1];simpa using h2) ⟨.str ⟨#[c]⟩,H,I.tok _,⟨_,rfl⟩,q⟩) hs
def rIx(K:PySem.W.Frag):R2:=λx y H Q=>AW K x y H Q\/AU K x y H Q\/AV x y H Q
def oZ:IxR X (rIx X.K):=BI.or (Ew.or Ex)
def sx(its:JL)(n j:Nat)(u:Value):Obj.mapSeq (·.setIfInBounds j u) {cls:=.type "list",data:=.seq its.toArray n}={cls:=.type "list",data:=.seq (its.set j u).toArray n}:=by simp[Obj.mapSeq]
def Inv.lst{js:JI}{Y:St}{H:Hp}{s:Shared}{p:Addr}{xs:JQ}(I:Inv X js Y H s)(h:H p=some (.lst xs)) :
  ∃(its:JL) (n:Nat),aU xs its/\s.heap.get? p=some {cls:=.type "list",data:=.seq its.toArray n}/\xs.length<=sizeLine:=by
 obtain⟨z,its,n,r,e⟩:=I.hok p _ h;exact⟨its,n,r,e,z⟩
def Inv.lstUpd{js:JI}{Y:St}{H:Hp}{s:Shared}{p:Addr}{xs ys:JQ}{its its':JL}{n n':Nat}{f:Obj->Obj}(I:Inv X js Y H s)(h:H p=some (.lst xs))
  (ho:s.heap.get? p=some {cls:=.type "list",data:=.seq its.toArray n}) (hf:f {cls:=.type "list",data:=.seq its.toArray n}={cls:=.type "list",data:=.seq its'.toArray n'}) (r:aU ys its') (hz:ys.length<=sizeLine) (t:Nat) :
  Inv X js Y (upd H p (.lst ys)) {s with heap:=s.heap.update p f,toks:=t}:=by
 have e:(s.heap.update p f).get? p=some {cls:=.type "list",data:=.seq its'.toArray n'}:=by rw[Heap.get?_update_self f ho (by rw[hf]<;>rfl),hf]
 refine I.write (x:=p) (e:=p) (by rw[h];trivial) (.inl rfl) (λb u hb q=>(get?_update_other _ _ (Ne.symm hb)).trans q) ⟨_,e⟩ ?_;exact⟨hz,its',n',r,e⟩
def Gw:V->V->V->Hp->(JR)->Prop:=λo i v H Q=>∃p xs k j,o=.ref p/\i=.int k/\H p=some (.lst xs)/\ixN xs.length k=some j/\Q (upd H p (.lst (xs.set j v)))
theorem wm:HS X Gw:=by
 intro js s Y H o i v ov iv u Q I ro ri rv h;obtain⟨p,xs,k,j,rfl,rfl,hp,hj,q⟩:=h;cases ro;obtain⟨t,rfl⟩:=ri;obtain⟨its,n,r,ho,hz⟩:=I.lst hp;obtain⟨h1,h2,h3,h4⟩:=t9 hj;have hl:=r.length;have hn:=kE;have I':Inv X js Y (upd H p (.lst (xs.set j v))) {s with heap:=s.heap.update p (Obj.mapSeq (·.setIfInBounds j u))}:=
  I.lstUpd hp ho (sx its n j u) (r.set rv j) (by rw[length_set];exact hz) s.toks
 by_cases h0:0<=k
 .have hk:k.toNat=j:=by rw[seqIndex_of h0 h4]at h1;exact Option.some.inj h1
  exact PySem.W.ki_setAt ho h0 () (by rw[size_toArray,<- hl];exact h4) (by rw[hk];exact⟨_,I',q⟩)
 .have hk:(k+(its.toArray.size:Int)).toNat=j:=by rw[seqIndex_neg () h3]at h1;rw[size_toArray,<- hl];exact Option.some.inj h1
  exact PySem.W.ki_setBack ho () (by rw[size_toArray,<- hl];exact h3) () (by rw[hk];exact⟨_,I',q⟩)
theorem oy(lo hi:JO)(n:Nat):(sliceBounds lo hi none n).1=((HT.sIx n 0 lo:Nat):Int)/\(sliceBounds lo hi none n).2.1=((HT.sIx n n hi:Nat):Int)/\(sliceBounds lo hi none n).2.2=1:=by
 refine⟨?_,?_,rfl⟩
 .cases lo with
  |none=>simp[sliceBounds,HT.sIx]
  |some i=>
   simp only[sliceBounds,HT.sIx,Option.getD_none,show(1:Int)>0 by decide,if_true];by_cases h:i<0
   .simp only[h,if_true]<;>omega
   .simp only[h,if_false]<;>omega
 .cases hi with
  |none=>simp[sliceBounds,HT.sIx]
  |some i=>
   simp only[sliceBounds,HT.sIx,Option.getD_none,show(1:Int)>0 by decide,if_true];by_cases h:i<0
   .simp only[h,if_true]<;>omega
   .simp only[h,if_false]<;>omega
def mP(its:JL)(lo hi:JO):slicePick its.toArray lo hi none=((its.drop (HT.sIx its.length 0 lo)).take (HT.sIx its.length its.length hi-HT.sIx its.length 0 lo)).toArray:=by obtain⟨h1,h2,h3⟩:=oy lo hi its.toArray.size;unfold slicePick;rw[h1,h2,h3];simp only[sliceRange_one,pick_run,size_toArray]<;>rfl
def IR(K:PySem.W.Frag):V->JO->JO->Hp->VK->Prop:=λx lo hi H Q=>∃a xs,x=.ref a/\SqL K H a xs/\∀p,H p=none->Q (.ref p) (upd H p (.lst (y6 xs lo hi)))
theorem Au:SlR X (IR X.K):=by intro js s Y H x v vl vu lo hi sl Q I rx hs pl pu h;obtain⟨a,xs,rfl,hx,q⟩:=h;cases rx;obtain⟨its,r,ht,hz⟩:=I.list hx;have hlen:=r.length;refine⟨"list",_,slot_list_getitem.lookup,ht.isList.typeIs,?_⟩;refine wpAny_getItem_list_slice ht.isList hs pl pu .none (by simp) ?_ (by rw[size_toArray]<;>omega);rw[mP,<- hlen];refine⟨.ref s.heap.objs.size,_,I.laid (t':=s.toks) (o:=.lst (y6 xs lo hi)) (λb ob q=>get?_push_of_some _ q) (Nat.le_refl _) ?_,rfl,q _ (I.hok.fresh (Nat.le_refl _))⟩;exact⟨Nat.le_trans (qX xs lo hi) hz,_,0,(r.drop (HT.sIx xs.length 0 lo)).take (HT.sIx xs.length xs.length hi-HT.sIx xs.length 0 lo),get?_push_size _ rfl⟩
theorem pB:eJ X (.builtin "len") (λxs H Q=>∃p ys,xs=[.ref p]/\(SqL X.K H p ys\/SqT X.K H p ys)/\Q (.int ys.length) H):=by
 intro js s Y H xs us Q I r h;obtain⟨p,ys,rfl,hq,q⟩:=h;obtain⟨u,rfl,rx⟩:=d8 r;cases rx;have hn:=kE;rcases hq with hq|hq
 .obtain⟨its,r',pl,hz⟩:=I.list hq;have hlen:=r'.length;exact Calls.call_len_list pl.isList (by simp only[size_toArray]<;>omega) ⟨.int ys.length,H,I.tok _,⟨s.toks+1,by rw[size_toArray,hlen]⟩,q⟩
 .obtain⟨its,r',pl,hz⟩:=I.tuple hq;have hlen:=r'.length;exact len_tuple pl (by simp only[size_toArray]<;>omega) ⟨.int ys.length,H,I.tok _,⟨s.toks+1,by rw[size_toArray,hlen]⟩,q⟩
def pA:eJ X (.type "list") (λxs H Q=>∃p ys,xs=[.ref p]/\(SqL X.K H p ys\/SqT X.K H p ys)/\∀l,H l=none->Q (.ref l) (upd H l (.lst ys))):=by
 intro js s Y H xs us Q I r h;obtain⟨p,ys,rfl,hq,q⟩:=h;obtain⟨u,rfl,rx⟩:=d8 r;cases rx;have fin:∀(its:JL),aU ys its->ys.length<=sizeLine->∀(h':Heap) (c':Nat),(∀b o',s.heap.get? b=some o'->h'.get? b=some o')->
   h'.get? s.heap.objs.size=some {cls:=.type "list",dict:=none,data:=.seq its.toArray c',slots:=#[]}->EP X js Y Q (.ref s.heap.objs.size) {s with heap:=h'}:=λits r' hz h' c' kp e=>
  ⟨.ref s.heap.objs.size,_,I.laid (t':=s.toks) kp (Nat.le_refl _) (show d0 X.prog X.w _ h' _ (.lst ys)from⟨hz,its,c',r',e⟩),rfl,q _ (I.hok.fresh (Nat.le_refl _))⟩
 rcases hq with hq|hq
 .obtain⟨its,r',pl,hz⟩:=I.list hq;have hlen:=r'.length;obtain⟨o,ho,hc,n,hd⟩:=pl.isList;exact call_list_seq p (.inl rfl) ho hc hd (λh' c' kp e=>fin its r' hz h' c' kp e) (by simp only[size_toArray]<;>omega)
 .obtain⟨its,r',pl,hz⟩:=I.tuple hq;have hlen:=r'.length;obtain⟨o,ho,hc,n,hd⟩:=pl;exact call_list_seq p (.inr rfl) ho hc hd (λh' c' kp e=>fin its r' hz h' c' kp e) (by simp only[size_toArray]<;>omega)
def mV:eJ X (.type "tuple") (λxs H Q=>∃p ys,xs=[.ref p]/\((SqL X.K H p ys/\∀l,H l=none->Q (.ref l) (upd H l (.tup ys)))\/(SqT X.K H p ys/\Q (.ref p) H))):=by
 intro js s Y H xs us Q I r h;obtain⟨p,ys,rfl,h⟩:=h;obtain⟨u,rfl,rx⟩:=d8 r;cases rx;rcases h with⟨hq,q⟩ |⟨hq,q⟩
 .obtain⟨its,r',pl,hz⟩:=I.list hq;have hlen:=r'.length;refine call_tuple_list pl.isList (λh' kp=>?_) (by simp only[size_toArray]<;>omega);have I1:Inv X js Y H {s with heap:=h'}:=I.kept (t':=s.toks) kp;have I2:Inv X js Y (upd H h'.objs.size (.tup ys)) {s with heap:=h'.push {cls:=.type "tuple",data:=.seq its.toArray}}:=
   I1.laid (t':=s.toks) (λb o e=>get?_push_of_some _ e) (Nat.le_refl _) (show d0 X.prog X.w _ _ _ (.tup ys)from⟨hz,its,r',IsTup.new _ _⟩)
  exact⟨.ref h'.objs.size,_,I2,rfl,q _ (I1.hok.fresh (Nat.le_refl _))⟩
 .obtain⟨its,r',pl,hz⟩:=I.tuple hq;exact call_tuple_same pl ⟨.ref p,H,I,rfl,q⟩
def tyV(K:PySem.W.Frag)(T:String)(x:V)(H:Hp):Prop:=match x with
 |.str _=>T="str"
 |.int _=>T="int"
 |.ref p=>(T="list" /\ ∃xs,SqL K H p xs)\/(T="tuple" /\ ∃o,K.lookup p=some o/\o.cls=.type "tuple" /\ o.dict=none)\/
   (T="dict" /\((∃kvs,H p=some (.dK kvs))\/ ∃kvs,H p=some (.dT kvs)))\/(T="set" /\ ∃S n,H p=some (.set S n))
 |_=>False
def CP{js:JI}{Y:St}{H:Hp}{s:Shared}{T:String}{x:V}{v:Value}(I:Inv X js Y H s)(r:bV x v)(ty:tyV X.K T x H) :
  s.TypeIs v T/\∀a,v=.ref a->∃ob,s.heap.get? a=some ob/\ob.dict=none:=by
 cases x with
 |str z=>obtain⟨t,rfl⟩:=r;cases(show T="str" from ty);exact⟨typeIs_str s z t,λ_ e=>nomatch e⟩
 |int i=>obtain⟨t,rfl⟩:=r;cases(show T="int" from ty);exact⟨typeIs_int s i t,λ_ e=>nomatch e⟩
 |ref p=>
  cases r;rcases ty with⟨rfl,xs,hq⟩ |⟨rfl,o,hk,hc,hd⟩ |⟨rfl,hk⟩ |⟨rfl,S,n,hk⟩
  .obtain⟨its,_,pl,_⟩:=I.list hq;refine⟨pl.isList.typeIs,λa e=>?_⟩;cases e;obtain⟨o,n,e,c,hd,_⟩:=pl;exact⟨o,e,hd⟩
  .refine⟨⟨o,I.kIn p o hk,hc⟩,λa e=>?_⟩;cases e;exact⟨o,I.kIn _ o hk,hd⟩
  .have z:∃o,s.heap.get? p=some o/\o.ExactDict:=by
    rcases hk with⟨kvs,hk⟩ |⟨kvs,hk⟩
    .obtain⟨_,_,_,_,o,_,_,e,ex,_⟩:=I.hok p _ hk;exact⟨o,e,ex⟩
    .obtain⟨_,_,_,_,o,_,_,e,ex,_⟩:=I.hok p _ hk;exact⟨o,e,ex⟩
   obtain⟨o,e,ex⟩:=z;refine⟨⟨o,e,ex.1⟩,λa e2=>?_⟩;cases e2;exact⟨o,e,ex.2.1⟩
  .obtain⟨o,_,_,_,e,ex,_⟩:=I.hok p _ hk;refine⟨⟨o,e,ex.1⟩,λa e2=>?_⟩;cases e2;exact⟨o,e,ex.2.1⟩
 |_=>exact False.elim ty
def tBM(K:PySem.W.Frag)(T:String)(r:V->JQ->Hp->VK->Prop)(to:TE)(t:TA):TE:=λY H Q=>to Y H λx H1=>tyV K T x H1/\t Y H1 λxs H2=>r x xs H2 Q
variable{o e:Expr}{es:List Expr}{to:TE}{t:TA}{name:Str}{apos cpos:Pos}{T id:String}{r:V->JQ->Hp->VK->Prop}
def wX(pa:PlainAttrs T)(slot:Slot T name id)(hty:typeOf (.builtin id)=pure (.type "method_descriptor"))(hm:MtR X id r)(ho:PE X o to)(ha:PA X (e::es) t)
  (hbase:attributeBase o name X.env (eval o X.env)=eval o X.env:=by rfl)
  (hfew:((backTo cpos (starEach (e::es) X.env)).all (λx=>!x.1) && (backToKw cpos (keywordEach [] X.env)).all (λx=>x.1.isSome)
   && decide ((e::es).length+([]:List Keyword).length+(if([]:List Keyword).isEmpty then 0 else 1)<30))=true:=by rfl)
  (hline:(apos.endLine==cpos.line)=true:=by rfl) (hs:starEach (e::es) X.env=(false,eval e X.env)::starEach es X.env:=by rfl) (hplain:(backTo cpos (starEach es X.env)).any (·.1)=false:=by rfl) :
  PE X (.Call (.Attribute o name apos) (e::es) [] cpos) (tBM X.K T r to t):=by
 intro js s Y H Q I h;refine wpAny_Call_method_late hbase hfew hline rfl (thn (ho js s Y H _ I h) λv s1 zz=>?_);obtain⟨x,H1,I1,r1,ty,q1⟩:=zz;obtain⟨h1,h2⟩:=CP I1 r1 ty;refine⟨T,id,pa,slot,hty,h1,h2,?_⟩;have hA:=ha cpos js s1 Y H1 _ I1 q1;rw[hs]at hA ⊢;refine Calls.callWith_builtin (by show(false ||(backTo cpos (starEach es X.env)).any (·.1))=false;rw[hplain]<;>rfl) (Calls.evalArgs_plain ?_);exact thn hA λus s2 ⟨vs,H2,I2,r2,q2⟩=>hm js s2 Y H2 x vs v us Q I2 r1 r2 q2
end
end
section
def MtM(X:Cx)(id:String)(r:V->JQ->Hp->VK->Prop):Prop:=
 ∀(js:JI) (s:Shared) (Y:St) (H:Hp) (x:V) (xs:JQ) (v:Value) (us:JL) (Q:VK),Inv X js Y H s->bV x v->aU xs us->r x xs H Q ->
  wpAny (model X.prog X.w) X.A (call (.builtin id) (v::us)) (EP X js Y Q) X.xe s
def aU.one:∀{x:V}{us:JL},aU [x] us->∃u,us=[u]/\bV x u
 |_,_,.cons r .nil=>⟨_,rfl,r⟩
def aU.rep{xs:JQ}{us:JL}(h:aU xs us):∀k:Nat,aU (replicate k xs).flatten (replicate k us).flatten
 |0=>.nil
 |k+1=>by rw[replicate_succ,replicate_succ,flatten_cons,flatten_cons];exact aU.append h (aU.rep h k)
def nT(its:JL):∀(k:Nat) (acc:JL),
  foldl (λx1 x2=>x1++x2) acc.toArray (replicate k its.toArray)=(acc ++(replicate k its).flatten).toArray
 |0,acc=>by simp
 |k+1,acc=>by
  have e:acc.toArray++its.toArray=(acc++its).toArray:=by simp
  have e2:(acc++its)++(replicate k its).flatten=acc ++(replicate (k+1) its).flatten:=by rw[replicate_succ,flatten_cons,List.append_assoc]
  rw[<- e2,<- nT its k (acc++its),<- e,replicate_succ,foldl_cons]
section
variable{X:Cx}{js:JI}{Y:St}{H:Hp}{s:Shared}{l b:Addr}{xs ys zs:JQ}
def Inv.lset{its its':JL}{n:Nat}{f:JP->JP}{t':Nat}(I:Inv X js Y H s)(hH:H l=some (.lst xs))
  (e:s.heap.get? l=some {cls:=.type "list",data:=.seq its.toArray n}) (hf:f its.toArray=its'.toArray) (hv:aU ys its') (hz:ys.length<=sizeLine) :
  Inv X js Y (upd H l (.lst ys)) {s with heap:=s.heap.update l (Obj.mapSeq f),toks:=t'}:=by
 have q:=PySem.IsL.update e f;rw[hf]at q;refine I.write (x:=l) (e:=l) (by rw[hH];exact trivial) (.inl rfl) (λb' u hb hu=>(get?_update_other s.heap (Obj.mapSeq f) (Ne.symm hb)).trans hu) ⟨_,q⟩ ?_;exact⟨hz,its',_,hv,q⟩
def Inv.lnew{its:JL}{t':Nat}(I:Inv X js Y H s)(hv:aU ys its)(hz:ys.length<=sizeLine) :
  Inv X js Y (upd H s.heap.objs.size (.lst ys)) {s with heap:=s.heap.push {cls:=.type "list",data:=.seq its.toArray},toks:=t'}:=
 I.laid (λ_ _ q=>get?_push_of_some _ q) (Nat.le_refl _) ⟨hz,its,0,hv,get?_push_size _ rfl⟩
def Inv.fresh(I:Inv X js Y H s):H s.heap.objs.size=none:=I.hok.fresh (Nat.le_refl _)
def Inv.lstM(I:Inv X js Y H s)(hH:H l=some (.lst xs)):xs.length<=sizeLine/\∃(its:JL) (n:Nat),aU xs its/\xs.length=its.length/\s.heap.get? l=some {cls:=.type "list",data:=.seq its.toArray n}:=by obtain⟨z,its,n,r,e⟩:=I.hok l _ hH;exact⟨z,its,n,r,r.length,e⟩
theorem xw{n:Nat}(h:n<=sizeLine):Builtin.List.listTooLong n=false:=by unfold Builtin.List.listTooLong;exact decide_eq_false ()
end
section
variable{X:Cx}
def AY:V->JQ->Hp->VK->Prop:=λx vs H Q=>∃l xs y,x=.ref l/\vs=[y]/\H l=some (.lst xs)/\xs.length<sizeLine/\Q .non (upd H l (.lst (xs++[y])))
theorem kB:MtM X "list.append" AY:=by intro js s Y H x vs v us Q I rx rv h;obtain⟨l,xs,y,rfl,rfl,hH,hz,q⟩:=h;cases rx;obtain⟨u,rfl,ru⟩:=rv.one;obtain⟨z,its,n,r,hl,e⟩:=I.lstM hH;refine call_meets F.slot_list_append ⟨_,e,rfl⟩ F.entry_list_append (F.args_list_append_2 _ _) (PySem.list_append l its.toArray n u (by rw[size_toArray];omega)) ⟨e,?_⟩;refine⟨.non,_,I.lset (its':=its++[u]) hH e (by simp) (r.append (.cons ru .nil)) ?_,rfl,q⟩;rw[length_append,List.length_singleton];omega
def Gx:R2:=λx y H Q=>∃l k xs,x=.ref l/\y=.int k/\H l=some (.lst xs)/\-(2 ^ 63)<= k/\k<2 ^ 63/\xs.length*k.toNat<=sizeLine /\
 ∀p,H p=none->Q (.ref p) (upd H p (.lst (replicate k.toNat xs).flatten))
def BE{α:Type}(xs:List α)(k:Nat):(replicate k xs).flatten.length=k*xs.length:=by
 induction k with
 |zero=>simp
 |succ k ih=>rw[replicate_succ,flatten_cons,length_append,ih,Nat.succ_mul,Nat.add_comm]
theorem Dz:OpR X (binaryOp .Mult) Gx:=by
 intro js s Y H x y v u Q I rx ry h;obtain⟨l,k,xs,rfl,rfl,hH,h1,h2,hz,q⟩:=h;cases rx;obtain⟨t,rfl⟩:=ry;obtain⟨z,its,n,r,hl,e⟩:=I.lstM hH;have hlen:its.toArray.size*k.toNat<=sizeLine:=by rw[size_toArray,<- hl];exact hz
 have hcap:¬its.toArray.size*k.toNat >(2 ^ 63-1) / 8:=by
  have:(sizeLine:Nat)<=(2 ^ 63-1) / 8:=by decide
  omega
 have hfit:¬(!Builtin.List.listFitsIndex k)=true:=by rw[fitsIndex_both h1 h2];exact Bool.false_ne_true
 have hlong:¬Builtin.List.listTooLong (its.toArray.size*k.toNat)=true:=by rw[xw hlen];exact Bool.false_ne_true
 have hnew:foldl (λx1 x2=>x1++x2) #[] (replicate (if its.toArray.isEmpty=true then 0 else k.toNat) its.toArray)=(replicate k.toNat its).flatten.toArray:=by
  have f0:∀m:Nat,foldl (λx1 x2=>x1++x2) #[] (replicate m its.toArray)=(replicate m its).flatten.toArray:=λm=>by have:=nT its m [];rw[List.nil_append]at this;exact this
  rw[f0];cases its with
  |nil=>simp
  |cons a r'=>rw[if_neg (by simp)]
 refine wpAny_binaryOp_repeat_ref (T:="list") (U:="int") (by decide) ⟨_,e,rfl⟩ (λs'=>typeIs_int s' k t) noFill_list_mul F.fills_int_mul F.slot_int_rmul repeat_list F.slot_int_index.lookup
  (call_meets F.slot_int_rmul (typeIs_int s k t) F.entry_int_rmul (F.args_int_rmul_2 _ _) (int___rmul___int_list k t l its.toArray n)
   ⟨e,rfl,⟨_,e,rfl⟩,call_meets F.slot_list_mul ⟨_,e,rfl⟩ F.entry_list_mul (F.args_list_mul_2 _ _) (AutoListH.list___mul___list_int_3 l its.toArray n k t hfit hcap hlong) ⟨e,?_⟩⟩)
 rw[hnew];exact⟨.ref _,_,I.lnew (t':=s.toks) (r.rep k.toNat) (by rw[BE,Nat.mul_comm];exact hz),rfl,q _ I.fresh⟩
end
end
end L2
namespace Att
open PySem PySem.W PySem.Calls PyProof.Rows
def lf{P:Params}{h:Heap}:∀(ns:JK) (vs:JL),WellAll P h vs (ns.map WData.int)->IntsAre vs ns:=by
 intro ns
 induction ns with
 |nil=>intro vs w;rw[map_nil]at w;cases w;exact .nil
 |cons n ns ih=>
  intro vs w;rw[map_cons]at w;cases w with
  |cons a b=>cases a;exact .cons _ _ (ih _ b)
theorem uQ{l:OpenLaw}{n:Nat}(hn:l.most=some n){P:Params}{h:Heap}{args:List WData}{vals:JL}
  (hpre:l.row.toRowW.claim.pre args=true) (hwl:WellAll P h vals args) :
  ∃a vs ns,vals=[Value.ref a]/\args=[WData.list (ns.map WData.int)]/\h.get? a=some {cls:=.type "list",data:=.seq vs.toArray}/\IntsAre vs ns/\ns.length<=n:=by
 have hsh:WShape.hasAll [] args [.list .int]=true:=(pre_splitW hpre).1;have hc:l.pre.holds [] {args:=args}=true:=(pre_splitW hpre).2;obtain⟨d,r,rfl,h1,h2⟩:=hasAllW_cons hsh;obtain rfl:=hasAllW_nil h2;obtain⟨xs,rfl,h3⟩:=hasW_list h1;obtain⟨ns,rfl⟩:=items_int h3;have hlen:ns.length<=n:=by
  unfold OpenLaw.pre at hc;have h4:(WTm.not (.lt (.lit (.int (n:Int))) (.len (.arg 0)))).holds [] {args:=[.list (ns.map .int)]}=true:=by have h4:=(holds_andW hc).1;rw[hn]at h4;exact h4
  have h5:=condW_of h4 (w_not (w_lt w_lit (w_len_list (w_arg rfl))));rw[length_map]at h5;refine Nat.le_of_not_lt λq=>?_;have q':(n:Int) <((ns.length:Nat):Int):=by omega
  first
   |(rw[decide_eq_true q']at h5;exact absurd h5 (by decide))
   |(simp at h5;omega)
 cases hwl with
 |cons w1 w2=>
  cases w2;cases w1 with
  |list ho hall=>exact⟨_,_,ns,rfl,rfl,ho,lf ns _ hall,hlen⟩
def u6(l:OpenLaw)(args:List WData):l.row.toRowW.claim.post args (.bool true) args=true:=
 postW_of (r:=l.row.toRowW) (X:=(true==true))
  (show WShape.has [] (.bool true) .bool=true by first|rfl|decide|simp[WShape.has,WShape.arms,WShape.armsAll])
  (show(WTm.eq .res (.lit (.bool true))).value [] {args:=args,res:=some (.bool true),after:=args}=some (.bool (true==true))from w_eq_bool (w_res rfl) w_lit) rfl
def attach_call{l:OpenLaw}{n:Nat}{q:Program}{loose:JN}{XP:(JG)->Heap->Prop}{YP:World->Heap->Prop}{d:DefRec}
  (hn:l.most=some n) (hdf:d.params.defaults=[])
  (call:∀ (w:World) (s₀ s₁:Shared) (mg mb:JG) (fa:Addr) (o:Obj) (pm cd doc:Value) (a:Addr) (vs:JL) (ns:JK),
   Ground q loose [] XP w s₀ mg mb s₁.heap->YP w s₁.heap ->
   s₁.heap.get? fa=some o->o.data=.func (docDef d.name d.params d.body d.scope pm cd doc)->s₁.heap.CodeRec cd d.name->mg d.name=some (.ref fa)->
   s₁.heap.get? a=some {cls:=.type "list",data:=.seq vs.toArray}->IntsAre vs ns->ns.length<=n->s₁.gens=#[]->
   codeAny (model l.prog w) callerA (.call (.ref fa) ⟨[.ref a],[]⟩) (λr s'=>r=.ok (.ret (.bool true))/\OldK s₁.heap s'.heap/\s'.os=s₁.os/\AllBare s'.gens) s₁) :
  WalkO q loose XP YP l.row.toRowW d [] (λf vs=>PySem.call f vs):=by
 intro w s₀ s₁ mg mb G td fa o pm cd doc dV kV ho hd hcd hD hmg hg args vals as hpre hlay hrd hwl hlo;obtain rfl:dV=.none:=Dflts.none hD hdf;obtain rfl:kV=.none:=Dflts.noKw hD;obtain⟨a,vs,ns,rfl,rfl,hobj,hints,hlen⟩:=uQ hn hpre hwl;refine enter_call (codeAny_mono (call w s₀ s₁ mg mb fa o pm cd doc a vs ns G td ho (fd_plain hd) hcd hmg hobj hints hlen hg) λr s' hq=>?_);obtain⟨rfl,h2,h3,h4⟩:=hq;exact⟨.inl ⟨.bool true,.bool true,[],rfl,λ_=>rfl,.bool true,u6 l _,λ_=>⟨Pairwise.nil,λ_ hm=>(nomatch hm)⟩⟩,h2,h3,h4⟩
end Att
namespace L2
open PySem PySem.Spec PyProof.Rows
section
def m6:∀{vs:JL}{ns:JK},IntsAre vs ns->aU (ns.map V.int) vs
 |_,_,.nil=>.nil
 |_,_,.cons n t h=>.cons ⟨t,rfl⟩ (m6 h)
def FD(H:Hp):Prop:=∀b,H b=none\/∃o xs,H b=some (.frz o (.lst xs))
def xP{P:Program}{w:World}{K:PySem.W.Frag}{mg mb:JG}{CX:CXT}{k:Nat}{fa a:Addr}{fd:FuncData}{x:Str}{sp:Sp}{s₁:Shared}{vs:JL}{ns:JK}
  (KX:K.In s₁.heap) (hns:s₁.heap.Ns mainGlobals mg) (hb:s₁.heap.Ns builtinsNs mb) (hbb:∀x:Str,x≠"__name__" -> mb x=bootBuiltins x) (hlim:s₁.heap.NoLimit) (hg:s₁.gens=#[])
  (ha:s₁.heap.get? a=some {cls:=.type "list",data:=.seq vs.toArray}) (hi:IntsAre vs ns) (hl:ns.length<=sizeLine) (hr:eH k callerA)
  (F:∀base:Heap,K.In base->base.Ns mainGlobals mg->dD P w K mg base CX k fa fd [x] sp) (hbind:∀(s:Shared) (u:Value),BindsTo s fd ⟨[u],[]⟩ [(x,u)])
  (hsp:∀H:Hp,FD H->SqL K H a (ns.map V.int)->sp [.ref a] H (λv _=>v=.bl true) λ_ _ _=>False)
  (hCX:∀H e s',CX [] H s₁ (λ_ _ _=>False) e s'->False) :
  codeAny (model P w) callerA (.call (.ref fa) ⟨[.ref a],[]⟩) (λr s'=>r=.ok (.ret (.bool true))/\OldK s₁.heap s'.heap/\s'.os=s₁.os/\AllBare s'.gens) s₁:=by
 have rv:=m6 hi;have lenV:=hi.length;have core:∀H:Hp,FD H->SqL K H a (ns.map V.int)->HOk P w H s₁.heap->(∀b,H b≠none->b=a)->(H a≠none->K.lookup a=none)->
   codeAny (model P w) callerA (.call (.ref fa) ⟨[.ref a],[]⟩) (λr s'=>r=.ok (.ret (.bool true))/\OldK s₁.heap s'.heap/\s'.os=s₁.os/\AllBare s'.gens) s₁:=by
  intro H hO hS hok hA hK;have base_of:∀{b:Addr}{o:Obj},s₁.heap.get? b=some o->H b=none->(o5 s₁.heap H).get? b=some o:=λe n=>xZ e n;have noA:∀{b:Addr}{o:Obj}{es:Array DictEntry}{ep:Nat},s₁.heap.get? b=some o->o.data=.dict es ep->H b=none:=λ{b o es ep} e d=>by
   cases q:H b with
   |none=>rfl
   |some u=>have e':b=a:=hA b (by rw[q];simp);subst e';rw[ha]at e;cases e;have d':Data.seq vs.toArray _=Data.dict es ep:=d;cases d'
  have nsK:∀{b:Addr}{m:JG},s₁.heap.Ns b m->(o5 s₁.heap H).Ns b m:=λ{b m} ⟨o,es,ep,e,d,r⟩=>⟨o,es,ep,base_of e (noA e d),d,r⟩
  have hKb:K.In (o5 s₁.heap H):=λb o e=>base_of (KX b o e) (by
   cases q:H b with
   |none=>rfl
   |some u=>
    have e':b=a:=hA b (by rw[q];simp);subst e';rw[hK (by rw[q];simp)]at e;cases e)
  have hM:Mod K mg (o5 s₁.heap H):=⟨hKb,nsK hns,⟨mb,nsK hb,hbb⟩,let⟨mc,h1,h2⟩:=hlim;⟨mc,nsK h1,h2⟩⟩
  have e0:sU P w K mg (o5 s₁.heap H) callerA [] s₁ H:=⟨rfl,hM,λb o e=>Bm e,Nat.le_of_eq (vD _ _),trivial,λb hb=>absurd (show b ∈([]:JM)from hb) (by simp),hok,.of_eq hg⟩
  refine codeAny_mono ((F _ hKb (nsK hns)).run callerA [] s₁ H ⟨[.ref a],[]⟩ [.ref a] [.ref a] _ _ hr e0 (hbind s₁ (.ref a)) (.cons rfl .nil) (hsp H hO hS)) λr s' h=>?_;cases r with
  |error e=>exact(hCX H e s' h).elim
  |ok fl=>
   cases fl with
   |next|brk|cont=>exact False.elim h
   |ret u=>
    obtain⟨v,H',os,bare,un,hok',r',q⟩:=h;have q':v=.bl true:=q;subst q';obtain rfl:u=Value.bool true:=r';refine⟨rfl,OldK.of_keep λb o e=>?_,os,bare⟩;cases q:H b with
    |none=>exact un.keep b o e q (by intro z;exact absurd (show b ∈([]:JM)from z) (by simp)) (by simp)
    |some u=>
     rcases hO b with z |⟨ob,xs,z⟩
     .rw[q]at z;cases z
     .have z2:=un.frzs b ob _ z;obtain⟨e1,_⟩:=hok b _ z;obtain⟨e2,_⟩:=hok' b _ z2;rw[e]at e1;cases e1;exact e2
 cases hk:K.lookup a with
 |some o=>have e:=KX a o hk;rw[ha]at e;cases e;refine core (λ_=>none) (λ_=>.inl rfl) (.inr ⟨_,vs.toArray,_,hk,rfl,rfl,rfl,by rw[size_toArray,lenV];exact hl,by simpa using rv⟩) (λb u z=>by have z':(none:Option HO)=some u:=z;cases z') (λb z=>absurd rfl z) λz=>absurd rfl z
 |none=>
  refine core (λb=>if b=a then some (.frz {cls:=.type "list",data:=.seq vs.toArray} (.lst (ns.map V.int)))else none) (λb=>?_) (.inl (.inr ⟨{cls:=.type "list",data:=.seq vs.toArray},if_pos rfl⟩)) (λb u z=>?_) (λb z=>?_) λ_=>hk
  .by_cases hb:b=a
   .exact .inr ⟨_,_,if_pos hb⟩
   .exact .inl (if_neg hb)
  .by_cases hb:b=a
   .have z':=(if_pos hb).symm.trans z;cases z';subst hb;exact⟨ha,by rw[length_map];exact hl,vs,_,rv,ha⟩
   .have z':=(if_neg hb).symm.trans z;cases z'
  .by_cases hb:b=a
   .exact hb
   .exact absurd (if_neg hb) z
end
section
def Aj{l:PySem.W.OpenLaw}{n k:Nat}{q:Program}{loose:JN}{XP:(JG)->Heap->Prop}{YP:World->Heap->Prop}{d:DefRec}{K:Params->PySem.W.Frag}{CX:World->CXT}{sp:World->Sp}{x:Str}
  (hn:l.most=some n) (hn2:n<=sizeLine) (hdf:d.params.defaults=[]) (hr:eH k callerA)
  (hY:∀(w:World) (h:Heap),YP w h->(K w.params).In h)
  (F:∀ (w:World) (mg:JG) (fa:Addr) (h:Heap),(K w.params).In h->h.Ns mainGlobals mg->mg d.name=some (.ref fa) ->
   ∃fd:FuncData,(∀(s:Shared) (u:Value),BindsTo s fd ⟨[u],[]⟩ [(x,u)])/\
    ∀base:Heap,(K w.params).In base->base.Ns mainGlobals mg->dD l.prog w (K w.params) mg base (CX w) k fa fd [x] (sp w))
  (hsp:∀(w:World) (H:Hp) (a:Addr) (ns:JK),ns.length<=n->FD H->SqL (K w.params) H a (ns.map V.int)->sp w [.ref a] H (λv _=>v=.bl true) λ_ _ _=>False)
  (hCX:∀(w:World) (H:Hp) (s:Shared) (e:Value) (s':Shared),CX w [] H s (λ_ _ _=>False) e s'->False) :
  PySem.W.WalkO q loose XP YP l.row.toRowW d [] (λf vs=>PySem.call f vs):=by
 refine Att.attach_call hn hdf λw s₀ s₁ mg mb fa o pm cd doc a vs ns G td ho hd hcd hmg hobj hints hlen hg=>?_;have KX:=hY w _ td;obtain⟨fd,hb,hF⟩:=F w mg fa _ KX G.T.g hmg;exact xP KX G.T.g G.T.b G.T.builtins G.T.nolimit hg hobj hints (Nat.le_trans hlen hn2) hr hF hb (λH hO hS=>hsp w H a ns hlen hO hS) λH e s'=>hCX w H s₁ e s'
end
section
def BM(s:Stmt)(j:Nat):Stmt:=match s with
 |.ClassDef _ _ _ body _ _ _ _ _ _ _=>body.getD j (.Pass ⟨0,0,0,0⟩)
 |_=>.Pass ⟨0,0,0,0⟩
def eV(s:Stmt):Arguments:=match s with
 |.FunctionDef _ a _ _ _ _ _ _ _ _=>a
 |_=>{posonlyargs:=[],args:=[],vararg:=none,kwonlyargs:=[],kw_defaults:=[],kwarg:=none,defaults:=[]}
def cM(s:Stmt):List Stmt:=match s with
 |.FunctionDef _ _ b _ _ _ _ _ _ _=>b
 |_=>[]
def aQ(s:Stmt):Scope:=match s with
 |.FunctionDef _ _ _ _ _ _ sc _ _ _=>sc
 |_=>{kind:=.function,names:=[],isGenerator:=false,isCoroutine:=false}
structure Fun(K:PySem.W.Frag)(x qual:Str)(st:Stmt)(f:Addr)(fd:FuncData):Prop where
 ex:∃(oc:Value) (od:Option Addr) (kV doc pm:Value) (an:Option Addr) (cdv ct:Value) (osl:Array (Option Value)),
  fd=PySem.W.fnOf x qual (eV st) (cM st) (aQ st) .none kV doc pm an cdv ct/\K.lookup f=some ⟨oc,od,.func fd,osl⟩/\PySem.W.codeIn K cdv qual=true
 kp:PySem.W.keepIn K (.ref f)=true
section
variable{P:Program}{w:World}{K:PySem.W.Frag}{mg:JG}{base:Heap}
def Fun.binds{x qual:Str}{st:Stmt}{f:Addr}{fd:FuncData}{ps:JN}(F:Fun K x qual st f fd)
  (h:∀(kV doc pm:Value) (an:Option Addr) (cdv ct:Value) (us:JL),us.length=ps.length->bindArgs (PySem.W.fnOf x qual (eV st) (cM st) (aQ st) .none kV doc pm an cdv ct) ⟨us,[]⟩=pure (ps.zip us)):f8 K fd ps []:=by
 obtain⟨oc,od,kV,doc,pm,an,cdv,ct,osl,rfl,lk,hcd⟩:=F.ex;exact .all (h kV doc pm an cdv ct)
end
end
end L2
set_option maxHeartbeats 4000000
namespace PR
open PySem
inductive Fl where
 |own|frz|bor|lnt|mod
 deriving DecidableEq
inductive PV where
 |non
 |bl (b:Bool)
 |int (i:Int)
 |str (x:Str)
 |lst (f:Fl) (xs:List PV)
 |tup (xs:List PV)
 |obj (f:Fl) (c:Nat) (ks:List Nat) (vs:List PV)
 |exc (c:Nat)
 |box (k:Nat) (xs:List PV)
abbrev JS:=List PV
mutual
def PV.J2(g:Fl->Fl):PV->PV
 |.non=>.non
 |.bl b=>.bl b
 |.int i=>.int i
 |.str x=>.str x
 |.lst f xs=>.lst (g f) (mapL g xs)
 |.tup xs=>.tup (mapL g xs)
 |.obj f c ks vs=>.obj (g f) c ks (mapL g vs)
 |.exc c=>.exc c
 |.box k xs=>.box k (mapL g xs)
def mapL(g:Fl->Fl):JS->JS
 | []=>[]
 |x::xs=>x.J2 g::mapL g xs
end
mutual
def PV.has(p:Fl->Bool):PV->Bool
 |.non|.bl _|.int _|.str _=>false
 |.lst f xs=>p f||hasL p xs
 |.tup xs=>hasL p xs
 |.obj f _ _ vs=>p f||hasL p vs
 |.exc _=>false
 |.box _ xs=>hasL p xs
def hasL(p:Fl->Bool):JS->Bool
 | []=>false
 |x::xs=>x.has p||hasL p xs
end
def Fl.JZ:Fl->Bool
 |.lnt=>true
 |_=>false
def Fl.J0:Fl->Bool
 |.bor=>true
 |_=>false
def Fl.JU:Fl->Fl
 |.own=>.lnt
 |f=>f
def Fl.JW:Fl->Fl
 |.own=>.frz
 |f=>f
def Fl.JV:Fl->Fl
 |.lnt=>.bor
 |f=>f
inductive Res(α:Type) where
 |ok (a:α)
 |exc (c:Nat)
 |stuck
abbrev JT:=Res PV
noncomputable def Res.bind{α β:Type}:Res α->(α->Res β)->Res β
 |.ok a,k=>k a
 |.exc c,_=>.exc c
 |.stuck,_=>.stuck
@[simp] def Res.J4{α β:Type}(a:α)(k:α->Res β):(Res.ok a).bind k=k a:=by simp only[Res.bind]
@[simp] def Res.exc_bind{α β:Type}(c:Nat)(k:α->Res β):(Res.exc c:Res α).bind k=.exc c:=rfl
@[simp] def Res.stuck_bind{α β:Type}(k:α->Res β):(Res.stuck:Res α).bind k=.stuck:=rfl
abbrev En:=List (Option PV)
abbrev ME:=En->JT
abbrev MT:=En->Res Bool
abbrev MA:=En->Res (JS)
inductive Out where
 |next (e:En)
 |ret (v:PV)
 |brk (e:En)
 |cont (e:En)
 |exc (c:Nat) (e:En)
 |stuck
abbrev MS:=En->Out
def mC(v:PV):ME:=λ_=>.ok v
abbrev J5(i:Int):ME:=mC (.int i)
def ac(i:Nat):ME:=λenv=>match env[i]? with
 |some (some v)=>.ok (v.J2 Fl.JU)
 |_=>.stuck
def ao:MA:=λ_=>.ok []
def ae(a:ME)(r:MA):MA:=λenv=>(a env).bind λx=>(r env).bind λxs=>.ok (x::xs)
def mUn(f:PV->JT)(a:ME):ME:=λenv=>(a env).bind f
def mOp(f:PV->PV->JT)(a b:ME):ME:=λenv=>(a env).bind λx=>(b env).bind λy=>f x y
def fU(g:Int->Int->PV):PV->PV->JT
 |.int i,.int j=>.ok (g i j)
 |_,_=>.stuck
def fT(C:Int->Int->Bool)(g:Int->Int->PV):PV->PV->JT
 |.int i,.int j=>if C i j then .ok (g i j)else .stuck
 |_,_=>.stuck
def oJ:PV->Res Bool
 |.non=>.ok false
 |.bl b=>.ok b
 |.int i=>.ok (i != 0)
 |.lst _ xs|.tup xs=>.ok (!xs.isEmpty)
 |_=>.stuck
def aB(a:ME):MT:=λenv=>(a env).bind fun
 |.bl b=>.ok b
 |_=>.stuck
def cO(a:ME):MT:=λenv=>(a env).bind oJ
def jx(a:MT):MT:=λenv=>(a env).bind λb=>.ok (!b)
def iq(a b:MT):MT:=λenv=>(a env).bind λx=>if x then b env else .ok false
def iS(a b:MT):MT:=λenv=>(a env).bind λx=>if x then .ok true else b env
def sB(c:MT)(a b:ME):ME:=λenv=>(c env).bind λx=>if x then a env else b env
def a9:MS:=.next
def ar(a b:MS):MS:=λenv=>match a env with
 |.next e=>b e
 |o=>o
def mBr(c:MT)(a b:MS):MS:=λenv=>match c env with
 |.ok true=>a env
 |.ok false=>b env
 |.exc k=>.exc k env
 |.stuck=>.stuck
def PV.J1(v:PV):Bool:=!v.has Fl.JZ
def dw(env:List (Option PV)):Bool:=match env[0]? with
 |some (some (PV.obj _ _ _ _))=>true
 |_=>false
def aO(i:Nat)(env:En):Bool:=if i=0 then !dw env else true
def aW(i:Nat)(e:ME):MS:=λenv=>match e env with
 |.ok v=>if v.J1&&aO i env then .next (env.set i (some v))else .stuck
 |.exc k=>.exc k env
 |.stuck=>.stuck
def bw(e:ME):MS:=λenv=>match e env with
 |.ok v=>if v.J1 then .ret v else .stuck
 |.exc k=>.exc k env
 |.stuck=>.stuck
def dv(i:Nat):MS:=λenv=>match env[i]? with
 |some (some v)=>.ret v
 |_=>.stuck
def iT(e:ME):MS:=λenv=>match e env with
 |.ok _=>.next env
 |.exc k=>.exc k env
 |.stuck=>.stuck
def jq(i:Nat):MS:=λenv=>match env[i]? with
 |some (some v)=>.next (env.set i (some (v.J2 Fl.JW)))
 |_=>.stuck
def mS(body:PV->MS):JS->En->Out
 | [],env=>.next env
 |x::xs,env=>match body x env with
  |.next e|.cont e=>mS body xs e
  |.brk e=>.next e
  |o=>o
end PR
namespace PR
open PySem PySem.Spec L2
structure Tb where
 K:PySem.W.Frag
 nc:Nat
 cls:Nat->Addr
 att:Nat->Str
 inj:∀i j,att i=att j->i=j
 xcl:Nat->Addr
 dk:Nat->JN:=λ_=>[]
 bx:Nat->Hp->Addr->JQ->Prop:=λk H a vs=>∃o,H a=some (.frz o (.dK (((dk k).map Sum.inr).zip vs)))/\(dk k).length=vs.length
 bxs:∀k (H H':Hp) a vs,(∀b o u,H b=some (.frz o u)->H' b=some (.frz o u))->bx k H a vs->bx k H' a vs:=by exact λ_ _ _ _ _ h ⟨o,q,l⟩=>⟨o,h _ _ _ q,l⟩
 tb:Addr->Option (JP):=λ_=>none
def Ju(C a:Addr):HO:=.ext λh=>∃o,h.get? a=some o/\o.cls=.ref C
def KL(K:PySem.W.Frag)(a:Addr)(xs:JQ):Prop:=∃(o:Obj) (its:JP) (n:Nat),K.lookup a=some o/\o.cls=.type "list" /\ o.dict=none/\o.data=.seq its n/\its.size<=sizeLine/\aU xs its.toList
def rA:Fl->Addr->JM->JM->Prop
 |.own,a,fp',fp=>fp=a::fp'
 |_,_,fp',fp=>fp'=[]/\fp=[]
def FG(F B L:JJ):Fl->JJ
 |.own,_=>True
 |.frz,a=>F a
 |.bor,a=>B a
 |.lnt,a=>L a
 |.mod,_=>False
def mK(T:Tb)(F B L:JJ)(H:Hp):Fl->Addr->JQ->Prop
 |.own,a,vs=>H a=some (.lst vs)
 |.lnt,a,vs=>L a/\H a=some (.lst vs)
 |.frz,a,vs=>F a/\Rd H a (.lst vs)
 |.bor,a,vs=>B a/\Rd H a (.lst vs)
 |.mod,a,vs=>KL T.K a vs
def mK.sq(h:mK T F B L H f a vs):SqL T.K H a vs:=by
 cases f with
 |own=>exact SqL.of h
 |lnt=>exact SqL.of h.2
 |frz|bor=>exact .inl h.2
 |mod=>exact .inr h
mutual
def Rel(T:Tb)(F B L:JJ)(H:Hp):PV->V->JM->Prop
 |.non,v,fp=>v=.non/\fp=[]
 |.bl b,v,fp=>v=.bl b/\fp=[]
 |.int i,v,fp=>v=.int i/\fp=[]
 |.str x,v,fp=>v=.str x/\fp=[]
 |.lst f xs,v,fp=>∃a vs fp',v=.ref a/\mK T F B L H f a vs/\RelL T F B L H xs vs fp'/\rA f a fp' fp
 |.tup xs,v,fp=>∃a vs,v=.ref a/\SqT T.K H a vs/\RelL T F B L H xs vs fp
 |.obj f c ks xs,v,fp=>∃a dx vs fp',v=.ref a/\H a=some (.ins (T.cls c) dx ((ks.map T.att).zip vs))/\(ks.length=xs.length/\c<T.nc)/\RelL T F B L H xs vs fp'/\rA f a fp' fp/\FG F B L f a
 |.exc c,v,fp=>∃a,v=.ref a/\H a=some (Ju (T.xcl c) a)/\fp=[]
 |.box k xs,v,fp=>∃a vs,v=.ref a/\T.bx k H a vs/\RelL T F B L H xs vs fp
def RelL(T:Tb)(F B L:JJ)(H:Hp):JS->JQ->JM->Prop
 | [],vs,fp=>vs=[]/\fp=[]
 |x::xs,vs,fp=>∃v ws f1 f2,vs=v::ws/\Rel T F B L H x v f1/\RelL T F B L H xs ws f2/\fp=f1++f2
end
def iY:HO->Prop
 |.tup _|.frz _ _|.ext _=>True
 |_=>False
section
variable{T:Tb}{F F' B B' L L':JJ}{H H':Hp}
def Rd.tr(h:∀o,H a=some o->H' a=some o)(q:Rd H a u):Rd H' a u:=by
 rcases q with q |⟨o,q⟩
 .exact .inl (h _ q)
 .exact .inr ⟨o,h _ q⟩
def SqT.tr(h:∀o,H a=some o->iY o->H' a=some o)(q:SqT K H a vs):SqT K H' a vs:=by
 rcases q with(q |⟨o,q⟩)|q
 .exact .inl (.inl (h _ q True.intro))
 .exact .inl (.inr ⟨o,h _ q True.intro⟩)
 .exact .inr q
def RelL.length:∀{xs:JS}{vs:JQ}{fp:JM},RelL T F B L H xs vs fp->xs.length=vs.length
 | [],_,_,h=>by unfold RelL at h;rw[h.1];rfl
 |x::xs,_,_,h=>by unfold RelL at h;obtain⟨v,ws,f1,f2,rfl,_,h2,_⟩:=h;simp[RelL.length h2]
theorem rA.all{P:JJ}(h:rA f a fp' fp)(hp:∀b∈fp,P b):(f=.own->P a)/\∀b∈fp',P b:=by
 cases f with
 |own=>
  obtain rfl:fp=a::fp':=h
  grind
 |_=>exact⟨λz=>(nomatch z),by rw[h.1];exact λ_ z=>nomatch z⟩
structure Mp(T:Tb)(g:Fl->Fl)(p:Fl->Bool)(E:JM->JM)(C F B L:JJ)(H:Hp)(F' B' L':JJ)(H':Hp):Prop where
 hl:∀f a vs,p f=false->(f=.own->C a)->mK T F B L H f a vs->mK T F' B' L' H' (g f) a vs
 hb:∀f a,p f=false->(f=.own->C a)->FG F B L f a->FG F' B' L' (g f) a/\∀o,H a=some o->H' a=some o
 hf:∀f a x y,rA f a x y->rA (g f) a (E x) (E y)
 he:E []=[]
 ha:∀x y,E (x++y)=E x++E y
 hx:∀a o,H a=some o->iY o->H' a=some o
mutual
def Mp.rel(M:Mp T g p E C F B L H F' B' L' H') :
  ∀{x:PV}{v:V}{fp:JM},x.has p=false->(∀a∈fp,C a)->Rel T F B L H x v fp->Rel T F' B' L' H' (x.J2 g) v (E fp)
 |.non,_,_,_,_,h|.bl _,_,_,_,_,h|.int _,_,_,_,_,h|.str _,_,_,_,_,h=>by unfold Rel at h;simp only[PV.J2];unfold Rel;exact⟨h.1,by rw[h.2,M.he]⟩
 |.lst f xs,_,fp,hp,hc,h=>by unfold Rel at h;obtain⟨a,vs,fp',e,h1,h2,h3⟩:=h;simp only[PV.has,or_eq_false_iff]at hp;obtain⟨c1,c2⟩:=h3.all hc;simp only[PV.J2];unfold Rel;exact⟨a,vs,E fp',e,M.hl f a vs hp.1 c1 h1,Mp.rels M hp.2 c2 h2,M.hf f a fp' fp h3⟩
 |.tup xs,_,fp,hp,hc,h=>by unfold Rel at h;obtain⟨a,vs,e,h1,h2⟩:=h;simp only[PV.J2];unfold Rel;exact⟨a,vs,e,SqT.tr (λo q z=>M.hx a o q z) h1,Mp.rels M hp hc h2⟩
 |.obj f c ks xs,_,fp,hp,hc,h=>by unfold Rel at h;obtain⟨a,dx,vs,fp',e,h1,hk,h2,h3,h4⟩:=h;simp only[PV.has,or_eq_false_iff]at hp;obtain⟨c1,c2⟩:=h3.all hc;obtain⟨q1,q2⟩:=M.hb f a hp.1 c1 h4;simp only[PV.J2];unfold Rel;have r:=Mp.rels M hp.2 c2 h2;exact⟨a,dx,vs,E fp',e,q2 _ h1,⟨by rw[r.length,hk.1,h2.length],hk.2⟩,r,M.hf f a fp' fp h3,q1⟩
 |.exc c,_,fp,_,_,h=>by unfold Rel at h;obtain⟨a,e,h1,rfl⟩:=h;simp only[PV.J2];unfold Rel;exact⟨a,e,M.hx a _ h1 True.intro,M.he⟩
 |.box k xs,_,fp,hp,hc,h=>by unfold Rel at h;obtain⟨a,vs,e,h1,h2⟩:=h;simp only[PV.J2];unfold Rel;exact⟨a,vs,e,T.bxs k H H' a vs (λb o u q=>M.hx b _ q True.intro) h1,Mp.rels M hp hc h2⟩
def Mp.rels(M:Mp T g p E C F B L H F' B' L' H') :
  ∀{xs:JS}{vs:JQ}{fp:JM},hasL p xs=false->(∀a∈fp,C a)->RelL T F B L H xs vs fp->RelL T F' B' L' H' (mapL g xs) vs (E fp)
 | [],_,_,_,_,h=>by unfold RelL at h;simp only[mapL];unfold RelL;exact⟨h.1,by rw[h.2,M.he]⟩
 |x::xs,_,fp,hp,hc,h=>by unfold RelL at h;obtain⟨v,ws,f1,f2,e,h1,h2,rfl⟩:=h;simp only[hasL,or_eq_false_iff]at hp;simp only[mapL];unfold RelL;exact⟨v,ws,E f1,E f2,e,Mp.rel M hp.1 (λb hb=>hc b (mem_append_left _ hb)) h1,Mp.rels M hp.2 (λb hb=>hc b (mem_append_right _ hb)) h2,M.ha f1 f2⟩
end
mutual
def lw:∀x:PV,x.J2 (λf=>f)=x
 |.non|.bl _|.int _|.str _|.exc _=>rfl
 |.lst f xs|.tup xs|.obj f c ks xs|.box k xs=>by simp only[PV.J2,mapL_id xs]
def mapL_id:∀xs:JS,mapL (λf=>f) xs=xs
 | []=>rfl
 |x::xs=>by simp only[mapL,lw x,mapL_id xs]
end
mutual
def mw:∀x:PV,x.has (λ_=>false)=false
 |.non|.bl _|.int _|.str _|.exc _=>rfl
 |.lst f xs=>by simp only[PV.has,has_noL xs,Bool.or_false]
 |.tup xs=>by simp only[PV.has,has_noL xs]
 |.obj f c ks xs=>by simp only[PV.has,has_noL xs,Bool.or_false]
 |.box k xs=>by simp only[PV.has,has_noL xs]
def has_noL:∀xs:JS,hasL (λ_=>false) xs=false
 | []=>rfl
 |x::xs=>by simp only[hasL,mw x,has_noL xs,Bool.or_false]
end
def Cr(hF:∀a,F a->F' a)(hB:∀a,B a->B' a)(hL:∀a,L a->L' a)(hx:∀a o,H a=some o->(F a\/B a\/L a\/iY o)->H' a=some o):Mp T (λf=>f) (λ_=>false) (λx=>x) (λa=>∀o,H a=some o->H' a=some o) F B L H F' B' L' H':=
 ⟨λf a vs _ c h=>by
  cases f with
  |own=>exact c rfl _ h
  |frz=>exact⟨hF a h.1,Rd.tr (λo q=>hx a o q (.inl h.1)) h.2⟩
  |bor=>exact⟨hB a h.1,Rd.tr (λo q=>hx a o q (.inr (.inl h.1))) h.2⟩
  |lnt=>exact⟨hL a h.1,hx a _ h.2 (.inr (.inr (.inl h.1)))⟩
  |mod=>exact h,λf a _ c h=>by
  cases f with
  |own=>exact⟨True.intro,c rfl⟩
  |frz=>exact⟨hF a h,λo q=>hx a o q (.inl h)⟩
  |bor=>exact⟨hB a h,λo q=>hx a o q (.inr (.inl h))⟩
  |lnt=>exact⟨hL a h,λo q=>hx a o q (.inr (.inr (.inl h)))⟩
  |mod=>exact h.elim,λ_ _ _ _ h=>h,rfl,λ_ _=>rfl,λa o q z=>hx a o q (.inr (.inr (.inr z)))⟩
def Rel.tr(hF:∀a,F a->F' a)(hB:∀a,B a->B' a)(hL:∀a,L a->L' a)(hx:∀a o,H a=some o->(F a\/B a\/L a\/iY o)->H' a=some o)(hp:∀a∈fp,∀o,H a=some o->H' a=some o)(h:Rel T F B L H x v fp):Rel T F' B' L' H' x v fp:=by
 have:=(Cr hF hB hL hx).rel (mw x) hp h
 rwa [lw]at this
def RelL.tr(hF:∀a,F a->F' a)(hB:∀a,B a->B' a)(hL:∀a,L a->L' a)(hx:∀a o,H a=some o->(F a\/B a\/L a\/iY o)->H' a=some o)(hp:∀a∈fp,∀o,H a=some o->H' a=some o)(h:RelL T F B L H x v fp):RelL T F' B' L' H' x v fp:=by
 have:=(Cr hF hB hL hx).rels (has_noL x) hp h
 rwa [mapL_id]at this
def Ext(H H':Hp):Prop:=∀a o,H a=some o->H' a=some o
def Ext.refl:Ext H H:=λ_ _ h=>h
def Ext.trans(a:Ext H H1)(b:Ext H1 H2):Ext H H2:=λc o h=>b c o (a c o h)
def Ext.upd(h:H a=none):Ext H (L2.upd H a o):=λb u e=>by rw[aY (cC e h)];exact e
def Ext.free(x:Ext H H')(h:H' a=none):H a=none:=by
 cases e:H a with
 |none=>rfl
 |some o=>rw[x a o e]at h;cases h
def Rel.ext(e:Ext H H')(hF:∀a,F a->F' a)(h:Rel T F B L H x v fp):Rel T F' B L H' x v fp:=
 Rel.tr hF (λ_ h=>h) (λ_ h=>h) (λa o q _=>e a o q) (λa _ o q=>e a o q) h
def RelL.ext(e:Ext H H')(hF:∀a,F a->F' a)(h:RelL T F B L H xs vs fp):RelL T F' B L H' xs vs fp:=
 RelL.tr hF (λ_ h=>h) (λ_ h=>h) (λa o q _=>e a o q) (λa _ o q=>e a o q) h
def Chg:HO->Prop
 |.lst _|.ins _ _ _=>True
 |_=>False
mutual
def Rel.chg:∀{x:PV}{v:V}{fp:JM},Rel T F B L H x v fp->∀a∈fp,∃o,H a=some o/\Chg o
 |.non,_,_,h|.bl _,_,_,h|.int _,_,_,h|.str _,_,_,h=>by unfold Rel at h;rw[h.2];exact λ_ z=>nomatch z
 |.lst f xs,_,fp,h=>by
  unfold Rel at h;obtain⟨a,vs,fp',e,hl,hr,hf⟩:=h;cases f with
  |own=>
   obtain rfl:fp=a::fp':=hf;intro b hb;rcases mem_cons.mp hb with rfl|hb
   .exact⟨_,hl,True.intro⟩
   .exact RelL.chg hr b hb
  |frz|bor|lnt|mod=>obtain⟨rfl,rfl⟩:=hf;exact λ_ z=>nomatch z
 |.tup xs,_,fp,h=>by unfold Rel at h;obtain⟨a,vs,e,hl,hr⟩:=h;exact RelL.chg hr
 |.obj f c ks xs,_,fp,h=>by
  unfold Rel at h;obtain⟨a,dx,vs,fp',e,hl,hk,hr,hf,ha⟩:=h;cases f with
  |own=>
   obtain rfl:fp=a::fp':=hf;intro b hb;rcases mem_cons.mp hb with rfl|hb
   .exact⟨_,hl,True.intro⟩
   .exact RelL.chg hr b hb
  |frz|bor|lnt|mod=>obtain⟨rfl,rfl⟩:=hf;exact λ_ z=>nomatch z
 |.exc c,_,fp,h=>by unfold Rel at h;obtain⟨a,e,hl,rfl⟩:=h;exact λ_ z=>nomatch z
 |.box k xs,_,fp,h=>by unfold Rel at h;obtain⟨a,vs,e,hl,hr⟩:=h;exact RelL.chg hr
def RelL.chg:∀{xs:JS}{vs:JQ}{fp:JM},RelL T F B L H xs vs fp->∀a∈fp,∃o,H a=some o/\Chg o
 | [],_,_,h=>by unfold RelL at h;rw[h.2];exact λ_ z=>nomatch z
 |x::xs,_,_,h=>by
  unfold RelL at h;obtain⟨v,ws,f1,f2,_,h1,h2,rfl⟩:=h;intro b hb;rcases mem_append.mp hb with hb|hb
  .exact Rel.chg h1 b hb
  .exact RelL.chg h2 b hb
end
def Rel.there(h:Rel T F B L H x v fp)(a:Addr)(ha:a∈fp):∃o,H a=some o:=let⟨o,q,_⟩:=h.chg a ha;⟨o,q⟩
def RelL.there(h:RelL T F B L H xs vs fp)(a:Addr)(ha:a∈fp):∃o,H a=some o:=let⟨o,q,_⟩:=h.chg a ha;⟨o,q⟩
def Bs:Mp T Fl.JU (λ_=>false) (λ_=>[]) L F B L H F B L H:=
 ⟨λf a vs _ c h=>by
  cases f with
  |own=>exact⟨c rfl,h⟩
  | _=>exact h,λf a _ c h=>⟨by
  cases f with
  |own=>exact c rfl
  |_=>exact h,λ_ q=>q⟩,λf a x y h=>by cases f<;>exact⟨rfl,rfl⟩,rfl,λ_ _=>rfl,λ_ _ q _=>q⟩
def Rel.JU(hp:∀a∈fp,L a)(h:Rel T F B L H x v fp):Rel T F B L H (x.J2 Fl.JU) v []:=Bs.rel (mw x) hp h
end
end PR
namespace L2
open PySem PySem.Spec
def PE.wk(h:PE X e t)(w:∀Y H Q,t' Y H Q->t Y H Q):PE X e t':=λjs s Y H Q I q=>h js s Y H Q I (w Y H Q q)
def PA.wk(h:PA X e t)(w:∀Y H Q,t' Y H Q->t Y H Q):PA X e t':=λpos js s Y H Q I q=>h pos js s Y H Q I (w Y H Q q)
def PT.wk(h:PT X e t)(w:∀Y H Q,t' Y H Q->t Y H Q):PT X e t':=λjs s Y H Q I q=>h js s Y H Q I (w Y H Q q)
def PW.wk(h:PW X e t)(w:∀Y H Q,t' Y H Q->t Y H Q):PW X e t':=λwh js s Y H Q I q=>h wh js s Y H Q I (w Y H Q q)
def PS.wk(h:PS X e t)(w:∀D Y H,t' D Y H->t D Y H):PS X e t':=λjs s Y H D I q=>h js s Y H D I (w D Y H q)
def PSs.wk(h:PSs X e t)(w:∀D Y H,t' D Y H->t D Y H):PSs X e t':=λjs s Y H D I q=>h js s Y H D I (w D Y H q)
end L2
namespace PR
open PySem PySem.Spec L2
structure Zn where
 H0:Hp
 F0:JJ
 fp0:JJ
 B:JJ
 pin:Option V:=none
abbrev NoL:JJ:=λ_=>False
def Cg(T:Tb)(H:Hp)(f:JJ):Prop:=∀a ps,T.tb a=some ps->H a=some (.tbl ps)/\¬f a
structure cF(T:Tb)(Z:Zn)(F:JJ)(H:Hp):Prop where
 bo:(∀a,Z.B a->(∃o,Z.H0 a=some o)/\¬Z.fp0 a)/\Cg T Z.H0 Z.fp0
 keep:∀a o,Z.H0 a=some o->¬Z.fp0 a->H a=some o
 f0:∀a,Z.F0 a->F a
 fn:∀a,F a->Z.F0 a\/Z.H0 a=none\/Z.fp0 a
 ft:∀a,F a->∃o,H a=some o
structure ax(T:Tb)(Z:Zn)(F:JJ)(H:Hp)(Y:St)(env:En)(fp:Nat->JM):Prop where
 hp:cF T Z F H
 len:Y.length=env.length
 rel:∀(i:Nat) (pv:PV),env[i]?=some (some pv)->∃v,Y[i]?=some (some v)/\Rel T F Z.B NoL H pv v (fp i)
 nd:∀i,(fp i).Nodup
 dj:∀i j,i≠j->∀a∈fp i,a∉fp j
 dis:∀i,∀a∈fp i,¬F a/\∃o,H a=some o
 new:∀i,∀a∈fp i,Z.H0 a=none\/Z.fp0 a
 ch:∀i,∀a∈fp i,∃o,H a=some o/\Chg o
 pn:∀v,Z.pin=some v->Y[0]?=some (some v)/\dw env=true
def Own(fp:Nat->JM):JJ:=λa=>∃i,a∈fp i
structure Gr(F:JJ)(H:Hp)(F':JJ)(H':Hp):Prop where
 ext:Ext H H'
 mono:∀a,F a->F' a
 only:∀a,F' a->F a\/H a=none
 dom:∀a,F' a->∃o,H' a=some o
def Gr.refl(h:∀a,F a->∃o,H a=some o):Gr F H F H:=⟨Ext.refl,λ_ h=>h,λ_ h=>.inl h,h⟩
def Gr.trans(a:Gr F H F1 H1)(b:Gr F1 H1 F2 H2):Gr F H F2 H2:=
 ⟨a.ext.trans b.ext,λc h=>b.mono c (a.mono c h),λc h=>(b.only c h).elim (a.only c) λz=>.inr (a.ext.free z),b.dom⟩
def Gr.same(h:∀a,F a->∃o,H a=some o)(e:Ext H H'):Gr F H F H':=⟨e,λ_ h=>h,λ_ h=>.inl h,λa q=>let⟨o,z⟩:=h a q;⟨o,e a o z⟩⟩
section
variable{T:Tb}{Z:Zn}{F F':JJ}{H H':Hp}{Y:St}{env:En}{fp:Nat->JM}
def cF.tb(S:cF T Z F H)(h:T.tb a=some ps):H a=some (.tbl ps):=let⟨h1,h2⟩:=S.bo.2 a ps h;S.keep a _ h1 h2
def ax.tbo(S:ax T Z F H Y env fp)(e:Ext H H')(hn:∀ a,f a->H a=none \/ Own fp a):Cg T H' f:=λa ps h=>⟨e a _ (S.hp.tb h),λz=>by
 have q:=S.hp.tb h;rcases hn a z with n |⟨i,hi⟩
 .rw[q]at n;cases n
 .obtain⟨o,h1,h2⟩:=S.ch i a hi;rw[q]at h1;cases h1;exact h2⟩
def cF.grow(S:cF T Z F H)(g:Gr F H F' H'):cF T Z F' H':=
 ⟨S.bo,λa o h n=>g.ext a o (S.keep a o h n),λa h=>g.mono a (S.f0 a h),λa h=>by
  rcases g.only a h with z|z
  .exact S.fn a z
  .refine .inr ?_;by_cases q:Z.fp0 a
   .exact .inr q
   .refine .inl ?_;cases w:Z.H0 a with
    |none=>rfl
    |some o=>rw[S.keep a o w q]at z;exact(nomatch z),g.dom⟩
def ax.grow(S:ax T Z F H Y env fp)(g:Gr F H F' H'):ax T Z F' H' Y env fp:=
 ⟨S.hp.grow g,S.len,λi pv h=>let ⟨v,q1,q2⟩:=S.rel i pv h;⟨v,q1,q2.ext g.ext g.mono⟩,S.nd,S.dj,λi a h=>by
  obtain⟨n,o,q⟩:=S.dis i a h;refine⟨λz=>?_,o,g.ext a o q⟩;rcases g.only a z with z|z
  .exact n z
  .rw[q]at z;exact(nomatch z),S.new,λi a h=>let⟨o,q,c⟩:=S.ch i a h;⟨o,g.ext a o q,c⟩,S.pn⟩
end
def GE(T:Tb)(W:Nat->St->JR)(B F L:JJ)(Y:St)(H:Hp)(Q:VK):JT->Prop
 |.ok pv=>∀v H' F' f,Gr F H F' H'->Rel T F' B L H' pv v f->(∀a∈f,¬F' a)->f.Nodup->(∀a∈f,H a=none)->Q v H'
 |.exc c=>∀H',Ext H H'->W c Y H'
 |.stuck=>False
def GA(T:Tb)(W:Nat->St->JR)(B F L:JJ)(Y:St)(H:Hp)(Q:JQ->JR):Res (JS)->Prop
 |.ok pvs=>∀vs H' F' f,Gr F H F' H'->RelL T F' B L H' pvs vs f->(∀a∈f,¬F' a)->f.Nodup->(∀a∈f,H a=none)->Q vs H'
 |.exc c=>∀H',Ext H H'->W c Y H'
 |.stuck=>False
def GT(W:Nat->St->JR)(F:JJ)(Y:St)(H:Hp)(Q:Bool->JR):Res Bool->Prop
 |.ok b=>∀H' F',Gr F H F' H'->Q b H'
 |.exc c=>∀H',Ext H H'->W c Y H'
 |.stuck=>False
def tE(T:Tb)(W:Nat->St->JR)(m:ME):TE:=λY H Q=>∃Z F env fp,ax T Z F H Y env fp/\GE T W Z.B F (Own fp) Y H Q (m env)
def tA(T:Tb)(W:Nat->St->JR)(m:MA):TA:=λY H Q=>∃Z F env fp,ax T Z F H Y env fp/\GA T W Z.B F (Own fp) Y H Q (m env)
def tT(T:Tb)(W:Nat->St->JR)(m:MT):TT:=λY H Q=>∃Z F env fp,ax T Z F H Y env fp/\GT W F Y H Q (m env)
abbrev SE(X:Cx)(T:Tb)(W:Nat->St->JR)(e:Expr)(m:ME):Prop:=PE X e (tE T W m)
abbrev SA(X:Cx)(T:Tb)(W:Nat->St->JR)(es:List Expr)(m:MA):Prop:=PA X es (tA T W m)
abbrev ST(X:Cx)(T:Tb)(W:Nat->St->JR)(e:Expr)(m:MT):Prop:=PT X e (tT T W m)
section
variable{X:Cx}{T:Tb}{W:Nat->St->JR}{Z:Zn}{F F' B L:JJ}{H H':Hp}{Y:St}{env:En}{fp:Nat->JM}
def GE.scal{Q:VK}{pv:PV}{v:V}(q:GE T W B F L Y H Q (.ok pv))(g:Gr F H F' H')(r:Rel T F' B L H' pv v []):Q v H':=
 q v H' F' [] g r (λ_ z=>(nomatch z)) nodup_nil (λ_ z=>(nomatch z))
def lG{v:V}{pv:PV}(h:PE X e (tC v))(r:∀F B L H,Rel T F B L H pv v []):SE X T W e (mC pv):=PE.wk h λY H Q ⟨Z,F,env,fp,S,q⟩=>q.scal (Gr.refl S.hp.ft) (r _ _ _ _)
def ak{i j pos}:SE X T W (.Constant (.int i) j pos) (mC (.int i)):=lG oI λ_ _ _ _=>by unfold Rel;exact⟨rfl,rfl⟩
def gg{b j pos}:SE X T W (.Constant (.bool b) j pos) (mC (.bl b)):=lG GJ λ_ _ _ _=>by unfold Rel;exact⟨rfl,rfl⟩
def gx{j pos}:SE X T W (.Constant .none j pos) (mC .non):=lG wT λ_ _ _ _=>by unfold Rel;exact⟨rfl,rfl⟩
def cz{x j pos}:SE X T W (.Constant (.str x) j pos) (mC (.str x)):=lG Dq λ_ _ _ _=>by unfold Rel;exact⟨rfl,rfl⟩
def C1(hN:X.N[i]?=some x)(hv:Vis X.env.scope x)(hd:(x ==("__debug__":Str))=false:=by decide)(hcd:(x ==("__classdict__":Str))=false:=by decide):SE X T W (.Name x pos) (ac i):=
 PE.wk (fR hN hv hd hcd) λY H Q hz1=>by
  obtain⟨Z,F,env,fp,S,q⟩:=hz1;unfold ac at q;split at q
  .rename_i pv e
   obtain⟨v,e1,r⟩:=S.rel i pv e;refine⟨v,e1,q.scal (Gr.refl S.hp.ft) ?_⟩;exact Rel.JU (λa h=>⟨i,h⟩) (Rel.tr (λ_ h=>h) (λ_ h=>h) (λ_ h=>h.elim) (λa o q _=>q) (λa _ o q=>q) r)
  .exact q.elim
def tE.bind(S:ax T Z F H Y env fp)(hx:∀c,m env=.exc c->∀H',Ext H H'->W c Y H')(hs:m env≠.stuck)
  (k:∀pv v H' F' f,m env=.ok pv->Gr F H F' H'->Rel T F' Z.B (Own fp) H' pv v f->(∀a∈f,¬F' a)->f.Nodup->(∀a∈f,H a=none)->Q v H'):tE T W m Y H Q:=by
 refine⟨Z,F,env,fp,S,?_⟩;cases e:m env with
 |ok pv=>exact λv H' F' f g r h1 h2 h3=>k pv v H' F' f e g r h1 h2 h3
 |exc c=>exact hx c e
 |stuck=>exact hs e
def tE.bq(S:ax T Z F H Y env fp)(k:∀pv v H' F' f,m env=.ok pv->Gr F H F' H'->Rel T F' Z.B (Own fp) H' pv v f->(∀a∈f,¬F' a)->f.Nodup->(∀a∈f,H a=none)->Q v H')(hx:∀c,m env=.exc c->∀H',Ext H H'->W c Y H':=by exact λc e=>by rw[e]at q;exact q)(hs:m env≠.stuck:=by exact λe=>by rw[e]at q;exact q):tE T W m Y H Q:=tE.bind S hx hs k
def tA.bind(S:ax T Z F H Y env fp)(hx:∀c,m env=.exc c->∀H',Ext H H'->W c Y H')(hs:m env≠.stuck)
  (k:∀pvs vs H' F' f,m env=.ok pvs->Gr F H F' H'->RelL T F' Z.B (Own fp) H' pvs vs f->(∀a∈f,¬F' a)->f.Nodup->(∀a∈f,H a=none)->Q vs H'):tA T W m Y H Q:=by
 refine⟨Z,F,env,fp,S,?_⟩;cases e:m env with
 |ok pv=>exact λv H' F' f g r h1 h2 h3=>k pv v H' F' f e g r h1 h2 h3
 |exc c=>exact hx c e
 |stuck=>exact hs e
def tA.bq(S:ax T Z F H Y env fp)(k:∀pvs vs H' F' f,m env=.ok pvs->Gr F H F' H'->RelL T F' Z.B (Own fp) H' pvs vs f->(∀a∈f,¬F' a)->f.Nodup->(∀a∈f,H a=none)->Q vs H')(hx:∀c,m env=.exc c->∀H',Ext H H'->W c Y H':=by exact λc e=>by rw[e]at q;exact q)(hs:m env≠.stuck:=by exact λe=>by rw[e]at q;exact q):tA T W m Y H Q:=tA.bind S hx hs k
def tT.bind(S:ax T Z F H Y env fp)(hx:∀c,m env=.exc c->∀H',Ext H H'->W c Y H')(hs:m env≠.stuck)
  (k:∀b H' F',m env=.ok b->Gr F H F' H'->Q b H'):tT T W m Y H Q:=by
 refine⟨Z,F,env,fp,S,?_⟩;cases e:m env with
 |ok pv=>exact λH' F' g=>k pv H' F' e g
 |exc c=>exact hx c e
 |stuck=>exact hs e
def af:SA X T W [] ao:=PA.wk g8 λY H Q ⟨Z,F,env,fp,S,q⟩=>q [] H F [] (Gr.refl S.hp.ft) (by unfold RelL;exact⟨rfl,rfl⟩) (λ_ z=>(nomatch z)) nodup_nil (λ_ z=>(nomatch z))
def aa(ha:SE X T W e m)(hr:SA X T W es ms)(hs:starEach (e::es) X.env=(false,eval e X.env)::starEach es X.env:=by rfl):SA X T W (e::es) (ae m ms):=
 PA.wk (dR ha hr hs) λY H Q hz1=>by
  obtain⟨Z,F,env,fp,S,q⟩:=hz1;unfold ae at q;refine tE.bq S λx v H1 F1 f1 e1 g1 r1 n1 d1 w1=>?_;rw[e1]at q;simp only[Res.J4]at q;refine tA.bind (S.grow g1) (λc e=>by rw[e]at q;exact λH' x=>q H' (g1.ext.trans x)) (λe=>by rw[e]at q;exact q) λxs vs H2 F2 f2 e2 g2 r2 n2 d2 w2=>?_;rw[e2]at q;simp only[Res.J4]at q;have new1:∀a∈f1,¬F2 a:=λa ha z=>by
   rcases g2.only a z with z|z
   .exact n1 a ha z
   .obtain⟨o,ho⟩:=r1.there a ha;rw[ho]at z;cases z
  refine q (v::vs) H2 F2 (f1++f2) (g1.trans g2) (by unfold RelL;exact⟨v,vs,f1,f2,rfl,r1.ext g2.ext g2.mono,r2,rfl⟩) (λa ha=>?_) ?_ (λa ha=>?_)
  .rcases mem_append.mp ha with ha|ha
   .exact new1 a ha
   .exact n2 a ha
  .refine nodup_append.mpr ⟨d1,d2,λa ha b hb z=>?_⟩;subst z;obtain⟨o,ho⟩:=r1.there a ha;rw[w2 a hb]at ho;cases ho
  .rcases mem_append.mp ha with ha|ha
   .exact w1 a ha
   .exact g1.ext.free (w2 a ha)
def aq(f:JS->JT)(ms:MA):ME:=λenv=>(ms env).bind f
def Mir(T:Tb)(W:Nat->St->JR)(f:JS->JT)(r:JQ->Hp->VK->Prop):Prop:=
 ∀(B F L:JJ) (Y:St) (H:Hp) (Q:VK) (F':JJ) (H':Hp) (xs:JS) (vs:JQ) (fx:JM),Gr F H F' H'->RelL T F' B L H' xs vs fx->(∀a∈fx,¬F' a)->fx.Nodup->(∀a∈fx,H a=none)->
  GE T W B F L Y H Q (f xs)->r vs H' Q
def tA.mir(hm:Mir T W f r)(h:tE T W (aq f ms) Y H Q):tA T W ms Y H λvs H1=>r vs H1 Q:=by obtain⟨Z,F,env,fp,S,q⟩:=h;unfold aq at q;refine tA.bq S λxs vs H1 F1 f1 e1 g1 r1 n1 d1 w1=>?_;rw[e1]at q;exact hm Z.B F (Own fp) Y H Q F1 H1 xs vs f1 g1 r1 n1 d1 w1 q
def eX{id:String}{x:Str}{es:List Expr}{f:JS->JT}{r:JQ->Hp->VK->Prop}(hc:eJ X (.builtin id) r)(hmir:Mir T W f r)(hg:Gl X x)(hm:X.mg x=none)(hv:bootBuiltins x=some (.builtin id))(ha:SA X T W (e::es) ms)
  (hn:x≠"__name__":=by decide) (hdb:(x ==("__debug__":Str))=false:=by decide)
  (he:starEach (e::es) X.env=(false,eval e X.env)::starEach es X.env:=by rfl) (hpl:(backTo pos (starEach es X.env)).any (·.1)=false:=by rfl):SE X T W (.Call (.Name x p) (e::es) [] pos) (aq f ms):=
 PE.wk (lU hc hg hm hv ha hn hdb he hpl) λY H Q h=>tA.mir hmir h
def nC{id:String}{x:Str}{es:List Expr}{f:JS->JT}{r:JQ->Hp->VK->Prop}(hc:eJ X (.type id) r)(hmir:Mir T W f r)(hg:Gl X x)(hm:X.mg x=none)(hv:bootBuiltins x=some (.type id))(ha:SA X T W (e::es) ms)
  (hn:x≠"__name__":=by decide) (hdb:(x ==("__debug__":Str))=false:=by decide)
  (he:starEach (e::es) X.env=(false,eval e X.env)::starEach es X.env:=by rfl) (hpl:(backTo pos (starEach es X.env)).any (·.1)=false:=by rfl):SE X T W (.Call (.Name x p) (e::es) [] pos) (aq f ms):=
 PE.wk (ku hc hg hm hv ha hn hdb he hpl) λY H Q h=>tA.mir hmir h
def je(T:Tb)(W:Nat->St->JR)(f:PV->PV->JT)(r:R2):Prop:=
 ∀(B F L:JJ) (Y:St) (H:Hp) (Q:VK) (F':JJ) (H':Hp) (x y:PV) (v u:V) (fx fy:JM),Gr F H F' H'->Rel T F' B L H' x v fx->Rel T F' B L H' y u fy->(∀a∈fx++fy,¬F' a)->(fx++fy).Nodup->(∀a∈fx++fy,H a=none)->
  GE T W B F L Y H Q (f x y)->r v u H' Q
def tE.mir2(hm:je T W f r)(h:tE T W (mOp f ma mb) Y H Q):tOp r (tE T W ma) (tE T W mb) Y H Q:=by
 obtain⟨Z,F,env,fp,S,q⟩:=h;unfold mOp at q;refine tE.bq S λx v H1 F1 f1 e1 g1 r1 n1 d1 w1=>?_;rw[e1]at q;simp only[Res.J4]at q;refine tE.bind (S.grow g1) (λc e=>by rw[e]at q;exact λH' x=>q H' (g1.ext.trans x)) (λe=>by rw[e]at q;exact q) λy u H2 F2 f2 e2 g2 r2 n2 d2 w2=>?_;rw[e2]at q;simp only[Res.J4]at q;have new1:∀a∈f1,¬F2 a:=λa ha z=>by
  rcases g2.only a z with z|z
  .exact n1 a ha z
  .obtain⟨o,ho⟩:=r1.there a ha;rw[ho]at z;cases z
 refine hm Z.B F (Own fp) Y H Q F2 H2 x y v u f1 f2 (g1.trans g2) (r1.ext g2.ext g2.mono) r2 (λa ha=>?_) ?_ (λa ha=>?_) q
 .rcases mem_append.mp ha with ha|ha
  .exact new1 a ha
  .exact n2 a ha
 .refine nodup_append.mpr ⟨d1,d2,λa ha b hb z=>?_⟩;subst z;obtain⟨o,ho⟩:=r1.there a ha;rw[w2 a hb]at ho;cases ho
 .rcases mem_append.mp ha with ha|ha
  .exact w1 a ha
  .exact g1.ext.free (w2 a ha)
def kT(ho:OpR X (binaryOp op) r)(hm:je T W f r)(ha:SE X T W a ma)(hb:SE X T W b mb):SE X T W (.BinOp a op b pos) (mOp f ma mb):=
 PE.wk (GH (pos:=pos) ho ha hb) λY H Q h=>tE.mir2 hm h
def oA(ho:OpR X (compareOp op) r)(hm:je T W f r)(ha:SE X T W a ma)(hb:SE X T W b mb)(hk:behindInMarks op b=false):SE X T W (.Compare a [op] [b] pos) (mOp f ma mb):=
 PE.wk (A9 (pos:=pos) ho ha hb hk) λY H Q h=>tE.mir2 hm h
def Cl(hr:IxR X r)(hm:je T W f r)(ha:SE X T W a ma)(hb:SE X T W b mb)(hs:io b):SE X T W (.Subscript a b pos) (mOp f ma mb):=
 PE.wk (wU (pos:=pos) hr ha hb hs) λY H Q h=>tE.mir2 hm h
def oT(hg:∀i j F B L H,Rel T F B L H (g' i j) (g i j) []):je T W (fU g') (rI0 g):=by
  intro B F L Y H Q F' H' x y v u fx fy gr rx ry _ _ _ q;cases x<;>cases y<;>first
    |exact q.elim
    | (unfold Rel at rx ry
       exact⟨_,_,rx.1,ry.1,q.scal gr (hg _ _ _ _ _ _)⟩)
def qv(hc:∀i j,C' i j=true->C i j)(hg:∀i j F B L H,Rel T F B L H (g' i j) (g i j) []):je T W (fT C' g') (rI C g):=by
  intro B F L Y H Q F' H' x y v u fx fy gr rx ry _ _ _ q;cases x<;>cases y<;>first
    |exact q.elim
    | (unfold Rel at rx ry
       simp only[fT]at q;split at q
       . rename_i hh
         exact⟨_,_,rx.1,ry.1,hc _ _ hh,q.scal gr (hg _ _ _ _ _ _)⟩
       . exact q.elim)
def fQ:Rel T F B L H (.int i) (.int i) []:=by unfold Rel;exact⟨rfl,rfl⟩
def jp:Rel T F B L H (.bl i) (.bl i) []:=by unfold Rel;exact⟨rfl,rfl⟩
def IQ:Rel T F B L H .non .non []:=by unfold Rel;exact⟨rfl,rfl⟩
def iy:PV->PV->JT:=fU λi j=>.int (i-j)
def ck:PV->PV->JT:=fT (λi j=>decide ((-(2 ^ 64)<i/\i<2 ^ 64)\/(-(2 ^ 64)<j/\j<2 ^ 64))) λi j=>.int (i*j)
def cK:PV->PV->JT:=fT (λ_ j=>decide (0<j)) λi j=>.int (i%j)
def dC:PV->PV->JT:=fT (λ_ j=>decide (0<j/\j<1073741824)) λi j=>.int (i / j)
def wZ:PV->PV->JT:=fT (λi j=>decide (0<=j/\j<=1000000/\i.natAbs<2 ^ 64)) λi j=>.int (i ^ j.toNat)
def pLt:PV->PV->JT:=fU λi j=>.bl (decide (i<j))
def pLe:PV->PV->JT:=fU λi j=>.bl (decide (i<=j))
def pGt:PV->PV->JT:=fU λi j=>.bl (decide (j<i))
def pGe:PV->PV->JT:=fU λi j=>.bl (decide (j<=i))
variable{a b:Expr}{ma mb:ME}{pos:Pos}
def ee(ha:SE X T W a ma)(hb:SE X T W b mb):SE X T W (.BinOp a .Sub b pos) (mOp iy ma mb):=kT Dx (oT λ_ _ _ _ _ _=>fQ) ha hb
def cA(ha:SE X T W a ma)(hb:SE X T W b mb):SE X T W (.BinOp a .Mult b pos) (mOp ck ma mb):=kT DB (qv (λi j h=>(by simpa using h:(-(2 ^ 64)<i/\i<2 ^ 64)\/(-(2 ^ 64)<j/\j<2 ^ 64))) λ_ _ _ _ _ _=>fQ) ha hb
def bI(ha:SE X T W a ma)(hb:SE X T W b mb):SE X T W (.BinOp a .Mod b pos) (mOp cK ma mb):=kT DC (qv (λ_ _ h=>of_decide_eq_true h) λ_ _ _ _ _ _=>fQ) ha hb
def dW(ha:SE X T W a ma)(hb:SE X T W b mb):SE X T W (.BinOp a .FloorDiv b pos) (mOp dC ma mb):=kT Bg (qv (λi j h=>(by simpa using h:0<j/\j<1073741824)) λ_ _ _ _ _ _=>fQ) ha hb
def wn(ha:SE X T W a ma)(hb:SE X T W b mb):SE X T W (.BinOp a .Pow b pos) (mOp wZ ma mb):=kT DA (qv (λi j h=>(by simpa using h:0<=j/\j<=1000000/\i.natAbs<2 ^ 64)) λ_ _ _ _ _ _=>fQ) ha hb
end
def GS(T:Tb)(W:Nat->St->JR)(Z:Zn)(D:Ends):Out->Prop
 |.next e=>∀F H Y fp,ax T Z F H Y e fp->D.nx Y H
 |.ret pv=>∀F H v f,cF T Z F H->Rel T F Z.B NoL H pv v f->f.Nodup->(∀a∈f,¬F a)->(∀a∈f,Z.H0 a=none\/Z.fp0 a)->D.rt v H
 |.brk e=>∀F H Y fp,ax T Z F H Y e fp->D.bk Y H
 |.cont e=>∀F H Y fp,ax T Z F H Y e fp->D.ct Y H
 |.exc c e=>∀F H Y fp,ax T Z F H Y e fp->W c Y H
 |.stuck=>False
def tS(T:Tb)(W:Nat->St->JR)(m:MS):TS:=λD Y H=>∃Z F env fp,ax T Z F H Y env fp/\GS T W Z D (m env)
abbrev SS(X:Cx)(T:Tb)(W:Nat->St->JR)(st:Stmt)(m:MS):Prop:=PS X st (tS T W m)
abbrev SSs(X:Cx)(T:Tb)(W:Nat->St->JR)(sts:List Stmt)(m:MS):Prop:=PSs X sts (tS T W m)
def xC{p:Fl->Bool}(hL:p .lnt=false->∀a,L a->L' a)(hB:p .bor=false->∀a,B a->B' a):Mp T (λf=>f) p (λx=>x) (λ_=>True) F B L H F B' L' H:=
 ⟨λf a vs q _ h=>by
  cases f with
  |lnt=>exact⟨hL q a h.1,h.2⟩
  |bor=>exact⟨hB q a h.1,h.2⟩
  | _=>exact h,λf a q _ h=>⟨by
  cases f with
  |lnt=>exact hL q a h
  |bor=>exact hB q a h
  |_=>exact h,λ_ q=>q⟩,λ_ _ _ _ h=>h,rfl,λ_ _=>rfl,λ_ _ q _=>q⟩
def Rel.noL(hp:x.has Fl.JZ=false)(h:Rel T F B L H x v fo):Rel T F B L' H x v fo:=by
 have:=(xC (p:=Fl.JZ) (L':=L') (λz=>(nomatch z)) (λ_ _ q=>q)).rel hp (λ_ _=>True.intro) h
 rwa [lw]at this
def RelL.noL(hp:hasL Fl.JZ x=false)(h:RelL T F B L H x v fo):RelL T F B L' H x v fo:=by
 have:=(xC (p:=Fl.JZ) (L':=L') (λz=>(nomatch z)) (λ_ _ q=>q)).rels hp (λ_ _=>True.intro) h
 rwa [mapL_id]at this
section
variable{X:Cx}{T:Tb}{W:Nat->St->JR}{Z:Zn}{F F' B L:JJ}{H H':Hp}{Y:St}{env:En}{fp:Nat->JM}{D:Ends}
def bR(fp:Nat->JM)(i:Nat)(f:JM):Nat->JM:=λj=>if j=i then f else fp j
theorem ax.put(S:ax T Z F H Y env fp){i:Nat}{pv:PV}{v:V}{f:JM}(r:Rel T F Z.B NoL H pv v f)(nd:f.Nodup)(nf:∀a∈f,¬F a)(new:∀a∈f,Z.H0 a=none\/Z.fp0 a)(dj:∀a∈f,∀j,j≠i->a∉fp j)(ho:aO i env=true) :
  ax T Z F H (Y.set i (some v)) (env.set i (some pv)) (bR fp i f):=by
 refine⟨S.hp,by rw[length_set,length_set,S.len],λj pv' e=>?_,λj=>?_,λj k hjk a ha=>?_,λj a ha=>?_,λj a ha=>?_,λj a ha=>?_,λw hw=>?_⟩
 .grind[bR,ax,cF,Gr]
 .unfold bR;split
  .exact nd
  .exact S.nd j
 .grind[bR,ax,cF,Gr]
 .unfold bR at ha;by_cases h1:j=i
  .rw[if_pos h1]at ha;exact⟨nf a ha,r.there a ha⟩
  .rw[if_neg h1]at ha;exact S.dis j a ha
 .unfold bR at ha;by_cases h1:j=i
  .rw[if_pos h1]at ha;exact new a ha
  .rw[if_neg h1]at ha;exact S.new j a ha
 .unfold bR at ha;by_cases h1:j=i
  .rw[if_pos h1]at ha;exact r.chg a ha
  .rw[if_neg h1]at ha;exact S.ch j a ha
 .obtain⟨h1,h2⟩:=S.pn w hw;have hi:i≠0:=λz=>by rw[z]at ho;simp[aO,h2]at ho
  refine⟨by rw[getElem?_set_ne hi];exact h1,?_⟩;unfold dw at h2 ⊢;rw[getElem?_set_ne hi];exact h2
def ax.putN(S:ax T Z F H Y env fp)(g:Gr F H F' H'){i:Nat}{pv:PV}{v:V}{f:JM}(ho:aO i env=true)(r:Rel T F' Z.B L H' pv v f)(hl:pv.J1=true)(nf:∀a∈f,¬F' a)(nd:f.Nodup)(w:∀a∈f,H a=none) :
  ax T Z F' H' (Y.set i (some v)) (env.set i (some pv)) (bR fp i f):=by
 refine(S.grow g).put (Rel.noL (by simpa[PV.J1]using hl) r) nd nf (λa ha=>?_) (λa ha j _ hj=>?_) ho
 .by_cases q:Z.fp0 a
  .exact .inr q
  .refine .inl ?_;cases e:Z.H0 a with
   |none=>rfl
   |some o=>have:=S.hp.keep a o e q;rw[w a ha]at this;cases this
 .obtain⟨_,o,ho⟩:=S.dis j a hj;rw[w a ha]at ho;cases ho
def aS:SSs X T W [] a9:=PSs.wk A1 λD Y H ⟨Z,F,env,fp,S,q⟩=>q F H Y fp S
def ah{rest:List Stmt}(h1:SS X T W st a)(h2:SSs X T W rest b):SSs X T W (st::rest) (ar a b):=
 PSs.wk (qg h1 h2) λD Y H hz1=>by
  obtain⟨Z,F,env,fp,S,q⟩:=hz1;refine⟨Z,F,env,fp,S,?_⟩;unfold ar at q;cases e:a env with
  |next e'=>rw[e]at q;exact λF' H' σ' fp' S'=>⟨Z,F',e',fp',S',q⟩
  |ret v|brk e'|cont e'|exc c e'|stuck=>rw[e]at q;exact q
def am(h1:SS X T W st a):SSs X T W [st] a:=tN h1
def bt(hc:ST X T W c mc)(ha:SSs X T W a ma)(hb:SSs X T W b mb):SS X T W (.If c a b pos) (mBr mc ma mb):=
 PS.wk (GB (pos:=pos) hc ha hb) λD Y H hz1=>by
  obtain⟨Z,F,env,fp,S,q⟩:=hz1;unfold mBr at q;refine tT.bind S (λc e H' x=>?_) (λe=>by rw[e]at q;exact q) λb H' F' e g=>?_
  .rw[e]at q;exact q F H' Y fp (S.grow (Gr.same S.hp.ft x))
  .cases b with
   |true=>rw[e]at q;exact(if_pos rfl).mpr ⟨Z,F',env,fp,S.grow g,q⟩
   |false=>rw[e]at q;exact(if_neg (by decide)).mpr ⟨Z,F',env,fp,S.grow g,q⟩
def CY(hN:X.N.Nodup)(hi:X.N[i]?=some x)(hx:Loc X.env.scope x)(he:SE X T W e m)(hs:swapsWith e (some (.Name x pos')) pos.line X.env=pure false:=by rfl)
  (hf:X.fn x=true\/X.env.scope.names.lookup x=some .local:=by first|exact .inl rfl|exact .inr rfl|assumption):SS X T W (.Assign [.Name x pos'] e pos) (aW i m):=
 PS.wk (wJ (pos:=pos) hN hi hx he hs hf) λD Y H hz1=>by
  obtain⟨Z,F,env,fp,S,q⟩:=hz1;unfold aW at q;refine tE.bind S (λc e H' x=>?_) (λe=>by rw[e]at q;exact q) λpv v H1 F1 f e g r h1 h2 h3=>?_
  .rw[e]at q;exact q F H' Y fp (S.grow (Gr.same S.hp.ft x))
  .rw[e]at q;simp only at q;split at q
   .rename_i hl
    rw[and_eq_true]at hl;exact q F1 H1 _ _ (S.putN g hl.2 r hl.1 h1 h2 h3)
   .exact q.elim
def cF.newE(S:cF T Z F H){f:JM}(w:∀a∈f,H a=none):∀a∈f,Z.H0 a=none\/Z.fp0 a:=λa ha=>by
 by_cases q:Z.fp0 a
 .exact .inr q
 .refine .inl ?_;cases e:Z.H0 a with
  |none=>rfl
  |some o=>have:=S.keep a o e q;rw[w a ha]at this;cases this
def aH(he:SE X T W e m):SS X T W (.Return (some e) pos) (bw m):=
 PS.wk (r_ (pos:=pos) he) λD Y H hz1=>by
  obtain⟨Z,F,env,fp,S,q⟩:=hz1;unfold bw at q;refine tE.bind S (λc e H' x=>?_) (λe=>by rw[e]at q;exact q) λpv v H1 F1 f e g r h1 h2 h3=>?_
  .rw[e]at q;exact q F H' Y fp (S.grow (Gr.same S.hp.ft x))
  .rw[e]at q;simp only at q;split at q
   .rename_i hl
    exact q F1 H1 v f (S.hp.grow g) (Rel.noL (by simpa[PV.J1]using hl) r) h2 h1 (S.hp.newE h3)
   .exact q.elim
def cQ(hN:X.N[i]?=some x)(hv:Vis X.env.scope x)(hd:(x ==("__debug__":Str))=false:=by decide)(hcd:(x ==("__classdict__":Str))=false:=by decide):SS X T W (.Return (some (.Name x pos')) pos) (dv i):=
 PS.wk (r_ (pos:=pos) (fR hN hv hd hcd)) λD Y H hz1=>by
  obtain⟨Z,F,env,fp,S,q⟩:=hz1;unfold dv at q;split at q
  .rename_i pv e
   obtain⟨v,e1,r⟩:=S.rel i pv e;exact⟨v,e1,q F H v (fp i) S.hp r (S.nd i) (λa ha=>(S.dis i a ha).1) (S.new i)⟩
  .exact q.elim
def gW(he:SE X T W e m)(hs:swapsWith e none pos.line X.env=pure false:=by rfl):SS X T W (.Expr e pos) (iT m):=
 PS.wk (jY (pos:=pos) he hs) λD Y H hz1=>by
  obtain⟨Z,F,env,fp,S,q⟩:=hz1;unfold iT at q;refine tE.bind S (λc e H' x=>?_) (λe=>by rw[e]at q;exact q) λpv v H1 F1 f e g r h1 h2 h3=>?_
  .rw[e]at q;exact q F H' Y fp (S.grow (Gr.same S.hp.ft x))
  .rw[e]at q;exact q F1 H1 Y fp (S.grow g)
def vk(hF:∀a,F a->F' a):Mp T Fl.JW (λ_=>false) (λ_=>[]) F' F B L H F' B L H:=
 ⟨λf a vs _ c h=>by
  cases f with
  |own=>exact⟨c rfl,.inl h⟩
  |frz=>exact⟨hF a h.1,h.2⟩
  | _=>exact h,λf a _ c h=>⟨by
  cases f with
  |own=>exact c rfl
  |frz=>exact hF a h
  |_=>exact h,λ_ q=>q⟩,λf a x y h=>by cases f<;>exact⟨rfl,rfl⟩,rfl,λ_ _=>rfl,λ_ _ q _=>q⟩
def Rel.JW(hF:∀a,F a->F' a)(hp:∀a∈fo,F' a)(h:Rel T F B L H x v fo):Rel T F' B L H (x.J2 Fl.JW) v []:=(vk hF).rel (mw x) hp h
theorem ax.frz(S:ax T Z F H Y env fp){i:Nat}{pv:PV}(e:env[i]?=some (some pv)):ax T Z (λa=>F a\/a∈fp i) H Y (env.set i (some (pv.J2 Fl.JW))) (bR fp i []):=by
 have hi:i<env.length:=(List.getElem?_eq_some_iff.mp e).1;refine⟨⟨S.hp.bo,S.hp.keep,λa h=>.inl (S.hp.f0 a h),λa h=>h.elim (S.hp.fn a) λz=>.inr (S.new i a z),λa h=>h.elim (S.hp.ft a) λz=>(S.dis i a z).2⟩,by rw[length_set,S.len],λj pv' e'=>?_,λj=>?_,λj k hjk a ha=>?_,λj a ha=>?_,λj a ha=>?_,λj a ha=>?_,λw hw=>?_⟩
 .by_cases hj:j=i
  .subst hj;rw[getElem?_set_self hi]at e';cases e';obtain⟨v,h1,h2⟩:=S.rel j pv e;refine⟨v,h1,?_⟩;unfold bR;rw[if_pos rfl];exact Rel.JW (λ_ h=>.inl h) (λa h=>.inr h) h2
  .rw[getElem?_set_ne (Ne.symm hj)]at e';obtain⟨w,h1,h2⟩:=S.rel j pv' e';refine⟨w,h1,?_⟩;unfold bR;rw[if_neg hj];exact h2.ext Ext.refl λ_ h=>.inl h
 .unfold bR;split
  .exact nodup_nil
  .exact S.nd j
 .grind[bR,ax,cF,Gr]
 .unfold bR at ha;by_cases h1:j=i
  .rw[if_pos h1]at ha;cases ha
  .rw[if_neg h1]at ha;exact⟨λz=>z.elim (S.dis j a ha).1 λz=>S.dj j i h1 a ha z,(S.dis j a ha).2⟩
 .unfold bR at ha;by_cases h1:j=i
  .rw[if_pos h1]at ha;cases ha
  .rw[if_neg h1]at ha;exact S.new j a ha
 .unfold bR at ha;by_cases h1:j=i
  .rw[if_pos h1]at ha;cases ha
  .rw[if_neg h1]at ha;exact S.ch j a ha
 .obtain⟨h1,h2⟩:=S.pn w hw;refine⟨h1,?_⟩;unfold dw at h2 ⊢;by_cases hi0:i=0
  .subst hi0;rw[e]at h2;rw[getElem?_set_self hi];cases pv<;>first|exact h2 |(cases h2;done)|rfl
  .rw[getElem?_set_ne hi0];exact h2
def gv{i:Nat}{sts:List Stmt}(h:SSs X T W sts m):SSs X T W sts (ar (jq i) m):=PSs.wk h λD Y H hz1=>by
 obtain⟨Z,F,env,fp,S,q⟩:=hz1;cases e:env[i]? with
 |none=>simp[ar,jq,e]at q;exact q.elim
 |some w=>
  cases w with
  |none=>simp[ar,jq,e]at q;exact q.elim
  |some pv=>simp only[ar,jq,e]at q;exact⟨Z,_,_,_,S.frz e,q⟩
def Zn.re(Z:Zn)(F:JJ)(H:Hp)(fp:Nat->JM):Zn:=⟨H,F,Own fp,Z.B,Z.pin⟩
def ax.enter(S:ax T Z F H Y env fp):ax T (Z.re F H fp) F H Y env fp:=
 ⟨⟨⟨λa h=>by
   obtain⟨⟨o,h1⟩,h2⟩:=S.hp.bo.1 a h;refine⟨⟨o,S.hp.keep a o h1 h2⟩,λ⟨i,hi⟩=>?_⟩;rcases S.new i a hi with z|z
   .rw[h1]at z;cases z
   .exact h2 z,S.tbo Ext.refl λ_ z=>.inr z⟩,λ_ _ h _=>h,λ_ h=>h,λ_ h=>.inl h,S.hp.ft⟩,S.len,S.rel,S.nd,S.dj,S.dis,λi a ha=>.inr ⟨i,ha⟩,S.ch,S.pn⟩
def cF.leave(S:ax T Z F H Y env fp)(S':cF T (Z.re F H fp) F' H'):cF T Z F' H':=
 ⟨S.hp.bo,λa o h n=>S'.keep a o (S.hp.keep a o h n) λhz1=>by
   obtain⟨i,hi⟩:=hz1;rcases S.new i a hi with z|z
   .rw[h]at z;cases z
   .exact n z,λa h=>S'.f0 a (S.hp.f0 a h),λa h=>by
  rcases S'.fn a h with z|z |⟨i,hi⟩
  .exact S.hp.fn a z
  .refine .inr ?_;by_cases q:Z.fp0 a
   .exact .inr q
   .refine .inl ?_;cases w:Z.H0 a with
    |none=>rfl
    |some o=>have z':H a=none:=z;rw[S.hp.keep a o w q]at z';cases z'
  .exact .inr (S.new i a hi),S'.ft⟩
def ax.newL(S:ax T Z F H Y env fp)(h:(Z.re F H fp).H0 a=none \/(Z.re F H fp).fp0 a):Z.H0 a=none\/Z.fp0 a:=by
 rcases h with z |⟨i,hi⟩
 .by_cases q:Z.fp0 a
  .exact .inr q
  .refine .inl ?_;cases w:Z.H0 a with
   |none=>rfl
   |some o=>have z':H a=none:=z;rw[S.hp.keep a o w q]at z';cases z'
 .exact S.new i a hi
def ax.leave(S:ax T Z F H Y env fp)(S':ax T (Z.re F H fp) F' H' σ' env' fp'):ax T Z F' H' σ' env' fp':=
 ⟨cF.leave S S'.hp,S'.len,S'.rel,S'.nd,S'.dj,S'.dis,λi a ha=>S.newL (S'.new i a ha),S'.ch,S'.pn⟩
abbrev SW(X:Cx)(T:Tb)(W:Nat->St->JR)(e:Expr)(m:MT):Prop:=PW X e (tT T W m)
def tT.test(h:tT T W (aB m) Y H Q):tE T W m Y H λx H'=>∃k,x=.bl k/\Q k H':=by
 obtain⟨Z,F,env,fp,S,q⟩:=h;unfold aB at q;refine tE.bq S λx v H1 F1 f1 e1 g1 r1 n1 d1 w1=>?_;rw[e1]at q;cases x with
 |bl b=>unfold Rel at r1;exact⟨b,r1.1,q H1 F1 g1⟩
 |_=>exact q.elim
def fL(ho:OpR X (compareOp op) r)(hm:je T W f r)(ha:SE X T W a ma)(hb:SE X T W b mb)(hk:behindInMarks op b=false):ST X T W (.Compare a [op] [b] pos) (aB (mOp f ma mb)):=
 PT.wk (A0 (pos:=pos) ho ha hb hk) λY H Q h=>by obtain⟨Z,F,env,fp,S,q⟩:=tT.test h;exact tE.mir2 hm ⟨Z,F,env,fp,S,q⟩
def jB(h:ST X T W a m):ST X T W (.UnaryOp .Not a pos) (jx m):=PT.wk (Dj (pos:=pos) h) λY H Q hz1=>by obtain⟨Z,F,env,fp,S,q⟩:=hz1;unfold jx at q;refine tT.bind S (λc e=>by rw[e]at q;exact q) (λe=>by rw[e]at q;exact q) λb H1 F1 e1 g1=>?_;rw[e1]at q;exact q H1 F1 g1
def gc(h:ST X T W a m):SW X T W (.BoolOp .And [a] pos) m:=AZ h
def fh(h:ST X T W a m):SW X T W (.BoolOp .Or [a] pos) m:=Dg h
def gT{rest:List Expr}(h:ST X T W a m)(h2:SW X T W (.BoolOp .And (b::rest) pos) n):SW X T W (.BoolOp .And (a::b::rest) pos) (iq m n):=PW.wk (Dh h h2) λY H Q hz1=>by
 obtain⟨Z,F,env,fp,S,q⟩:=hz1;unfold iq at q;refine tT.bind S (λc e=>by rw[e]at q;exact q) (λe=>by rw[e]at q;exact q) λb H1 F1 e1 g1=>?_;rw[e1]at q;cases b with
 |true=>
  refine(if_pos rfl).mpr ⟨Z,F1,env,fp,S.grow g1,?_⟩;simp only[Res.J4,if_true]at q;cases e2:n env with
  |ok b=>rw[e2]at q;exact λH2 F2 g2=>q H2 F2 (g1.trans g2)
  |exc c=>rw[e2]at q;exact λH' x=>q H' (g1.ext.trans x)
  |stuck=>rw[e2]at q;exact q
 |false=>exact(if_neg (by decide)).mpr (q H1 F1 g1)
def gG{rest:List Expr}(h:ST X T W a m)(h2:SW X T W (.BoolOp .Or (b::rest) pos) n):SW X T W (.BoolOp .Or (a::b::rest) pos) (iS m n):=PW.wk (Gz h h2) λY H Q hz1=>by
 obtain⟨Z,F,env,fp,S,q⟩:=hz1;unfold iS at q;refine tT.bind S (λc e=>by rw[e]at q;exact q) (λe=>by rw[e]at q;exact q) λb H1 F1 e1 g1=>?_;rw[e1]at q;cases b with
 |false=>
  refine(if_neg (by decide)).mpr ⟨Z,F1,env,fp,S.grow g1,?_⟩;simp only[Res.J4,false_eq_true,if_false]at q;cases e2:n env with
  |ok b=>rw[e2]at q;exact λH2 F2 g2=>q H2 F2 (g1.trans g2)
  |exc c=>rw[e2]at q;exact λH' x=>q H' (g1.ext.trans x)
  |stuck=>rw[e2]at q;exact q
 |true=>exact(if_pos rfl).mpr (q H1 F1 g1)
def SW.st(h:SW X T W e m):ST X T W e m:=PW.pt h
def cf(hK:X.K=T.K)(h:SE X T W a m)(he:∀whole,isTrue a X.env whole=(do let v <- whole;standAt a.pos;holding [v] (truthy v)):=by intro _;rfl):ST X T W a (cO m):=PT.wk (wH h he) λY H Q hz1=>by
 obtain⟨Z,F,env,fp,S,q⟩:=hz1;unfold cO at q;refine tE.bq S λx v H1 F1 f1 e1 g1 r1 n1 d1 w1=>?_;rw[e1]at q;rw[hK];cases x with
 |non=>unfold Rel at r1;rw[r1.1];exact⟨false,rfl,q H1 F1 g1⟩
 |bl b=>unfold Rel at r1;rw[r1.1];exact⟨b,rfl,q H1 F1 g1⟩
 |int i=>unfold Rel at r1;rw[r1.1];exact⟨_,rfl,q H1 F1 g1⟩
 |str i=>exact q.elim
 |lst f xs=>
  unfold Rel at r1;obtain⟨a,vs,fp',rfl,hl,hr,_⟩:=r1;have hl':SqL T.K H1 a vs:=hl.sq;have e:(!xs.isEmpty)=!vs.isEmpty:=by have:=hr.length;cases xs<;>cases vs<;>simp_all
  exact⟨_,.inl ⟨vs,hl',rfl⟩,by rw[<- e];exact q H1 F1 g1⟩
 |tup xs=>
  unfold Rel at r1;obtain⟨a,vs,rfl,hl,hr⟩:=r1;have e:(!xs.isEmpty)=!vs.isEmpty:=by have:=hr.length;cases xs<;>cases vs<;>simp_all
  exact⟨_,.inr (.inl ⟨vs,hl,rfl⟩),by rw[<- e];exact q H1 F1 g1⟩
 |obj f c ks xs|exc c|box k xs=>exact q.elim
def lJ(hc:ST X T W c mc)(ha:SE X T W a ma)(hb:SE X T W b mb):SE X T W (.IfExp c a b pos) (sB mc ma mb):=PE.wk (wV (pos:=pos) hc ha hb) λY H Q hz1=>by
 obtain⟨Z,F,env,fp,S,q⟩:=hz1;unfold sB at q;refine tT.bind S (λc e=>by rw[e]at q;exact q) (λe=>by rw[e]at q;exact q) λb H1 F1 e1 g1=>?_;rw[e1]at q;have lift:∀m:ME,GE T W Z.B F (Own fp) Y H Q (m env)->tE T W m Y H1 Q:=λm q=>by
  refine⟨Z,F1,env,fp,S.grow g1,?_⟩;cases e2:m env with
  |ok b=>rw[e2]at q;exact λv H2 F2 f g2 r n d w=>q v H2 F2 f (g1.trans g2) r n d λa ha=>g1.ext.free (w a ha)
  |exc c=>rw[e2]at q;exact λH' x=>q H' (g1.ext.trans x)
  |stuck=>rw[e2]at q;exact q
 cases b with
 |true=>exact(if_pos rfl).mpr (lift ma q)
 |false=>exact(if_neg (by decide)).mpr (lift mb q)
def qx(a:ME):ME:=λenv=>(a env).bind fun
 |.bl b=>.ok (.bl (!b))
 |_=>.stuck
def iU(a b:ME):ME:=λenv=>(a env).bind fun
 |.bl true=>b env
 |.bl false=>.ok (.bl false)
 |_=>.stuck
def oW(a b:ME):ME:=λenv=>(a env).bind fun
 |.bl false=>b env
 |.bl true=>.ok (.bl true)
 |_=>.stuck
def wp(ha:SE X T W a ma):SE X T W (.UnaryOp .Not a pos) (qx ma):=PE.wk (Ds (pos:=pos) ha) λY H Q hz1=>by
 obtain⟨Z,F,env,fp,S,q⟩:=hz1;unfold qx at q;refine tE.bq S λx v H1 F1 f1 e1 g1 r1 n1 d1 w1=>?_;rw[e1]at q;cases x with
 |bl b=>unfold Rel at r1;exact⟨b,r1.1,q.scal g1 jp⟩
 |_=>exact q.elim
def gX(ha:SE X T W a ma):SE X T W (.BoolOp op [a] pos) ma:=Dr ha
def tE.later(S:ax T Z F H Y env fp)(g1:Gr F H F' H')(q:GE T W Z.B F (Own fp) Y H Q (m env)):tE T W m Y H' Q:=by
 refine⟨Z,F',env,fp,S.grow g1,?_⟩;cases e2:m env with
 |ok b=>rw[e2]at q;exact λv H2 F2 f g2 r n d w=>q v H2 F2 f (g1.trans g2) r n d λa ha=>g1.ext.free (w a ha)
 |exc c=>rw[e2]at q;exact λH' x=>q H' (g1.ext.trans x)
 |stuck=>rw[e2]at q;exact q
def kn{rest:List Expr}(ha:SE X T W a ma)(hb:SE X T W (.BoolOp .And (b::rest) pos) mb):SE X T W (.BoolOp .And (a::b::rest) pos) (iU ma mb):=PE.wk (Dv ha hb) λY H Q hz1=>by
 obtain⟨Z,F,env,fp,S,q⟩:=hz1;unfold iU at q;refine tE.bq S λx v H1 F1 f1 e1 g1 r1 n1 d1 w1=>?_;rw[e1]at q;cases x with
 |bl b=>
  unfold Rel at r1;refine⟨b,r1.1,?_⟩;cases b with
  |true=>exact(if_pos rfl).mpr (tE.later S g1 q)
  |false=>exact(if_neg (by decide)).mpr (q.scal g1 jp)
 |_=>exact q.elim
def tq{rest:List Expr}(ha:SE X T W a ma)(hb:SE X T W (.BoolOp .Or (b::rest) pos) mb):SE X T W (.BoolOp .Or (a::b::rest) pos) (oW ma mb):=PE.wk (GD ha hb) λY H Q hz1=>by
 obtain⟨Z,F,env,fp,S,q⟩:=hz1;unfold oW at q;refine tE.bq S λx v H1 F1 f1 e1 g1 r1 n1 d1 w1=>?_;rw[e1]at q;cases x with
 |bl b=>
  unfold Rel at r1;refine⟨b,r1.1,?_⟩;cases b with
  |false=>exact(if_neg (by decide)).mpr (tE.later S g1 q)
  |true=>exact(if_pos rfl).mpr (q.scal g1 jp)
 |_=>exact q.elim
def HU(T:Tb)(W:Nat->St->JR)(f:PV->JT)(r:V->Hp->VK->Prop):Prop:=
 ∀(B F L:JJ) (Y:St) (H:Hp) (Q:VK) (F':JJ) (H':Hp) (x:PV) (v:V) (fx:JM),Gr F H F' H'->Rel T F' B L H' x v fx->(∀a∈fx,¬F' a)->fx.Nodup->(∀a∈fx,H a=none)->GE T W B F L Y H Q (f x)->r v H' Q
def tE.mir1(hm:HU T W f r)(h:tE T W (mUn f m) Y H Q):tUn r (tE T W m) Y H Q:=by obtain⟨Z,F,env,fp,S,q⟩:=h;unfold mUn at q;refine tE.bq S λx v H1 F1 f1 e1 g1 r1 n1 d1 w1=>?_;rw[e1]at q;exact hm Z.B F (Own fp) Y H Q F1 H1 x v f1 g1 r1 n1 d1 w1 q
def Dw:PV->JT
 |.int i=>.ok (.int (-i))
 |_=>.stuck
def C5(ha:SE X T W a m):SE X T W (.UnaryOp .USub a pos) (mUn Dw m):=PE.wk (Cn (pos:=pos) v8 ha) λY H Q h=>tE.mir1 (λB F L Y H Q F' H' x v fx g r _ _ _ q=>by
 cases x with
 |int i=>unfold Rel at r;exact⟨i,r.1,q.scal g fQ⟩
 |_=>exact q.elim) h
def a_(k:Nat):List Nat->JS->Option PV
 |j::ks,v::vs=>if j=k then some v else a_ k ks vs
 |_,_=>none
def Fl.JY:Fl->Bool
 |.own=>true
 |_=>false
def ap(k:Nat):PV->JT
 |.obj f _ ks vs=>match a_ k ks vs with
  |some v=>if f.JY&&v.has Fl.JY then .stuck else .ok v
  |none=>.stuck
 |_=>.stuck
mutual
def Rel.J3:∀{x:PV}{v:V}{fp:JM},x.has Fl.JY=false->Rel T F B L H x v fp->fp=[]
 |.non,_,_,_,h|.bl _,_,_,_,h|.int _,_,_,_,h|.str _,_,_,_,h=>by unfold Rel at h;exact h.2
 |.lst f xs,_,fp,hp,h=>by
  unfold Rel at h;simp only[PV.has,or_eq_false_iff]at hp;obtain⟨a,vs,fp',e,hl,hr,hf⟩:=h;cases f with
  |own=>exact absurd hp.1 (by decide)
  |frz|bor|lnt|mod=>exact hf.2
 |.tup xs,_,fp,hp,h=>by unfold Rel at h;simp only[PV.has]at hp;obtain⟨a,vs,e,hl,hr⟩:=h;exact RelL.J3 hp hr
 |.obj f c ks xs,_,fp,hp,h=>by
  unfold Rel at h;simp only[PV.has,or_eq_false_iff]at hp;obtain⟨a,dx,vs,fp',e,hl,hk,hr,hf,ha⟩:=h;cases f with
  |own=>exact absurd hp.1 (by decide)
  |frz|bor|lnt|mod=>exact hf.2
 |.exc c,_,fp,hp,h=>by unfold Rel at h;obtain⟨a,_,_,e⟩:=h;exact e
 |.box k xs,_,fp,hp,h=>by unfold Rel at h;obtain⟨a,vs,e,hl,hr⟩:=h;exact RelL.J3 hp hr
def RelL.J3:∀{xs:JS}{vs:JQ}{fp:JM},hasL Fl.JY xs=false->RelL T F B L H xs vs fp->fp=[]
 | [],_,_,_,h=>by unfold RelL at h;exact h.2
 |x::xs,_,fp,hp,h=>by unfold RelL at h;simp only[hasL,or_eq_false_iff]at hp;obtain⟨v,ws,f1,f2,e,h1,h2,rfl⟩:=h;rw[Rel.J3 hp.1 h1,RelL.J3 hp.2 h2];rfl
end
theorem RelL.get:∀{xs:JS}{vs:JQ}{fp:JM}{i:Nat}{x:PV},RelL T F B L H xs vs fp->xs[i]?=some x->∃v f,vs[i]?=some v/\Rel T F B L H x v f/\f.Sublist fp
 | [],_,_,_,_,_,e=>by simp at e
 |y::xs,_,fp,0,x,h,e=>by
  unfold RelL at h
  grind
 |y::xs,_,fp,i+1,x,h,e=>by unfold RelL at h;obtain⟨v,ws,f1,f2,rfl,h1,h2,rfl⟩:=h;obtain⟨w,f,e1,r,s⟩:=RelL.get (i:=i) h2 (by simpa using e);exact⟨w,f,by simpa using e1,r,s.trans (List.sublist_append_right _ _)⟩
def qJ:∀{ks:List Nat}{xs:JS}{vs:JQ}{fp:JM}{x:PV},RelL T F B L H xs vs fp->a_ k ks xs=some x->∃v f,((ks.map T.att).zip vs).lookup (T.att k)=some v/\Rel T F B L H x v f/\f.Sublist fp
 | [],_,_,_,_,_,e|j::ks,[],_,_,_,_,e=>by simp[a_]at e
 |j::ks,y::xs,_,fp,x,h,e=>by
  unfold RelL at h;obtain⟨v,ws,f1,f2,rfl,h1,h2,rfl⟩:=h;unfold a_ at e;by_cases hj:j=k
  .rw[if_pos hj]at e;cases e;subst hj;exact⟨v,f1,by simp,h1,List.sublist_append_left _ _⟩
  .rw[if_neg hj]at e;obtain⟨w,f,e1,r,s⟩:=qJ (ks:=ks) h2 e;refine⟨w,f,?_,r,s.trans (List.sublist_append_right _ _)⟩;have:(T.att k==T.att j)=false:=by rw[beq_eq_false_iff_ne];exact λz=>hj (T.inj _ _ z).symm
   rw[map_cons,zip_cons_cons,List.lookup_cons,this];exact e1
def Ao(hK:X.K=T.K)(hf:T.att k=f)(hc:∀c<T.nc,Cls T.K (T.cls c))(hn:∀c<T.nc,fv T.K (T.cls c) f)(h:tE T W (mUn (ap k) m) Y H Q):Gp X.K (tE T W m) f Y H Q:=by
 obtain⟨Z,F,env,fp,S,q⟩:=h;unfold mUn at q;refine tE.bq S λx v H1 F1 f1 e1 g1 r1 n1 d1 w1=>?_;rw[e1]at q;cases x with
 |obj fl c ks xs=>
  simp only[Res.J4,ap]at q;cases e2:a_ k ks xs with
  |none=>rw[e2]at q;exact q.elim
  |some y=>
   rw[e2]at q;dsimp only at q;unfold Rel at r1;obtain⟨a,dx,vs,fp',rfl,hl,hk,hr,hfl,_⟩:=r1;obtain⟨w,f',l1,l2,l3⟩:=qJ hr e2;have e0:f'=[]:=by
    cases fl with
    |own=>
     simp only[Fl.JY,Bool.true_and]at q;by_cases ho:y.has Fl.JY=true
     .rw[if_pos ho]at q;exact q.elim
     .exact Rel.J3 (by simpa using ho) l2
    |frz|bor|lnt|mod=>obtain⟨rfl,_⟩:=hfl;exact List.sublist_nil.mp l3
   subst e0;by_cases hb:(fl.JY&&y.has Fl.JY)=true
   .rw[if_pos hb]at q;exact q.elim
   .rw[if_neg hb]at q;rw[hK];exact⟨a,_,dx,_,w,rfl,hl,hc c hk.2,hn c hk.2,by rw[<- hf];exact l1,q.scal g1 l2⟩
 |_=>exact q.elim
def AG(hK:X.K=T.K)(hf:T.att k=f)(hc:∀c<T.nc,Cls T.K (T.cls c))(hn:∀c<T.nc,fv T.K (T.cls c) f)(he:SE X T W e m)(hb:attributeBase e f X.env (eval e X.env)=eval e X.env:=by rfl) :
  SE X T W (.Attribute e f pos) (mUn (ap k) m):=PE.wk (Du (pos:=pos) he hb) λY H Q h=>Ao hK hf hc hn h
end
end PR
namespace L2
open PySem PySem.Spec
def d0.there(x:d0 P w H h a o):∃u,h.get? a=some u:=by
 cases o with
 |lst xs=>obtain⟨_,_,_,_,e⟩:=x;exact⟨_,e⟩
 |tup xs=>obtain⟨_,_,_,o,e,_⟩:=x;exact⟨_,e⟩
 |dK kvs|dT kvs=>obtain⟨_,_,_,_,o,_,_,e,_⟩:=x;exact⟨_,e⟩
 |set S n=>obtain⟨o,_,_,_,e,_⟩:=x;exact⟨_,e⟩
 |ins C dx fs=>obtain⟨_,_,_,e,_⟩:=x;exact⟨_,e⟩
 |own y=>exact x
 |xd fs=>obtain⟨_,⟨_,_,_,e,_⟩,_⟩:=x;exact⟨_,e⟩
 |rng lo hi=>obtain⟨_,_,_,e⟩:=x;exact⟨_,e⟩
 |frz ob u=>obtain⟨e,_⟩:=x;exact⟨_,e⟩
 |tbl ps=>obtain⟨_,e,_⟩:=x;exact⟨_,e⟩
 |met f y=>exact⟨_,(show h.get? a=some _ from x)⟩
 |ext φ=>obtain⟨_,q,_⟩:=x;exact q
end L2
namespace PR
open PySem PySem.Spec L2
structure Fly(P:Program)(w:World)(outer:List Env)(H:Hp)(s:Shared)(cls:Value)(H':Hp)(e:Value)(s':Shared):Prop where
 os:s'.os=s.os
 bare:PyProof.Rows.AllBare s'.gens
 un:Un (frs outer) [] H H' s.heap s'.heap
 hok:HOk P w H' s'.heap
 fly:∃x a0 Bh,e=.ref x/\Heap.FlyingW Bh outer x cls a0 s'.heap/\(∀b o u,H' b=some u->s'.heap.get? b=some o->Bh.get? b=some o)/\
  (∀b o o',s'.heap.get? b=some o->s.heap.get? b=some o'->b∉frs outer->Bh.get? b=some o)
def CXP(P:Program)(w:World):CXT:=λouter H s E e s'=>∃cls H',Fly P w outer H s cls H' e s'/\E cls none H'
def XF(X:Cx)(T:Tb)(W:Nat->St->JR):Prop:=∀(js:JI) (Y:St) (H:Hp) (s:Shared) (c:Nat) (H':Hp) (e:Value) (s':Shared),L2.Inv X js Y H s->Fly X.prog X.w X.stack H s (.ref (T.xcl c)) H' e s'->W c Y H'->X.xe e s'
def XM(X:Cx)(T:Tb)(W:Nat->St->JR):Prop:=∀(js:JI) (Y:St) (H:Hp) (s:Shared) (c:Nat) (h':Heap) (e:Addr) (vs:JL),L2.Inv X js Y H s->Heap.MadeExcOf s.heap h' e (.ref (T.xcl c)) vs->W c Y H->X.xe (.ref e) {s with heap:=h'}
section
variable{P:Program}{w:World}{K:PySem.W.Frag}{mg:JG}{base:Heap}{N:JN}{qual:Str}{scope:Scope}{f:Addr}{cd:Value}{A:Around}{outer:List Env}{s:Shared}{H:Hp}{E:XK}
def BR{H:Hp}{h h' Bh:Heap}(ok:HOk P w H h)(k:∀b o u,H b=some u->h.get? b=some o->Bh.get? b=some o)(st:Bh.StaysIn h'):HOk P w H h':=λa o e=>
 (ok a o e).stay (λb u hb q=>by
  rcases hb with rfl|hb
  .exact st _ _ (k b u _ e q)
  .exact st _ _ (k b u _ hb q)) (λ_ q=>q) λ_ _ _ q=>q
def nU(I:L2.Inv X js Y H1 s1)(hst:X.stack=X.env::X.outer)(hex:X.ex=[])(hfrm:X.env.frame=some X.env.locals)
  (hos:os2=s1.os) (hb:PyProof.Rows.AllBare g2) (u2:Un (frs X.stack) [] H1 H2 s1.heap h2) (ok:HOk X.prog X.w H2 h2) (tr:∀b o u,H2 b=some u->h2.get? b=some o->Bh.get? b=some o)
  (ol:∀b o o',h2.get? b=some o->s1.heap.get? b=some o'->b∉frs X.stack->Bh.get? b=some o) (fl:Heap.FlyingW Bh X.outer x cls a0 h') (up:h2.UpToSlots h') :
  Fly X.prog X.w X.outer X.H₀ X.s₀ cls H2 (.ref x) ⟨h',g2,d2,t2,os2⟩:=by
 have u1:=I.base;rw[hex]at u1;have hfs:frs X.stack=X.env.locals::frs X.outer:=by rw[hst];show List.filterMap _ _=_;rw[List.filterMap_cons,hfrm];rfl
 have u:Un (frs X.stack) [] X.H₀ H2 X.s₀.heap h2:=(u1.mono (λb hb=>by rw[hfs];exact mem_cons_of_mem _ hb) λ_ z=>z).trans u2;have neL:∀b o,X.s₀.heap.get? b=some o->b≠X.env.locals:=λb o e=>Nat.ne_of_lt (Nat.lt_of_lt_of_le (lt_size e) I.ok.above);have nst:∀b o,X.s₀.heap.get? b=some o->b∉frs X.outer->b∉frs X.stack:=λb o e hn hb=>by
  rw[hfs]at hb;rcases mem_cons.mp hb with z|z
  .exact neL b o e z
  .exact hn z
 have data:∀b o,X.s₀.heap.get? b=some o->b∈frs X.outer->∀vs,o.data≠.fields vs:=λb o e hb vs z=>by obtain⟨_,o',ho',hd'⟩:=I.ok.funs.mem hb;rw[e]at ho';cases ho';exact hd' vs z
 refine⟨hos.trans I.os,hb,⟨λb o e n hf _=>?_,λb o e n hf _=>?_,u.free,λb o e _=>?_,u.tups,u.frzs,u.tbls⟩,BR ok tr fl.1,⟨x,a0,Bh,rfl,fl,λb o v e q=>?_,λb o o' e q hf=>?_⟩⟩
 .have q:=u.keep b o e n (nst b o e hf) (by simp);obtain⟨o1,e1⟩:=u1.there b o e (by simp);exact fl.1 b o (ol b o o1 q e1 (nst b o e hf))
 .obtain⟨sl,q⟩:=u.slot b o e n (by rw[hfs];exact mem_cons_of_mem _ hf) (by simp);obtain⟨sl',q'⟩:=up b _ q (data b o e hf);exact⟨sl',q'⟩
 .by_cases hf:b∈frs X.outer
  .obtain⟨_,o2,ho2,_⟩:=fl.2.2.1.mem hf;exact⟨o2,ho2⟩
  .obtain⟨o1,e1⟩:=u1.there b o e (by simp);obtain⟨o2,e2⟩:=u2.there b o1 e1 (by simp);exact⟨o2,fl.1 b o2 (ol b o2 o1 e2 e1 (nst b o e hf))⟩
 .have hlt:=ok.lt e;obtain⟨o2,e2⟩:∃o2,h2.get? b=some o2:=by have x:=ok b v e;exact d0.there x
  have:=fl.1 b o2 (tr b o2 v e e2);rw[q]at this;cases this;exact tr b o v e e2
 .obtain⟨o1,e1⟩:=u1.there b o' q (by simp);obtain⟨o2,e2⟩:=u2.there b o1 e1 (by simp);have hB:=ol b o2 o1 e2 e1 (nst b o' q hf);have:=fl.1 b o2 hB;rw[e]at this;cases this;exact hB
end
section
variable{P:Program}{w:World}{K:PySem.W.Frag}{mg:JG}{base:Heap}{N:JN}{qual:Str}{scope:Scope}{f:Addr}{cd:Value}{A:Around}{outer:List Env}{s:Shared}{H:Hp}{E:XK}{T:Tb}
abbrev WD(T:Tb)(E:XK):Nat->St->JR:=λc _ H=>E (.ref (T.xcl c)) none H
def CM:XF (fG (CXP P w) P w K mg base N qual scope f cd A outer s H E) T (WD T E):=by intro js Y H1 s1 c H2 e s2 I fl hW;obtain⟨x,a0,Bh,rfl,fly,tr,ol⟩:=fl.fly;refine wpAny_leaves_onW (L:=s.heap.objs.size) I.ok.frames rfl fly λh' fly' up=>?_;obtain⟨h2,g2,d2,t2,os2⟩:=s2;exact⟨_,H2,nU I rfl rfl rfl fl.os fl.bare fl.un fl.hok tr ol fly' up,hW⟩
def cy:XM (fG (CXP P w) P w K mg base N qual scope f cd A outer s H E) T (WD T E):=by
 intro js Y H1 s1 c h2 e vs I mx hW;have hin:∀env ∈(fG (CXP P w) P w K mg base N qual scope f cd A outer s H E).stack,∀b,env.frame=some b->b∈frs (fG (CXP P w) P w K mg base N qual scope f cd A outer s H E).stack:=λenv he b hb=>List.mem_filterMap.mpr ⟨env,he,hb⟩;refine wpAny_leaves_madeW (base:=hideAll s1.heap (frs (fG (CXP P w) P w K mg base N qual scope f cd A outer s H E).stack)) (h:=s1.heap) (L:=s.heap.objs.size) I.ok.frames rfl (λb o q=>PySem.W.of_hideAll _ q) (PySem.W.funFrames_hide I.stack hin) mx λh' t fly' _ _ up=>?_;obtain⟨h1,g1,d1,t1,os1⟩:=s1;have fresh:∀b o,h1.get? b=some o->h2.get? b=some o:=mx.keeps;have nfr:∀b u,H1 b=some u->b∉frs (fG (CXP P w) P w K mg base N qual scope f cd A outer s H E).stack:=λb u e hb=>by rw[I.stkFree b hb]at e;cases e
 refine⟨_,H1,nU I rfl rfl rfl rfl I.bare (h2:=h2) (Bh:=hideAll h1 (frs (fG (CXP P w) P w K mg base N qual scope f cd A outer s H E).stack)) (Un.kept fresh) (I.hok.kept fresh) (λb o u e q=>?_) (λb o o' e q hb=>?_) fly' up,hW⟩
 .obtain⟨o1,e1⟩:=d0.there (I.hok b u e);have:=fresh b o1 e1;rw[q]at this;cases this;exact hideAll_get _ e1 (nfr b u e)
 .have:=fresh b o' q;rw[e]at this;cases this;exact hideAll_get _ q hb
end
structure Jq(X:Cx)(x:Str)(C:Addr):Prop where
 bm:X.mg x=some (.ref C)
 obj:∃bm N nm q bs hdct sn sub ab col dd k0 k1 k2 k3 k5 mN,X.base.get? C=some (excClassObj nm q C N bs bm hdct sn sub ab col dd k0 k1 k2 k3 k5 "ValueError.__new__")/\X.base.Ns N mN/\mN "__init__"=none /\
  OwnTail X.base [.type "ValueError",.type "Exception",.type "BaseException",.type "object"] bm
section
variable{X:Cx}{T:Tb}{W:Nat->St->JR}
theorem we(O:Jq X x (T.xcl c))(hx:XM X T W)(hc:X.calm=true)(hg:Gl X x)(ha:SA X T W (e::es) ms)(hne:∀env pvs,ms env=.ok pvs->pvs.length<=100)(hd:(x ==("__debug__":Str))=false:=by decide)
  (he:starEach (e::es) X.env=(false,eval e X.env)::starEach es X.env:=by rfl) (hpl:(backTo cpos (starEach es X.env)).any (·.1)=false:=by rfl) :
  SS X T W (.Raise (some (.Call (.Name x np) (e::es) [] cpos)) none pos) (λenv=>match ms env with
   |.ok _=>.exc c env
   |.exc k=>.exc k env
   |.stuck=>.stuck):=by
 intro js s Y H D I h;obtain⟨Z,F,env,fp,S,q⟩:=h;dsimp only at q;obtain⟨tl,N,nm,qn,bs,hdct,sn,sub,ab,col,dd,k0,k1,k2,k3,k5,mN,hC,hN,hni,TL⟩:=O.obj;refine wpAny_Raise_call_subT (C:=T.xcl c) (nm:=nm) (q:=qn) (N:=N) (bs:=bs) (bm:=tl) (hdct:=hdct) (sn:=sn) (sub:=sub) (ab:=ab) (col:=col) (dd:=dd) (k0:=k0) (k1:=k1) (k2:=k2) (k3:=k3) (k5:=k5)
  PySem.F.excBase_ValueError (mN:=mN) (TL.hasType PySem.F.excBase_ValueError.hasBase) (I.ok.hd hc) (by rw[he];show(false ||(backTo cpos (starEach es X.env)).any (·.1))=false;rw[hpl];rfl) hni (kc I hg O.bm ⟨rfl,?_⟩ hd)
 have h2:=ha cpos js s Y H (λvs H'=>vs.length <= 100/\W c Y H') I (tA.bind S (λk e H' x=>by rw [e] at q;exact q F H' Y fp (S.grow (Gr.same S.hp.ft x))) (λe=>by rw [e] at q;exact q) λpvs vs H' F' f e g r _ _ _=>by
  rw[e]at q;exact⟨by rw[<- r.length];exact hne env pvs e,q F' H' Y fp (S.grow g)⟩)
 rw[he]at h2 ⊢;refine Calls.evalArgs_plain (wpAny_mono h2 (λvs s₂ h₂=>?_) λ_ _ y=>y);obtain⟨vs',H',I2,rv,hl,hw⟩:=h₂;refine⟨rfl,?_,I2.bk _ _ hC,hN.keeps I2.bk,TL.keeps I2.bk,λh' e' mx=>hx js Y H' s₂ c h' e' vs I2 mx hw⟩;rw[<- rv.length,sizeLine_eq];omega
end
def aN(m:JS->JT)(xs:JS):JT:=match m (mapL Fl.JV xs)with
 |.ok v=>if v.has Fl.J0 then .stuck else .ok v
 |.exc c=>.exc c
 |.stuck=>.stuck
def bh(n:Nat)(m:MS)(args:JS):JT:=match m (args.map some++replicate (n-args.length) none)with
 |.next _=>.ok .non
 |.ret v=>.ok v
 |.exc c _=>.exc c
 |_=>.stuck
def GF(T:Tb)(Z:Zn)(Q:VK)(E:XK):JT->Prop
 |.ok pv=>∀F H v f,cF T Z F H->Rel T F Z.B NoL H pv v f->f.Nodup->(∀a∈f,¬F a)->(∀a∈f,Z.H0 a=none\/Z.fp0 a)->Q v H
 |.exc c=>∀H,(∀a o,Z.H0 a=some o->¬Z.fp0 a->H a=some o)->E (.ref (T.xcl c)) none H
 |.stuck=>False
structure v3(T:Tb)(F B:JJ)(H:Hp)(pvs:JS)(vs:JQ)(f:JM):Prop where
 rel:RelL T F B NoL H pvs vs f
 nd:f.Nodup
 nf:∀a∈f,¬F a
 bo:(∀a,B a->(∃o,H a=some o)/\a∉f)/\Cg T H (·∈f)
 ft:∀a,F a->∃o,H a=some o
def spM(T:Tb)(n:Nat)(m:JS->JT):Sp:=λvs H Q E=>vs.length=n/\∃pvs F B f,v3 T F B H pvs vs f/\GF T ⟨H,F,(·∈f),B,none⟩ Q E (m pvs)
theorem RelL.split:∀{xs:JS}{vs:JQ}{f:JM},RelL T F B L H xs vs f->f.Nodup ->
  ∃g:Nat->JM,(∀(i:Nat) x v,xs[i]?=some x->vs[i]?=some v->Rel T F B L H x v (g i))/\(∀i,(g i).Nodup)/\(∀i j,i≠j->∀a∈g i,a∉g j)/\∀i a,a∈g i->a∈f
 | [],_,_,_,_=>⟨λ_=>[],λi x v e=>by simp at e,λ_=>nodup_nil,λ_ _ _ _ z=>(nomatch z),λ_ _ z=>(nomatch z)⟩
 |x::xs,_,_,h,nd=>by
  unfold RelL at h;obtain⟨v,ws,f1,f2,rfl,h1,h2,rfl⟩:=h;obtain⟨n1,n2,n3⟩:=nodup_append.mp nd;obtain⟨g,g1,g2,g3,g4⟩:=RelL.split h2 n2;refine⟨λi=>match i with|0=>f1|j+1=>g j,λi y u e1 e2=>?_,λi=>?_,λi j hij a ha=>?_,λi a ha=>?_⟩
  .cases i with
   |zero=>simp at e1 e2;subst e1 e2;exact h1
   |succ i=>exact g1 i y u (by simpa using e1) (by simpa using e2)
  .cases i with
   |zero=>exact n1
   |succ i=>exact g2 i
  .grind
  grind
section
variable{P:Program}{w:World}{K:PySem.W.Frag}{mg:JG}{base:Heap}{T:Tb}
def oi(N:JN)(R:v3 T F B H pvs vs f)(pin:Option V)(hpin:∀v,pin=some v->vs[0]?=some v/\∃fl c ks xs,pvs[0]?=some (.obj fl c ks xs)) :
  ∃fp,ax T ⟨H,F,(·∈f),B,pin⟩ F H (L2.start N vs) (pvs.map some++replicate (N.length-pvs.length) none) fp:=by
 obtain⟨g,g1,g2,g3,g4⟩:=R.rel.split R.nd;have hl:=R.rel.length;refine⟨g,⟨R.bo,λ_ _ h _=>h,λ_ h=>h,λ_ h=>.inl h,R.ft⟩,?_,λi pv e=>?_,g2,g3,λi a ha=>⟨R.nf a (g4 i a ha),R.rel.there a (g4 i a ha)⟩,λi a ha=>.inr (g4 i a ha),λi a ha=>R.rel.chg a (g4 i a ha),λv hv=>?_⟩
 .unfold L2.start;simp[hl]
 .by_cases hi:i<pvs.length
  .rw[getElem?_append_left (by simpa using hi),getElem?_map]at e;obtain⟨x,e1,e2⟩:=map_eq_some_iff.mp e;cases e2;obtain⟨v,_,ev,_⟩:=R.rel.get e1;refine⟨v,?_,g1 i pv v e1 ev⟩;unfold L2.start;rw[getElem?_append_left (by simpa[<- hl]using hi),getElem?_map,ev];rfl
  .rw[getElem?_append_right (by simpa using hi),getElem?_replicate]at e;split at e<;>cases e
 .obtain⟨h1,fl,c,ks,xs,h2⟩:=hpin v hv;have hl0:0<vs.length:=(List.getElem?_eq_some_iff.mp h1).1;have hp0:0<pvs.length:=(List.getElem?_eq_some_iff.mp h2).1;unfold L2.start dw;rw[getElem?_append_left (by simpa using hl0),getElem?_append_left (by simpa using hp0),getElem?_map,getElem?_map,h1,h2];exact⟨rfl,rfl⟩
def HF(F:Fun K x qual st f fd)(S:eW N ps (aQ st))
  (body:∀ (cdv:Value) (A:Around) (outer:List Env) (s:Shared) (H:Hp) (E:XK),eH k (A.deeper (PyProof.Rows.envOfC qual (aQ st) s.heap.objs.size f cdv)) ->
   SSs (fG (CXP P w) P w K mg base N qual (aQ st) f cdv A outer s H E) T (WD T E) (cM st) m):dD P w K mg base (CXP P w) (k+1) f fd ps (spM T ps.length (bh N.length m)):=by
 obtain⟨oc,od,kV,doc,pm,an,cdv,ct,osl,rfl,lk,hcd⟩:=F.ex;refine CA lk hcd S (λvs H Q E h=>h.1) λA outer s H vs Q E hr hsp=>⟨_,body cdv A outer s H E hr,?_⟩
 obtain⟨_,pvs,F,B,fl,R,q⟩:=hsp;obtain⟨fp,S0⟩:=oi N R none (λ_ h=>nomatch h);refine⟨_,F,_,fp,S0,?_⟩;unfold bh at q;cases e:m (pvs.map some++replicate (N.length-pvs.length) none)with
 |next e'=>rw[e]at q;exact λF' H' σ' fp' S'=>q F' H' .non [] S'.hp IQ nodup_nil (λ_ z=>(nomatch z)) (λ_ z=>(nomatch z))
 |ret v=>rw[e]at q;exact q
 |brk e'|cont e'=>rw[e]at q;exact q.elim
 |exc c e'=>rw[e]at q;exact λF' H' σ' fp' S'=>q H' S'.hp.keep
 |stuck=>rw[e]at q;exact q.elim
end
def xB(hB:∀a,B a->B' a)(hL:∀a,L a->B' a):Mp T Fl.JV (λ_=>false) (λx=>x) (λ_=>True) F B L H F B' L' H:=
 ⟨λf a vs _ c h=>by
  cases f with
  |bor=>exact⟨hB a h.1,h.2⟩
  |lnt=>exact⟨hL a h.1,.inl h.2⟩
  | _=>exact h,λf a _ c h=>⟨by
  cases f with
  |bor=>exact hB a h
  |lnt=>exact hL a h
  |_=>exact h,λ_ q=>q⟩,λf a x y h=>by cases f<;>exact h,rfl,λ_ _=>rfl,λ_ _ q _=>q⟩
def RelL.JV(hB:∀a,B a->B' a)(hL:∀a,L a->B' a)(h:RelL T F B L H x v fo):RelL T F B' L' H (mapL Fl.JV x) v fo:=(xB hB hL).rels (has_noL x) (λ_ _=>True.intro) h
def Rel.noB(hp:x.has Fl.J0=false)(h:Rel T F B L H x v fo):Rel T F B' L H x v fo:=by
 have:=(xC (p:=Fl.J0) (B':=B') (λ_ _ q=>q) (λz=>(nomatch z))).rel hp (λ_ _=>True.intro) h
 rwa [lw]at this
def RelL.append:∀{xs ys:JS}{vs us:JQ}{f g:JM},RelL T F B L H xs vs f->RelL T F B L H ys us g->RelL T F B L H (xs++ys) (vs++us) (f++g)
 | [],_,_,_,_,_,h,r=>by unfold RelL at h;obtain⟨rfl,rfl⟩:=h;exact r
 |x::xs,_,_,_,_,_,h,r=>by unfold RelL at h;obtain⟨v,ws,f1,f2,rfl,h1,h2,rfl⟩:=h;show RelL T F B L H (x::(xs++_)) (v::(ws++_)) _;unfold RelL;exact⟨v,_,f1,_,rfl,h1,RelL.append h2 r,by rw[List.append_assoc]⟩
section
variable{X:Cx}{T:Tb}{W:Nat->St->JR}{Z:Zn}{F F1:JJ}{H H1:Hp}{Y:St}{env:En}{fp:Nat->JM}
def wx
  (G:dD X.prog X.w X.K X.mg X.base (CXP X.prog X.w) k f fd ps (spM T ps.length m)) (hr:eH k X.A) (hb:f8 X.K fd ps ds) (hd:aU dvs ds) (hdp:∀F B L H,RelL T F B L H dps dvs []) (hx:XF X T W)
  (S:ax T Z F H Y env fp) (g:Gr F H F1 H1) (r:RelL T F1 Z.B (Own fp) H1 xs vs fx) (nf:∀a∈fx,¬F1 a) (nd:fx.Nodup) (new:∀a∈fx,H a=none) (q:GE T W Z.B F (Own fp) Y H Q (aN m (xs++dps)))
  (I1:L2.Inv X js Y H1 s1) (rv:aU vs us) (hlen:vs.length+dvs.length=ps.length):wpAny (model X.prog X.w) X.A (call (.ref f) us) (EP X js Y Q) X.xe s1:=by
 have r2:aU (vs++dvs) (us++ds):=rv.append hd;have hl:(us++ds).length=ps.length:=by rw[<- r2.length,length_append];exact hlen
 have rr:RelL T F1 Z.B (Own fp) H1 (xs++dps) (vs++dvs) fx:=by
  have:=RelL.append r (hdp F1 Z.B (Own fp) H1)
  rwa [append_nil]at this
 have hBo:∀a,Z.B a->(∃o,H1 a=some o)/\a∉fx:=λa h=>by obtain⟨⟨o,h1⟩,h2⟩:=S.hp.bo.1 a h;have h3:=S.hp.keep a o h1 h2;exact⟨⟨o,g.ext a o h3⟩,λz=>by rw[new a z]at h3;cases h3⟩
 have hOw:∀a,Own fp a->(∃o,H1 a=some o)/\a∉fx:=λa hz1=>by obtain⟨i,hi⟩:=hz1;obtain⟨_,o,ho⟩:=S.dis i a hi;exact⟨⟨o,g.ext a o ho⟩,λz=>by rw[new a z]at ho;cases ho⟩
 have R:v3 T F1 (λa=>(∃o,H1 a=some o)/\a∉fx) H1 (mapL Fl.JV (xs++dps)) (vs++dvs) fx:=⟨RelL.JV hBo hOw rr,nd,nf,⟨λa h=>h,S.tbo g.ext λa z=>.inl (new a z)⟩,g.dom⟩
 refine wpAny_call (codeAny_mono (G.run X.A X.stack s1 H1 ⟨us,[]⟩ (us ++ ds) (vs ++ dvs) Q (λcls _ H'=>∃ c,cls=.ref (T.xcl c)/\W c Y H') hr I1.env0 (hb s1 us I1.kIn hl) r2
  ⟨by rw[r2.length,hl],_,F1,_,fx,R,?_⟩) λrs s' hq=>?_)
 .unfold aN at q;cases e:m (mapL Fl.JV (xs++dps))with
  |ok v=>
   rw[e]at q;dsimp only at q;intro F2 H2 u f2 hp2 r3 nd2 nf2 new2;by_cases hbr:v.has Fl.J0=true
   .rw[if_pos hbr]at q;exact q.elim
   .rw[if_neg hbr]at q;have hbr':v.has Fl.J0=false:=by simpa using hbr
    refine q u H2 F2 f2 ⟨λa o h=>hp2.keep a o (g.ext a o h) λz=>(by rw[new a z]at h;cases h),λa h=>hp2.f0 a (g.mono a h),λa h=>?_,hp2.ft⟩ ?_ nf2 nd2 λa ha=>?_
    .rcases hp2.fn a h with z|z|z
     .exact g.only a z
     .exact .inr (g.ext.free z)
     .exact .inr (new a z)
    .exact Rel.tr (λ_ h=>h) (λ_ h=>h) (λ_ h=>h.elim) (λ_ _ h _=>h) (λ_ _ _ h=>h) (Rel.noB (B':=Z.B) hbr' r3)
    .rcases new2 a ha with z|z
     .exact g.ext.free z
     .exact new a z
  |exc c=>rw[e]at q;exact λH' h=>⟨c,rfl,q H' λa o z=>h a o (g.ext a o z) λz'=>by rw[new a z']at z;cases z⟩
  |stuck=>rw[e]at q;exact q.elim
 .cases rs with
  |error e=>obtain⟨cls,H',fl,c,rfl,hw⟩:=hq;exact hx js Y H1 s1 c H' e s' I1 fl hw
  |ok fl=>
   cases fl with
   |ret u=>exact I1.after hq
   |next|brk|cont=>exact False.elim hq
def AF
  (G:dD X.prog X.w X.K X.mg X.base (CXP X.prog X.w) k f fd ps (spM T ps.length m)) (hr:eH k X.A) (hg:Gl X x) (hm:X.mg x=some (.ref f)) (hk:PySem.W.keepIn X.K (.ref f)=true) (hb:f8 X.K fd ps ds) (hd:aU dvs ds) (hdp:∀F B L H,RelL T F B L H dps dvs []) (hx:XF X T W)
  (hn:∀env xs,ms env=.ok xs->xs.length+dvs.length=ps.length) (ha:SA X T W (e::es) ms)
  (hdb:(x ==("__debug__":Str))=false:=by decide) (he:starEach (e::es) X.env=(false,eval e X.env)::starEach es X.env:=by rfl) (hpl:(backTo pos (starEach es X.env)).any (·.1)=false:=by rfl) :
  SE X T W (.Call (.Name x p) (e::es) [] pos) (aq (λxs=>aN m (xs++dps)) ms):=by
 intro js s Y H Q I h;obtain⟨Z,F,env,fp,S,q⟩:=h;unfold aq at q;refine wpAny_Call_Name_kw (kc I hg hm ?_ hdb);refine callWith_K (h₀:=X.base) I.ok.mod.kin hk (thn (ha pos js s Y H (λvs H1=>∀ us s1,L2.Inv X js Y H1 s1->aU vs us->wpAny (model X.prog X.w) X.A (call (.ref f) us) (EP X js Y Q) X.xe s1) I
  (tA.bq S λxs vs H1 F1 f1 e1 g1 r1 n1 d1 w1 us s1 I1 rv=>?_)) λus s1 ⟨vs,H1,I1,r,q1⟩=>⟨I1.kIn,q1 us s1 I1 r⟩) he hpl
 rw[e1]at q;exact wx G hr hb hd hdp hx S g1 r1 n1 d1 w1 q I1 rv (by rw[<- r1.length];exact hn env xs e1)
def eG(X:Cx)(T:Tb)(k:Nat)(mn:Str)(ps:JN)(ds:JL)(disp:Nat->Option (JS->JT)):Prop:=
 ∀c m,c<T.nc->disp c=some m->∃f fd,Ch X.K (T.cls c) mn f/\f8 X.K fd ps ds/\dD X.prog X.w X.K X.mg X.base (CXP X.prog X.w) k f fd ps (spM T ps.length m)
def t6(disp:Nat->Option (JS->JT))(dps:JS)(o:ME)(ms:MA):ME:=λenv=>(o env).bind λov=>match ov with
 |.obj _ c _ _=>match disp c with
  |some m=>(ms env).bind λxs=>aN m ((ov::xs)++ dps)
  |none=>.stuck
 |_=>.stuck
def k7(hm:∀k,T.att k≠mn):∀(ks:List Nat) (vs:JQ),((ks.map T.att).zip vs).lookup mn=none
 | [],_|j::ks,[]=>rfl
 |j::ks,v::vs=>by rw[map_cons,zip_cons_cons,List.lookup_cons,show(mn==T.att j)=false by rw[beq_eq_false_iff_ne];exact(hm j).symm];exact k7 hm ks vs
def t3
  (hK:X.K=T.K) (hc:∀c<T.nc,Cls T.K (T.cls c)) (hm:∀k,T.att k≠mn) (D:eG X T k mn ps ds disp) (e:disp c=some m) (r:Rel T F1 B L H1 (.obj fl c ks xs) v f1) (I1:L2.Inv X js Y H1 s1) (ru:bV v u)
  (h:∀a f fd,u=.ref a->PySem.W.keepIn X.K (.ref f)=true->f8 X.K fd ps ds->dD X.prog X.w X.K X.mg X.base (CXP X.prog X.w) k f fd ps (spM T ps.length m)->Q (.ref f,[.ref a]) s1) :
  wpAny (model X.prog X.w) X.A (getMethod u mn pl) Q X.xe s1:=by
 unfold Rel at r;obtain⟨a,dx,vs,fp',rfl,hl,hk,hr,_,_⟩:=r;obtain⟨f,fd,M,hb,G⟩:=D c m hk.2 e;obtain rfl:u=Value.ref a:=ru;refine sI I1 hl (by rw[hK];exact hc c hk.2) M (k7 hm _ _) (h a f fd rfl M.kp hb G)
def AB
  (hK:X.K=T.K) (hc:∀c<T.nc,Cls T.K (T.cls c)) (hm:∀k,T.att k≠mn) (D:eG X T k mn ps ds disp) (hr:eH k X.A) (hd:aU dvs ds) (hdp:∀F B L H,RelL T F B L H dps dvs []) (hx:XF X T W)
  (hn:∀env xs,ms env=.ok xs->xs.length+1+dvs.length=ps.length) (ho:SE X T W o mo) (ha:SA X T W (e::es) ms)
  (hst:starEach (e::es) X.env=(false,eval e X.env)::starEach es X.env:=by rfl) (hpl:(backTo pos (starEach es X.env)).any (·.1)=false:=by rfl)
  (ht:eval (.Call (.Attribute o mn apos) (e::es) [] pos) X.env=(do
   let ov <- eval o X.env
   standAt apos.atName
   let(f,first) <- holding [ov] (getMethod ov mn pl)
   callWith pos f first (backTo pos (starEach (e::es) X.env)) (backToKw pos (keywordEach [] X.env))):=by rfl) :
  SE X T W (.Call (.Attribute o mn apos) (e::es) [] pos) (t6 disp dps mo ms):=by
 intro js s Y H Q I h;obtain⟨Z,F,env,fp,S,q⟩:=h;unfold t6 at q;refine methodCall_KW (pl:=pl) (thn (ho js s Y H (λv H1=>∃ ov F1 f1,mo env=.ok ov/\Gr F H F1 H1/\Rel T F1 Z.B (Own fp) H1 ov v f1/\(∀ a ∈ f1,¬ F1 a)/\f1.Nodup/\∀ a ∈ f1,H a=none) I
  (tE.bq S λov v H1 F1 f1 e1 g1 r1 n1 d1 w1=>⟨ov,F1,f1,e1,g1,r1,n1,d1,w1⟩)) λu s1 zz=>?_) ht
 obtain⟨v,H1,I1,ru,ov,F1,f1,e1,g1,r1,n1,d1,w1⟩:=zz;rw[e1]at q;simp only[Res.J4]at q;by_cases hobj:∃fl c ks xs m,ov=.obj fl c ks xs/\disp c=some m
 .obtain⟨fl,c,ks,ys,m,rfl,em⟩:=hobj;dsimp only at q;rw[em]at q;dsimp only at q;refine t3 hK hc hm D em r1 I1 ru λa f fd eu hkp hb G=>?_;subst eu;refine callWith_K (first:=[.ref a]) (h₀:=X.base) I.ok.mod.kin hkp (thn (ha pos js s1 Y H1 (λvs H2=>∀ us s2,L2.Inv X js Y H2 s2->aU vs us->wpAny (model X.prog X.w) X.A (call (.ref f) (.ref a::us)) (EP X js Y Q) X.xe s2) I1
   (tA.bind (S.grow g1) (λc e=>by rw[e]at q;exact λH' x=>q H' (g1.ext.trans x)) (λe=>by rw[e]at q;exact q) λxs vs H2 F2 f2 e2 g2 r2 n2 d2 w2 us s2 I2 rv=>?_)) λus s2 ⟨vs,H2,I2,r,q2⟩=>⟨I2.kIn,q2 us s2 I2 r⟩) hst hpl
  rw[e2]at q;simp only[Res.J4]at q;have nn:∀b∈f1,¬F2 b:=λb hb z=>by
   rcases g2.only b z with z|z
   .exact n1 b hb z
   .obtain⟨oo,hoo⟩:=r1.there b hb;rw[hoo]at z;cases z
  refine wx (xs:=.obj fl c ks ys::xs) (vs:=v::vs) (us:=.ref a::us) (fx:=f1++f2) G hr hb hd hdp hx S (g1.trans g2) (by unfold RelL;exact⟨v,vs,f1,f2,rfl,r1.ext g2.ext g2.mono,r2,rfl⟩) (λb hb=>?_) ?_ (λb hb=>?_) q I2 (.cons ru rv) ?_
  .rcases mem_append.mp hb with hb|hb
   .exact nn b hb
   .exact n2 b hb
  .refine nodup_append.mpr ⟨d1,d2,λb hb c hc z=>?_⟩;subst z;obtain⟨oo,hoo⟩:=r1.there b hb;rw[w2 b hc]at hoo;cases hoo
  .rcases mem_append.mp hb with hb|hb
   .exact w1 b hb
   .exact g1.ext.free (w2 b hb)
  .have:=hn env xs e2;rw[length_cons,<- r2.length];exact this
 .exfalso;cases ov with
  |obj fl c ks ys=>
   cases em:disp c with
   |none=>simp only[em]at q;exact q
   |some m=>exact hobj ⟨fl,c,ks,ys,m,rfl,em⟩
  |_=>exact q
end
def iC(ms:MA)(n:Nat):Prop:=∀env xs,ms env=.ok xs->xs.length=n
def fY:iC ao 0:=λ_ _ h=>by cases h;rfl
def eP(h:iC ms n):iC (ae m ms) (n+1):=λenv xs e=>by
 unfold ae at e;cases e1:m env with
 |ok x=>
  rw[e1]at e;simp only[Res.J4]at e;cases e2:ms env with
  |ok ys=>rw[e2]at e;simp only[Res.J4]at e;cases e;rw[length_cons,h env ys e2]
  |exc c|stuck=>rw[e2]at e;cases e
 |exc c|stuck=>rw[e1]at e;cases e
def a6:PV->Option (JS)
 |.lst _ xs|.tup xs=>some xs
 |_=>none
section
variable{X:Cx}{T:Tb}{W:Nat->St->JR}{Z:Zn}{F F1 B L:JJ}{H H1:Hp}{Y:St}{env:En}{fp:Nat->JM}{D:Ends}
def Rel.seq(r:Rel T F B L H x v fx)(e:a6 x=some xs):∃a vs fx',v=.ref a/\(SqL T.K H a vs\/SqT T.K H a vs)/\RelL T F B L H xs vs fx'/\fx'.Sublist fx:=by
 cases x with
 |lst f ys=>
  cases e;unfold Rel at r;obtain⟨a,vs,fp',rfl,hl,hr,hf⟩:=r;refine⟨a,vs,fp',rfl,.inl hl.sq,hr,?_⟩;cases f with
  |own=>obtain rfl:fx=a::fp':=hf;exact List.sublist_cons_self _ _
  |frz|bor|lnt|mod=>obtain⟨rfl,rfl⟩:=hf;exact Sublist.refl _
 |tup ys=>cases e;unfold Rel at r;obtain⟨a,vs,rfl,hl,hr⟩:=r;exact⟨a,vs,fx,rfl,.inr hl,hr,Sublist.refl _⟩
 |_=>cases e
theorem GE.newL(q:GE T W B F L Y H Q (.ok (.lst .own ys)))(g:Gr F H F1 H1)(r:RelL T F1 B L H1 ys vs fx)(nf:∀a∈fx,¬F1 a)(nd:fx.Nodup)(new:∀a∈fx,H a=none) :
  ∀p,H1 p=none->Q (.ref p) (upd H1 p (.lst vs)):=λp hp=>by
 refine q (.ref p) (upd H1 p (.lst vs)) F1 (p::fx) (g.trans (Gr.same g.dom (Ext.upd hp))) ?_ (λa ha=>?_) ?_ (λa ha=>?_)
 .unfold Rel;exact⟨p,vs,fx,rfl,ce,r.ext (Ext.upd hp) λ_ h=>h,rfl⟩
 .grind[bR,ax,cF,Gr]
 .refine nodup_cons.mpr ⟨λz=>?_,nd⟩;obtain⟨o,ho⟩:=r.there p z;rw[hp]at ho;cases ho
 .rcases mem_cons.mp ha with rfl|ha
  .exact g.ext.free hp
  .exact new a ha
def GE.newT(q:GE T W B F L Y H Q (.ok (.tup ys)))(g:Gr F H F1 H1)(r:RelL T F1 B L H1 ys vs fx)(nf:∀a∈fx,¬F1 a)(nd:fx.Nodup)(new:∀a∈fx,H a=none) :
  ∀p,H1 p=none->Q (.ref p) (upd H1 p (.tup vs)):=λp hp=>by
 refine q (.ref p) (upd H1 p (.tup vs)) F1 fx (g.trans (Gr.same g.dom (Ext.upd hp))) ?_ nf nd new;unfold Rel;exact⟨p,vs,rfl,SqT.of ce,r.ext (Ext.upd hp) λ_ h=>h⟩
theorem small(h:n<=1000):n<=sizeLine:=by rw[sizeLine_eq];omega
def e_(ms:MA):ME:=λenv=>(ms env).bind λxs=>.ok (.lst .own xs)
def jG(ms:MA):ME:=λenv=>(ms env).bind λxs=>.ok (.tup xs)
def C7(ha:SA X T W es ms)(hn:iC ms n)(hs:n<=1000:=by decide):SE X T W (.List es pos) (e_ ms):=PE.wk (Dt (pos:=pos) ha) λY H Q hz1=>by obtain⟨Z,F,env,fp,S,q⟩:=hz1;unfold e_ at q;refine tA.bq S λxs vs H1 F1 f1 e1 g1 r1 n1 d1 w1=>?_;rw[e1]at q;exact⟨small (by rw[<- r1.length,hn env xs e1];exact hs),GE.newL q g1 r1 n1 d1 w1⟩
def C2{x1}(ha:SA X T W es ms)(hn:iC ms n)(hs:n<=1000:=by decide):SE X T W (.Tuple es x1 pos) (jG ms):=PE.wk (wR (pos:=pos) ha) λY H Q hz1=>by obtain⟨Z,F,env,fp,S,q⟩:=hz1;unfold jG at q;refine tA.bq S λxs vs H1 F1 f1 e1 g1 r1 n1 d1 w1=>?_;rw[e1]at q;exact⟨small (by rw[<- r1.length,hn env xs e1];exact hs),GE.newT q g1 r1 n1 d1 w1⟩
def p1(f:PV->JT):JS->JT
 | [x]=>f x
 |_=>.stuck
def RelL.one(r:RelL T F B L H [x] vs f):∃v,vs=[v]/\Rel T F B L H x v f:=by unfold RelL at r;obtain⟨v,ws,f1,f2,rfl,h1,h2,rfl⟩:=r;unfold RelL at h2;obtain⟨rfl,rfl⟩:=h2;exact⟨v,rfl,by rwa [append_nil]⟩
def cX:PV->JT:=λx=>match a6 x with
 |some xs=>.ok (.int xs.length)
 |none=>.stuck
def Bw(hK:X.K=T.K):Mir T W (p1 cX) (λxs H Q=>∃p ys,xs=[.ref p]/\(SqL X.K H p ys\/SqT X.K H p ys)/\Q (.int ys.length) H):=by
 intro B F L Y H Q F' H' xs vs fx g r _ _ _ q
 match xs,r,q with
 | [x],r,q=>
  obtain⟨v,rfl,r1⟩:=r.one;simp only[p1,cX]at q;cases e:a6 x with
  |none=>rw[e]at q;exact q.elim
  |some ys=>rw[e]at q;obtain⟨a,ws,fx',rfl,hs,hr,_⟩:=r1.seq e;exact⟨a,ws,rfl,by rw[hK];exact hs,q.scal g (by rw[<- hr.length];exact fQ)⟩
 | [],_,q|_::_::_,_,q=>exact q.elim
def cT(hK:X.K=T.K)(hg:Gl X "len")(hm:X.mg "len"=none)(ha:SE X T W e m)(he:starEach [e] X.env=[(false,eval e X.env)]:=by rfl):SE X T W (.Call (.Name "len" p) [e] [] pos) (aq (p1 cX) (ae m ao)):=
 eX pB (Bw hK) hg hm PySem.boot_len (aa ha af he) (he:=he)
def dE:PV->JT:=λx=>match a6 x with
 |some xs=>.ok (.lst .own xs)
 |none=>.stuck
def xH(hK:X.K=T.K):Mir T W (p1 dE) (λxs H Q=>∃p ys,xs=[.ref p]/\(SqL X.K H p ys\/SqT X.K H p ys)/\∀l,H l=none->Q (.ref l) (upd H l (.lst ys))):=by
 intro B F L Y H Q F' H' xs vs fx g r nf nd new q
 match xs,r,q with
 | [x],r,q=>
  obtain⟨v,rfl,r1⟩:=r.one;simp only[p1,dE]at q;cases e:a6 x with
  |none=>rw[e]at q;exact q.elim
  |some ys=>rw[e]at q;obtain⟨a,ws,fx',rfl,hs,hr,sl⟩:=r1.seq e;exact⟨a,ws,rfl,by rw[hK];exact hs,GE.newL q g hr (λb hb=>nf b (sl.subset hb)) (nd.sublist sl) (λb hb=>new b (sl.subset hb))⟩
 | [],_,q|_::_::_,_,q=>exact q.elim
def cR(hK:X.K=T.K)(hg:Gl X "list")(hm:X.mg "list"=none)(hv:bootBuiltins "list"=some (.type "list"))(ha:SE X T W e m)(he:starEach [e] X.env=[(false,eval e X.env)]:=by rfl):SE X T W (.Call (.Name "list" p) [e] [] pos) (aq (p1 dE) (ae m ao)):=
 nC pA (xH hK) hg hm hv (aa ha af he) (he:=he)
def eK:PV->JT:=λx=>match a6 x with
 |some xs=>.ok (.tup xs)
 |none=>.stuck
def vn(hK:X.K=T.K):Mir T W (p1 eK) (λxs H Q=>∃p ys,xs=[.ref p]/\((SqL X.K H p ys/\∀l,H l=none->Q (.ref l) (upd H l (.tup ys)))\/(SqT X.K H p ys/\Q (.ref p) H))):=by
 intro B F L Y H Q F' H' xs vs fx g r nf nd new q
 match xs,r,q with
 | [x],r,q=>
  obtain⟨v,rfl,r1⟩:=r.one;simp only[p1,eK]at q;cases x with
  |lst f ys=>
   simp only[a6]at q;unfold Rel at r1;obtain⟨a,ws,fp',rfl,hl,hr,hf⟩:=r1;have sl:fp'.Sublist fx:=by
    cases f with
    |own=>obtain rfl:fx=a::fp':=hf;exact List.sublist_cons_self _ _
    |frz|bor|lnt|mod=>obtain⟨rfl,rfl⟩:=hf;exact Sublist.refl _
   exact⟨a,ws,rfl,.inl ⟨by rw[hK];exact hl.sq,GE.newT q g hr (λb hb=>nf b (sl.subset hb)) (nd.sublist sl) (λb hb=>new b (sl.subset hb))⟩⟩
  |tup ys=>simp only[a6]at q;have r2:=r1;unfold Rel at r2;obtain⟨a,ws,rfl,hs,hr⟩:=r2;exact⟨a,ws,rfl,.inr ⟨by rw[hK];exact hs,q _ _ _ fx g r1 nf nd new⟩⟩
  |_=>exact q.elim
 | [],_,q|_::_::_,_,q=>exact q.elim
def iF(hK:X.K=T.K)(hg:Gl X "tuple")(hm:X.mg "tuple"=none)(hv:bootBuiltins "tuple"=some (.type "tuple"))(ha:SE X T W e m)(he:starEach [e] X.env=[(false,eval e X.env)]:=by rfl):SE X T W (.Call (.Name "tuple" p) [e] [] pos) (aq (p1 eK) (ae m ao)):=
 nC mV (vn hK) hg hm hv (aa ha af he) (he:=he)
def aK:PV->PV->JT
 |x,.int i=>match a6 x with
  |some xs=>match atI xs i with
   |some y=>if x.has Fl.JY&&y.has Fl.JY then .stuck else .ok y
   |none=>.stuck
  |none=>.stuck
 |_,_=>.stuck
def uA(r:RelL T F B L H xs vs f)(e:atI xs i=some y):∃v f',atI vs i=some v/\Rel T F B L H y v f'/\f'.Sublist f:=by
 unfold atI at e ⊢;rw[<- r.length];cases e1:ixN xs.length i with
 |none=>rw[e1]at e;cases e
 |some j=>rw[e1]at e;exact r.get e
def Bx(hK:X.K=T.K):je T W aK (λx y H Q=>AW X.K x y H Q \/(AU X.K x y H Q\/AV x y H Q)):=by
 intro B F L Y H Q F' H' x y v u fx fy g rx ry nf nd new q;cases y with
 |int i=>
  unfold Rel at ry;obtain⟨rfl,rfl⟩:=ry;simp only[aK]at q;cases e:a6 x with
  |none=>rw[e]at q;exact q.elim
  |some xs=>
   rw[e]at q;dsimp only at q;obtain⟨a,ws,fx',rfl,hs,hr,sl⟩:=rx.seq e;cases e2:atI xs i with
   |none=>rw[e2]at q;exact q.elim
   |some z=>
    rw[e2]at q;dsimp only at q;obtain⟨w,f',h1,h2,h3⟩:=uA hr e2;have e0:f'=[]:=by
     by_cases ho:x.has Fl.JY=true
     .by_cases hz:z.has Fl.JY=true
      .rw[ho,hz]at q;exact q.elim
      .exact Rel.J3 (by simpa using hz) h2
     .have:=Rel.J3 (by simpa using ho) rx;subst this;exact List.sublist_nil.mp (h3.trans sl)
    subst e0;by_cases hb:(x.has Fl.JY&&z.has Fl.JY)=true
    .rw[if_pos hb]at q;exact q.elim
    .rw[if_neg hb]at q;rcases hs with hs|hs
     .exact .inl ⟨a,ws,i,w,rfl,rfl,by rw[hK];exact hs,h1,q.scal g h2⟩
     .exact .inr (.inl ⟨a,ws,i,w,rfl,rfl,by rw[hK];exact hs,h1,q.scal g h2⟩)
 |_=>exact q.elim
def C9(hK:X.K=T.K)(ha:SE X T W a ma)(hb:SE X T W b mb)(hs:io b):SE X T W (.Subscript a b pos) (mOp aK ma mb):=
 Cl oZ (Bx hK) ha hb hs
abbrev MO:=En->Res (JO)
def fE:MO:=λ_=>.ok none
def gh(m:ME):MO:=λenv=>(m env).bind fun
 |.int i=>.ok (some i)
 |_=>.stuck
def i_(xs:JS)(lo hi:JO):JS:=(xs.drop (HT.sIx xs.length 0 lo)).take (HT.sIx xs.length xs.length hi-HT.sIx xs.length 0 lo)
def fq(o:ME)(lo hi:MO):ME:=λenv=>(o env).bind λx=>(lo env).bind λl=>(hi env).bind λh=>match x with
 |.lst _ xs=>.ok (.lst .own (i_ xs l h))
 |_=>.stuck
def RelL.drop:∀{xs:JS}{vs:JQ}{f:JM} (n:Nat),RelL T F B L H xs vs f->∃f',RelL T F B L H (xs.drop n) (vs.drop n) f'/\f'.Sublist f
 |xs,vs,f,0,h=>⟨f,h,Sublist.refl _⟩
 | [],vs,f,n+1,h=>by unfold RelL at h;obtain⟨rfl,rfl⟩:=h;exact⟨[],by simp[RelL],Sublist.refl _⟩
 |x::xs,_,_,n+1,h=>by unfold RelL at h;obtain⟨v,ws,f1,f2,rfl,h1,h2,rfl⟩:=h;obtain⟨f',r,s⟩:=RelL.drop n h2;exact⟨f',by simpa using r,s.trans (List.sublist_append_right _ _)⟩
def RelL.take:∀{xs:JS}{vs:JQ}{f:JM} (n:Nat),RelL T F B L H xs vs f->∃f',RelL T F B L H (xs.take n) (vs.take n) f'/\f'.Sublist f
 |xs,vs,f,0,h=>⟨[],by simp[RelL],List.nil_sublist _⟩
 | [],vs,f,n+1,h=>by unfold RelL at h;obtain⟨rfl,rfl⟩:=h;exact⟨[],by simp[RelL],Sublist.refl _⟩
 |x::xs,_,_,n+1,h=>by unfold RelL at h;obtain⟨v,ws,f1,f2,rfl,h1,h2,rfl⟩:=h;obtain⟨f',r,s⟩:=RelL.take n h2;refine⟨f1++f',?_,Sublist.append (Sublist.refl _) s⟩;rw[List.take_succ_cons,List.take_succ_cons];unfold RelL;exact⟨v,_,f1,f',rfl,h1,r,rfl⟩
def tO(T:Tb)(W:Nat->St->JR)(m:MO):TO:=λY H Q=>∃Z F env fp,ax T Z F H Y env fp/\match m env with
 |.ok o=>∀H' F',Gr F H F' H'->Q o H'
 |.exc c=>∀H',Ext H H'->W c Y H'
 |.stuck=>False
abbrev SO(X:Cx)(T:Tb)(W:Nat->St->JR)(e:Option Expr)(m:MO):Prop:=PO X e (tO T W m)
def jQ:SO X T W none fE:=λjs s Y H Q I ⟨Z,F,env,fp,S,q⟩=>A4 js s Y H Q I (q H F (Gr.refl S.hp.ft))
def fA(h:SE X T W e m):SO X T W (some e) (gh m):=λjs s Y H Q I ⟨Z,F,env,fp,S,q⟩=>A3 h js s Y H Q I (by
 unfold gh at q;refine tE.bq S λx v H1 F1 f1 e1 g1 r1 n1 d1 w1=>?_;rw[e1]at q;cases x with
 |int i=>unfold Rel at r1;exact⟨i,r1.1,q H1 F1 g1⟩
 |_=>exact q.elim)
def fO(hK:X.K=T.K)(he:SE X T W e m)(hl:SO X T W lo ml)(hu:SO X T W hi mh):SE X T W (.Subscript e (.Slice lo hi none p2) pos) (fq m ml mh):=
 PE.wk (wS (pos:=pos) (p2:=p2) Au he hl hu) λY H Q hz1=>by
  obtain⟨Z,F,env,fp,S,q⟩:=hz1;unfold fq at q;refine tE.bq S λx v H1 F1 f1 e1 g1 r1 n1 d1 w1=>?_;rw[e1]at q;simp only[Res.J4]at q;refine⟨Z,F1,env,fp,S.grow g1,?_⟩;cases e2:ml env with
  |exc c=>rw[e2]at q;exact λH' x=>q H' (g1.ext.trans x)
  |stuck=>rw[e2]at q;exact q
  |ok l=>
   rw[e2]at q;intro H2 F2 g2;refine⟨Z,F2,env,fp,(S.grow g1).grow g2,?_⟩;simp only[Res.J4]at q;cases e3:mh env with
   |exc c=>rw[e3]at q;exact λH' x=>q H' ((g1.ext.trans g2.ext).trans x)
   |stuck=>rw[e3]at q;exact q
   |ok h=>
    rw[e3]at q;intro H3 F3 g3;simp only[Res.J4]at q;cases x with
    |lst f xs=>
     have g:=(g1.trans g2).trans g3;have r3:=(r1.ext (g2.trans g3).ext (g2.trans g3).mono)
     have nf3:∀a∈f1,¬F3 a:=λa ha z=>by
      rcases(g2.trans g3).only a z with z|z
      .exact n1 a ha z
      .obtain⟨o,ho⟩:=r1.there a ha;rw[ho]at z;cases z
     unfold Rel at r3;obtain⟨a,ws,fp',rfl,hll,hr,hf⟩:=r3;have sl:fp'.Sublist f1:=by
      cases f with
      |own=>obtain rfl:f1=a::fp':=hf;exact List.sublist_cons_self _ _
      |frz|bor|lnt|mod=>obtain⟨rfl,rfl⟩:=hf;exact Sublist.refl _
     obtain⟨f4,h4,s4⟩:=RelL.drop (HT.sIx xs.length 0 l) hr;obtain⟨f5,h5,s5⟩:=RelL.take (HT.sIx xs.length xs.length h-HT.sIx xs.length 0 l) h4;have sl2:=(s5.trans s4).trans sl;refine⟨a,ws,rfl,by rw[hK];exact hll.sq,?_⟩;unfold y6;rw[<- hr.length];exact GE.newL q g h5 (λb hb=>nf3 b (sl2.subset hb)) (d1.sublist sl2) (λb hb=>w1 b (sl2.subset hb))
    |_=>exact q.elim
def Cm(K:PySem.W.Frag):R2:=λx y H Q=>∃l b xs zs,x=.ref l/\y=.ref b/\Rd H l (.lst xs)/\Rd H b (.lst zs)/\xs.length+zs.length<=sizeLine/\∀p,H p=none->Q (.ref p) (upd H p (.lst (xs++zs)))
theorem Bj:OpR X (binaryOp .Add) (Cm K):=by
 intro js s Y H x y v u Q I rx ry h;obtain⟨l,b,xs,zs,rfl,rfl,hH,hB,hz,q⟩:=h;cases rx;cases ry;obtain⟨z,its,n,r,e⟩:=hH.ok I.hok;obtain⟨z2,its2,n2,r2,e2⟩:=hB.ok I.hok;have hl:=r.length;have hl2:=r2.length;refine PySem.P.add_list e e2 ?_ (by rw[size_toArray,size_toArray];omega);have ea:its.toArray++its2.toArray=(its++its2).toArray:=by simp
 rw[ea];exact⟨.ref _,_,I.lnew (t':=s.toks) (r.append r2) (by rw[length_append];omega),rfl,q _ I.fresh⟩
def aP:PV->PV->JT
 |.int i,.int j=>.ok (.int (i+j))
 |.lst f xs,.lst g ys=>if f=.mod\/g=.mod\/¬xs.length+ys.length<=10000000 then .stuck else .ok (.lst .own (xs++ys))
 |_,_=>.stuck
def mK.rd(h:mK T F B L H f a vs)(n:f≠.mod):Rd H a (.lst vs):=by
 cases f with
 |own=>exact .inl h
 |lnt=>exact .inl h.2
 |frz|bor=>exact h.2
 |mod=>exact absurd rfl n
def rA.sub(hf:rA f a fp' fx):fp'.Sublist fx:=by
 cases f with
 |own=>obtain rfl:fx=a::fp':=hf;exact List.sublist_cons_self _ _
 |frz|bor|lnt|mod=>obtain⟨rfl,rfl⟩:=hf;exact Sublist.refl _
theorem xD:je T W aP (λx y H Q=>(rI0 λi j=>.int (i+j)) x y H Q\/Cm T.K x y H Q):=by
 intro B F L Y H Q F' H' x y v u fx fy g rx ry nf nd new q;cases x with
 |int i=>
  cases y with
  |int j=>unfold Rel at rx ry;exact .inl ⟨i,j,rx.1,ry.1,q.scal g fQ⟩
  |_=>exact q.elim
 |lst f xs=>
  cases y with
  |lst f' ys=>
   simp only[aP]at q;by_cases hc:f=.mod\/f'=.mod\/¬xs.length+ys.length<=10000000
   .rw[if_pos hc]at q;exact q.elim
   .rw[if_neg hc]at q;unfold Rel at rx ry;obtain⟨a,vs,fp1,rfl,hl1,hr1,hf1⟩:=rx;obtain⟨b,us,fp2,rfl,hl2,hr2,hf2⟩:=ry;have sl:=Sublist.append hf1.sub hf2.sub;have h3:xs.length+ys.length<=10000000:=by
     rcases Nat.lt_or_ge 10000000 (xs.length+ys.length)with z|z
     .exact absurd (.inr (.inr ())) hc
     .exact z
    refine .inr ⟨a,b,vs,us,rfl,rfl,hl1.rd λz=>hc (.inl z),hl2.rd λz=>hc (.inr (.inl z)),by rw[<- hr1.length,<- hr2.length,sizeLine_eq];omega,?_⟩;exact GE.newL q g (RelL.append hr1 hr2) (λb hb=>nf b (sl.subset hb)) (nd.sublist sl) (λb hb=>new b (sl.subset hb))
  |_=>exact q.elim
 |_=>exact q.elim
def OpR.or(h:OpR X f r)(h':OpR X f r'):OpR X f (λx y H Q=>r x y H Q\/r' x y H Q):=by
 intro js s Y H x y v u Q I rx ry q;rcases q with q|q
 .exact h js s Y H x y v u Q I rx ry q
 .exact h' js s Y H x y v u Q I rx ry q
def aR(ha:SE X T W a ma)(hb:SE X T W b mb):SE X T W (.BinOp a .Add b pos) (mOp aP ma mb):=kT (OpR.or DE Bj) xD ha hb
end
mutual
def PV.data:PV->PyData
 |.non=>.none
 |.bl b=>.bool b
 |.int i=>.int i
 |.str x=>.str x
 |.lst _ xs=>.list (dataL xs)
 |.tup xs=>.tuple (dataL xs)
 |.obj _ _ _ _|.exc _|.box _ _=>.dict []
def dataL:JS->List PyData
 | []=>[]
 |x::xs=>x.data::dataL xs
end
def shp(x:PV):Bool:=SeqAt.shaped x.data
section
variable{X:Cx}{T:Tb}{W:Nat->St->JR}{Z:Zn}{F F1 B L:JJ}{H H1:Hp}{Y:St}{env:En}{fp:Nat->JM}{D:Ends}{js:JI}{s:Shared}
mutual
def Rel.reads(hK:X.K=T.K)(I:L2.Inv X js Y H s):∀{x:PV}{v:V}{f:JM}{u:Value},Rel T F B L H x v f->bV v u->x.data.canLay0=true->∃as,Reads s.heap u x.data as
 |.non,_,_,_,r,ru,_=>by unfold Rel at r;obtain⟨rfl,_⟩:=r;cases ru;exact⟨[],.none⟩
 |.bl b,_,_,_,r,ru,_=>by unfold Rel at r;obtain⟨rfl,_⟩:=r;cases ru;exact⟨[],.bool b⟩
 |.int i,_,_,_,r,ru,_=>by unfold Rel at r;obtain⟨rfl,_⟩:=r;obtain⟨t,rfl⟩:=ru;exact⟨[],.int i t⟩
 |.str x,_,_,_,r,ru,_=>by unfold Rel at r;obtain⟨rfl,_⟩:=r;obtain⟨t,rfl⟩:=ru;exact⟨[],.str x t⟩
 |.lst f xs,_,_,_,r,ru,hc=>by unfold Rel at r;obtain⟨a,vs,fp',rfl,hl,hr,_⟩:=r;cases ru;obtain⟨its,rv,⟨o,n,ho,hcl,_,hd⟩,_⟩:=I.list (by rw[hK];exact hl.sq);obtain⟨as,ra⟩:=RelL.reads hK I hr rv (by simpa[PV.data,PyData.canLay0]using hc);exact⟨_,.list ho hcl hd (by simpa using ra)⟩
 |.tup xs,_,_,_,r,ru,hc=>by unfold Rel at r;obtain⟨a,vs,rfl,hl,hr⟩:=r;cases ru;obtain⟨its,rv,⟨o,ho,hcl,n,hd⟩,_⟩:=I.tuple (by rw[hK];exact hl);obtain⟨as,ra⟩:=RelL.reads hK I hr rv (by simpa[PV.data,PyData.canLay0]using hc);exact⟨_,.tuple ho hcl hd (by simpa using ra)⟩
 |.obj _ _ _ _,_,_,_,_,_,hc|.exc _,_,_,_,_,_,hc|.box _ _,_,_,_,_,_,hc=>by simp[PV.data,PyData.canLay0]at hc
def RelL.reads(hK:X.K=T.K)(I:L2.Inv X js Y H s):∀{xs:JS}{vs:JQ}{f:JM}{us:JL},RelL T F B L H xs vs f->aU vs us->PyData.canLayAll0 (dataL xs)=true->∃as,ReadsAll s.heap us (dataL xs) as
 | [],_,_,_,r,ru,_=>by unfold RelL at r;obtain⟨rfl,_⟩:=r;cases ru;exact⟨[],.nil⟩
 |x::xs,_,_,_,r,ru,hc=>by
  unfold RelL at r;obtain⟨v,ws,f1,f2,rfl,h1,h2,_⟩:=r;cases ru with
  |cons r1 r2=>simp only[dataL,PyData.canLayAll0,and_eq_true]at hc;obtain⟨as,ra⟩:=Rel.reads hK I h1 r1 hc.1;obtain⟨bs,rb⟩:=RelL.reads hK I h2 r2 hc.2;exact⟨_,.cons ra rb⟩
end
def pEq:PV->PV->JT:=λx y=>if shp x&&shp y then .ok (.bl (PyData.eqv x.data y.data))else .stuck
def pNe:PV->PV->JT:=λx y=>if shp x&&shp y then .ok (.bl (!PyData.eqv x.data y.data))else .stuck
def wG(X:Cx)(T:Tb)(g:PyData->PyData->Bool):R2:=λv u H Q=>∃x y F B L fx fy,Rel T F B L H x v fx/\Rel T F B L H y u fy/\shp x=true/\shp y=true/\Q (.bl (g x.data y.data)) H
def w_(hK:X.K=T.K)(hu:X.A.units+64<cLine):OpR X (compareOp .Eq) (wG X T λa b=>PyData.eqv a b):=by intro js s Y H v u v' u' Q I rv ru h;obtain⟨x,y,F,B,L,fx,fy,rx,ry,hx,hy,q⟩:=h;obtain⟨as,ra⟩:=rx.reads hK I rv (SeqAt.canLay_of_shaped hx);obtain⟨bs,rb⟩:=ry.reads hK I ru (SeqAt.canLay_of_shaped hy);exact PyProof.Rows.eq_dataH ra rb hx hy hu ⟨.bl _,H,I,rfl,q⟩
def w6(hK:X.K=T.K)(hu:X.A.units+64<cLine):OpR X (compareOp .NotEq) (wG X T λa b=>!PyData.eqv a b):=by intro js s Y H v u v' u' Q I rv ru h;obtain⟨x,y,F,B,L,fx,fy,rx,ry,hx,hy,q⟩:=h;obtain⟨as,ra⟩:=rx.reads hK I rv (SeqAt.canLay_of_shaped hx);obtain⟨bs,rb⟩:=ry.reads hK I ru (SeqAt.canLay_of_shaped hy);exact PyProof.Rows.ne_dataH ra rb hx hy hu ⟨.bl _,H,I,rfl,q⟩
def j7:je T W (λx y=>if shp x&&shp y then .ok (.bl (g x.data y.data))else .stuck) (wG X T g):=by
 intro B F L Y H Q F' H' x y v u fx fy gr rx ry nf nd new q;dsimp only at q;by_cases hc:(shp x&&shp y)=true
 .rw[if_pos hc]at q;rw[and_eq_true]at hc;exact⟨x,y,F',B,L,fx,fy,rx,ry,hc.1,hc.2,q.scal gr jp⟩
 .rw[if_neg hc]at q;exact q.elim
variable{a b:Expr}{ma mb:ME}{pos:Pos}
def lK(hK:X.K=T.K)(hu:X.A.units+64<cLine)(ha:SE X T W a ma)(hb:SE X T W b mb):SE X T W (.Compare a [.Eq] [b] pos) (mOp pEq ma mb):=oA (w_ hK hu) j7 ha hb (fk _)
def Ck(hK:X.K=T.K)(hu:X.A.units+64<cLine)(ha:SE X T W a ma)(hb:SE X T W b mb):SE X T W (.Compare a [.NotEq] [b] pos) (mOp pNe ma mb):=oA (w6 hK hu) (j7 (g:=λa b=>!PyData.eqv a b)) ha hb (fk _)
def dr(hK:X.K=T.K)(hu:X.A.units+64<cLine)(ha:SE X T W a ma)(hb:SE X T W b mb):ST X T W (.Compare a [.Eq] [b] pos) (aB (mOp pEq ma mb)):=fL (w_ hK hu) j7 ha hb (fk _)
def fK(hK:X.K=T.K)(hu:X.A.units+64<cLine)(ha:SE X T W a ma)(hb:SE X T W b mb):ST X T W (.Compare a [.NotEq] [b] pos) (aB (mOp pNe ma mb)):=fL (w6 hK hu) (j7 (g:=λa b=>!PyData.eqv a b)) ha hb (fk _)
def ge(ha:SE X T W a ma)(hb:SE X T W b mb):ST X T W (.Compare a [.Lt] [b] pos) (aB (mOp pLt ma mb)):=fL GO (oT λ_ _ _ _ _ _=>jp) ha hb (fk _)
def kS(ha:SE X T W a ma)(hb:SE X T W b mb):ST X T W (.Compare a [.Gt] [b] pos) (aB (mOp pGt ma mb)):=fL GP (oT λ_ _ _ _ _ _=>jp) ha hb (fk _)
def nq(ha:SE X T W a ma)(hb:SE X T W b mb):ST X T W (.Compare a [.GtE] [b] pos) (aB (mOp pGe ma mb)):=fL GQ (oT λ_ _ _ _ _ _=>jp) ha hb (fk _)
def inL(x:PV)(ys:JS):Bool:=ys.any λy=>PyData.eqv y.data x.data
def pIn:PV->PV->JT:=λx y=>match a6 y with
 |some ys=>if shp x&&ys.all shp then .ok (.bl (inL x ys))else .stuck
 |none=>.stuck
def iM:PV->PV->JT:=λx y=>match a6 y with
 |some ys=>if shp x&&ys.all shp then .ok (.bl (!inL x ys))else .stuck
 |none=>.stuck
def qQ(hK:X.K=T.K)(I:L2.Inv X js Y H s)(hu:A.units+64<cLine)(rx:Rel T F B L H x v fx)(ry:Rel T F B L H y u fy)(rv:bV v v')(ru:bV u u')(hx:shp x=true)(hy:shp y=true) :
  SeqAt.EqAt A s v' u' (PyData.eqv x.data y.data):=by
 obtain⟨as,ra⟩:=rx.reads hK I rv (SeqAt.canLay_of_shaped hx);obtain⟨bs,rb⟩:=ry.reads hK I ru (SeqAt.canLay_of_shaped hy);exact SeqAt.eqAt_reads _ _ A s v' u' as bs ra rb (SeqAt.canLay_of_shaped hx) (SeqAt.canLay_of_shaped hy) (SeqAt.room_of_shaped hx hu)
theorem kg(hK:X.K=T.K)(I:L2.Inv X js Y H s)(hu:A.units+64<cLine)(rx:Rel T F B L H x v fx)(rv:bV v v')(hx:shp x=true) :
  ∀{ys:JS}{us:JQ}{fy:JM}{us':JL},RelL T F B L H ys us fy->aU us us'->ys.all shp=true->∃e:Value->Bool,(∀w∈us',SeqAt.EqAt A s w v' (e w))/\us'.any e=inL x ys:=by
 intro ys us fy us' r rv' hs;have one:∀(ys:JS) (us:JQ) (fy:JM) (us':JL),RelL T F B L H ys us fy->aU us us'->ys.all shp=true->∀w∈us',∃b,SeqAt.EqAt A s w v' b/\(b=true->inL x ys=true):=by
  intro ys
  induction ys with
  |nil=>intro us fy us' r rv' _ w hw;unfold RelL at r;obtain⟨rfl,_⟩:=r;cases rv';cases hw
  |cons y ys ih=>
   intro us fy us' r rv' hs w hw;unfold RelL at r;obtain⟨u,ws,f1,f2,rfl,h1,h2,_⟩:=r;cases rv' with
   |cons r1 r2=>
    rw[all_cons,and_eq_true]at hs;rcases mem_cons.mp hw with rfl|hw
    .exact⟨_,qQ hK I hu h1 rx r1 rv hs.1 hx,λz=>by simp[inL,z]⟩
    .obtain⟨b,h3,h4⟩:=ih ws f2 _ h2 r2 hs.2 w hw;exact⟨b,h3,λz=>by have:=h4 z;unfold inL at this ⊢;simp[this]⟩
 have some_:∀(ys:JS) (us:JQ) (fy:JM) (us':JL),RelL T F B L H ys us fy->aU us us'->ys.all shp=true->inL x ys=true->∃w∈us',SeqAt.EqAt A s w v' true:=by
  intro ys
  induction ys with
  |nil=>intro us fy us' r rv' _ h;simp[inL]at h
  |cons y ys ih=>
   intro us fy us' r rv' hs h;unfold RelL at r;obtain⟨u,ws,f1,f2,rfl,h1,h2,_⟩:=r;cases rv' with
   |cons r1 r2=>
    rw[all_cons,and_eq_true]at hs;by_cases hy:PyData.eqv y.data x.data=true
    .refine⟨_,mem_cons_self,?_⟩;have:=qQ hK I hu h1 rx r1 rv hs.1 hx
     rwa [hy]at this
    .have h':inL x ys=true:=by unfold inL at h ⊢;rw[List.any_cons]at h;simpa[hy]using h
     grind
 by_cases hin:inL x ys=true
 .obtain⟨w0,hw0,q0⟩:=some_ ys us fy us' r rv' hs hin;refine⟨λw=>@decide (SeqAt.EqAt A s w v' true) (Classical.propDecidable _),λw hw=>?_,?_⟩
  .obtain⟨b,h1,_⟩:=one ys us fy us' r rv' hs w hw;by_cases ht:SeqAt.EqAt A s w v' true
   .simp only[ht,decide_true]
   .simp only[ht,decide_false];cases b with
    |true=>exact absurd h1 ht
    |false=>exact h1
  .rw[hin,any_eq_true];exact⟨w0,hw0,by simp[q0]⟩
 .have hin':inL x ys=false:=by simpa using hin
  refine⟨λ_=>false,λw hw=>?_,by rw[hin'];simp⟩
  grind
def De(X:Cx)(T:Tb)(neg:Bool):R2:=λv u H Q=>∃x ys a vs F B L fx fy,u=.ref a/\(SqL T.K H a vs\/SqT T.K H a vs)/\Rel T F B L H x v fx/\RelL T F B L H ys vs fy/\shp x=true/\ys.all shp=true/\Q (.bl (if neg then !inL x ys else inL x ys)) H
theorem w9(hK:X.K=T.K)(hu:X.A.units+66<cLine):OpR X (compareOp .In) (De X T false):=by
 intro js s Y H v u v' u' Q I rv ru h;obtain⟨x,ys,a,vs,F,B,L,fx,fy,rfl,hs,rx,ry,hx,hy,q⟩:=h;cases ru;have hu1:X.A.in1.units+64<cLine:=by show X.A.units+1+64<cLine;omega
 rcases hs with hs|hs
 .obtain⟨its,r,pl,_⟩:=I.list (by rw[hK];exact hs);obtain⟨e,h1,h2⟩:=kg hK I hu1 rx rv hx ry r hy;refine SeqAt.in_listAt e pl.isList (λw hw=>h1 w (by simpa using hw)) ⟨.bl _,H,I,rfl,?_⟩;rw[show its.toArray.any e=its.any e by simp,h2];exact q
 .obtain⟨its,r,pl,_⟩:=I.tuple (by rw[hK];exact hs);obtain⟨e,h1,h2⟩:=kg hK I hu1 rx rv hx ry r hy;refine SeqAt.in_tupleAt e pl (λw hw=>h1 w (by simpa using hw)) ⟨.bl _,H,I,rfl,?_⟩;rw[show its.toArray.any e=its.any e by simp,h2];exact q
def vh(hK:X.K=T.K)(hu:X.A.units+66<cLine):OpR X (compareOp .NotIn) (De X T true):=by
 intro js s Y H v u v' u' Q I rv ru h;obtain⟨x,ys,a,vs,F,B,L,fx,fy,rfl,hs,rx,ry,hx,hy,q⟩:=h;cases ru;have hu1:X.A.in1.units+64<cLine:=by show X.A.units+1+64<cLine;omega
 rcases hs with hs|hs
 .obtain⟨its,r,pl,_⟩:=I.list (by rw[hK];exact hs);obtain⟨e,h1,h2⟩:=kg hK I hu1 rx rv hx ry r hy;refine SeqAt.notIn_listAt e pl.isList (λw hw=>h1 w (by simpa using hw)) ⟨.bl _,H,I,rfl,?_⟩;rw[show its.toArray.any e=its.any e by simp,h2];exact q
 .obtain⟨its,r,pl,_⟩:=I.tuple (by rw[hK];exact hs);obtain⟨e,h1,h2⟩:=kg hK I hu1 rx rv hx ry r hy;refine SeqAt.notIn_tupleAt e pl (λw hw=>h1 w (by simpa using hw)) ⟨.bl _,H,I,rfl,?_⟩;rw[show its.toArray.any e=its.any e by simp,h2];exact q
def ss:je T W (λx y=>match a6 y with
 |some ys=>if shp x&&ys.all shp then .ok (.bl (if neg then !inL x ys else inL x ys))else .stuck
 |none=>.stuck) (De X T neg):=by
 intro B F L Y H Q F' H' x y v u fx fy gr rx ry nf nd new q;dsimp only at q;cases e:a6 y with
 |none=>rw[e]at q;exact q.elim
 |some ys=>
  rw[e]at q;dsimp only at q;by_cases hc:(shp x&&ys.all shp)=true
  .rw[if_pos hc]at q;rw[and_eq_true]at hc;obtain⟨a,ws,f',rfl,hs,hr,_⟩:=ry.seq e;exact⟨x,ys,a,ws,F',B,L,fx,f',rfl,hs,rx,hr,hc.1,hc.2,q.scal gr jp⟩
  .rw[if_neg hc]at q;exact q.elim
def tB(hK:X.K=T.K)(hu:X.A.units+66<cLine)(ha:SE X T W a ma)(hb:SE X T W b mb)(hk:behindInMarks .In b=false:=by with_unfolding_all rfl):SE X T W (.Compare a [.In] [b] pos) (mOp pIn ma mb):=oA (w9 hK hu) (ss (neg:=false)) ha hb hk
def ni(hK:X.K=T.K)(hu:X.A.units+66<cLine)(ha:SE X T W a ma)(hb:SE X T W b mb)(hk:behindInMarks .In b=false:=by with_unfolding_all rfl):ST X T W (.Compare a [.In] [b] pos) (aB (mOp pIn ma mb)):=fL (w9 hK hu) (ss (neg:=false)) ha hb hk
def lE(hK:X.K=T.K)(hu:X.A.units+66<cLine)(ha:SE X T W a ma)(hb:SE X T W b mb)(hk:behindInMarks .NotIn b=false:=by with_unfolding_all rfl):ST X T W (.Compare a [.NotIn] [b] pos) (aB (mOp iM ma mb)):=fL (vh hK hu) (ss (neg:=true)) ha hb hk
def PV.isNon:PV->Bool
 |.non=>true
 |_=>false
def iN:PV->PV->JT
 |x,.non=>.ok (.bl x.isNon)
 |_,_=>.stuck
def jw:PV->PV->JT
 |x,.non=>.ok (.bl (!x.isNon))
 |_,_=>.stuck
def Rel.isNon(r:Rel T F B L H x v f):decide (v=.non)=x.isNon:=by
 cases x with
 |non|bl b|int i|str i=>unfold Rel at r;rw[r.1];rfl
 |lst f xs=>unfold Rel at r;obtain⟨a,_,_,rfl,_⟩:=r;rfl
 |tup xs=>unfold Rel at r;obtain⟨a,_,rfl,_⟩:=r;rfl
 |obj f c ks xs=>unfold Rel at r;obtain⟨a,_,_,_,rfl,_⟩:=r;rfl
 |exc c=>unfold Rel at r;obtain⟨a,rfl,_⟩:=r;rfl
 |box k xs=>unfold Rel at r;obtain⟨a,vs,rfl,_⟩:=r;rfl
def tY:je T W iN (λx y H Q=>y=.non/\Q (.bl (decide (x=.non))) H):=by
 intro B F L Y H Q F' H' x y v u fx fy gr rx ry nf nd new q;cases y with
 |non=>unfold Rel at ry;refine⟨ry.1,?_⟩;rw[rx.isNon];exact GE.scal (pv:=.bl x.isNon) (by simpa[iN]using q) gr jp
 |_=>simp only[iN]at q;exact q.elim
def xE:je T W jw (λx y H Q=>y=.non/\Q (.bl (!decide (x=.non))) H):=by
 intro B F L Y H Q F' H' x y v u fx fy gr rx ry nf nd new q;cases y with
 |non=>unfold Rel at ry;refine⟨ry.1,?_⟩;rw[rx.isNon];exact GE.scal (pv:=.bl (!x.isNon)) (by simpa[jw]using q) gr jp
 |_=>simp only[jw]at q;exact q.elim
def C8(ha:SE X T W a ma)(hb:SE X T W b mb):SE X T W (.Compare a [.Is] [b] pos) (mOp iN ma mb):=oA w8 tY ha hb (fk _)
def rJ(ha:SE X T W a ma)(hb:SE X T W b mb):ST X T W (.Compare a [.Is] [b] pos) (aB (mOp iN ma mb)):=fL w8 tY ha hb (fk _)
def tf(ha:SE X T W a ma)(hb:SE X T W b mb):ST X T W (.Compare a [.IsNot] [b] pos) (aB (mOp jw ma mb)):=fL Be xE ha hb (fk _)
end
abbrev TgM:=PV->En->Option En
abbrev sS:=JS->En->Option En
def tgN(i:Nat):TgM:=λv env=>if aO i env then some (env.set i (some v))else none
def dZ:sS:=λvs env=>match vs with
 | []=>some env
 |_=>none
def bf(t:TgM)(u:sS):sS:=λvs env=>match vs with
 |v::r=>match t v env with
  |some e=>u r e
  |none=>none
 | []=>none
def tgT(n:Nat)(u:sS):TgM:=λv env=>match v with
 |.tup xs=>if xs.length=n then u xs env else none
 |_=>none
structure vZ(Z:Zn)(F:JJ)(fp:Nat->JM)(f:JM):Prop where
 nd:f.Nodup
 nf:∀a∈f,¬F a
 new:∀a∈f,Z.H0 a=none\/Z.fp0 a
 dj:∀a∈f,∀j,a∉fp j
def vZ.nil:vZ Z F fp []:=⟨nodup_nil,λ_ z=>(nomatch z),λ_ z=>(nomatch z),λ_ z=>(nomatch z)⟩
def GG(T:Tb)(Z:Zn)(F:JJ)(H:Hp)(Q:St->JR):Option En->Prop
 |some e=>∀Y fp,ax T Z F H Y e fp->Q Y H
 |none=>False
def tG(T:Tb)(m:TgM):TG:=λv Y H Q=>∃Z F env fp pv f,ax T Z F H Y env fp/\Rel T F Z.B NoL H pv v f/\vZ Z F fp f/\GG T Z F H Q (m pv env)
def tGs(T:Tb)(m:sS):TGs:=λvs Y H Q=>∃Z F env fp pvs f,ax T Z F H Y env fp/\RelL T F Z.B NoL H pvs vs f/\vZ Z F fp f/\GG T Z F H Q (m pvs env)
abbrev SG(X:Cx)(T:Tb)(tg:Expr)(m:TgM):Prop:=PG X tg (tG T m)
abbrev SGs(X:Cx)(T:Tb)(ts:List Expr)(m:sS):Prop:=PGs X ts (tGs T m)
section
variable{X:Cx}{T:Tb}{W:Nat->St->JR}{Z:Zn}{F F1 B L:JJ}{H H1:Hp}{Y:St}{env:En}{fp:Nat->JM}{D:Ends}
def PG.wk(h:PG X tg t)(w:∀v Y H Q,t' v Y H Q->t v Y H Q):PG X tg t':=λjs s Y H v u Q I r q=>h js s Y H v u Q I r (w v Y H Q q)
def PGs.wk(h:PGs X ts t)(w:∀v Y H Q,t' v Y H Q->t v Y H Q):PGs X ts t':=λjs s Y H v u Q I r q=>h js s Y H v u Q I r (w v Y H Q q)
def Aw(hN:X.N.Nodup)(hi:X.N[i]?=some x)(hx:Loc X.env.scope x)(hf:X.fn x=true\/X.env.scope.names.lookup x=some .local:=by first|exact .inl rfl|exact .inr rfl|assumption):SG X T (.Name x pos) (tgN i):=
 PG.wk (oH (pos:=pos) hN hi hx hf) λv Y H Q hz1=>by
  obtain⟨Z,F,env,fp,pv,f,S,r,fr,q⟩:=hz1;unfold tgN at q;by_cases ho:aO i env=true
  .rw[if_pos ho]at q;exact q _ _ (S.put r fr.nd fr.nf fr.new (λa ha j _=>fr.dj a ha j) ho)
  .rw[if_neg ho]at q;exact q.elim
def d_:SGs X T [] dZ:=PGs.wk A6 λvs Y H Q hz1=>by
 obtain⟨Z,F,env,fp,pvs,f,S,r,fr,q⟩:=hz1;cases pvs with
 |nil=>unfold RelL at r;exact⟨r.1,q Y fp S⟩
 |cons x xs=>exact q.elim
def bC(hN:X.N.Nodup)(hi:X.N[i]?=some x)(hx:Loc X.env.scope x)(h2:SGs X T es u)
  (hs:(assignEach (.Name x pos::es) X.env).map (·.2)=assign (.Name x pos) X.env::(assignEach es X.env).map (·.2):=by rfl)
  (hf:X.fn x=true\/X.env.scope.names.lookup x=some .local:=by first|exact .inl rfl|exact .inr rfl|assumption):SGs X T (.Name x pos::es) (bf (tgN i) u):=
 PGs.wk (wQ (oH (pos:=pos) hN hi hx hf) h2 hs) λvs Y H Q hz1=>by
  obtain⟨Z,F,env,fp,pvs,f,S,r,fr,q⟩:=hz1;cases pvs with
  |nil=>exact q.elim
  |cons y ys=>
   unfold RelL at r;obtain⟨v,ws,f1,f2,rfl,r1,r2,rfl⟩:=r;obtain⟨n1,n2,n3⟩:=nodup_append.mp fr.nd;by_cases ho:aO i env=true
   case neg=>simp only[bf,tgN,if_neg ho]at q;exact q.elim
   simp only[bf,tgN,if_pos ho]at q;refine⟨v,ws,rfl,Z,F,env.set i (some y),bR fp i f1,ys,f2,S.put r1 n1 (λa ha=>fr.nf a (mem_append_left _ ha)) (λa ha=>fr.new a (mem_append_left _ ha)) (λa ha j _=>fr.dj a (mem_append_left _ ha) j) ho,r2,⟨n2,λa ha=>fr.nf a (mem_append_right _ ha),λa ha=>fr.new a (mem_append_right _ ha),λa ha j=>?_⟩,q⟩;unfold bR;split
   .exact λz=>n3 a z a ha rfl
   .exact fr.dj a (mem_append_right _ ha) j
def fN(hK:X.K=T.K)(hc:X.calm=true)(h:SGs X T es u)(hn:(assignEach es X.env).length=n:=by rfl)(hst:(assignEach es X.env).findIdx? (·.1)=none:=by rfl):SG X T (.Tuple es k pos) (tgT n u):=
 PG.wk (Do (pos:=pos) (k:=k) hc h hn hst) λv Y H Q hz1=>by
  obtain⟨Z,F,env,fp,pv,f,S,r,fr,q⟩:=hz1;cases pv with
  |tup xs=>
   unfold Rel at r;obtain⟨a,vs,rfl,hl,hr⟩:=r;simp only[tgT]at q;by_cases hx:xs.length=n
   .rw[if_pos hx]at q;exact⟨a,vs,rfl,by rw[hK];exact hl,by rw[<- hr.length];exact hx,Z,F,env,fp,xs,f,S,hr,fr,q⟩
   .rw[if_neg hx]at q;exact q.elim
  |_=>exact q.elim
abbrev MI:=En->Res (JS)
def ItR(T:Tb)(F B:JJ)(Ow:JJ)(H1:Hp)(J:It)(xs:JS):Prop:=
 ∀H2,(∀a o,H1 a=some o->¬Ow a->H2 a=some o)->(∀(i:Nat) x,xs[i]?=some x->J.go i H2/\∀v H3,J.yld i H2 v H3->Ext H2 H3/\Rel T F B NoL H3 x v [])/\J.stop xs.length H2
def ItR.of0(h:∀H2,(∀a o,H1 a=some o->¬Ow a->H2 a=some o)->(∀(i:Nat) x,xs[i]?=some x->J.go i H2/\∀v H3,J.yld i H2 v H3->H3=H2/\Rel T F B NoL H2 x v [])/\J.stop xs.length H2):ItR T F B Ow H1 J xs:=λH2 hk=>by obtain⟨a,b⟩:=h H2 hk;refine⟨λi x e=>⟨(a i x e).1,λv H3 hy=>?_⟩,b⟩;obtain⟨rfl,r⟩:=(a i x e).2 v H3 hy;exact⟨Ext.refl,r⟩
def GI(T:Tb)(W:Nat->St->JR)(B F Ow:JJ)(Y:St)(H:Hp)(R:It->JR):Res (JS)->Prop
 |.ok xs=>∀J H1 F1,Gr F H F1 H1->ItR T F1 B Ow H1 J xs->R J H1
 |.exc c=>∀H',Ext H H'->W c Y H'
 |.stuck=>False
def tI(T:Tb)(W:Nat->St->JR)(m:MI):TI:=λY H R=>∃Z F env fp,ax T Z F H Y env fp/\GI T W Z.B F (Own fp) Y H R (m env)
abbrev SI(X:Cx)(T:Tb)(W:Nat->St->JR)(tg iter:Expr)(m:MI):Prop:=PI X tg iter (tI T W m)
def wP(hl:PE X l tl):PI X tg l (λY H R=>tl Y H λx H1=>∃a,x=.ref a/\((∃xs,SqL X.K H1 a xs/\R (Itl X.K a) H1)\/ ∃xs,SqT X.K H1 a xs/\R (Itt X.K a) H1)):=by
 intro js s Y H R I h;refine thn (hl js s Y H _ I h) λv s1 hz1=>?_;obtain⟨x,H1,I1,r1,q1⟩:=hz1;obtain⟨a,e,q⟩:=q1;subst e;cases r1;rcases q with⟨xs,hq,q⟩ |⟨xs,hq,q⟩
 .obtain⟨its,rv,p,hz⟩:=I1.list hq;refine wpAny_pyIter_list p.isList ?_;refine⟨s1.heap.objs.size,[s1.heap.objs.size],_,_,H1,rfl,I1.kept (t':=s1.toks) λb o e=>get?_push_of_some _ e,uF a _,⟨_,get?_push_size _ rfl,rfl,rfl⟩,λb hb=>?_,q⟩;have e:b=s1.heap.objs.size:=by simpa using hb
  subst e;exact I1.fpOk (Nat.le_refl _) (I1.hok.fresh (Nat.le_refl _))
 .obtain⟨its,rv,p,hz⟩:=I1.tuple hq;refine wpAny_pyIter_tuple (show s1.heap.IsTuple a its.toArray from p) ?_;refine⟨s1.heap.objs.size,[s1.heap.objs.size],_,_,H1,rfl,I1.kept (t':=s1.toks) λb o e=>get?_push_of_some _ e,rE a _,⟨_,get?_push_size _ rfl,rfl,rfl⟩,λb hb=>?_,q⟩;have e:b=s1.heap.objs.size:=by simpa using hb
  subst e;exact I1.fpOk (Nat.le_refl _) (I1.hok.fresh (Nat.le_refl _))
def eO(xs:JS):Bool:=!hasL Fl.JY xs&&!hasL Fl.JZ xs
def e9(m:ME):MI:=λenv=>(m env).bind λx=>match x with
 |.lst f xs=>if !f.JZ&&eO xs then .ok xs else .stuck
 |.tup xs=>if eO xs then .ok xs else .stuck
 |_=>.stuck
def ii{H2:Hp}{Ow:JJ}(hF:∀a,F1 a->¬Ow a)(hB:∀a,B a->¬Ow a)(hO:∀a o,Ow a->H1 a=some o->Chg o)(hk:∀a o,H1 a=some o->¬Ow a->H2 a=some o){xs:JS}{vs:JQ}(r:RelL T F1 B NoL H1 xs vs []){i:Nat}{x:PV}{v:V}(e:xs[i]?=some x)(ev:vs[i]?=some v):Rel T F1 B NoL H2 x v []:=by
 obtain⟨w,f,e1,r1,sl⟩:=r.get e;rw[ev]at e1;cases e1;obtain rfl:=List.sublist_nil.mp sl;refine Rel.tr (λ_ h=>h) (λ_ h=>h) (λ_ h=>h) (λa o q h=>hk a o q ?_) (λ_ z=>(nomatch z)) r1;rcases h with h|h|h|h
 .exact hF a h
 .exact hB a h
 .exact h.elim
 .intro z;have:=hO a o z q;cases o with
  |lst _|ins _ _ _=>exact h
  |_=>exact this
def ax.bow(S:ax T Z F H Y env fp):∀a,Z.B a->¬Own fp a:=λa h hz1=>by
 obtain⟨i,hi⟩:=hz1;obtain⟨⟨o,h1⟩,h2⟩:=S.hp.bo.1 a h;rcases S.new i a hi with z|z
 .rw[h1]at z;cases z
 .exact h2 z
def ax.fow(S:ax T Z F H Y env fp):∀a,F a->¬Own fp a:=λa h ⟨i,hi⟩=>(S.dis i a hi).1 h
def ax.oow(S:ax T Z F H Y env fp):∀a o,Own fp a->H a=some o->Chg o:=λa o hz1 e=>by obtain⟨i,hi⟩:=hz1;obtain⟨o',h1,h2⟩:=S.ch i a hi;rw[e]at h1;cases h1;exact h2
def eB(h:eO xs=true)(r:RelL T F B L H xs vs f):f=[]/\RelL T F B NoL H xs vs f:=by simp only[eO,and_eq_true,not_eq_true']at h;exact⟨RelL.J3 h.1 r,RelL.noL h.2 r⟩
def gw(hK:X.K=T.K)(he:SE X T W e m):SI X T W tg e (e9 m):=λjs s Y H R I h=>wP he js s Y H R I (by
 obtain⟨Z,F,env,fp,S,q⟩:=h;unfold e9 at q;refine tE.bq S λx v H1 F1 f1 e1 g1 r1 n1 d1 w1=>?_;rw[e1]at q;simp only[Res.J4]at q;have S1:=S.grow g1;rw[hK];cases x with
 |lst f xs=>
  dsimp only at q;by_cases hc:(!f.JZ&&eO xs)=true
  .rw[if_pos hc]at q;rw[and_eq_true]at hc;unfold Rel at r1;obtain⟨a,vs,fp',rfl,hl,hr,hf⟩:=r1;obtain⟨rfl,hr'⟩:=eB hc.2 hr;refine⟨a,rfl,.inl ⟨vs,hl.sq,q _ H1 F1 g1 (ItR.of0 λH2 hk=>?_)⟩⟩;have na:f≠.mod->∀o,H1 a=some o->H2 a=some o:=λhn o ho=>by
    refine hk a o ho ?_;cases f with
    |own=>rintro⟨i,hi⟩;obtain⟨_,o',ho'⟩:=S.dis i a hi;obtain rfl:f1=[a]:=hf;rw[w1 a mem_cons_self]at ho';cases ho'
    |frz=>exact S1.fow a hl.1
    |bor=>exact S1.bow a hl.1
    |lnt=>exact absurd hc.1 (by decide)
    |mod=>exact absurd rfl hn
   have hl2:SqL T.K H2 a vs:=by
    by_cases hn:f=.mod
    .subst hn;exact .inr hl
    .exact .inl (Rd.tr (na hn) (hl.rd hn))
   refine⟨λi x ex=>?_,⟨vs,hl2,by rw[hr.length];exact Nat.le_refl _⟩⟩;obtain⟨v,_,ev,_,_⟩:=hr.get ex;refine⟨⟨vs,v,hl2,ev⟩,λw H3 hy=>⟨hy.1,?_⟩⟩;have e3:=hy.2 vs hl2;exact ii S1.fow S1.bow S1.oow hk hr' ex e3
  .rw[if_neg hc]at q;exact q.elim
 |tup xs=>
  dsimp only at q;by_cases hc:eO xs=true
  .rw[if_pos hc]at q;unfold Rel at r1;obtain⟨a,vs,rfl,hl,hr⟩:=r1;obtain⟨rfl,hr'⟩:=eB hc hr;refine⟨a,rfl,.inr ⟨vs,hl,q _ H1 F1 g1 (ItR.of0 λH2 hk=>?_)⟩⟩;have hl2:SqT T.K H2 a vs:=SqT.tr (λo ho hfx=>hk a o ho λz=>by
    have:=S1.oow a o z ho;cases o with
    |lst _|ins _ _ _=>exact hfx
    |_=>exact this) hl
   refine⟨λi x ex=>?_,⟨vs,hl2,by rw[hr.length];exact Nat.le_refl _⟩⟩;obtain⟨v,_,ev,_,_⟩:=hr.get ex;refine⟨⟨vs,v,hl2,ev⟩,λw H3 hy=>⟨hy.1,?_⟩⟩;exact ii S1.fow S1.bow S1.oow hk hr' ex (hy.2 vs hl2)
  .rw[if_neg hc]at q;exact q.elim
 |_=>exact q.elim)
def cG(lo:Int)(n:Nat):JS:=(range n).map λk=>.int (lo+(k:Nat))
def inR(i:Int):Bool:=decide (-(2 ^ 62)<= i/\i<2 ^ 62)
def bO(ms:MA):MI:=λenv=>(ms env).bind λxs=>match xs with
 | [.int n]=>if inR n then .ok (cG 0 n.toNat)else .stuck
 |_=>.stuck
def nN(ms:MA):MI:=λenv=>(ms env).bind λxs=>match xs with
 | [.int i,.int j]=>if inR i&&inR j then .ok (cG i (j-i).toNat)else .stuck
 |_=>.stuck
def t_:ItR T F1 B Ow H1 (Itr lo n) (cG lo n):=by
 apply ItR.of0;intro H2 _;refine⟨λi x ex=>?_,by simp[cG,Itr]⟩;have hi:i<n:=by have:=(List.getElem?_eq_some_iff.mp ex).1;simpa[cG]using this
 refine⟨hi,λv H3 hy=>⟨hy.1,?_⟩⟩;obtain⟨_,rfl⟩:=hy;have:x=.int (lo+(i:Nat)):=by simp[cG,hi]at ex;exact ex.symm
 subst this;exact fQ
def cJ(hg:Gl X "range")(hm:X.mg "range" = none)(ha:SA X T W [a] ms)(hs:starEach [a] X.env=[(false,eval a X.env)]:=by rfl):SI X T W tg (.Call (.Name "range" p) [a] [] pos) (bO ms):=λjs s Y H R I h=>nE hg hm ha hs js s Y H R I (by
 obtain⟨Z,F,env,fp,S,q⟩:=h;unfold bO at q;refine tA.bq S λxs vs H1 F1 f1 e1 g1 r1 n1 d1 w1=>?_;rw[e1]at q;simp only[Res.J4]at q;split at q
 .rename_i n
  split at q
  .rename_i hc
   obtain⟨v,rfl,r2⟩:=r1.one;unfold Rel at r2;obtain⟨rfl,_⟩:=r2;have hc':-(2 ^ 62)<= n/\n<2 ^ 62:=by simpa[inR]using hc
   exact⟨n,rfl,hc'.1,hc'.2,q _ H1 F1 g1 t_⟩
  .exact q.elim
 .exact q.elim)
def uN(hg:Gl X "range")(hm:X.mg "range"=none)(ha:SA X T W [a,b] ms)(hs:starEach [a,b] X.env=[(false,eval a X.env),(false,eval b X.env)]:=by rfl)(hs2:starEach [b] X.env=[(false,eval b X.env)]:=by rfl) :
  SI X T W tg (.Call (.Name "range" p) [a,b] [] pos) (nN ms):=λjs s Y H R I h=>u_ hg hm ha hs hs2 js s Y H R I (by
 obtain⟨Z,F,env,fp,S,q⟩:=h;unfold nN at q;refine tA.bq S λxs vs H1 F1 f1 e1 g1 r1 n1 d1 w1=>?_;rw[e1]at q;simp only[Res.J4]at q;split at q
 .rename_i i j
  split at q
  .rename_i hc
   unfold RelL at r1;obtain⟨v,ws,f1,f2,rfl,h1,h2,_⟩:=r1;obtain⟨v2,rfl,h3⟩:=h2.one;unfold Rel at h1 h3;obtain⟨rfl,_⟩:=h1;obtain⟨rfl,_⟩:=h3;have hc':(-(2 ^ 62)<= i/\i<2 ^ 62)/\(-(2 ^ 62)<= j/\j<2 ^ 62):=by simpa[inR]using hc
   exact⟨i,j,rfl,⟨hc'.1.1,hc'.1.2,hc'.2.1,hc'.2.2⟩,q _ H1 F1 g1 t_⟩
  .exact q.elim
 .exact q.elim)
def cU(it:MI)(tg:TgM)(body:MS):MS:=λenv=>match it env with
 | .ok xs=>mS (λx e=>match tg x e with
  |some e'=>body e'
  |none=>.stuck) xs env
 |.exc c=>.exc c env
 |.stuck=>.stuck
theorem b9(hp:PassesOwn (model X.prog X.w) X.A X.env X.xe)(hc:X.calm=true)(hi:SI X T W tg iter mi)(hg:SG X T tg g)(hb:SSs X T W body mb)
  (hs:∀x,foldedSetIterable iter X.env x=pure x:=by intro _;rfl):SS X T W (.For tg iter body [] pos) (cU mi g mb):=PS.wk (wK (pos:=pos) hp hc hi hg hb hs) λD Y H hz1=>by
 obtain⟨Z,F,env,fp,S,q⟩:=hz1;unfold cU at q;refine⟨Z,F,env,fp,S,?_⟩;cases em:mi env with
 |exc c=>rw[em]at q;exact λH' x=>q F H' Y fp (S.grow (Gr.same S.hp.ft x))
 |stuck=>rw[em]at q;exact q
 |ok xs=>
  rw[em]at q;dsimp only at q;intro J H1 F1 g1 it;have S1:=S.grow g1;generalize hbd:(λ(x:PV) (e:En)=>match g x e with
   |some e'=>mb e'
   |none=>Out.stuck)=bd at q
  refine⟨λi m σ2 H2=>m=xs.length-i/\i<=xs.length/\∃F2 env2 fp2,ax T (Z.re F1 H1 fp) F2 H2 σ2 env2 fp2/\GS T W Z D (mS bd (xs.drop i) env2),⟨xs.length,by simp,zero_le _,F1,env,fp,S1.enter,q⟩,?_⟩;rintro i m σ2 H2 ⟨rfl,hi,F2,env2,fp2,S2,q2⟩;obtain⟨go,stop⟩:=it H2 S2.hp.keep;by_cases hlt:i<xs.length
  .have hx:xs[i]?=some xs[i]:=by simp[hlt]
   obtain⟨g1',yl⟩:=go i _ hx;refine .inr ⟨g1',λσ3 H3=>∃F3 env3 fp3,ax T (Z.re F1 H1 fp) F3 H3 σ3 env3 fp3/\GS T W Z D (mS bd (xs.drop (i+1)) env3),λσ3 H3 h3=>⟨xs.length-(i+1),by omega,rfl,hlt,h3⟩,λv H3 hy=>?_⟩;obtain⟨ex3,r⟩:=yl v H3 hy;rw[List.drop_eq_getElem_cons hlt]at q2;unfold mS at q2;rw[<- hbd]at q2;dsimp only at q2;refine⟨Z.re F1 H1 fp,F2,env2,fp2,xs[i],[],S2.grow (Gr.same S2.hp.ft ex3),r.ext Ext.refl S2.hp.f0,vZ.nil,?_⟩;cases eg:g xs[i] env2 with
   |none=>rw[eg]at q2;exact q2
   |some e'=>
    rw[eg]at q2;dsimp only at q2;intro σ' fp' S';refine⟨Z.re F1 H1 fp,F2,e',fp',S',?_⟩;cases eb:mb e' with
    |next e2|cont e2=>rw[eb]at q2;exact λF3 H3 σ3 fp3 S3=>⟨F3,e2,fp3,S3,by rw[<- hbd];exact q2⟩
    |brk e2=>rw[eb]at q2;exact λF3 H3 σ3 fp3 S3=>q2 F3 H3 σ3 fp3 (S1.leave S3)
    |ret v=>rw[eb]at q2;exact λF3 H3 v f hp r nd nf new=>q2 F3 H3 v f (cF.leave S1 hp) r nd nf λa ha=>S1.newL (new a ha)
    |exc c e2=>rw[eb]at q2;exact λF3 H3 σ3 fp3 S3=>q2 F3 H3 σ3 fp3 (S1.leave S3)
    |stuck=>rw[eb]at q2;exact q2
  .have e:i=xs.length:=by omega
   subst e;rw[drop_length]at q2;exact .inl ⟨stop,q2 F2 H2 σ2 fp2 (S1.leave S2)⟩
end
end PR
namespace L2
open PySem PySem.Spec
def eQ(cells:List (Str×Addr)):List (Str×NameKind)->List (Str×Addr)->List (Str×Addr)
 | [],acc=>acc
 | (n,k)::r,acc=>if (k == .free)=true then (match cells.lookup n with
  |some c=>eQ cells r ((n,c)::acc)
  |none=>eQ cells r acc)else eQ cells r acc
def jJ:∀(names:List (Str×NameKind)) (acc:List (Str×Addr)),(∀y∈names,y.2=.free->∃c,env.cells.lookup y.1=some c)->
  (forIn names acc λ(x:Str × NameKind) (cs:List (Str × Addr))=>match x with
   |(name,kind)=>if(kind==.free)=true then do let c <- cellOf env name;pure (ForInStep.yield ((name,c)::cs))else pure (ForInStep.yield cs):Sem (List (Str×Addr)))=pure (eQ env.cells names acc)
 | [],acc,_=>by simp[eQ]
 |(n,k)::r,acc,h=>by
  rw[List.forIn_cons];by_cases hk:(k==NameKind.free)=true
  .obtain⟨c,hc⟩:=h (n,k) mem_cons_self (by simpa using hk);dsimp only at hc;simp only[hk,if_true,cellOf,hc,pure_bind];rw[eQ,if_pos hk,hc];exact jJ r _ λy hy=>h y (mem_cons_of_mem _ hy)
  .simp only[hk,false_eq_true,if_false,pure_bind];rw[eQ,if_neg hk];exact jJ r _ λy hy=>h y (mem_cons_of_mem _ hy)
def mU(h:∀y∈scope.names,y.2=.free->∃c,env.cells.lookup y.1=some c):closureFor scope env=pure (eQ env.cells scope.names []):=by unfold closureFor;simp only[];rw[<- jJ scope.names [] h];simp
theorem gO{cells:List (Str×Addr)}:∀{names:List (Str×NameKind)}{acc:List (Str×Addr)},(∀p∈acc,cells.lookup p.1=some p.2)->∀p∈eQ cells names acc,cells.lookup p.1=some p.2
 | [],_,h=>h
 |(n,k)::r,acc,h=>by
  unfold eQ;split
  .split
   .rename_i c hc
    exact gO (by grind)
   .exact gO h
  .exact gO h
def ki:∀{names:List (Str×NameKind)}{acc:List (Str×Addr)}{p:Str×Addr},p∈acc->p∈eQ cells names acc
 | [],_,_,h=>h
 |(n,k)::r,acc,p,h=>by
  unfold eQ;split
  .split
   .exact ki (mem_cons_of_mem _ h)
   .exact ki h
  .exact ki h
def ja{cells:List (Str×Addr)}{x:Str}{c:Addr}(hc:cells.lookup x=some c):∀{names:List (Str×NameKind)}{acc:List (Str×Addr)},(x,NameKind.free)∈ names->(x,c)∈ eQ cells names acc
 | [],_,h=>nomatch h
 |(n,k)::r,acc,h=>by
  unfold eQ;rcases mem_cons.mp h with e|h
  .cases e;rw[if_pos (by rfl),hc];exact ki mem_cons_self
  .split
   .split
    .exact ja hc h
    .exact ja hc h
   .exact ja hc h
theorem jy{cells l:List (Str×Addr)}(h:∀p∈l,cells.lookup p.1=some p.2){x:Str}{c:Addr}(m:(x,c)∈ l):l.lookup x=some c:=by
 induction l with
 |nil=>cases m
 |cons p r ih=>
  grind
def gN{cells:List (Str×Addr)}{names:List (Str×NameKind)}{x:Str}{c:Addr}(h:(eQ cells names []).lookup x=some c):cells.lookup x=some c:=
 gO (names:=names) (acc:=[]) (λ_ z=>nomatch z) (x,c) (PySem.mem_of_lookup h)
def mI:∀(names:List (Str×NameKind)) (a:Nat) (l acc:List (Str×Addr)),cellsFrom a names (l++acc)=cellsFrom a names l++acc
 | [],_,_,_=>rfl
 |(n,k)::r,a,l,acc=>by
  unfold cellsFrom;split
  .exact mI r (a+1) ((n,a)::l) acc
  .exact mI r a l acc
theorem mH:∀{names:List (Str×NameKind)}{a:Nat}{l:List (Str×Addr)}{p:Str×Addr},p∈cellsFrom a names l->p∈l \/(a<=p.2/\(p.1,NameKind.cell)∈ names)
 | [],_,_,_,h=>.inl h
 |(n,k)::r,a,l,p,h=>by
  unfold cellsFrom at h;split at h
  .rename_i hk
   have hk:k=.cell:=by simpa using hk
   subst hk;rcases mH h with h|h
   .grind
   .exact .inr ⟨by omega,mem_cons_of_mem _ h.2⟩
  .rcases mH h with h|h
   .exact .inl h
   .exact .inr ⟨h.1,mem_cons_of_mem _ h.2⟩
theorem ph:∀{names:List (Str×NameKind)}{a:Nat}{l:List (Str×Addr)}{x:Str},((x,NameKind.cell)∈ names \/(l.lookup x).isSome=true)->((cellsFrom a names l).lookup x).isSome=true
 | [],_,_,_,h=>h.resolve_left (λz=>nomatch z)
 |(n,k)::r,a,l,x,h=>by
  unfold cellsFrom;split
  .rename_i hk
   have hk:k=.cell:=by simpa using hk
   subst hk;refine ph ?_
   grind
  .rename_i hk
   refine ph ?_
   grind
theorem mJ:∀{names:List (Str×NameKind)}{a:Nat}{l:List (Str×Addr)},(∀p∈l,p.2<a)->(l.Pairwise λx y=>x.2≠y.2)->(cellsFrom a names l).Pairwise λx y=>x.2≠y.2
 | [],_,_,_,h=>h
 |(n,k)::r,a,l,hl,h=>by
  unfold cellsFrom;split
  .refine mJ (λp hp=>?_) (pairwise_cons.mpr ⟨λy hy e=>?_,h⟩)
   .grind
   .have e':a=y.2:=e;exact Nat.lt_irrefl _ (Nat.lt_of_lt_of_eq (hl y hy) e')
  .exact mJ hl h
theorem l0{α:Type}{x:Str}:∀{l m:List (Str×α)},(l++m).lookup x=(l.lookup x).or (m.lookup x)
 | [],m=>by simp
 |(n,c)::l,m=>by
  grind
abbrev q8(X:Cx)(scope:Scope)(C:Addr):List (Str×Addr):=cellsFrom (C+1) scope.names (eQ X.env.cells scope.names [])
def kj{X:Cx}{scope:Scope}{C:Addr}{x:Str}{c:Addr}(h:(q8 X scope C).lookup x=some c):(C+1<=c/\(x,NameKind.cell)∈ scope.names/\(x,c)∈ cellsFrom (C+1) scope.names [])\/(eQ X.env.cells scope.names []).lookup x=some c:=by
 unfold q8 at h;rw[show eQ X.env.cells scope.names []=[]++ eQ X.env.cells scope.names []from rfl,mI,l0]at h;cases e:(cellsFrom (C+1) scope.names []).lookup x with
 |some d=>
  rw[e]at h;cases h;have m:=PySem.mem_of_lookup e;rcases mH m with z|z
  .cases z
  .exact .inl ⟨z.1,z.2,m⟩
 |none=>rw[e]at h;exact .inr (by simpa using h)
def EZ(hx:(x,NameKind.cell)∉ scope.names)(h:(eQ X.env.cells scope.names []).lookup x=some c):(q8 X scope C).lookup x=some c:=by
 unfold q8;rw[show eQ X.env.cells scope.names []=[]++ eQ X.env.cells scope.names []from rfl,mI,l0];cases e:(cellsFrom (C+1) scope.names []).lookup x with
 |some d=>
  rcases mH (PySem.mem_of_lookup e)with z|z
  .cases z
  .exact absurd z.2 hx
 |none=>simpa using h
def qt{M:Model}{A:Around}{E:JF}{s:Shared}{scope:Scope}{globals:Addr}{closure:List (Str×Addr)}{qual:Str}{func:Option Addr}{code:Value}{outer:Env}{builtins:Addr}{Q:Env->Shared->Prop}
  (hQ:∀ h',h'.Ns s.heap.objs.size (λ_=>none)->(∀ b o,s.heap.get? b=some o->h'.get? b=some o)->(∀ n c,(n,c) ∈ cellsFrom (s.heap.objs.size+1) scope.names []->h'.IsCell c none) ->
   Q (newEnv scope s.heap.objs.size globals (cellsFrom (s.heap.objs.size+1) scope.names closure) qual func code (some outer) builtins) {s with heap:=h'}) :
  wpAny M A (newFunctionEnv scope globals closure [] qual func code (some outer) builtins) Q E s:=by
 simp only[newFunctionEnv,Option.isSome_some,if_true];refine wpAny_bind (wpAny_alloc ?_);refine wpAny_bind (wpAny_layCells _ (λname kind cells=>by cases hkc:kind==NameKind.cell<;>simp[hkc]) _ _ _ _ ?_);have ok:=cellsFrom_ok scope.names (s.heap.push {cls:=.type "dict",data:=.dict #[]}) (s.heap.objs.size+1) [] ⟨λ_ _ hm=>(nomatch hm),Pairwise.nil⟩ (by rw[size_push];exact Nat.le_refl _);rw[size_push]at ok;rw[show({s with heap:=s.heap.push {cls:=.type "dict",data:=.dict #[]}}:Shared).heap.objs.size=s.heap.objs.size+1 from size_push ..];refine wpAny_bind ?_;rw[List.forIn_nil];exact wpAny_pure (wpAny_pure (hQ _ ((Heap.Ns.new s.heap (.type "dict")).keeps (pushCells_keeps _ _)) (λb o e=>pushCells_keeps _ _ b o (get?_push_of_some _ e)) λn c hm=>(ok.empty n c hm).1))
def cxC(X:Cx)(scope:Scope)(C:Addr)(N:JN)(s:Shared)(H:Hp)(ex:JM):Cx:=
 {X with env:=compEnvC scope (q8 X scope C) C X.env,N:=N,s₀:=s,H₀:=H,outer:=X.stack,stack:=X.stack,ex:=ex,fn:=λx=>scope.names.lookup x==some .cell,pn:=[],xe:=λ_ _=>False}
structure eU(X:Cx)(scope:Scope)(caps:List Nat)(N tn:JN):Prop where
 kind:scope.kind=.function
 cel:∀y∈scope.names,y.2=.cell->scope.names.lookup y.1=some .cell
 names:∀y∈scope.names,y.2=.local->scope.names.lookup y.1=some .local
 free:∀y∈scope.names,y.2=.free->X.env.kindOf y.1=some .cell\/X.env.kindOf y.1=some .free
 eN:N=caps.map (λi=>X.N.getD i "")++ tn
 capN:∀i∈caps,i<X.N.length
 capF:∀i∈caps,∀x,X.N[i]?=some x->(x,NameKind.free)∈ scope.names/\scope.names.lookup x=some .free
 nd:N.Nodup
theorem jT{scope:Scope}{env:Env}{x:Str}{k:NameKind}(h:(relabel scope env).names.lookup x=some k)(hc:k=.cell\/k=.free):(x,NameKind.free)∈ scope.names \/(x,NameKind.cell)∈ scope.names:=by
 have m:=PySem.mem_of_lookup h;obtain⟨⟨n,k0⟩,hm,e⟩:=mem_map.mp m
 grind
theorem jU{scope:Scope}{env:Env}{x:Str}:∀{names:List (Str×NameKind)},names.lookup x=some .free ->
  (names.map λ(n,k)=>if(k==NameKind.free&&env.scope.kind==.function&&env.kindOf n==some .cell)then(n,NameKind.cell)else(n,k)).lookup x=some .cell \/
  (names.map λ(n,k)=>if(k==NameKind.free&&env.scope.kind==.function&&env.kindOf n==some .cell)then(n,NameKind.cell)else(n,k)).lookup x=some .free
 | [],h=>by simp at h
 |(n,k)::r,h=>by
  show List.lookup x ((if(k==NameKind.free&&env.scope.kind==.function&&env.kindOf n==some .cell)=true then(n,NameKind.cell)else(n,k))::_)=_\/List.lookup x ((if(k==NameKind.free&&env.scope.kind==.function&&env.kindOf n==some .cell)=true then(n,NameKind.cell)else(n,k))::_)=_;have ih:=@jU scope env x r
  grind
section
variable{X:Cx}{scope:Scope}{caps:List Nat}{N tn:JN}{js:JI}{Y:St}{H:Hp}{s:Shared}{fp:JM}{C:Addr}
theorem o_(cs:eU X scope caps N tn)(I:Inv X js Y H s)(hf:∀b∈fp,mM X js H b)(hlt:∀b∈fp,b<s.heap.objs.size)(hC:s.heap.objs.size<=C):(cxC X scope C N s H fp).Ok where
 mod:=I.ok.mod
 kind:=by show(relabel scope X.env).kind=_;exact cs.kind
 glob:=I.ok.glob
 blt:=I.ok.blt
 above:=hC
 inj:=λx y c h1 h2=>by
  have old:∀z,(eQ X.env.cells scope.names []).lookup z=some c->c<s.heap.objs.size:=λz hz=>let⟨_,hv⟩:=I.cell z c (gN hz);hv.lt
  rcases kj h1 with⟨l1,_,m1⟩|h1<;>rcases kj h2 with⟨l2,_,m2⟩|h2
  .exact name_of_addr (mJ (l:=[]) (λ_ z=>nomatch z) Pairwise.nil) m1 m2
  .grind
  .grind
  .exact I.ok.inj x y c (gN h1) (gN h2)
 has:=λx hx=>by
  have hx:(relabel scope X.env).names.lookup x=some .cell \/(relabel scope X.env).names.lookup x=some .free:=hx;have m:(x,NameKind.free)∈ scope.names \/(x,NameKind.cell)∈ scope.names:=by
   rcases hx with h|h
   .exact jT h (.inl rfl)
   .exact jT h (.inr rfl)
  refine isSome_iff_exists.mp (ph (l:=eQ X.env.cells scope.names []) ?_);rcases m with m|m
  .obtain⟨c,hc⟩:=I.ok.has x (cs.free _ m rfl);exact .inr (by rw[jy (gO (acc:=[]) λ_ z=>nomatch z) (ja hc m)];rfl)
  .exact .inl m
 cab:=λx c h hc=>by
  have h':(scope.names.lookup x==some NameKind.cell)=true:=h;have hx:scope.names.lookup x=some .cell:=by simpa using h'
  have hs:s.heap.objs.size<=C:=hC;have hc:(q8 X scope C).lookup x=some c:=hc;obtain⟨d,hd⟩:=isSome_iff_exists.mp (ph (a:=C+1) (l:=[]) (.inl (PySem.mem_of_lookup hx)));unfold q8 at hc;rw[show eQ X.env.cells scope.names []=[]++ eQ X.env.cells scope.names []from rfl,mI,l0,hd]at hc;cases hc;rcases mH (PySem.mem_of_lookup hd)with z|z
  .cases z
  .exact Nat.le_trans hs (Nat.le_trans (le_succ _) z.1)
 hd:=I.ok.hd
 frames:=I.ok.frames
 stk:=.inl rfl
 exf:=λb hb=>⟨Nat.ne_of_lt (Nat.lt_of_lt_of_le (hlt b hb) hC),λx c h=>by
  rcases kj h with⟨l1,_,_⟩|h
  .exact λz=>absurd (Nat.lt_of_lt_of_le (hlt b hb) (Nat.le_trans hC (Nat.le_trans (le_succ _) l1))) (by rw[z];exact Nat.lt_irrefl _)
  .exact(hf b hb).2.2.2.2.1 x c (gN h)⟩
 bs:=I.bs
 bsz:=Nat.le_trans I.ok.bsz I.sz
 noex:=λb o e hb=>by
  rcases(hf b hb).2.2.2.1 with z|z
  .exact I.ok.noex b o e z
  .exact absurd (Nat.lt_of_lt_of_le (lt_size e) (Nat.le_trans I.ok.bsz z)) (Nat.lt_irrefl _)
 exfs:=λb hb hs=>by
  rcases mem_cons.mp (I.stkSub b hs)with z|z
  .exact(hf b hb).2.1 z
  .exact(hf b hb).2.2.1 z
 funs:=I.stack
 frf:=I.stkFree
def pj(caps:List Nat)(k:Nat)(Y:St):St:=caps.map (λi=>(Y[i]?).join)++ replicate k none
def xU(cs:eU X scope caps N tn)(I:Inv X js Y H s)(hf:∀b∈fp,mM X js H b)(hlt:∀b∈fp,b<s.heap.objs.size)
  (hns:h₁.Ns (s.heap.objs.size+1) λ_=>none) (hD:h₁.get? s.heap.objs.size=some {cls:=.type "list",data:=.seq ([]:JL).toArray}) (old:∀b o,s.heap.get? b=some o->h₁.get? b=some o)
  (hcl:∀n c,(n,c)∈ cellsFrom (s.heap.objs.size+1+1) scope.names []->h₁.IsCell c none) :
  Inv (cxC X scope (s.heap.objs.size+1) N s H fp) [] (pj caps tn.length Y) (upd H s.heap.objs.size (.lst [])) {s with heap:=h₁,toks:=t}:=by
 have fresh:∀b,s.heap.objs.size<=b->H b=none:=λb hb=>I.hok.fresh hb;have neD:s.heap.objs.size+1≠s.heap.objs.size:=Nat.succ_ne_self _;have ltc:∀x c,(eQ X.env.cells scope.names []).lookup x=some c->∃v,s.heap.IsCell c v:=λx c h=>I.cell x c (gN h);refine⟨o_ cs I hf hlt (le_succ _),rfl,I.bare,Un.laid old (Nat.le_refl _) (fresh _ (Nat.le_refl _)),⟨_,hns,λi y v h1 h2 h3=>?_⟩,λx c h=>?_,?_,λx c h=>?_,λp hp=>absurd (show p ∈([]:JI)from hp) (by simp),?_,?_⟩
 .have hi:i<caps.length:=by
   unfold pj at h2;by_cases hi:i<caps.length
   .exact hi
   .rw[getElem?_append_right (by simpa using hi),getElem?_replicate]at h2;split at h2<;>cases h2
  unfold pj at h2;rw[getElem?_append_left (by simpa using hi),getElem?_map]at h2;obtain⟨j,hj,e2⟩:=map_eq_some_iff.mp h2;have hjc:j∈caps:=List.mem_of_getElem? hj;have hjN:=cs.capN j hjc;have hy:X.N[j]?=some y:=by
   have h1':N[i]?=some y:=h1;rw[cs.eN,getElem?_append_left (by simpa using hi),getElem?_map,hj]at h1';have:X.N.getD j ""=y:=by simpa using h1'
   rw[<- this];simp[hjN]
  have hσ:Y[j]?=some (some v):=by
   cases e:Y[j]? with
   |none=>rw[e]at e2;cases e2
   |some w=>rw[e]at e2;simp only[Option.join_some]at e2;rw[e2]
  obtain⟨m0,hn0,hl⟩:=I.loc;obtain⟨hm,hlk⟩:=cs.capF j hjc y hy;have hk:=cs.free _ hm rfl;dsimp only at hk;have hvis:Vis X.env.scope y:=by
   rcases hk with z|z
   .exact .inr (.inl z)
   .exact .inr (.inr z)
  obtain⟨u,ru,lk⟩:=hl j y v hy hσ hvis;refine⟨u,ru,.inr ?_⟩;rcases lk with⟨z,_⟩ |⟨_,c,hc,hcell⟩
  .rcases hk with w|w
   .rw[z]at w;cases w
   .rw[z]at w;cases w
  .refine⟨jU (scope:=scope) hlk,c,EZ (λz=>?_) (jy (gO (acc:=[]) λ_ z=>nomatch z) (ja hc hm)),hcell.keeps old⟩;have:=cs.cel _ z rfl;rw[hlk]at this;cases this
 .rcases kj h with⟨_,_,m⟩|h
  .exact⟨none,hcl x c m⟩
  .obtain⟨v,hv⟩:=ltc x c h;exact⟨v,hv.keeps old⟩
 .show upd H _ _ (s.heap.objs.size+1)=none;rw[aY neD];exact fresh _ (le_succ _)
 .rcases kj h with⟨l1,_,_⟩|h2
  .rw[aY (Nat.ne_of_gt (Nat.lt_of_lt_of_le (Nat.lt_succ_of_lt (Nat.lt_succ_self _)) l1))];exact .inl (fresh _ (Nat.le_trans (Nat.le_succ_of_le (le_succ _)) l1))
  .obtain⟨v,hv⟩:=ltc x c h2;rw[aY (Nat.ne_of_lt hv.lt)];exact(I.freeC x c (gN h2)).imp (λz=>z) λq=>⟨Bool.eq_false_iff.mpr λe=>Nat.lt_irrefl _ (Nat.lt_of_lt_of_le hv.lt ((o_ cs I hf hlt (le_succ _)).cab x c e h)),q.2⟩
 .exact I.hok.laid old (Nat.le_refl _) ⟨zero_le _,[],_,.nil,hD⟩
 .show(pj caps tn.length Y).length=N.length;rw[cs.eN];simp[pj]
end
end L2
namespace PR
open PySem PySem.Spec L2
section
def Fl.JX:Fl->Fl
 |.own|.lnt=>.bor
 |f=>f
def PV.JX(x:PV):PV:=x.J2 Fl.JX
def vm(hB:∀a,B a->B' a)(hL:∀a,L a->B' a):Mp T Fl.JX (λ_=>false) (λ_=>[]) B' F B L H F B' L' H:=
 ⟨λf a vs _ c h=>by
  cases f with
  |own=>exact⟨c rfl,.inl h⟩
  |bor=>exact⟨hB a h.1,h.2⟩
  |lnt=>exact⟨hL a h.1,.inl h.2⟩
  | _=>exact h,λf a _ c h=>⟨by
  cases f with
  |own=>exact c rfl
  |bor=>exact hB a h
  |lnt=>exact hL a h
  |_=>exact h,λ_ q=>q⟩,λf a x y h=>by cases f<;>exact⟨rfl,rfl⟩,rfl,λ_ _=>rfl,λ_ _ q _=>q⟩
def Rel.JX(hB:∀a,B a->B' a)(hL:∀a,L a->B' a)(hp:∀a∈fo,B' a)(h:Rel T F B L H x v fo):Rel T F B' L' H (x.J2 Fl.JX) v []:=(vm hB hL).rel (mw x) hp h
mutual
def jK:∀x:PV,(x.J2 Fl.JX).has Fl.JY=false
 |.non|.bl _|.int _|.str _=>rfl
 |.lst f xs=>by simp only[PV.J2,PV.has,borrow_ownL xs,Bool.or_false];cases f<;>rfl
 |.tup xs=>by simp only[PV.J2,PV.has,borrow_ownL xs]
 |.obj f c ks xs=>by simp only[PV.J2,PV.has,borrow_ownL xs,Bool.or_false];cases f<;>rfl
 |.exc _=>rfl
 |.box k xs=>by simp only[PV.J2,PV.has,borrow_ownL xs]
def borrow_ownL:∀xs:JS,hasL Fl.JY (mapL Fl.JX xs)=false
 | []=>rfl
 |x::xs=>by simp only[mapL,hasL,jK x,borrow_ownL xs,Bool.or_false]
end
def ItC(T:Tb)(F B L:JJ)(H1:Hp)(J:It)(xs:JS):Prop:=
 ∀H2,Ext H1 H2->(∀(i:Nat) x,xs[i]?=some x->J.go i H2/\∀v H3,J.yld i H2 v H3->Ext H2 H3/\∃f,(∀a∈f,∃o,H1 a=some o)/\Rel T F B L H3 x v f)/\J.stop xs.length H2
def ItC.of0(h:∀H2,Ext H1 H2->(∀(i:Nat) x,xs[i]?=some x->J.go i H2/\∀v H3,J.yld i H2 v H3->H3=H2/\∃f,Rel T F B L H1 x v f)/\J.stop xs.length H2):ItC T F B L H1 J xs:=λH2 hk=>by obtain⟨a,b⟩:=h H2 hk;refine⟨λi x e=>⟨(a i x e).1,λv H3 hy=>?_⟩,b⟩;obtain⟨rfl,f,r⟩:=(a i x e).2 v H3 hy;exact⟨Ext.refl,f,λa ha=>r.there a ha,r.ext hk λ_ h=>h⟩
def GIc(T:Tb)(W:Nat->St->JR)(B F L:JJ)(Y:St)(H:Hp)(R:It->JR):Res (JS)->Prop
 |.ok xs=>∀J H1 F1,Gr F H F1 H1->ItC T F1 B L H1 J xs->R J H1
 |.exc c=>∀H',Ext H H'->W c Y H'
 |.stuck=>False
def tIc(T:Tb)(W:Nat->St->JR)(m:MI):TI:=λY H R=>∃Z F env fp,ax T Z F H Y env fp/\GIc T W Z.B F (Own fp) Y H R (m env)
abbrev SIc(X:Cx)(T:Tb)(W:Nat->St->JR)(tg iter:Expr)(m:MI):Prop:=PI X tg iter (tIc T W m)
def cm(m:ME):MI:=λenv=>(m env).bind λx=>match a6 x with
 |some xs=>.ok xs
 |none=>.stuck
section
variable{X:Cx}{T:Tb}{W:Nat->St->JR}{Z:Zn}{F F1 B L:JJ}{H H1:Hp}{Y:St}{env:En}{fp:Nat->JM}{D:Ends}
def bK(hK:X.K=T.K)(he:SE X T W e m):SIc X T W tg e (cm m):=λjs s Y H R I h=>wP he js s Y H R I (by
 obtain⟨Z,F,env,fp,S,q⟩:=h;unfold cm at q;refine tE.bq S λx v H1 F1 f1 e1 g1 r1 n1 d1 w1=>?_;rw[e1]at q;simp only[Res.J4]at q;cases es:a6 x with
 |none=>rw[es]at q;exact q.elim
 |some xs=>
  rw[es]at q;obtain⟨a,vs,f',rfl,hs,hr,_⟩:=r1.seq es;refine⟨a,rfl,?_⟩;rw[hK];rcases hs with hs|hs
  .refine .inl ⟨vs,hs,q _ H1 F1 g1 (ItC.of0 λH2 hx=>?_)⟩;have h2:SqL T.K H2 a vs:=by
    rcases hs with z|z
    .exact .inl (Rd.tr (λo q=>hx a o q) z)
    .exact .inr z
   refine⟨λi x ex=>?_,⟨vs,h2,by rw[hr.length];exact Nat.le_refl _⟩⟩;obtain⟨v,f,ev,rv,_⟩:=hr.get ex;refine⟨⟨vs,v,h2,ev⟩,λw H3 hy=>⟨hy.1,f,?_⟩⟩;have:=hy.2 vs h2;rw[ev]at this;cases this;exact rv
  .refine .inr ⟨vs,hs,q _ H1 F1 g1 (ItC.of0 λH2 hx=>?_)⟩;have h2:SqT T.K H2 a vs:=SqT.tr (λo q _=>hx a o q) hs;refine⟨λi x ex=>?_,⟨vs,h2,by rw[hr.length];exact Nat.le_refl _⟩⟩;obtain⟨v,f,ev,rv,_⟩:=hr.get ex;refine⟨⟨vs,v,h2,ev⟩,λw H3 hy=>⟨hy.1,f,?_⟩⟩;have:=hy.2 vs h2;rw[ev]at this;cases this;exact rv)
def BJ:ItC T F1 B L H1 (Itr lo n) (cG lo n):=by
 apply ItC.of0;intro H2 _;refine⟨λi x ex=>?_,by simp[cG,Itr]⟩;have hi:i<n:=by have:=(List.getElem?_eq_some_iff.mp ex).1;simpa[cG]using this
 refine⟨hi,λv H3 hy=>⟨hy.1,[],?_⟩⟩;obtain⟨_,rfl⟩:=hy;have:x=.int (lo+(i:Nat)):=by simp[cG,hi]at ex;exact ex.symm
 subst this;exact fQ
def bA(hg:Gl X "range")(hm:X.mg "range" = none)(ha:SA X T W [a] ms)(hs:starEach [a] X.env=[(false,eval a X.env)]:=by rfl):SIc X T W tg (.Call (.Name "range" p) [a] [] pos) (bO ms):=λjs s Y H R I h=>nE hg hm ha hs js s Y H R I (by
 obtain⟨Z,F,env,fp,S,q⟩:=h;unfold bO at q;refine tA.bq S λxs vs H1 F1 f1 e1 g1 r1 n1 d1 w1=>?_;rw[e1]at q;simp only[Res.J4]at q;split at q
 .rename_i n
  split at q
  .rename_i hc
   obtain⟨v,rfl,r2⟩:=r1.one;unfold Rel at r2;obtain⟨rfl,_⟩:=r2;have hc':-(2 ^ 62)<= n/\n<2 ^ 62:=by simpa[inR]using hc
   exact⟨n,rfl,hc'.1,hc'.2,q _ H1 F1 g1 BJ⟩
  .exact q.elim
 .exact q.elim)
abbrev WF:Nat->St->JR:=λ_ _ _=>False
def STs(X:Cx)(T:Tb)(W:Nat->St->JR)(ifs:List Expr)(m:MT):Prop:=
 ∀(js:JI) (s:Shared) (Y:St) (H:Hp) (Q:Bool->JR),L2.Inv X js Y H s->tT T W m Y H Q ->
  wpAny (model X.prog X.w) X.A (forIn ifs true λc r=>if r=true then do let ok <- isTrue c X.env (eval c X.env);pure (ForInStep.yield ok)else pure (ForInStep.yield r)) (TP X js Y Q) X.xe s
def bN:MT:=λ_=>.ok true
def bz:STs X T W [] bN:=λjs s Y H Q I ⟨Z,F,env,fp,S,q⟩=>wpAny_tests_nil ⟨H,I,q H F (Gr.refl S.hp.ft)⟩
def cq(h:ST X T W c m):STs X T W [c] m:=λjs s Y H Q I q=>wpAny_tests_one (h js s Y H Q I q)
structure im(g:TgM)(k:Nat):Prop where
 keep:∀x env e',g x env=some e'->e'.length=env.length/\∀j<k,e'[j]?=env[j]?
 own:∀x env e',g x env=some e'->x.has Fl.JY=false->∀(j:Nat) pv,e'[j]?=some (some pv)->env[j]?=some (some pv)\/ pv.has Fl.JY=false
structure lz(g:sS)(k:Nat):Prop where
 keep:∀x env e',g x env=some e'->e'.length=env.length/\∀j<k,e'[j]?=env[j]?
 own:∀x env e',g x env=some e'->hasL Fl.JY x=false->∀(j:Nat) pv,e'[j]?=some (some pv)->env[j]?=some (some pv)\/ pv.has Fl.JY=false
theorem v_(h:k<=i):im (tgN i) k:=by
 refine⟨λx env e' e=>?_,λx env e' e hx j pv hj=>?_⟩
 .unfold tgN at e;split at e
  .cases e;exact⟨by simp,λj hj=>getElem?_set_ne ()⟩
  .cases e
 .unfold tgN at e;split at e
  .cases e;by_cases hij:i=j
   .subst hij;have hl:i<env.length:=by have:=(List.getElem?_eq_some_iff.mp hj).1;simpa using this
    rw[getElem?_set_self hl]at hj;cases hj;exact .inr hx
   .rw[getElem?_set_ne hij]at hj;exact .inl hj
  .cases e
def gF:lz dZ k:=by
 refine⟨λx env e' e=>?_,λx env e' e _ j pv hj=>?_⟩
 .cases x with
  |nil=>cases e;exact⟨rfl,λ_ _=>rfl⟩
  |cons _ _=>cases e
 .cases x with
  |nil=>cases e;exact .inl hj
  |cons _ _=>cases e
def cI(h1:im g k)(h2:lz u k):lz (bf g u) k:=by
 refine⟨λx env e' e=>?_,λx env e' e hx j pv hj=>?_⟩
 .cases x with
  |nil=>cases e
  |cons y ys=>
   simp only[bf]at e;cases e1:g y env with
   |none=>rw[e1]at e;cases e
   |some e2=>rw[e1]at e;obtain⟨l1,k1⟩:=h1.keep y env e2 e1;obtain⟨l2,k2⟩:=h2.keep ys e2 e' e;exact⟨l2.trans l1,λj hj=>(k2 j hj).trans (k1 j hj)⟩
 .cases x with
  |nil=>cases e
  |cons y ys=>
   simp only[hasL,or_eq_false_iff]at hx;simp only[bf]at e;cases e1:g y env with
   |none=>rw[e1]at e;cases e
   |some e2=>
    rw[e1]at e;rcases h2.own ys e2 e' e hx.2 j pv hj with z|z
    .exact h1.own y env e2 e1 hx.1 j pv z
    .exact .inr z
def jf(h:lz u k):im (tgT n u) k:=by
 refine⟨λx env e' e=>?_,λx env e' e hx j pv hj=>?_⟩
 .cases x with
  |tup xs=>
   simp only[tgT]at e;split at e
   .exact h.keep xs env e' e
   .cases e
  |_=>cases e
 .cases x with
  |tup xs=>
   simp only[tgT]at e;simp only[PV.has]at hx;split at e
   .exact h.own xs env e' e hx j pv hj
   .cases e
  |_=>cases e
def bQ(caps:List Nat)(k:Nat)(env:En):En:=caps.map (λi=>((env[i]?).join).map PV.JX)++ replicate k none
def dP(g:TgM)(mc:MT)(me:ME)(env:En):JS->Res (JS)
 | []=>.ok []
 |x::xs=>match g x.JX env with
  |none=>.stuck
  |some e=>(mc e).bind λb=>if b then(me e).bind λy=>if y.has Fl.J0||y.has Fl.JZ then .stuck else(dP g mc me env xs).bind λys=>.ok (y::ys)else dP g mc me env xs
def aV(caps:List Nat)(k:Nat)(mi:MI)(g:TgM)(mc:MT)(me:ME):ME:=λenv=>(mi env).bind λxs=>if xs.length <= 10000000 then (match dP g mc me (bQ caps k env) xs with
 |.ok ys=>.ok (.lst .own ys)
 |_=>.stuck)else .stuck
end
section
variable{prog:Program}{w:World}{A:Around}{R:Result->Shared->Prop}{s:Shared}
def pf(I:Nat->Shared->Prop)
  (turn:∀ n s,I n s->wpAny (model prog w) A (pyNext it) (λr s₁=>match r with
   |none=>R (.ok .next) s₁
   | some v=>wpAny (model prog w) A (letOwnedTupleGo target it v) (λ_ s₁'=>wpAny (model prog w) A (assign target env v) (λ_ s₂=>
     wpAny (model prog w) A (forIn ifs true λc r=>if r=true then do let ok <- isTrue c env (eval c env);pure (ForInStep.yield ok) else pure (ForInStep.yield r)) (λok s₃=>
      if ok=true then wpAny (model prog w) A (eval elt env) (λx s₄=>
       wpAny (model prog w) A (call (.builtin "list.append") [acc,x]) (λ_ s₅=>∃m,m<n/\I m s₅) (notedBy (model prog w) A env λe s'=>R (.error e) s') s₄) (notedBy (model prog w) A env λe s'=>R (.error e) s') s₃
      else ∃m,m<n/\I m s₃) (notedBy (model prog w) A env λe s'=>R (.error e) s') s₂) (notedBy (model prog w) A env λe s'=>R (.error e) s') s₁') (notedBy (model prog w) A env λe s'=>R (.error e) s') s₁) (notedBy (model prog w) A env λe s'=>R (.error e) s') s)
  (n:Nat) (h:I n s) :
  codeAny (model prog w) A (.compLoop (.ListComp elt [⟨target,iter,ifs,0⟩] scope pos) 0 it acc env) R s:=by
 refine codeAny_loop rfl I (λn s hI=>?_) n h;show wpAny _ A ((compTurn (.ListComp elt [⟨target,iter,ifs,0⟩] scope pos) 0 it acc env).onRaise (λx=>do noteFrame x env;theTreesLotGoes x)) _ _ s;refine wpAny_noted ?_;rw[compTurn_list];refine wpAny_bind (wpAny_standAt (wpAny_bind (wpAny_mono (turn n s hI) (λr s₁ h₁=>?_) λ_ _ h'=>h')));cases r with
 |none=>exact wpAny_pure h₁
 |some v=>
  refine wpAny_bind (wpAny_mono h₁ (λ_ s₁' h₁'=>?_) λ_ _ h'=>h');refine wpAny_bind (wpAny_mono h₁' (λ_ s₂ h₂=>wpAny_bind (wpAny_mono h₂ (λok s₃ h₃=>?_) λ_ _ h'=>h')) λ_ _ h'=>h');cases ok with
  |false=>exact wpAny_pure ⟨rfl,h₃⟩
  |true=>exact wpAny_bind (wpAny_bind (wpAny_mono h₃ (λx s₄ h₄=>wpAny_bind (wpAny_mono h₄ (λ_ s₅ h₅=>wpAny_pure (wpAny_pure ⟨rfl,h₅⟩)) λ_ _ h'=>h')) λ_ _ h'=>h'))
end
end
section
section
variable{X:Cx}{T:Tb}{W:Nat->St->JR}{Z:Zn}{F F1 B L:JJ}{H H1:Hp}{Y:St}{env:En}{fp:Nat->JM}{D:Ends}
def ax.wk(S:ax T Z F H Y env fp)(hpin:Z.pin=none)(hl:e2.length=env.length)(h:∀(i:Nat) pv,e2[i]?=some (some pv)->env[i]?=some (some pv)):ax T Z F H Y e2 fp:=
 ⟨S.hp,S.len.trans hl.symm,λi pv e=>S.rel i pv (h i pv e),S.nd,S.dj,S.dis,S.new,S.ch,λv hv=>by rw[hpin]at hv;cases hv⟩
def ax.J3(S:ax T Z F H Y env fp)(h:∀(i:Nat) pv,env[i]?=some (some pv)->pv.has Fl.JY=false):ax T Z F H Y env (λ_=>[]):=
 ⟨S.hp,S.len,λi pv e=>by
  obtain⟨v,h1,h2⟩:=S.rel i pv e;have:=Rel.J3 (h i pv e) h2;rw[this]at h2;exact⟨v,h1,h2⟩,λ_=>nodup_nil,λ_ _ _ _ z=>(nomatch z),λ_ _ z=>(nomatch z),λ_ _ z=>(nomatch z),λ_ _ z=>(nomatch z),S.pn⟩
theorem ax.updD(S:ax T Z F H Y env (λ_=>[]))(hF:¬F Dd)(h0:Z.H0 Dd=none)(hD:H Dd=some o)(hfx:¬iY o):ax T Z F (upd H Dd o') Y env (λ_=>[]):=by
 have ne:∀a u,H a=some u->(F a\/Z.B a\/NoL a\/iY u)->a≠Dd:=(by grind[bR,ax,cF,Gr])
 refine⟨⟨S.hp.bo,λa u e n=>?_,S.hp.f0,S.hp.fn,λa h=>?_⟩,S.len,λi pv e=>?_,S.nd,S.dj,λ_ _ z=>(nomatch z),S.new,λ_ _ z=>(nomatch z),S.pn⟩
 .have:a≠Dd:=λz=>by rw[z,h0]at e;cases e
  rw[aY this];exact S.hp.keep a u e n
 .obtain⟨u,e⟩:=S.hp.ft a h;exact⟨u,by rw[aY (show a≠Dd from λz=>hF (by rw[<- z];exact h))];exact e⟩
 .obtain⟨v,h1,h2⟩:=S.rel i pv e;refine⟨v,h1,Rel.tr (λ_ h=>h) (λ_ h=>h) (λ_ h=>h) (λa u q h=>?_) (λ_ z=>(nomatch z)) h2⟩;rw[aY (ne a u q h)];exact q
def zC(F:JJ)(H:Hp):Zn:=⟨H,F,λ_=>False,λa=>∃o,H a=some o,none⟩
def vR(S:ax T Z F H Y env fp)(hD:H Dd=none)(hFD:¬F Dd) :
  ax T (zC F H) F (upd H Dd (.lst [])) (pj caps k Y) (bQ caps k env) (λ_=>[]):=by
 have ext:Ext H (upd H Dd (.lst [])):=Ext.upd hD;refine⟨⟨⟨λa h=>⟨h,λz=>z⟩,S.tbo Ext.refl λ_ z=>False.elim z⟩,λa o h _=>ext a o h,λ_ h=>h,λ_ h=>.inl h,λa h=>let⟨o,e⟩:=S.hp.ft a h;⟨o,ext a o e⟩⟩,by simp[pj,bQ],λi pv e=>?_,λ_=>nodup_nil,λ_ _ _ _ z=>(nomatch z),λ_ _ z=>(nomatch z),λ_ _ z=>(nomatch z),λ_ _ z=>(nomatch z),λ_ h=>(nomatch h)⟩;unfold bQ at e;unfold pj;by_cases hi:i<caps.length
 .rw[getElem?_append_left (by simpa using hi),getElem?_map]at e ⊢;obtain⟨j,hj,e2⟩:=map_eq_some_iff.mp e;rw[hj];obtain⟨pv0,e3,rfl⟩:=map_eq_some_iff.mp e2;have e4:env[j]?=some (some pv0):=by
   cases e5:env[j]? with
   |none=>rw[e5]at e3;cases e3
   |some w=>rw[e5]at e3;simp only[Option.join_some]at e3;rw[e3]
  obtain⟨v,h1,h2⟩:=S.rel j pv0 e4;refine⟨v,by simp[h1],?_⟩;refine Rel.JX (B:=λa=>∃o,H a=some o) (L:=NoL) (λ_ h=>h) (λ_ h=>h.elim) (λa ha=>(S.dis j a ha).2) ?_;exact Rel.tr (λ_ h=>h) (λa h=>let⟨⟨o,h1⟩,h2⟩:=S.hp.bo.1 a h;⟨o,S.hp.keep a o h1 h2⟩) (λ_ h=>h) (λa o q _=>ext a o q) (λa _ o q=>ext a o q) h2
 .rw[getElem?_append_right (by simpa using hi),getElem?_replicate]at e;split at e<;>cases e
set_option maxHeartbeats 1000000 in
theorem n5
  (cs:eU X scope caps N tn) (hc:X.calm=true) (hi:SIc X T W tg iter mi) (hk:im g caps.length)
  (hb:∀C s H ex,SG (cxC X scope C N s H ex) T tg g/\STs (cxC X scope C N s H ex) T WF ifs mc/\SE (cxC X scope C N s H ex) T WF elt me)
  (hs:∀x,foldedSetIterable iter X.env x=pure x) (I:L2.Inv X js Y H s) (h:tE T W (aV caps tn.length mi g mc me) Y H Q)
  (hfin:∀(Dd C:Addr) (H':Hp) (s6:Shared) (m:JG),Q (.ref Dd) H'->L2.Inv X js Y H' s6->s6.heap.Ns C m->H' C=none->C≠X.env.locals->C∉X.fs->X.s₀.heap.objs.size<=C->(∀x c,X.env.cells.lookup x=some c->c≠C)->(∀p∈X.pn++js,p.1≠C)->compPost (model X.prog X.w) X.A X.xe use Q' (.ref Dd) C (.ok .next) s6) :
  wpAny (model X.prog X.w) X.A (comprehension (.ListComp elt [⟨tg,iter,ifs,0⟩] scope pos) scope X.env p' (newList []) false (eval iter X.env) use) Q' X.xe s:=by
 obtain⟨Z,F,env,fp,S,q⟩:=h;unfold aV at q;refine wpAny_comprehension_free (use:=use) rfl hs (mU λy hy hf=>I.ok.has y.1 (cs.free y hy hf)) cs.kind cs.names ?_;refine thn (hi js s Y H (λJ H1=>∃F1 xs,mi env=.ok xs/\Gr F H F1 H1/\ItC T F1 Z.B (Own fp) H1 J xs) I ⟨Z,F,env,fp,S,?_⟩) λxv s1 h1=>thn h1 λitv s2 h2=>?_
 .cases em:mi env with
  |ok xs=>exact λJ H1 F1 g1 it=>⟨F1,xs,rfl,g1,it⟩
  |exc c|stuck=>rw[em]at q;exact q
 obtain⟨it,fpi,tn_,J,H2,rfl,I2,Tn,st2,f2,F1,xs,em,g1,itc⟩:=h2;rw[em]at q;simp only[Res.J4]at q;split at q
 case isFalse=>exact q.elim
 rename_i hlen
 cases ec:dP g mc me (bQ caps tn.length env) xs with
 |exc c|stuck=>rw[ec]at q;exact q.elim
 |ok full=>
 rw[ec]at q;dsimp only at q;have S2:=S.grow g1;have hlt:∀b∈fpi,b<s2.heap.objs.size:=λb hb=>by obtain⟨o,ho,_⟩:=Tn.obj 0 _ st2 b hb;exact lt_size ho
 refine PySem.wpAny_newObj_type (qt λh₁ hns₁ hsb₁ hcl₁=>?_);dsimp only at hns₁ hsb₁ hcl₁ ⊢;generalize hH2:s2.heap.push {cls:=.type "list",dict:=none,data:=.seq ([]:JL).toArray}=P2 at hns₁ hsb₁ hcl₁ ⊢;have hC:P2.objs.size=s2.heap.objs.size+1:=by rw[<- hH2,size_push]
 have old:∀b o,s2.heap.get? b=some o->h₁.get? b=some o:=λb o e=>hsb₁ b o (hH2▸get?_push_of_some _ e);have hDo:h₁.get? s2.heap.objs.size=some {cls:=.type "list",data:=.seq ([]:JL).toArray}:=hsb₁ _ _ (hH2▸get?_push_size _ rfl);rw[hC]at hns₁ hcl₁;have inv0:=xU (t:=s2.toks) cs I2 f2 hlt hns₁ hDo old hcl₁;have hDH:H2 s2.heap.objs.size=none:=I2.hok.fresh (Nat.le_refl _);have hDF:¬F1 s2.heap.objs.size:=λz=>by obtain⟨o,e⟩:=g1.dom _ z;rw[hDH]at e;cases e
 have SB:=vR (caps:=caps) (k:=tn.length) S2 hDH hDF;obtain⟨hgN,hts,hel⟩:=hb (s2.heap.objs.size+1) s2 H2 fpi;have never:∀{α:Type}{t:Sem α}{Qa:α->Shared->Prop}{E':JF}{s':Shared},wpAny (model X.prog X.w) X.A t Qa (λ_ _=>False) s'->wpAny (model X.prog X.w) X.A t Qa E' s':=λh=>wpAny_mono h (λ_ _ x=>x) λ_ _ z=>z.elim;have fpok:∀{H':Hp}{pins':JI},(∀p∈pins',p.1∉fpi)->(∀b∈fpi,H' b=none)->∀b∈fpi,mM (cxC X scope (s2.heap.objs.size+1) N s2 H2 fpi) pins' H' b:=λ{H' pins'} hp hn b hb=>by
  refine⟨hn b hb,Nat.ne_of_lt (Nat.lt_succ_of_lt (hlt b hb)),(o_ cs I2 f2 hlt (le_succ _)).exfs b hb,.inl hb,((o_ cs I2 f2 hlt (le_succ _)).exf b hb).2,λp hp' z=>?_⟩;rcases mem_append.mp hp' with w|w
  .exact absurd (show p ∈([]:JI)from w) (by simp)
  .exact hp p w (z▸hb)
 have key:∀s4:Shared,L2.Inv (cxC X scope (s2.heap.objs.size+1) N s2 H2 fpi) [] (pj caps tn.length Y) (upd H2 s2.heap.objs.size (.lst [])) s4->tn_ 0 s4.heap ->
   codeAny (model X.prog X.w) X.A (.compLoop (.ListComp elt [⟨tg,iter,ifs,0⟩] scope pos) 0 (.ref it) (.ref s2.heap.objs.size) (compEnvC scope (q8 X scope (s2.heap.objs.size+1)) (s2.heap.objs.size+1) X.env))
    (compPost (model X.prog X.w) X.A X.xe use Q' (.ref s2.heap.objs.size) (s2.heap.objs.size+1)) s4:=by
  intro s4 inv4 st4;refine pf (λn s'=>∃ (i:Nat) (σ':St) (H':Hp) (Fi:JJ) (ys zs:JS) (vs:JQ) (f:JM),n=xs.length - i/\i <= xs.length/\L2.Inv (cxC X scope (s2.heap.objs.size+1) N s2 H2 fpi) [] σ' H' s'/\tn_ i s'.heap/\(∀ b ∈ fpi,H' b=none) /\
   ax T (zC F1 H2) Fi H' σ' (bQ caps tn.length env) (λ_=>[])/\H' s2.heap.objs.size=some (.lst vs)/\RelL T Fi Z.B (Own fp) H' ys vs f/\f.Nodup/\(∀a∈f,¬Fi a/\H2 a=none/\a≠s2.heap.objs.size)/\¬Fi s2.heap.objs.size/\ys.length<=i /\
   dP g mc me (bQ caps tn.length env) (xs.drop i)=.ok zs/\full=ys++zs) ?_ xs.length ?_
  case refine_2=>
   refine⟨0,_,_,F1,[],full,[],[],by simp,zero_le _,inv4,st4,λb hb=>?_,SB,ce,by unfold RelL;exact⟨rfl,rfl⟩,nodup_nil,λ_ z=>(nomatch z),hDF,zero_le _,ec,rfl⟩;rw[aY (Nat.ne_of_lt (hlt b hb))];exact(f2 b hb).1
  rintro n s5 ⟨i,σ',H',Fi,ys,zs,vs,f,rfl,hil,inv5,st5,fr5,SI5,hD5,ry,nd5,nf5,nFD,hyl,ecl,efull⟩;have ext5:Ext H2 H':=λa o e=>SI5.hp.keep a o e λz=>z;have gr5:Gr F1 H2 Fi H':=⟨ext5,SI5.hp.f0,λa h=>by
   rcases SI5.hp.fn a h with z|z|z
   .exact .inl z
   .exact .inr z
   .exact z.elim,SI5.hp.ft⟩
  obtain⟨go,stop⟩:=itc H' ext5;by_cases hlt5:i<xs.length
  .have hx:xs[i]?=some xs[i]:=by simp[hlt5]
   obtain⟨g5,yl⟩:=go i _ hx;rw[List.drop_eq_getElem_cons hlt5]at ecl;unfold dP at ecl;cases eg:g xs[i].JX (bQ caps tn.length env)with
   |none=>rw[eg]at ecl;cases ecl
   |some e'=>
   rw[eg]at ecl;dsimp only at ecl;refine thn (Tn.item (cxC X scope (s2.heap.objs.size+1) N s2 H2 fpi) rfl rfl rfl hc i [] s5 σ' H' _ inv5 (fpok (λ_ z=>absurd z (by simp)) fr5) st5 g5) λr s6 hz1=>?_;obtain⟨u,hr,h6⟩:=hz1;subst hr;refine thn h6 λ_ s7 hz1=>?_;obtain⟨v,H7,inv7,rv,yy,st7,fr7⟩:=hz1;obtain⟨ex7,fx,tx,rx⟩:=yl v H7 yy
   replace SI5:=SI5.grow (Gr.same SI5.hp.ft ex7)
   replace ry:=ry.ext ex7 λ_ h=>h
   replace hD5:=ex7 _ _ hD5
   replace gr5:=gr5.trans (Gr.same gr5.dom ex7)
   replace ext5:=gr5.ext
   have pinv:=inv7.pinned (fpok (λ_ z=>absurd z (by simp)) fr7) (Tn.obj _ _ st7);have rxb:Rel T Fi (zC F1 H2).B NoL H7 xs[i].JX v []:=by refine Rel.JX (B:=λa=>∃o,H2 a=some o) (L:=Own fp) (λ_ h=>h) (λa ⟨j,hj⟩=>(S2.dis j a hj).2) (λa ha=>tx a ha) ?_;exact Rel.tr SI5.hp.f0 (λa h=>let⟨⟨o,h1⟩,h2⟩:=S2.hp.bo.1 a h;⟨o,S2.hp.keep a o h1 h2⟩) (λ_ h=>h) (λa o q _=>q) (λa _ o q=>q) rx
   refine never (thn (hgN _ s7 σ' H7 v u (λσ8 H8=>H8=H7/\∃fp8,ax T (zC F1 H2) Fi H7 σ8 e' fp8) pinv rv ⟨zC F1 H2,Fi,bQ caps tn.length env,λ_=>[],xs[i].JX,[],SI5,rxb,vZ.nil,?_⟩) λ_ s8 ⟨σ8,H8,inv8,e8,fp8,S8⟩=>?_)
   .rw[eg];exact λσ8 fp8 S8=>⟨rfl,fp8,S8⟩
   subst e8;obtain⟨kl,kk⟩:=hk.keep _ _ _ eg;have capOwn:∀(j:Nat) pv,(bQ caps tn.length env)[j]?=some (some pv)->pv.has Fl.JY=false:=λj pv ej=>by
    unfold bQ at ej;by_cases hj:j<caps.length
    .rw[getElem?_append_left (by simpa using hj),getElem?_map]at ej;obtain⟨jj,_,e2⟩:=map_eq_some_iff.mp ej;obtain⟨pv0,_,rfl⟩:=map_eq_some_iff.mp e2;exact jK pv0
    .rw[getElem?_append_right (by simpa using hj),getElem?_replicate]at ej;split at ej<;>cases ej
   have S8':ax T (zC F1 H2) Fi H8 σ8 e' (λ_=>[]):=S8.J3 λj pv ej=>by
    rcases hk.own _ _ _ eg (jK _) j pv ej with z|z
    .exact capOwn j pv z
    .exact z
   have back:∀{F9:JJ}{H9:Hp},ax T (zC F1 H2) F9 H9 σ8 e' (λ_=>[])->ax T (zC F1 H2) F9 H9 σ8 (bQ caps tn.length env) (λ_=>[]):=λS9=>S9.wk rfl kl.symm λj pv ej=>by
    have hj:j<caps.length:=by
     by_cases hj:j<caps.length
     .exact hj
     .unfold bQ at ej;rw[getElem?_append_right (by simpa using hj),getElem?_replicate]at ej;split at ej<;>cases ej
    rw[kk j hj];exact ej
   have pinback:∀{H9:Hp}{s9:Shared},L2.Inv (cxC X scope (s2.heap.objs.size+1) N s2 H2 fpi) ([]++ lT fpi s7.heap) σ8 H9 s9->L2.Inv (cxC X scope (s2.heap.objs.size+1) N s2 H2 fpi) [] σ8 H9 s9/\tn_ (i+1) s9.heap/\∀b∈fpi,H9 b=none:=λ{H9 s9} i9=>
    ⟨i9.unpinned,Tn.keep _ _ _ st7 λb hb o e=>(i9.pin (b,o) (mem_append_right _ (mem_append_right _ (ie hb e)))).1,λb hb=>by
     obtain⟨o,e,_⟩:=Tn.obj _ _ st7 b hb;exact(i9.pin (b,o) (mem_append_right _ (mem_append_right _ (ie hb e)))).2.1⟩
   cases emc:mc e' with
   |exc c|stuck=>rw[emc]at ecl;cases ecl
   |ok bb=>
   rw[emc]at ecl;simp only[Res.J4]at ecl;refine never (thn (hts _ s8 σ8 H8 (λb H9=>b=bb/\∃F9,Gr Fi H8 F9 H9) inv8 ⟨zC F1 H2,Fi,e',λ_=>[],S8',?_⟩) λok s9 ⟨H9,inv9,eb,F9,g9⟩=>?_)
   .rw[emc];exact λH9 F9 g9=>⟨rfl,F9,g9⟩
   subst eb;have S9:=S8'.grow g9;have ry9:=ry.ext g9.ext g9.mono;have nf9:∀a∈f,¬F9 a:=λa ha z=>by
    rcases g9.only a z with z|z
    .exact(nf5 a ha).1 z
    .obtain⟨o,e⟩:=ry.there a ha;rw[e]at z;cases z
   have nFD9:¬F9 s2.heap.objs.size:=λz=>by
    rcases g9.only _ z with z|z
    .exact nFD z
    .rw[hD5]at z;cases z
   cases ok with
   |false=>simp only[false_eq_true,if_false]at ecl ⊢;obtain⟨i10,st10,fr10⟩:=pinback inv9;exact⟨xs.length-(i+1),by omega,i+1,σ8,H9,F9,ys,zs,vs,f,rfl,hlt5,i10,st10,fr10,back S9,g9.ext _ _ hD5,ry9,nd5,λa ha=>⟨nf9 a ha,(nf5 a ha).2⟩,nFD9,by omega,ecl,efull⟩
   |true=>
    simp only[if_true]at ecl ⊢;cases eme:me e' with
    |exc c|stuck=>rw[eme]at ecl;cases ecl
    |ok y=>
    rw[eme]at ecl;simp only[Res.J4]at ecl;split at ecl
    case isTrue=>cases ecl
    rename_i hyb
    simp only[or_eq_true,not_or,Bool.not_eq_true]at hyb;cases ecr:dP g mc me (bQ caps tn.length env) (xs.drop (i+1))with
    |exc c|stuck=>rw[ecr]at ecl;cases ecl
    |ok zs'=>
    rw[ecr]at ecl;simp only[Res.J4]at ecl;cases ecl;refine never (thn (hel _ s9 σ8 H9 (λv' H10=>∃F10 f10,Gr F9 H9 F10 H10/\Rel T F10 (zC F1 H2).B (Own λ_=>[]) H10 y v' f10/\(∀a∈f10,¬F10 a)/\f10.Nodup/\∀a∈f10,H9 a=none) inv9 ⟨zC F1 H2,F9,e',λ_=>[],S9,?_⟩) λw s10 ⟨v',H10,inv10,rw10,F10,f10,g10,r10,n10,d10,w10⟩=>?_)
    .rw[eme];exact λv' H10 F10 f10 g10 r10 n10 d10 w10=>⟨F10,f10,g10,r10,n10,d10,w10⟩
    have hvl:vs.length<sizeLine:=by have h1:=ry.length;have h2:sizeLine=16777216:=sizeLine_eq;omega
    have hD10:H10 s2.heap.objs.size=some (.lst vs):=g10.ext _ _ (g9.ext _ _ hD5);refine never (thn (kB _ s10 σ8 H10 (.ref s2.heap.objs.size) [v'] (.ref s2.heap.objs.size) [w] (λ_ H11=>H11=upd H10 s2.heap.objs.size (.lst (vs++[v']))) inv10 rfl (.cons rw10 .nil) ⟨s2.heap.objs.size,vs,v',rfl,rfl,hD10,hvl,rfl⟩) λ_ s11 zz=>?_);obtain⟨_,H11,inv11,_,e11⟩:=zz;subst e11;obtain⟨i12,st12,fr12⟩:=pinback inv11;have S10:=S9.grow g10;have nFD10:¬F10 s2.heap.objs.size:=λz=>by
     rcases g10.only _ z with z|z
     .exact nFD9 z
     .rw[g9.ext _ _ hD5]at z;cases z
    have ry10:=ry9.ext g10.ext g10.mono;have ryy:RelL T F10 Z.B (Own fp) (upd H10 s2.heap.objs.size (.lst (vs++[v']))) (ys++[y]) (vs++[v']) (f++f10):=by
     have ry1:Rel T F10 Z.B (Own fp) H10 y v' f10:=Rel.noL hyb.2 (Rel.noB (B':=Z.B) hyb.1 r10);have all:RelL T F10 Z.B (Own fp) H10 (ys++[y]) (vs++[v']) (f++f10):=RelL.append ry10 (by unfold RelL;exact⟨v',[],f10,[],rfl,ry1,by unfold RelL;exact⟨rfl,rfl⟩,by simp⟩);refine RelL.tr (λ_ h=>h) (λ_ h=>h) (λ_ h=>h) (λa o e h=>?_) (λa ha o e=>?_) all
     .refine(aY λz=>?_).trans e;subst z;rcases h with h|h|h|h
      .exact nFD10 h
      .obtain⟨⟨o',h1⟩,h2⟩:=S2.hp.bo.1 _ h;rw[S2.hp.keep _ o' h1 h2]at hDH;cases hDH
      .obtain⟨j,hj⟩:=h;obtain⟨_,o',ho'⟩:=S2.dis j _ hj;rw[hDH]at ho';cases ho'
      .rw[hD10]at e;cases e;exact h
     .refine(aY λz=>?_).trans e;subst z;rcases mem_append.mp ha with ha|ha
      .exact(nf5 _ ha).2.2 rfl
      .have:=w10 _ ha;rw[g9.ext _ _ hD5]at this;cases this
    have nf10:∀a∈f,¬F10 a:=λa ha z=>by
     rcases g10.only a z with z|z
     .exact nf9 a ha z
     .obtain⟨o,e⟩:=ry9.there a ha;rw[e]at z;cases z
    refine⟨xs.length-(i+1),by omega,i+1,σ8,_,F10,ys++[y],zs',vs++[v'],f++f10,rfl,hlt5,i12,st12,fr12,back (S10.updD nFD10 hDH hD10 (λz=>z)),ce,ryy,?_,λa ha=>?_,nFD10,by simp;omega,ecr,by rw[efull,List.append_assoc];rfl⟩
    .refine nodup_append.mpr ⟨nd5,d10,λa ha b hb z=>?_⟩;subst z;obtain⟨o,e⟩:=ry9.there a ha;rw[w10 a hb]at e;cases e
    .rcases mem_append.mp ha with ha|ha
     .exact⟨nf10 a ha,(nf5 a ha).2⟩
     .refine⟨n10 a ha,?_,λz=>?_⟩
      .have:=w10 a ha;exact ext5.free (g9.ext.free this)
      .subst z;have:=w10 _ ha;rw[g9.ext _ _ hD5]at this;cases this
  .have e:i=xs.length:=by omega
   subst e;rw[drop_length]at ecl;unfold dP at ecl;cases ecl;rw[append_nil]at efull;subst efull;refine thn (Tn.done (cxC X scope (s2.heap.objs.size+1) N s2 H2 fpi) rfl rfl rfl hc xs.length [] s5 σ' H' _ inv5 (fpok (λ_ z=>absurd z (by simp)) fr5) st5 stop) λr s6 hz1=>?_;obtain⟨hr,inv6⟩:=hz1;subst hr;obtain⟨m,hn,_⟩:=id inv6.loc;have hlc:X.env.locals<s2.heap.objs.size+1:=Nat.lt_succ_of_lt I2.lt;have iX:L2.Inv X js Y H' s6:=I2.call' inv6.os inv6.base inv6.hok inv6.bare λb hb=>⟨(f2 b hb).2.2.2.1,(f2 b hb).2.1,(f2 b hb).2.2.2.2.1,(f2 b hb).2.2.2.2.2⟩
   refine hfin _ (s2.heap.objs.size+1) H' s6 m ?_ iX hn inv6.free (Nat.ne_of_gt hlc) (I2.nofs (le_succ _)) (Nat.le_trans I2.sz (le_succ _)) (λx c e z=>?_) (λp hp z=>?_)
   case refine_2=>
    obtain⟨v,hv⟩:=I2.cell x c e;rw[z]at hv;exact absurd hv.lt (Nat.not_lt.mpr (le_succ _))
   case refine_3=>
    have:=lt_size (I2.pin p hp).1;rw[z]at this;exact absurd this (Nat.not_lt.mpr (le_succ _))
   refine q (.ref s2.heap.objs.size) H' Fi (s2.heap.objs.size::f) (g1.trans gr5) ?_ (λa ha=>?_) ?_ (λa ha=>?_)
   .unfold Rel;exact⟨_,vs,f,rfl,hD5,ry,rfl⟩
   .grind
   .exact nodup_cons.mpr ⟨λz=>(nf5 _ z).2.2 rfl,nd5⟩
   .rcases mem_cons.mp ha with rfl|ha
    .exact g1.ext.free hDH
    .exact g1.ext.free (nf5 a ha).2.1
 have st0:tn_ 0 h₁:=Tn.keep _ _ _ st2 λb _ o e=>old b o e;have lp:=key _ inv0 st0;simp only[hC];exact codeAny_compStart_list lp (Tn.self _ 0 _ _ _ st0 lp)
def AE
  (cs:eU X scope caps N tn) (hc:X.calm=true) (hi:SIc X T W tg iter mi) (hk:im g caps.length)
  (hb:∀C s H ex,SG (cxC X scope C N s H ex) T tg g/\STs (cxC X scope C N s H ex) T WF ifs mc/\SE (cxC X scope C N s H ex) T WF elt me)
  (hs:∀x,foldedSetIterable iter X.env x=pure x:=by intro _;rfl):SE X T W (.ListComp elt [⟨tg,iter,ifs,0⟩] scope pos) (aV caps tn.length mi g mc me):=by
 intro js s Y H Q I h;rw[eval_ListComp];refine n5 cs hc hi hk hb hs I h λDd C H' s6 m hq iX hn hCn hCl hCf hC0 hCc hCp=>⟨m,hn,λh' hs'=>⟨.ref Dd,H',?_,rfl,hq⟩⟩
 exact iX.turned (t':=s6.toks) (λb o hb e=>(hs'.2 b hb).trans e) hCn hCl (.inr hC0) hCc hCp
def Ar
  (cs:eU X scope caps N tn) (hc:X.calm=true) (hN:X.N.Nodup) (hy:X.N[i]?=some y) (hx:Loc X.env.scope y) (hi:SIc X T W tg iter mi) (hk:im g caps.length)
  (hb:∀C s H ex,SG (cxC X scope C N s H ex) T tg g/\STs (cxC X scope C N s H ex) T WF ifs mc/\SE (cxC X scope C N s H ex) T WF elt me)
  (hsw:swapsWith (.ListComp elt [⟨tg,iter,ifs,0⟩] scope pos) (some (.Name y py)) spos.line X.env=pure true:=by rfl)
  (hs:∀x,foldedSetIterable iter X.env x=pure x:=by intro _;rfl)
  (hf:X.fn y=true\/X.env.scope.names.lookup y=some .local:=by first|exact .inl rfl|exact .inr rfl|assumption) :
  SS X T W (.Assign [.Name y py] (.ListComp elt [⟨tg,iter,ifs,0⟩] scope pos) spos) (aW i (aV caps tn.length mi g mc me)):=by
 intro js s Y H D I h;obtain⟨Z,F,env,fp,S,q⟩:=h;unfold aW at q;rw[exec_Assign_Name_used _ _ _ _ hsw];refine wpAny_bind (wpAny_standAt (wpAny_bind ?_));show wpAny _ X.A (do let _ <- comprehension (.ListComp elt [⟨tg,iter,ifs,0⟩] scope pos) scope X.env _ (newList []) false (eval iter X.env) (some (assign (.Name y py) X.env))) _ _ s;refine wpAny_bind (wpAny_mono (n5 (use:=some (assign (.Name y py) X.env)) (Q':=λ_ s'=>SP X js D .next s') (Q:=λv H1=>D.nx (Y.set i (some v)) H1) cs hc hi hk hb hs I ?_ λDd C H' s6 m hq iX hn hCn hCl hCf hC0 hCc hCp=>?_) (λ_ s' hq=>wpAny_pure (wpAny_pure hq)) λ_ _ e=>e)
 .refine tE.bind S (λc e H' x=>?_) (λe=>by rw[e]at q;exact q) λpv v H1 F1 f e g r h1 h2 h3=>?_
  .rw[e]at q;exact q F H' Y fp (S.grow (Gr.same S.hp.ft x))
  .rw[e]at q;simp only at q;split at q
   .rename_i hl
    rw[and_eq_true]at hl;exact q F1 H1 _ _ (S.putN g hl.2 r hl.1 h1 h2 h3)
   .exact q.elim
 .refine wpAny_assign_Name (ng (v:=.ref Dd) (u:=.ref Dd) iX hN hy hx rfl (λs7 i7 ⟨a,hsa,ha⟩=>?_) hf);have hCa:C≠a:=by
   rcases ha with ha|ha
   .rw[ha];exact hCl
   .exact λz=>hCc y a ha z.symm
  refine⟨m,hn.sameBut hsa hCa,λh' hs'=>⟨_,H',?_,hq⟩⟩;exact i7.turned (t':=s7.toks) (λb o hb e=>(hs'.2 b hb).trans e) hCn hCl (.inr hC0) hCc hCp
end
def GFI(T:Tb)(Z:Zn)(v0:V)(Q:VK)(E:XK):JT->Prop
 |.ok pv=>∀F H f,cF T Z F H->Rel T F Z.B NoL H pv v0 f->f.Nodup->(∀a∈f,¬F a)->(∀a∈f,Z.H0 a=none\/Z.fp0 a)->Q .non H
 |.exc c=>∀H,(∀a o,Z.H0 a=some o->¬Z.fp0 a->H a=some o)->E (.ref (T.xcl c)) none H
 |.stuck=>False
def spI(T:Tb)(n:Nat)(m:JS->JT):Sp:=λvs H Q E=>vs.length=n/\∃v0 pvs F B f,vs[0]?=some v0/\v3 T F B H pvs vs f/\(∃fl c ks xs,pvs[0]?=some (.obj fl c ks xs))/\GFI T ⟨H,F,(·∈f),B,some v0⟩ v0 Q E (m pvs)
def jo(n:Nat)(m:MS)(args:JS):JT:=match m (args.map some++replicate (n-args.length) none)with
 |.next e=>match e[0]? with
  |some (some o)=>.ok o
  |_=>.stuck
 |.exc c _=>.exc c
 |_=>.stuck
section
variable{P:Program}{w:World}{K:PySem.W.Frag}{mg:JG}{base:Heap}{T:Tb}
def EE(F:Fun K x qual st f fd)(S:eW N ps (aQ st))
  (body:∀ (cdv:Value) (A:Around) (outer:List Env) (s:Shared) (H:Hp) (E:XK),eH k (A.deeper (PyProof.Rows.envOfC qual (aQ st) s.heap.objs.size f cdv)) ->
   SSs (fG (CXP P w) P w K mg base N qual (aQ st) f cdv A outer s H E) T (WD T E) (cM st) m):dD P w K mg base (CXP P w) (k+1) f fd ps (spI T ps.length (jo N.length m)):=by
 obtain⟨oc,od,kV,doc,pm,an,cdv,ct,osl,rfl,lk,hcd⟩:=F.ex;refine CA lk hcd S (λvs H Q E h=>h.1) λA outer s H vs Q E hr hsp=>⟨_,body cdv A outer s H E hr,?_⟩
 obtain⟨_,v0,pvs,F,B,fl,hv0,R,hob,q⟩:=hsp;obtain⟨fp,S0⟩:=oi N R (some v0) (λv hv=>by cases hv;exact⟨hv0,hob⟩);refine⟨_,F,_,fp,S0,?_⟩;unfold jo at q;cases e:m (pvs.map some++replicate (N.length-pvs.length) none)with
 |next e'=>
  rw[e]at q;dsimp only at q;intro F' H' σ' fp' S';obtain⟨h1,_⟩:=S'.pn v0 rfl;cases e0:e'[0]? with
  |none=>rw[e0]at q;exact q.elim
  |some o0=>
   cases o0 with
   |none=>rw[e0]at q;exact q.elim
   |some o=>rw[e0]at q;obtain⟨v,h2,r⟩:=S'.rel 0 o e0;rw[h1]at h2;cases h2;exact q F' H' (fp' 0) S'.hp r (S'.nd 0) (λa ha=>(S'.dis 0 a ha).1) (S'.new 0)
 |ret v|brk e'|cont e'=>rw[e]at q;exact q.elim
 |exc c e'=>rw[e]at q;exact λF' H' σ' fp' S'=>q H' S'.hp.keep
 |stuck=>rw[e]at q;exact q.elim
end
section
variable{X:Cx}{T:Tb}{W:Nat->St->JR}{Z:Zn}{F F1 B L:JJ}{H H1:Hp}{Y:St}{env:En}{fp:Nat->JM}{D:Ends}
theorem Da
  (M:Mk X.K (T.cls c) f) (hcn:c<T.nc) (G:dD X.prog X.w X.K X.mg X.base (CXP X.prog X.w) k f fd ps (spI T ps.length m)) (hr:eH (k+1) X.A) (hb:f8 X.K fd ps ds) (hd:aU dvs ds) (hdp:∀F B L H,RelL T F B L H dps dvs []) (hx:XF X T W)
  (S:ax T Z F H Y env fp) (g:Gr F H F1 H1) (r:RelL T F1 Z.B (Own fp) H1 xs vs fx) (nf:∀a∈fx,¬F1 a) (nd:fx.Nodup) (new:∀a∈fx,H a=none) (q:GE T W Z.B F (Own fp) Y H Q (aN m (.obj .own c [] []::(xs++dps))))
  (I1:L2.Inv X js Y H1 s1) (rv:aU vs us) (hlen:vs.length+dvs.length+1=ps.length):wpAny (model X.prog X.w) X.A (call (.ref (T.cls c)) us) (EP X js Y Q) X.xe s1:=by
 have hxn:H1 (s1.heap.objs.size+1)=none:=I1.hok.fresh (le_succ _);have hdn:H1 s1.heap.objs.size=none:=I1.hok.fresh (Nat.le_refl _);have hne:s1.heap.objs.size≠s1.heap.objs.size+1:=Nat.ne_of_lt (Nat.lt_succ_self _);generalize hH2:upd (upd H1 s1.heap.objs.size (.own (s1.heap.objs.size+1))) (s1.heap.objs.size+1) (.ins (T.cls c) s1.heap.objs.size [])=H2;have ext2:Ext H1 H2:=by rw[<- hH2];exact(Ext.upd hdn).trans (Ext.upd (by rw[aY hne.symm];exact hxn))
 have free2:∀a,H2 a=none->H1 a=none:=λa h=>ext2.free h;have hx2:H2 (s1.heap.objs.size+1)=some (.ins (T.cls c) s1.heap.objs.size []):=by rw[<- hH2];exact ce
 have I2:=L2.Inv.made (C:=T.cls c) I1;rw[hH2]at I2;have r2:aU (V.ref (s1.heap.objs.size+1)::(vs++dvs)) (Value.ref (s1.heap.objs.size+1)::(us++ds)):=.cons rfl (rv.append hd);have hl:(Value.ref (s1.heap.objs.size+1)::us++ds).length=ps.length:=by have e:=r2.length;simp only[length_cons,length_append]at e hlen ⊢;omega
 have rr:RelL T F1 Z.B (Own fp) H1 (xs++dps) (vs++dvs) fx:=by
  have:=RelL.append r (hdp F1 Z.B (Own fp) H1)
  rwa [append_nil]at this
 have nx:s1.heap.objs.size+1∉fx:=λz=>by obtain⟨o,ho⟩:=r.there _ z;rw[hxn]at ho;cases ho
 have hBo:∀a,Z.B a->(∃o,H2 a=some o)/\a ∉(s1.heap.objs.size+1)::fx:=λa h=>by
  obtain⟨⟨o,h1⟩,h2⟩:=S.hp.bo.1 a h;have h3:=S.hp.keep a o h1 h2;refine⟨⟨o,ext2 a o (g.ext a o h3)⟩,λz=>?_⟩;rcases mem_cons.mp z with z|z
  .rw[z]at h3;rw[g.ext _ _ h3]at hxn;cases hxn
  .rw[new a z]at h3;cases h3
 have hOw:∀a,Own fp a->(∃o,H2 a=some o)/\a ∉(s1.heap.objs.size+1)::fx:=λa hz1=>by
  obtain⟨i,hi⟩:=hz1;obtain⟨_,o,ho⟩:=S.dis i a hi;refine⟨⟨o,ext2 a o (g.ext a o ho)⟩,λz=>?_⟩;rcases mem_cons.mp z with z|z
  .rw[z]at ho;rw[g.ext _ _ ho]at hxn;cases hxn
  .rw[new a z]at ho;cases ho
 have nF:¬F1 (s1.heap.objs.size+1):=λz=>by obtain⟨o,ho⟩:=g.dom _ z;rw[hxn]at ho;cases ho
 have R:v3 T F1 (λa=>(∃o,H2 a=some o)/\a ∉(s1.heap.objs.size+1)::fx) H2 (.obj .own c [] []::mapL Fl.JV (xs++dps)) (.ref (s1.heap.objs.size+1)::(vs++dvs)) ((s1.heap.objs.size+1)::fx):=by
  refine⟨?_,nodup_cons.mpr ⟨nx,nd⟩,λa ha=>?_,⟨λa h=>h,S.tbo (g.ext.trans ext2) λa z=>.inl ((mem_cons.mp z).elim (λz=>by rw[z];exact g.ext.free hxn) (new a))⟩,λa h=>let⟨o,ho⟩:=g.dom a h;⟨o,ext2 a o ho⟩⟩
  .unfold RelL;refine⟨_,_,[s1.heap.objs.size+1],fx,rfl,?_,RelL.JV hBo hOw (rr.ext ext2 λ_ h=>h),rfl⟩;unfold Rel;exact⟨_,s1.heap.objs.size,[],[],rfl,by simpa using hx2,⟨rfl,hcn⟩,by unfold RelL;exact⟨rfl,rfl⟩,rfl,True.intro⟩
  .rcases mem_cons.mp ha with rfl|ha
   .exact nF
   .exact nf a ha
 have newx:∀a ∈(s1.heap.objs.size+1)::fx,H a=none:=λa ha=>by
  rcases mem_cons.mp ha with rfl|ha
  .exact g.ext.free hxn
  .exact new a ha
 refine wpAny_call (xL (f:=f) I1.kIn M.makes M.init (beq_iff_eq.mp M.fn) (codeAny_mono (G.run _ X.stack _ _ ⟨Value.ref (s1.heap.objs.size+1)::us,[]⟩ (Value.ref (s1.heap.objs.size+1)::(us ++ ds)) _ (λv H3=>v=.non/\Q (.ref (s1.heap.objs.size+1)) H3) (λcls _ H'=>∃ c,cls=.ref (T.xcl c)/\W c Y H') (hr.make (T.cls c) us [])
  (I2.env0.make (T.cls c) us []) (hb _ (Value.ref (s1.heap.objs.size+1)::us) I2.kIn hl) r2 ⟨by rw[r2.length];exact hl,_,_,F1,_,_,rfl,R,⟨.own,c,[],[],rfl⟩,?_⟩) λrs s' hq'=>?_))
 .unfold aN at q;have e0:mapL Fl.JV (PV.obj .own c [] []::(xs++dps))=.obj .own c [] []::mapL Fl.JV (xs++dps):=by simp[mapL,PV.J2,Fl.JV]
  rw[e0]at q;cases e:m (.obj .own c [] []::mapL Fl.JV (xs++dps))with
  |ok v=>
   rw[e]at q;dsimp only at q;intro F3 H3 f3 hp3 r3 nd3 nf3 new3;refine⟨rfl,?_⟩;by_cases hbr:v.has Fl.J0=true
   .rw[if_pos hbr]at q;exact q.elim
   .rw[if_neg hbr]at q;have hbr':v.has Fl.J0=false:=by simpa using hbr
    refine q _ H3 F3 f3 ⟨λa o h=>hp3.keep a o (ext2 a o (g.ext a o h)) λz=>(by rw[newx a z]at h;cases h),λa h=>hp3.f0 a (g.mono a h),λa h=>?_,hp3.ft⟩ ?_ nf3 nd3 λa ha=>?_
    .rcases hp3.fn a h with z|z|z
     .exact g.only a z
     .exact .inr (g.ext.free (free2 a z))
     .exact .inr (newx a z)
    .exact Rel.tr (λ_ h=>h) (λ_ h=>h) (λ_ h=>h.elim) (λ_ _ h _=>h) (λ_ _ _ h=>h) (Rel.noB (B':=Z.B) hbr' r3)
    .rcases new3 a ha with z|z
     .exact g.ext.free (free2 a z)
     .exact newx a z
  |exc c'=>rw[e]at q;exact λH' h=>⟨c',rfl,q H' λa o z=>h a o (ext2 a o (g.ext a o z)) λz'=>by rw[newx a z']at z;cases z⟩
  |stuck=>rw[e]at q;exact q.elim
 .cases rs with
  |error e=>obtain⟨cls,H',fl,c',rfl,hw⟩:=hq';exact hx js Y H2 _ c' H' e s' I2 fl hw
  |ok fl=>
   cases fl with
   |ret u=>obtain⟨v,H',I3,rv',ev,q3⟩:=I2.after hq';subst ev;exact⟨rv',⟨V.ref (s1.heap.objs.size+1),H',I3,rfl,q3⟩⟩
   |next|brk|cont=>exact False.elim hq'
def AD
  (M:Mk X.K (T.cls c) f) (hcn:c<T.nc) (G:dD X.prog X.w X.K X.mg X.base (CXP X.prog X.w) k f fd ps (spI T ps.length m)) (hr:eH (k+1) X.A) (hg:Gl X x) (hm:X.mg x=some (.ref (T.cls c))) (hb:f8 X.K fd ps ds) (hd:aU dvs ds) (hdp:∀F B L H,RelL T F B L H dps dvs []) (hx:XF X T W)
  (hn:iC ms n) (hps:n+dvs.length+1=ps.length) (ha:SA X T W (e::es) ms)
  (hdb:(x ==("__debug__":Str))=false:=by decide) (he:starEach (e::es) X.env=(false,eval e X.env)::starEach es X.env:=by rfl) (hpl:(backTo pos (starEach es X.env)).any (·.1)=false:=by rfl) :
  SE X T W (.Call (.Name x p) (e::es) [] pos) (aq (λxs=>aN m (.obj .own c [] []::(xs++dps))) ms):=by
 intro js s Y H Q I h;obtain⟨Z,F,env,fp,S,q⟩:=h;unfold aq at q;refine wpAny_Call_Name_kw (kc I hg hm ?_ hdb);refine callWith_K (h₀:=X.base) I.ok.mod.kin M.kp (thn (ha pos js s Y H (λvs H1=>∀ us s1,L2.Inv X js Y H1 s1->aU vs us->wpAny (model X.prog X.w) X.A (call (.ref (T.cls c)) us) (EP X js Y Q) X.xe s1) I
  (tA.bq S λxs vs H1 F1 f1 e1 g1 r1 n1 d1 w1 us s1 I1 rv=>?_)) λus s1 ⟨vs,H1,I1,r,q1⟩=>⟨I1.kIn,q1 us s1 I1 r⟩) he hpl
 rw[e1]at q;exact Da M hcn G hr hb hd hdp hx S g1 r1 n1 d1 w1 q I1 rv (by rw[<- r1.length,hn env xs e1];exact hps)
theorem ax.mut(S:ax T Z F H Y env fp)(hi:i<env.length)(hv:Y[i]?=some (some v))(ha:a∈fp i)(r:Rel T F Z.B NoL (upd H a o') pv' v f')(nd:f'.Nodup)(nf:∀b∈f',¬F b)
  (new:∀b∈f',Z.H0 b=none\/Z.fp0 b) (dj:∀b∈f',∀j,j≠i->b∉fp j) (ho:i=0->dw env=true->∃fl c ks xs,pv'=.obj fl c ks xs):ax T Z F (upd H a o') Y (env.set i (some pv')) (bR fp i f'):=by
 obtain⟨oa,hoa,hch⟩:=S.ch i a ha;have nFa:¬F a:=(S.dis i a ha).1;have nBa:¬Z.B a:=λz=>S.bow a z ⟨i,ha⟩;have ne:∀b u,H b=some u->(F b\/Z.B b\/NoL b\/iY u)->b≠a:=λb u e h z=>by
  subst z;rcases h with h|h|h|h
  .exact nFa h
  .exact nBa h
  .exact h
  .rw[hoa]at e;cases e;cases oa with
   |lst _|ins _ _ _=>exact h
   |_=>exact hch
 have nz:∀b u,Z.H0 b=some u->¬Z.fp0 b->b≠a:=(by grind[bR,ax,cF,Gr])
 have nj:∀j,j≠i->∀b∈fp j,b≠a:=λj hj b hb z=>by subst z;exact S.dj j i hj _ hb ha
 refine⟨⟨S.hp.bo,λb u e n=>by rw[aY (nz b u e n)];exact S.hp.keep b u e n,S.hp.f0,S.hp.fn,λb h=>?_⟩,by rw[length_set,S.len],λj pv e=>?_,λj=>?_,λj k hjk b hb=>?_,λj b hb=>?_,λj b hb=>?_,λj b hb=>?_,λw hw=>?_⟩
 .obtain⟨u,e⟩:=S.hp.ft b h;exact⟨u,by rw[aY (show b≠a from λz=>nFa (by rw[<- z];exact h))];exact e⟩
 .by_cases hj:j=i
  .subst hj;rw[getElem?_set_self hi]at e;cases e;refine⟨v,hv,?_⟩;unfold bR;rw[if_pos rfl];exact r
  .rw[getElem?_set_ne (Ne.symm hj)]at e;obtain⟨w,h1,h2⟩:=S.rel j pv e;refine⟨w,h1,?_⟩;unfold bR;rw[if_neg hj];exact Rel.tr (λ_ h=>h) (λ_ h=>h) (λ_ h=>h) (λb u q h=>by rw[aY (ne b u q h)];exact q) (λb hb u q=>by rw[aY (nj j hj b hb)];exact q) h2
 .unfold bR;split
  .exact nd
  .exact S.nd j
 .grind[bR,ax,cF,Gr]
 .unfold bR at hb;by_cases h1:j=i
  .rw[if_pos h1]at hb;exact⟨nf b hb,r.there b hb⟩
  .rw[if_neg h1]at hb;obtain⟨n,u,e⟩:=S.dis j b hb;exact⟨n,u,by rw[aY (nj j h1 b hb)];exact e⟩
 .unfold bR at hb;by_cases h1:j=i
  .rw[if_pos h1]at hb;exact new b hb
  .rw[if_neg h1]at hb;exact S.new j b hb
 .unfold bR at hb;by_cases h1:j=i
  .rw[if_pos h1]at hb;exact r.chg b hb
  .rw[if_neg h1]at hb;obtain⟨u,e,c⟩:=S.ch j b hb;exact⟨u,by rw[aY (nj j h1 b hb)];exact e,c⟩
 .obtain⟨h1,h2⟩:=S.pn w hw;refine⟨h1,?_⟩;by_cases hi0:i=0
  .obtain⟨fl,c,ks,xs,e⟩:=ho hi0 h2;subst hi0 e;unfold dw;rw[getElem?_set_self hi]
  .unfold dw at h2 ⊢;rw[getElem?_set_ne hi0];exact h2
def gK(i k:Nat)(e:ME):MS:=λenv=>match e env with
 | .ok v=>(match env[i]? with
  |some (some (.obj .own c ks vs))=>if v.J1&&!ks.contains k&&decide (ks.length<900)then .next (env.set i (some (.obj .own c (ks++[k]) (vs++[v]))))else .stuck
  |_=>.stuck)
 |.exc c=>.exc c env
 |.stuck=>.stuck
def qf:∀{ks:List Nat}{ws:JQ},ks.contains k=false->ks.length=ws.length->gZ (T.att k) y ((ks.map T.att).zip ws)=((ks++[k]).map T.att).zip (ws++[y])
 | [],[],_,_=>rfl
 |j::ks,w::ws,h,hl=>by simp only[List.contains_cons,or_eq_false_iff,beq_eq_false_iff_ne]at h;show gZ (T.att k) y ((T.att j,w)::(ks.map T.att).zip ws)=(T.att j,w)::((ks++[k]).map T.att).zip (ws++[y]);unfold gZ;rw[if_neg (λz=>h.1 (T.inj _ _ z).symm),qf h.2 (by simpa using hl)]
 | [],_::_,_,hl|_::_,[],_,hl=>by simp at hl
theorem CZ(hK:X.K=T.K)(hf:T.att k=f)(hc:∀c<T.nc,Cls T.K (T.cls c))(hn:∀c<T.nc,fv T.K (T.cls c) f)(hN:X.N[i]?=some x)(hv:Vis X.env.scope x)(he:SE X T W e m)
  (hs:swapsWith e (some (.Attribute (.Name x px) f pos')) pos.line X.env=pure false:=by rfl) (hd:(x ==("__debug__":Str))=false:=by decide) (hcd:(x ==("__classdict__":Str))=false:=by decide) :
  SS X T W (.Assign [.Attribute (.Name x px) f pos'] e pos) (gK i k m):=PS.wk (Dk (pos:=pos) (pos':=pos') (fR (pos:=px) hN hv hd hcd) he hs) λD Y H hz1=>by
 obtain⟨Z,F,env,fp,S,q⟩:=hz1;unfold gK at q;refine tE.bind S (λc e H' x=>?_) (λe=>by rw[e]at q;exact q) λpv v H1 F1 f1 e g r h1 h2 h3=>?_
 .rw[e]at q;exact q F H' Y fp (S.grow (Gr.same S.hp.ft x))
 .rw[e]at q;dsimp only at q;split at q
  .rename_i c ks vs eo
   split at q
   .rename_i hcnd
    simp only[and_eq_true,not_eq_true',decide_eq_true_eq]at hcnd;obtain⟨⟨hln,hkn⟩,hkl⟩:=hcnd;have S1:=S.grow g;obtain⟨vo,ho1,ho2⟩:=S1.rel i _ eo;have ho3:=ho2;unfold Rel at ho3;obtain⟨a,dx,ws,fp',rfl,hl,hk,hr,hfl,_⟩:=ho3;have hfl':fp i=a::fp':=hfl;have hil:i<env.length:=(List.getElem?_eq_some_iff.mp eo).1;refine⟨_,ho1,a,_,dx,_,rfl,hl,by rw[hK];exact hc c hk.2,by rw[hK];exact hn c hk.2,?_,?_⟩
    .have:=hr.length;rw[List.length_zip,length_map];omega
    .rw[<- hf,qf hkn (by rw[<- hr.length];exact hk.1)];have ha:a∈fp i:=by rw[hfl'];exact mem_cons_self
     have nd:(a::fp').Nodup:=by rw[<- hfl'];exact S1.nd i
     have old:∀b∈f1,∀j,b∉fp j:=λb hb j hj=>by obtain⟨_,o,e⟩:=S.dis j b hj;rw[h3 b hb]at e;cases e
     have hrv:Rel T F1 Z.B NoL H1 pv v f1:=Rel.noL (by simpa[PV.J1]using hln) r;have nea:∀b u,H1 b=some u->(F1 b\/Z.B b\/NoL b\/iY u)->b≠a:=λb u e h z=>by
      subst z;rcases h with h|h|h|h
      .exact(S1.dis i _ ha).1 h
      .exact S1.bow _ h ⟨i,ha⟩
      .exact h
      .rw[hl]at e;cases e;exact h
     refine q F1 _ Y _ (S1.mut (f':=a::(fp'++f1)) hil ho1 ha ?_ ?_ (λb hb=>?_) (λb hb=>?_) (λb hb j hj=>?_) λ_ _=>⟨_,_,_,_,rfl⟩)
     .unfold Rel;have hrr:RelL T F1 Z.B NoL H1 (vs++[pv]) (ws++[v]) (fp'++f1):=RelL.append hr (by unfold RelL;exact⟨v,[],f1,[],rfl,hrv,by unfold RelL;exact⟨rfl,rfl⟩,by simp⟩);refine⟨a,dx,ws++[v],fp'++f1,rfl,ce,⟨by simp[hk.1],hk.2⟩,?_,rfl,True.intro⟩;refine RelL.tr (λ_ h=>h) (λ_ h=>h) (λ_ h=>h) (λb u e h=>by rw[aY (nea b u e h)];exact e) (λb hb u e=>?_) hrr;refine(aY λz=>?_).trans e
      grind
     .grind
     .grind[bR,ax,cF,Gr]
     .rcases mem_cons.mp hb with rfl|hb
      .exact S1.new i _ ha
      .rcases mem_append.mp hb with hb|hb
       .exact S1.new i b (by rw[hfl'];exact mem_cons_of_mem _ hb)
       .exact S.hp.newE h3 b hb
     grind[bR,ax,cF,Gr]
   .exact q.elim
  .exact q.elim
theorem ax.mutL{i:Nat}{xs ys:JS}{ws us:JQ}{a:Addr}{v:V}{f' fp':JM}(S:ax T Z F H Y env fp)(eo:env[i]?=some (some (.lst .own xs)))(hv:Y[i]?=some (some (.ref a)))(hfp:fp i=a::fp')(r:RelL T F Z.B NoL H ys us f')(nd:f'.Nodup)
  (hf:∀b∈f',(b∈fp')\/(¬F b/\(Z.H0 b=none\/Z.fp0 b)/\∀j,b∉fp j)) (hl:H a=some (.lst ws)):ax T Z F (upd H a (.lst us)) Y (env.set i (some (.lst .own ys))) (bR fp i (a::f')):=by
 have ha:a∈fp i:=by rw[hfp];exact mem_cons_self
 have ndi:(a::fp').Nodup:=by rw[<- hfp];exact S.nd i
 have sub:∀b∈fp',b∈fp i:=λb hb=>by rw[hfp];exact mem_cons_of_mem _ hb
 have na:∀b∈f',b≠a:=(by grind)
 have hil:i<env.length:=(List.getElem?_eq_some_iff.mp eo).1;have nea:∀b u,H b=some u->(F b\/Z.B b\/NoL b\/iY u)->b≠a:=λb u e h z=>by
  subst z;rcases h with h|h|h|h
  .exact(S.dis i _ ha).1 h
  .exact S.bow _ h ⟨i,ha⟩
  .exact h
  .rw[hl]at e;cases e;exact h
 refine S.mut hil hv ha ?_ (nodup_cons.mpr ⟨λz=>na a z rfl,nd⟩) (λb hb=>?_) (λb hb=>?_) (λb hb j hj=>?_) λh0 h1=>?_
 .unfold Rel;exact⟨a,us,f',rfl,ce,RelL.tr (λ_ h=>h) (λ_ h=>h) (λ_ h=>h) (λb u e h=>by rw[aY (nea b u e h)];exact e) (λb hb u e=>by rw[aY (na b hb)];exact e) r,rfl⟩
 .rcases mem_cons.mp hb with rfl|hb
  .exact(S.dis i _ ha).1
  .rcases hf b hb with h|h
   .exact(S.dis i b (sub b h)).1
   .exact h.1
 .grind[bR,ax,cF,Gr]
 .grind[bR,ax,cF,Gr]
 .subst h0;unfold dw at h1;rw[eo]at h1;cases h1
def ax.lst{i:Nat}{xs:JS}(S:ax T Z F H Y env fp)(eo:env[i]?=some (some (.lst .own xs))):∃a ws fp',Y[i]?=some (some (.ref a))/\H a=some (.lst ws)/\RelL T F Z.B NoL H xs ws fp'/\fp i=a::fp':=by obtain⟨v,h1,h2⟩:=S.rel i _ eo;unfold Rel at h2;obtain⟨a,ws,fp',rfl,hl,hr,hf⟩:=h2;exact⟨a,ws,fp',h1,hl,hr,hf⟩
def ax.beside{f1:JM}(S:ax T Z F H Y env fp)(g:Gr F H F1 H1)(h1:∀ a ∈ f1,¬ F1 a)(h3:∀ a ∈ f1,H a=none):∀ b ∈ f1,¬ F1 b/\(Z.H0 b=none \/ Z.fp0 b)/\∀ j,b ∉ fp j:=λb hb=>⟨h1 b hb,S.hp.newE h3 b hb,λj hj=>by
 obtain⟨_,o,e⟩:=S.dis j b hj;rw[h3 b hb]at e;cases e⟩
def dU(i:Nat)(e:ME):MS:=λenv=>match e env with
 | .ok v=>(match env[i]? with
  |some (some (.lst .own xs))=>if v.J1&&decide (xs.length<10000000)then .next (env.set i (some (.lst .own (xs++[v]))))else .stuck
  |_=>.stuck)
 | .exc c=>(match env[i]? with
  |some (some (.lst .own _))=>.exc c env
  |_=>.stuck)
 |.stuck=>.stuck
theorem uK{i:Nat}{x:Str}{e:Expr}{m:ME}{pos px apos cpos:Pos}(hK:X.K=T.K)(hN:X.N[i]?=some x)(hv:Vis X.env.scope x)(he:SE X T W e m)
  (hs:swapsWith (.Call (.Attribute (.Name x px) "append" apos) [e] [] cpos) none pos.line X.env=pure false:=by rfl) (hst:starEach [e] X.env=[(false,eval e X.env)]:=by rfl)
  (hfew:((backTo cpos (starEach [e] X.env)).all (λx=>!x.1)&&(backToKw cpos (keywordEach [] X.env)).all (λx=>x.1.isSome)&&decide ([e].length+([]:List Keyword).length+(if([]:List Keyword).isEmpty then 0 else 1)<30))=true:=by rfl)
  (hline:(apos.endLine==cpos.line)=true:=by rfl) (hd:(x ==("__debug__":Str))=false:=by decide) (hcd:(x ==("__classdict__":Str))=false:=by decide) :
  SS X T W (.Expr (.Call (.Attribute (.Name x px) "append" apos) [e] [] cpos) pos) (dU i m):=
 PS.wk (jY (pos:=pos) (wX (cpos:=cpos) (apos:=apos) PySem.F.plainAttrs_list PySem.F.slot_list_append PySem.F.type_list_append kB (fR (pos:=px) hN hv hd hcd) (aa he af hst) rfl hfew hline hst) hs) λD Y H hz1=>by
  obtain⟨Z,F,env,fp,S,q⟩:=hz1;unfold dU at q;cases em:m env with
  |stuck=>rw[em]at q;exact q.elim
  |exc c=>
   rw[em]at q;dsimp only at q;split at q
   .rename_i xs eo
    obtain⟨a,ws,fp',h1,hl,hr,hf⟩:=S.lst eo;refine⟨_,h1,.inl ⟨rfl,ws,by rw[hK];exact SqL.of hl⟩,Z,F,env,fp,S,?_⟩;unfold ae;rw[em];exact λH' x=>q F H' Y fp (S.grow (Gr.same S.hp.ft x))
   .exact q.elim
  |ok v=>
   rw[em]at q;dsimp only at q;split at q
   .rename_i xs eo
    split at q
    .rename_i hc
     simp only[and_eq_true,decide_eq_true_eq]at hc;obtain⟨a,ws,fp',h1,hl,hr,hf⟩:=S.lst eo;refine⟨_,h1,.inl ⟨rfl,ws,by rw[hK];exact SqL.of hl⟩,Z,F,env,fp,S,?_⟩;unfold ae ao;rw[em];intro vs H1 F1 f1 g r n1 d1 w1;obtain⟨u,rfl,ru⟩:=r.one;have S1:=S.grow g;have hl1:=g.ext a _ hl;refine⟨a,ws,u,rfl,rfl,hl1,?_,?_⟩
     .rw[<- hr.length,sizeLine_eq];omega
     .have rone:RelL T F1 Z.B NoL H1 [v] [u] f1:=by unfold RelL;exact⟨u,[],f1,[],rfl,Rel.noL (by simpa[PV.J1]using hc.1) ru,by unfold RelL;exact⟨rfl,rfl⟩,by simp⟩
      refine q F1 _ Y _ (S1.mutL (v:=u) eo h1 hf (RelL.append (hr.ext g.ext g.mono) rone) ?_ (λb hb=>?_) hl1)
      .have ndi:(a::fp').Nodup:=by rw[<- hf];exact S.nd i
       refine nodup_append.mpr ⟨(nodup_cons.mp ndi).2,d1,λb hb b' hb' z=>?_⟩;subst z;exact(S.beside g n1 w1 b hb').2.2 i (by rw[hf];exact mem_cons_of_mem _ hb)
      .rcases mem_append.mp hb with hb|hb
       .exact .inl hb
       .exact .inr (S.beside g n1 w1 b hb)
    .exact q.elim
   .exact q.elim
def ig(i:Nat)(k e:ME):MS:=λenv=>match e env with
 | .ok v=>(match env[i]? with
  | some (some (.lst .own xs))=>(match k env with
   | .ok (.int j)=>(match ixN xs.length j with
    |some n=>if v.J1 then .next (env.set i (some (.lst .own (xs.set n v))))else .stuck
    |none=>.stuck)
   |_=>.stuck)
  |_=>.stuck)
 |.exc c=>.exc c env
 |.stuck=>.stuck
theorem RelL.set{y:PV}{w:V}{g:JM}(ry:Rel T F B L H y w g):∀{xs:JS}{vs:JQ}{f:JM} (n:Nat),RelL T F B L H xs vs f->(f++g).Nodup->∃f',RelL T F B L H (xs.set n y) (vs.set n w) f'/\f'.Nodup/\∀b∈f',b∈f\/b∈g
 | [],vs,f,n,h,nd=>by unfold RelL at h;obtain⟨rfl,rfl⟩:=h;exact⟨[],by simp[RelL],nodup_nil,λ_ z=>(nomatch z)⟩
 |x::xs,_,_,0,h,nd=>by
  unfold RelL at h;obtain⟨v,ws,f1,f2,rfl,h1,h2,rfl⟩:=h;obtain⟨n1,n2,n3⟩:=nodup_append.mp nd;obtain⟨m1,m2,m3⟩:=nodup_append.mp n1;refine⟨g++f2,?_,(by grind),λb hb=>?_⟩
  .rw[List.set_cons_zero,List.set_cons_zero];unfold RelL;exact⟨w,ws,g,f2,rfl,ry,h2,rfl⟩
  grind
 |x::xs,_,_,n+1,h,nd=>by
  unfold RelL at h;obtain⟨v,ws,f1,f2,rfl,h1,h2,rfl⟩:=h;obtain⟨n1,n2,n3⟩:=nodup_append.mp nd;obtain⟨m1,m2,m3⟩:=nodup_append.mp n1;obtain⟨f',r,d,s⟩:=RelL.set ry n h2 (nodup_append.mpr ⟨m2,n2,λa ha b hb=>n3 a (mem_append_right _ ha) b hb⟩);refine⟨f1++f',?_,nodup_append.mpr ⟨m1,d,λa ha b hb z=>?_⟩,λb hb=>?_⟩
  .rw[List.set_cons_succ,List.set_cons_succ];unfold RelL;exact⟨v,_,f1,f',rfl,h1,r,rfl⟩
  .grind
  grind
def jO{i:Nat}{x:Str}{k e:Expr}{mk me:ME}{pos px tpos:Pos}(hN:X.N[i]?=some x)(hv:Vis X.env.scope x)(hk:SE X T W k mk)(he:SE X T W e me)
  (ha:∀ v,assign (.Subscript (.Name x px) k tpos) X.env v=(do
   let ov <- holding [v] (eval (.Name x px) X.env)
   let iv <- holding [v,ov] (eval k X.env)
   standAt tpos
   holding [v,ov,iv] (setItem ov iv v)
   release [v,ov,iv] []):=by intro _;rfl)
  (hs:swapsWithSole [.Subscript (.Name x px) k tpos] e pos.line X.env=pure false:=by rfl) (hw:swappedStores [.Subscript (.Name x px) k tpos] e X.env=pure none:=by rfl)
  (h1:(assignEach [.Subscript (.Name x px) k tpos] X.env).map (·.2)=[assign (.Subscript (.Name x px) k tpos) X.env]:=by rfl) (hd:(x ==("__debug__":Str))=false:=by decide) (hcd:(x ==("__classdict__":Str))=false:=by decide) :
  SS X T W (.Assign [.Subscript (.Name x px) k tpos] e pos) (ig i mk me):=
 PS.wk (Dl (pos:=pos) he (Dp (pos:=tpos) (fR (pos:=px) hN hv hd hcd) hk wm ha) hs hw h1) λD Y H hz1=>by
  obtain⟨Z,F,env,fp,S,q⟩:=hz1;unfold ig at q;refine tE.bind S (λc e H' x=>?_) (λe=>by rw[e]at q;exact q) λpv v H1 F1 f1 e g r n1 d1 w1=>?_
  .rw[e]at q;exact q F H' Y fp (S.grow (Gr.same S.hp.ft x))
  .rw[e]at q;dsimp only at q;split at q
   .rename_i xs eo
    have S1:=S.grow g;obtain⟨a,ws,fp',h1,hl,hr,hf⟩:=S1.lst eo;cases ek:mk env with
    |stuck|exc c=>rw[ek]at q;exact q.elim
    |ok kv=>
     rw[ek]at q;refine⟨_,h1,Z,F1,env,fp,S1,?_⟩;rw[ek];intro u H2 F2 f2 g2 r2 _ _ _;cases kv with
     |int j=>
      dsimp only at q;unfold Rel at r2;obtain⟨rfl,_⟩:=r2;cases en:ixN xs.length j with
      |none=>rw[en]at q;exact q.elim
      |some n=>
       rw[en]at q;dsimp only at q;split at q
       .rename_i hln
        have S2:=S1.grow g2;have hr2:=hr.ext g2.ext g2.mono;have ndi:(a::fp').Nodup:=by rw[<- hf];exact S.nd i
        have g12:=g.trans g2;have nn:∀b∈f1,¬F2 b:=λb hb z=>by
         rcases g2.only b z with z|z
         .exact n1 b hb z
         .obtain⟨o,ho⟩:=r.there b hb;rw[ho]at z;cases z
        obtain ⟨f',r',nd',sub'⟩:=RelL.set (T:=T) (Rel.noL (L':=NoL) (by simpa [PV.J1] using hln) (r.ext g2.ext g2.mono)) n hr2 (nodup_append.mpr ⟨(nodup_cons.mp ndi).2,d1,λb hb b' hb' z=>by
         subst z;exact(S.beside g12 nn w1 b hb').2.2 i (by rw[hf];exact mem_cons_of_mem _ hb)⟩)
        refine⟨a,ws,j,n,rfl,rfl,g2.ext a _ hl,by rw[<- hr.length];exact en,?_⟩;refine q F2 _ Y _ (S2.mutL (v:=v) eo h1 hf r' nd' (λb hb=>?_) (g2.ext a _ hl));rcases sub' b hb with h|h
        .exact .inl h
        .exact .inr (S.beside g12 nn w1 b h)
       .exact q.elim
     |_=>exact q.elim
   .exact q.elim
end
def Bo(i:Nat):Str:=⟨#[1114112+i]⟩
def jA(l:JN)(i:Nat):Str:=match l[i]? with
 |some x=>x
 |none=>Bo i
def kr(x:Str):Bool:=x.cps.all λc=>decide (c<1114112)
def gB(i:Nat):kr (Bo i)=false:=by simp[kr,Bo]
def vW(nd:l.Nodup)(h:l.all kr=true)(i j:Nat)(e:jA l i=jA l j):i=j:=by
 have pl:∀(i:Nat) x,l[i]?=some x->kr x=true:=λi x hx=>all_eq_true.mp h x (List.mem_of_getElem? hx);unfold jA at e;cases ei:l[i]? with
 |some x=>
  cases ej:l[j]? with
  |some y=>rw[ei,ej]at e;dsimp only at e;subst e;obtain⟨h1,e1⟩:=List.getElem?_eq_some_iff.mp ei;obtain⟨h2,e2⟩:=List.getElem?_eq_some_iff.mp ej;exact(getElem_inj nd).mp (e1.trans e2.symm)
  |none=>rw[ei,ej]at e;dsimp only at e;have:=pl i x ei;rw[e,gB]at this;cases this
 |none=>
  cases ej:l[j]? with
  |some y=>rw[ei,ej]at e;dsimp only at e;have:=pl j y ej;rw[<- e,gB]at this;cases this
  |none=>rw[ei,ej]at e;dsimp only at e;simpa[Bo]using e
def rz(hp:kr m=true)(hm:m∉l)(k:Nat):jA l k≠m:=by
 unfold jA;cases e:l[k]? with
 |some x=>exact λz=>hm (z▸List.mem_of_getElem? e)
 |none=>intro z;dsimp only at z;rw[<- z,gB]at hp;cases hp
structure Ctx(X:Cx)(T:Tb)(W:Nat->St->JR)(k:Nat):Prop where
 hK:X.K=T.K
 calm:X.calm=true
 room:eH k X.A
 xf:XF X T W
 po:PassesOwn (model X.prog X.w) X.A X.env X.xe
def Ctx.hu(c:Ctx X T W k):X.A.units+64<cLine:=c.room.units
theorem Ctx.hu2(c:Ctx X T W k):X.A.units+66<cLine:=by have:=c.room.un;omega
def uu
  (hr:eH k (A.deeper (PyProof.Rows.envOfC qual scope s.heap.objs.size f cd))):Ctx (fG (CXP P w) P w T.K mg base N qual scope f cd A outer s H E) T (WD T E) k:=⟨rfl,rfl,hr,CM,PassesOwn.leaving⟩
def Ctx.comp(c:Ctx X T W k):Ctx (cxC X scope C N s H ex) T WF k:=⟨c.hK,c.calm,c.room,λ_ _ _ _ _ _ _ _ _ _ h=>h.elim,PassesOwn.never⟩
def mG(scD scope:Scope)(NX:JN)(caps:List Nat)(N tn:JN):Bool:=
 decide (scope.kind=.function)&&scope.names.all (λy=>decide (y.2=.cell->scope.names.lookup y.1=some .cell))&&scope.names.all (λy=>decide (y.2=.local->scope.names.lookup y.1=some .local)) &&
 scope.names.all (λy=>decide (y.2=.free->scD.names.lookup y.1=some .cell\/scD.names.lookup y.1=some .free))&&decide (N=caps.map (λi=>NX.getD i "")++ tn)&&caps.all (λi=>decide (i<NX.length)) &&
 caps.all (λi=>match NX[i]? with|some x=>decide ((x,NameKind.free)∈ scope.names/\scope.names.lookup x=some .free)|none=>false)&&decide N.Nodup
def B5(h:mG scD scope NX caps N tn=true)(hs:X.env.scope=scD)(hN:X.N=NX):eU X scope caps N tn:=by simp only[mG,and_eq_true,decide_eq_true_eq,all_eq_true]at h;obtain⟨⟨⟨⟨⟨⟨⟨h1,h2⟩,h3⟩,h4⟩,h5⟩,h6⟩,h7⟩,h9⟩:=h;subst hs hN;refine⟨h1,h2,h3,h4,h5,h6,λi hi x hx=>?_,h9⟩;have:=h7 i hi;rw[hx]at this;simpa using this
section
variable{X:Cx}{T:Tb}{W:Nat->St->JR}
def sv(i:Nat)(hN:X.N[i]?=some x:=by rfl)(hv:Vis X.env.scope x:=by first|exact Or.inl rfl|exact Or.inr (Or.inl rfl)|exact Or.inr (Or.inr rfl))(hd:(x ==("__debug__":Str))=false:=by decide)
  (hcd:(x ==("__classdict__":Str))=false:=by decide):SE X T W (.Name x pos) (ac i):=C1 hN hv hd hcd
def tyP:PV->String
 |.non=>"NoneType"
 |.bl _=>"bool"
 |.int _=>"int"
 |.str _=>"str"
 |.lst _ _=>"list"
 |.tup _=>"tuple"
 |_=>""
def kf(t c:String):Bool:=t==c ||(t=="bool"&&c=="int")
def qq(c:String):PV->JT:=λx=>if tyP x="" then .stuck else .ok (.bl (kf (tyP x) c))
def pM(m:ME)(c:String):ME:=λenv=>(m env).bind (qq c)
def vY(K:PySem.W.Frag)(c:String):Prop:=∀t∈["NoneType","bool","int","str","list","tuple"],kitOne K (.type t) (.type c)=some (kf t c)
def BK(hK:X.K=T.K)(hc:vY T.K c)(I:L2.Inv X js Y H s)(r:Rel T F B L H x v f)(ru:bV v u)(hx:tyP x≠"")
  (h:∀tk,Q (.bool (kf (tyP x) c)) {s with toks:=tk}):wpAny (model X.prog X.w) A (call (.builtin "isinstance") [u,.type c]) Q E s:=by
 have kin:T.K.In s.heap:=by rw[<- hK];exact I.kIn
 cases x with
 |non=>unfold Rel at r;obtain⟨rfl,_⟩:=r;cases ru;exact kia_one PySem.W.kitx_none kin True.intro (hc _ (by simp)) (λz=>nomatch z) h
 |bl b=>unfold Rel at r;obtain⟨rfl,_⟩:=r;cases ru;exact kia_one PySem.W.kitx_bool kin True.intro (hc _ (by simp)) (λz=>nomatch z) h
 |int i=>unfold Rel at r;obtain⟨rfl,_⟩:=r;obtain⟨t,rfl⟩:=ru;exact kia_one PySem.W.kitx_int kin True.intro (hc _ (by simp)) (λz=>nomatch z) h
 |str i=>unfold Rel at r;obtain⟨rfl,_⟩:=r;obtain⟨t,rfl⟩:=ru;exact kia_one PySem.W.kitx_str kin True.intro (hc _ (by simp)) (λz=>nomatch z) h
 |lst f xs=>unfold Rel at r;obtain⟨a,vs,fp',rfl,hl,hr,_⟩:=r;cases ru;obtain⟨its,_,⟨o,n,ho,hcl,_,_⟩,_⟩:=I.list (by rw[hK];exact hl.sq);exact kia_one PySem.W.kitx_list kin ⟨_,ho,hcl⟩ (hc _ (by simp)) (λz=>nomatch z) h
 |tup xs=>unfold Rel at r;obtain⟨a,vs,rfl,hl,hr⟩:=r;cases ru;obtain⟨its,_,⟨o,ho,hcl,_⟩,_⟩:=I.tuple (by rw[hK];exact hl);exact kia_one PySem.W.kitx_tuple kin ⟨_,ho,hcl⟩ (hc _ (by simp)) (λz=>nomatch z) h
 |obj f c ks xs|exc c|box k xs=>exact absurd rfl hx
def lI(hK:X.K=T.K)(hc:vY T.K c)(hg:Gl X "isinstance")(hm:X.mg "isinstance"=none)(hb:bootBuiltins "isinstance"=some (.builtin "isinstance"))(hgc:Gl X cn)(hmc:X.mg cn=none)(hvc:bootBuiltins cn=some (.type c))(he:SE X T W e m)
  (hcn:cn≠"__name__":=by decide) (hcd:(cn ==("__debug__":Str))=false:=by decide) (hst:starEach [e,.Name cn pc] X.env=[(false,eval e X.env),(false,eval (.Name cn pc) X.env)]:=by rfl)
  (hst2:starEach [.Name cn pc] X.env=[(false,eval (.Name cn pc) X.env)]:=by rfl):SE X T W (.Call (.Name "isinstance" p) [e,.Name cn pc] [] pos) (pM m c):=by
 have ht:PE X (.Name cn pc) (tC (.ty c)):=A_ hgc hmc hvc rfl hcn hcd;have hcall:eJ X (.builtin "isinstance") (λvs H Q=>∃v x F B L f,vs=[v,.ty c]/\Rel T F B L H x v f/\tyP x≠"" /\ Q (.bl (kf (tyP x) c)) H):=by
  intro js s Y H vs us Q I rv h;obtain⟨v,x,F,B,L,f,rfl,r,hx,q⟩:=h;cases rv with
  |cons r1 r2=>
   cases r2 with
   |cons r3 r4=>cases r4;cases r3;exact BK hK hc I r r1 hx λtk=>⟨.bl _,H,I.tok tk,rfl,q⟩
 have hargs:PA X [e,.Name cn pc] (sZ (tE T W m) (sZ (tC (.ty c)) CU)):=dR he (dR ht g8 hst2) (by rw[hst,hst2]);refine PE.wk (lU (pos:=pos) (p:=p) hcall hg hm hb hargs (he:=by rw[hst,hst2]) (hpl:=by rw[hst2];rfl)) λY H Q hz1=>?_;obtain⟨Z,F,env,fp,S,q⟩:=hz1;unfold pM at q;refine tE.bq S λx v H1 F1 f1 e1 g1 r1 n1 d1 w1=>?_;rw[e1]at q;simp only[Res.J4,qq]at q;by_cases hx:tyP x=""
 .rw[if_pos hx]at q;exact q.elim
 .rw[if_neg hx]at q;exact⟨v,x,F1,Z.B,Own fp,f1,rfl,r1,hx,q.scal g1 jp⟩
def kD(f g:PV->PV->JT)(a b c:ME):ME:=λenv=>(a env).bind λx=>(b env).bind λy=>(f x y).bind fun
 |.bl true=>(c env).bind λz=>g y z
 |.bl false=>.ok (.bl false)
 |_=>.stuck
def uH{f f':Int->Int->Bool}(h:tE T W (kD (fU λi j=>.bl (f i j)) (fU λi j=>.bl (f' i j)) ma mb mc) Y H Q) :
  wb (rI0 λi j=>.bl (f i j)) (rI0 λi j=>.bl (f' i j)) (tE T W ma) (tE T W mb) (tE T W mc) Y H Q:=by
 obtain⟨Z,F,env,fp,S,q⟩:=h;unfold kD at q;refine tE.bq S λx v H1 F1 f1 e1 g1 r1 n1 d1 w1=>?_;rw[e1]at q;simp only[Res.J4]at q;refine tE.bind (S.grow g1) (λc e=>by rw[e]at q;exact λH' x=>q H' (g1.ext.trans x)) (λe=>by rw[e]at q;exact q) λy u H2 F2 f2 e2 g2 r2 n2 d2 w2=>?_;rw[e2]at q;simp only[Res.J4]at q;cases x<;>cases y<;>first
  |exact q.elim
  |skip
 rename_i i j
 unfold Rel at r1 r2;obtain⟨rfl,_⟩:=r1;obtain⟨rfl,_⟩:=r2;refine⟨i,j,rfl,rfl,f i j,rfl,?_⟩;simp only[fU,Res.J4]at q;cases hb:f i j with
 |false=>rw[hb]at q;exact(if_neg (by decide)).mpr (q.scal (g1.trans g2) jp)
 |true=>
  rw[hb]at q;dsimp only at q;refine(if_pos rfl).mpr ?_;refine tE.bind ((S.grow g1).grow g2) (λc e=>by rw[e]at q;exact λH' x=>q H' ((g1.ext.trans g2.ext).trans x)) (λe=>by rw[e]at q;exact q) λz w H3 F3 f3 e3 g3 r3 n3 d3 w3=>?_;rw[e3]at q;simp only[Res.J4]at q;cases z with
  |int k=>unfold Rel at r3;obtain⟨rfl,_⟩:=r3;exact⟨j,k,rfl,rfl,q.scal ((g1.trans g2).trans g3) jp⟩
  |_=>exact q.elim
def wt{f f':Int->Int->Bool}(ho:OpR X (compareOp op) (rI0 λi j=>.bl (f i j)))(ho':OpR X (compareOp op') (rI0 λi j=>.bl (f' i j)))(ha:SE X T W a ma)(hb:SE X T W b mb)(hc:SE X T W c mc)
  (hm:lastMarks [op,op'] [b,c]=false:=by with_unfolding_all rfl):SE X T W (.Compare a [op,op'] [b,c] pos) (kD (fU λi j=>.bl (f i j)) (fU λi j=>.bl (f' i j)) ma mb mc):=PE.wk (wW (pos:=pos) ho ho' ha hb hc hm) λY H Q h=>uH h
end
def wq(hg:Gl X x)(hm:X.mg x=some (.int i t))(hd:(x ==("__debug__":Str))=false:=by decide):SE X T W (.Name x pos) (mC (.int i)):=
 lG (v:=.int i) (A8 hg hm ⟨t,rfl⟩ hd) λ_ _ _ _=>fQ
end
end PR
namespace PR
open PySem PySem.Spec
structure Jv(K:PySem.W.Frag)(C:Addr):Prop where
 ga:PySem.W.findIn K (.ref C) "__getattribute__"=some (some (.builtin "BaseException.__getattribute__"))
 gt:PySem.W.findIn K (.ref C) "__getattr__"=some none
 ca:PySem.W.findIn K (.ref C) "__class__"=some (some (.builtin "object.__class__"))
 sb:mroIn K C (.type "BaseException")=some true
 so:mroIn K C (.type "object")=some true
 cl:(clsIn K C).isSome=true
end PR
namespace PR
open PySem PySem.Spec L2
def fP(F B L:JJ)(H:Hp):RelL T F B L H [] [] []:=by unfold RelL;exact⟨rfl,rfl⟩
def bM(disp:Nat->Option (JS->JT))(o:ME)(ms:MA):ME:=λenv=>(o env).bind λov=>match ov with
 |.obj _ c _ _=>match disp c with
  |some m=>(ms env).bind λxs=>aN m (ov::xs)
  |none=>.stuck
 |_=>.stuck
def BB(disp:Nat->Option (JS->JT))(o:ME)(ms:MA):t6 disp [] o ms=bM disp o ms:=by
 funext env;unfold t6 bM;congr 1;funext ov;cases ov with
 |obj f c ks vs=>simp only[append_nil,List.cons_append]<;>rfl
 |_=>rfl
def jH(c:Nat)(m:JS->JT)(ms:MA):ME:=aq (λxs=>aN m (.obj .own c [] []::xs)) ms
section
variable{X:Cx}{T:Tb}{W:Nat->St->JR}
def wu
  (G:dD X.prog X.w X.K X.mg X.base (CXP X.prog X.w) k f fd ps (spM T ps.length m)) (cx:Ctx X T W kk) (hk:k<=kk) (hg:Gl X x) (hm:X.mg x=some (.ref f)) (hkp:PySem.W.keepIn X.K (.ref f)=true) (hb:f8 X.K fd ps [])
  (hn:iC ms n) (hps:n=ps.length) (ha:SA X T W (e::es) ms)
  (hdb:(x ==("__debug__":Str))=false:=by decide) (he:starEach (e::es) X.env=(false,eval e X.env)::starEach es X.env:=by rfl) (hpl:(backTo pos (starEach es X.env)).any (·.1)=false:=by rfl) :
  SE X T W (.Call (.Name x p) (e::es) [] pos) (aq (aN m) ms):=by
 have h:=AF (dvs:=[]) (dps:=[]) (p:=p) (pos:=pos) G (cx.room.mono hk) hg hm hkp hb .nil fP cx.xf (λenv xs q=>by rw[hn env xs q];exact hps) ha hdb he hpl;simpa using h
def C6
  (cx:Ctx X T W kk) (hc:∀c<T.nc,Cls T.K (T.cls c)) (hm:∀k,T.att k≠mn) (D:eG X T k mn ps [] disp) (hk:k<=kk)
  (hn:iC ms n) (hps:n+1=ps.length) (ho:SE X T W o mo) (ha:SA X T W (e::es) ms)
  (hst:starEach (e::es) X.env=(false,eval e X.env)::starEach es X.env:=by rfl) (hpl:(backTo pos (starEach es X.env)).any (·.1)=false:=by rfl)
  (ht:eval (.Call (.Attribute o mn apos) (e::es) [] pos) X.env=(do
   let ov <- eval o X.env
   standAt apos.atName
   let(f,first) <- holding [ov] (getMethod ov mn pl)
   callWith pos f first (backTo pos (starEach (e::es) X.env)) (backToKw pos (keywordEach [] X.env))):=by rfl) :
  SE X T W (.Call (.Attribute o mn apos) (e::es) [] pos) (bM disp mo ms):=by
 rw[<- BB];exact AB (pl:=pl) (dvs:=[]) (dps:=[]) cx.hK hc hm D (cx.room.mono hk) .nil fP cx.xf (λenv xs q=>by rw[hn env xs q];exact hps) ho ha hst hpl ht
def AC
  (cx:Ctx X T W kk) (hc:∀c<T.nc,Cls T.K (T.cls c)) (hm:∀k,T.att k≠mn) (D:eG X T k mn ps [] disp) (hk:k<=kk) (hps:ps.length=1) (ho:SE X T W o mo)
  (ht:eval (.Call (.Attribute o mn apos) [] [] pos) X.env=(do
   let ov <- eval o X.env
   standAt apos.atName
   let(f,first) <- holding [ov] (getMethod ov mn pl)
   callWith pos f first (backTo pos (starEach [] X.env)) (backToKw pos (keywordEach [] X.env))):=by rfl) :
  SE X T W (.Call (.Attribute o mn apos) [] [] pos) (bM disp mo ao):=by
 intro js s Y H Q I h;obtain⟨Z,F,env,fp,S,q⟩:=h;unfold bM at q;refine methodCall_KW (pl:=pl) (thn (ho js s Y H (λv H1=>∃ ov F1 f1,mo env=.ok ov/\Gr F H F1 H1/\Rel T F1 Z.B (Own fp) H1 ov v f1/\(∀ a ∈ f1,¬ F1 a)/\f1.Nodup/\∀ a ∈ f1,H a=none) I
  (tE.bq S λov v H1 F1 f1 e1 g1 r1 n1 d1 w1=>⟨ov,F1,f1,e1,g1,r1,n1,d1,w1⟩)) λu s1 zz=>?_) ht
 obtain⟨v,H1,I1,ru,ov,F1,f1,e1,g1,r1,n1,d1,w1⟩:=zz;rw[e1]at q;simp only[Res.J4]at q;by_cases hobj:∃fl c ks xs m,ov=.obj fl c ks xs/\disp c=some m
 .obtain⟨fl,c,ks,ys,m,rfl,em⟩:=hobj;dsimp only at q;rw[em]at q;simp only[ao,Res.J4]at q;refine t3 cx.hK hc hm D em r1 I1 ru λa f fd eu hkp hb G=>?_;subst eu;refine PySem.W.callWith_K0 (first:=[.ref a]) I1.kIn hkp ?_;exact wx (xs:=[.obj fl c ks ys]) (vs:=[v]) (us:=[.ref a]) (fx:=f1) (dvs:=[]) (dps:=[]) G (cx.room.mono hk) hb .nil fP cx.xf S g1 (by unfold RelL;exact⟨v,[],f1,[],rfl,r1,fP _ _ _ _,by simp⟩) n1 d1 w1 (by simpa using q) I1 (.cons ru .nil) (by simp[hps])
 .exfalso;cases ov with
  |obj fl c ks ys=>
   cases em:disp c with
   |none=>simp only[em]at q;exact q
   |some m=>exact hobj ⟨fl,c,ks,ys,m,rfl,em⟩
  |_=>exact q
def C4
  (M:Mk X.K (T.cls c) f) (hcn:c<T.nc) (G:dD X.prog X.w X.K X.mg X.base (CXP X.prog X.w) k f fd ps (spI T ps.length m)) (cx:Ctx X T W kk) (hk:k+1<=kk) (hg:Gl X x) (hm:X.mg x=some (.ref (T.cls c))) (hb:f8 X.K fd ps [])
  (hn:iC ms n) (hps:n+1=ps.length) (ha:SA X T W (e::es) ms)
  (hdb:(x ==("__debug__":Str))=false:=by decide) (he:starEach (e::es) X.env=(false,eval e X.env)::starEach es X.env:=by rfl) (hpl:(backTo pos (starEach es X.env)).any (·.1)=false:=by rfl) :
  SE X T W (.Call (.Name x p) (e::es) [] pos) (jH c m ms):=by
 have h:=AD (dvs:=[]) (dps:=[]) (p:=p) (pos:=pos) M hcn G (cx.room.mono hk) hg hm hb .nil fP cx.xf hn hps ha hdb he hpl;unfold jH;simpa using h
end
def BS(X:K.In h)(q:excIn K C [.type "ValueError",.type "Exception",.type "BaseException",.type "object"] "ValueError.__new__"=true) :
  ∃bm N nm q bs hdct sn sub ab col dd k0 k1 k2 k3 k5 mN,h.get? C=some (excClassObj nm q C N bs bm hdct sn sub ab col dd k0 k1 k2 k3 k5 "ValueError.__new__")/\h.Ns N mN/\mN "__init__"=none /\
   OwnTail h [.type "ValueError",.type "Exception",.type "BaseException",.type "object"] bm:=by
 unfold excIn at q;split at q
 .rename_i dd cd sl ho
  split at q
  .rename_i C' bm k0 k1 k2 k3 n k5 hm hs
   simp only[and_eq_true,beq_iff_eq,not_eq_true']at q;obtain⟨⟨⟨⟨⟨rfl,rfl⟩,hdel⟩,ht⟩,hok⟩,hni⟩:=q;cases cd;cases sl;dsimp only at hm hdel hok hni hs;subst hm hdel hs;exact⟨bm,_,_,_,_,_,_,_,_,_,dd,k0,k1,k2,k3,k5,_,X _ _ ho,.of_isNs (PySem.W.isNs_of_in X hok),PySem.W.nsMap_none_of_in X hok hni,PySem.W.tail_of_in X ht⟩
  .cases q
 .cases q
def bH(c:Nat)(ms:MA):MS:=λenv=>match ms env with
 |.ok _=>.exc c env
 |.exc k=>.exc k env
 |.stuck=>.stuck
def uI(cx:Ctx X T W k)(hm:X.mg x=some (.ref (T.xcl c)))(hB:T.K.In X.base)
  (hE:excIn T.K (T.xcl c) [.type "ValueError",.type "Exception",.type "BaseException",.type "object"] "ValueError.__new__"=true) (hx:XM X T W) (hg:Gl X x) (hn:iC ms n) (hn2:n<=100) (ha:SA X T W (e::es) ms)
  (hd:(x ==("__debug__":Str))=false:=by decide)
  (he:starEach (e::es) X.env=(false,eval e X.env)::starEach es X.env:=by rfl) (hpl:(backTo cpos (starEach es X.env)).any (·.1)=false:=by rfl) :
  SS X T W (.Raise (some (.Call (.Name x np) (e::es) [] cpos)) none pos) (bH c ms):=
 we (np:=np) (cpos:=cpos) (pos:=pos) ⟨hm,BS hB hE⟩ hx cx.calm hg ha (λenv pvs q=>by rw[hn env pvs q];exact hn2) hd he hpl
structure Scr(fl:Fl):Prop where
 is:fl=.frz\/fl=.mod
def Scr.JU(h:Scr fl):fl.JU=fl:=by rcases h.is with rfl|rfl<;>rfl
def Scr.JV(h:Scr fl):fl.JV=fl:=by rcases h.is with rfl|rfl<;>rfl
def kq:∀ns:JK,RelL T F B L H (ns.map PV.int) (ns.map V.int) []
 | []=>fP _ _ _ _
 |n::ns=>by rw[map_cons,map_cons];unfold RelL;exact⟨_,_,[],[],rfl,fQ,kq ns,rfl⟩
def tj(K:PySem.W.Frag)(tb:Addr->Option (JP):=λ_=>none):Sp:=λvs H Q _=>(∀b ps,tb b=some ps->H b=some (.tbl ps))/\∃(a:Addr) (ns:JK),vs=[.ref a]/\SqL K H a (ns.map V.int)/\ns.length<=63/\∀v H',v=.bl true->Q v H'
def Er(G:dD P w T.K mg base (CXP P w) k f fd [x] (spM T 1 m))
  (h:∀(fl:Fl) (ns:JK),Scr fl->ns.length<=63->m [.lst fl (ns.map .int)]=.ok (.bl true)):dD P w T.K mg base (CXP P w) k f fd [x] (tj T.K T.tb):=by
 refine G.imp λvs H Q E q=>?_;obtain⟨hT,a,ns,rfl,hS,hl,hQ⟩:=q;have hTb:Cg T H (· ∈([]:JM)):=λb ps h=>⟨hT b ps h,λz=>nomatch z⟩
 have fin:∀fl,Scr fl->∀Z:Zn,GF T Z Q E (m [.lst fl (ns.map .int)]):=λfl hf Z=>by rw[h fl ns hf hl];intro F H' v f' _ r _ _ _;unfold Rel at r;exact hQ v H' r.1
 refine⟨rfl,?_⟩;rcases hS with hS|hS
 .refine⟨[.lst .frz (ns.map .int)],(·=a),λ_=>False,[],⟨?_,nodup_nil,λ_ z=>(nomatch z),⟨λ_ z=>False.elim z,hTb⟩,λb hb=>?_⟩,fin _ ⟨.inl rfl⟩ _⟩
  .unfold RelL;refine⟨_,_,[],[],rfl,?_,fP _ _ _ _,rfl⟩;unfold Rel;exact⟨a,_,[],rfl,⟨rfl,hS⟩,kq ns,rfl,rfl⟩
  .subst hb;rcases hS with e |⟨o,e⟩
   .exact⟨_,e⟩
   .exact⟨_,e⟩
 .refine⟨[.lst .mod (ns.map .int)],λ_=>False,λ_=>False,[],⟨?_,nodup_nil,λ_ z=>(nomatch z),⟨λ_ z=>False.elim z,hTb⟩,λ_ z=>z.elim⟩,fin _ ⟨.inr rfl⟩ _⟩;unfold RelL;refine⟨_,_,[],[],rfl,?_,fP _ _ _ _,rfl⟩;unfold Rel;exact⟨a,_,[],rfl,hS,kq ns,rfl,rfl⟩
def xO{l:PySem.W.OpenLaw}{k:Nat}{x:Str}{q:Program}{loose:JN}{XP:(JG)->Heap->Prop}{YP:World->Heap->Prop}{d:DefRec}{K:Params->PySem.W.Frag}(hn:l.most=some 63)(hdf:d.params.defaults=[])(hr:eH k callerA)
  (hY:∀(w:World) (h:Heap),YP w h->(K w.params).In h)
  (F:∀ (w:World) (mg:JG) (fa:Addr) (h:Heap),(K w.params).In h->h.Ns mainGlobals mg->mg d.name=some (.ref fa) ->
   ∃fd:FuncData,(∀(s:Shared) (u:Value),BindsTo s fd ⟨[u],[]⟩ [(x,u)])/\∀base:Heap,(K w.params).In base->base.Ns mainGlobals mg->dD l.prog w (K w.params) mg base (CXP l.prog w) k fa fd [x] (tj (K w.params))) :
  PySem.W.WalkO q loose XP YP l.row.toRowW d [] (λf vs=>PySem.call f vs):=
 L2.Aj (n:=63) (k:=k) (x:=x) (CX:=λw=>CXP l.prog w) (sp:=λw=>tj (K w.params)) hn (by decide) hdf hr hY F (λ_ _ a ns hl _ hS=>⟨λ_ _ z=>(nomatch z),a,ns,rfl,hS,hl,λ_ _ z=>z⟩) λ_ _ _ _ _ ⟨_,_,_,z⟩=>z
def BH:vY K "int":=by intro t ht;simp only[mem_cons,not_mem_nil,or_false]at ht;rcases ht with rfl|rfl|rfl|rfl|rfl|rfl<;>kernel_rfl
def xS:vY K "bool":=by intro t ht;simp only[mem_cons,not_mem_nil,or_false]at ht;rcases ht with rfl|rfl|rfl|rfl|rfl|rfl<;>kernel_rfl
def qE:vY K "list":=by intro t ht;simp only[mem_cons,not_mem_nil,or_false]at ht;rcases ht with rfl|rfl|rfl|rfl|rfl|rfl<;>kernel_rfl
def vy:vY K "tuple":=by intro t ht;simp only[mem_cons,not_mem_nil,or_false]at ht;rcases ht with rfl|rfl|rfl|rfl|rfl|rfl<;>kernel_rfl
theorem dQ:bootBuiltins "isinstance"=some (.builtin "isinstance"):=by decide +kernel
theorem E_:bootBuiltins "int"=some (.type "int"):=by decide +kernel
theorem Cd:bootBuiltins "bool"=some (.type "bool"):=by decide +kernel
theorem cu:bootBuiltins "list"=some (.type "list"):=by decide +kernel
theorem gP:bootBuiltins "tuple"=some (.type "tuple"):=by decide +kernel
def vL(K:PySem.W.Frag)(C:Addr):Bool:=
 decide (PySem.W.findIn K (.ref C) "__getattribute__"=some (some (.builtin "BaseException.__getattribute__")))&&decide (PySem.W.findIn K (.ref C) "__getattr__"=some none) &&
 decide (PySem.W.findIn K (.ref C) "__class__"=some (some (.builtin "object.__class__")))&&decide (mroIn K C (.type "BaseException")=some true)&&decide (mroIn K C (.type "object")=some true)&&(clsIn K C).isSome &&
 excIn K C [.type "ValueError",.type "Exception",.type "BaseException",.type "object"] "ValueError.__new__"
def BT(h:vL K C=true):Jv K C/\excIn K C [.type "ValueError",.type "Exception",.type "BaseException",.type "object"] "ValueError.__new__"=true:=by simp only[vL,and_eq_true,decide_eq_true_eq]at h;obtain⟨⟨⟨⟨⟨⟨h1,h2⟩,h3⟩,h4⟩,h5⟩,h6⟩,h7⟩:=h;exact⟨⟨h1,h2,h3,h4,h5,h6⟩,h7⟩
def pick(l:JM)(i:Nat):Addr:=l.getD i (l.headD 0)
def qk(l:List Bool)(i:Nat):Bool:=l.getD i (l.headD false)
theorem wO{α:Type}{f:Addr->Option α}{g:α->Bool}{l:JM}{bs:List Bool}{r:Bool->Option α}(hl:l≠[])(h:l.map f=bs.map r)(i:Nat):f (pick l i)=r (qk bs i):=by
 have hlen:l.length=bs.length:=by simpa using congrArg List.length h
 unfold pick qk;rw[getD_eq_getElem?_getD,getD_eq_getElem?_getD];have key:∀j,(l[j]?).map f=(bs[j]?).map r:=λj=>by rw[<- getElem?_map,<- getElem?_map,h]
 cases e:l[i]? with
 |some C=>
  have:=key i;rw[e]at this;cases e2:bs[i]? with
  |some b=>rw[e2]at this;simpa using this
  |none=>rw[e2]at this;simp at this
 |none=>
  have hb:bs[i]?=none:=by rw[List.getElem?_eq_none_iff]at e ⊢;omega
  rw[hb];cases l with
  |nil=>exact absurd rfl hl
  |cons a l=>
   cases bs with
   |nil=>simp at hlen
   |cons b bs=>simpa using key 0
def PV.isBl(c:Bool):PV->Bool
 |.bl b=>b==c
 |_=>false
def kU:PV->PV->JT
 |x,.bl c=>.ok (.bl (!x.isBl c))
 |_,_=>.stuck
section
variable{X:Cx}{T:Tb}{W:Nat->St->JR}{F B L:JJ}{H:Hp}{a b:Expr}{ma mb:ME}{pos:Pos}
def Rel.isBl(c:Bool)(r:Rel T F B L H x v f):decide (v=.bl c)=x.isBl c:=by
 cases x with
 |non=>unfold Rel at r;rw[r.1];rfl
 |bl b=>unfold Rel at r;rw[r.1];cases b<;>cases c<;>rfl
 |int i|str i=>unfold Rel at r;rw[r.1];rfl
 |lst f xs=>unfold Rel at r;obtain⟨a,_,_,rfl,_⟩:=r;rfl
 |tup xs=>unfold Rel at r;obtain⟨a,_,rfl,_⟩:=r;rfl
 |obj f c ks xs=>unfold Rel at r;obtain⟨a,_,_,_,rfl,_⟩:=r;rfl
 |exc c=>unfold Rel at r;obtain⟨a,rfl,_⟩:=r;rfl
 |box k xs=>unfold Rel at r;obtain⟨a,vs,rfl,_⟩:=r;rfl
def AR(r:bV x v):(v==Value.bool c)=decide (x=.bl c):=by
 cases x with
 |non=>cases r;rfl
 |bl b=>cases r;cases b<;>cases c<;>rfl
 |int i|str i|byt i=>obtain⟨t,rfl⟩:=r;rfl
 |ref i|ty i=>cases r;rfl
 |flt i=>obtain⟨t,rfl⟩:=r;rfl
def Bf:OpR X (compareOp .IsNot) (λx y H Q=>∃c,y=.bl c/\Q (.bl (!decide (x=.bl c))) H):=by
 intro js s Y H x y v u Q I rx ry h;obtain⟨c,rfl,q⟩:=h;cases ry;have e:=AR (c:=c) rx;have go:EP X js Y Q (.bool (!(v==.bool c))) s:=⟨.bl _,H,I,by rw[e];rfl,q⟩
 cases x<;>first
  |(cases rx;exact wpAny_pure go)
  |(obtain⟨t,rfl⟩:=rx;exact wpAny_pure go)
def xF:je T W kU (λx y H Q=>∃c,y=.bl c/\Q (.bl (!decide (x=.bl c))) H):=by
 intro B F L Y H Q F' H' x y v u fx fy gr rx ry nf nd new q;cases y with
 |bl c=>unfold Rel at ry;refine⟨c,ry.1,?_⟩;rw[rx.isBl c];exact GE.scal (pv:=.bl (!x.isBl c)) (by simpa[kU]using q) gr jp
 |_=>simp only[kU]at q;exact q.elim
def Aq(ha:SE X T W a ma)(hb:SE X T W b mb):ST X T W (.Compare a [.IsNot] [b] pos) (aB (mOp kU ma mb)):=fL Bf xF ha hb (fk _)
end
def sX:∀(xs:JQ) (ys:JL),xs.length=ys.length->(∀(i:Nat) x y,xs[i]?=some x->ys[i]?=some y->bV x y)->aU xs ys
 | [],[],_,_=>.nil
 |x::xs,y::ys,hl,h=>.cons (h 0 x y rfl rfl) (sX xs ys (by simpa using hl) λi a b e1 e2=>h (i+1) a b (by simpa using e1) (by simpa using e2))
 | [],_::_,hl,_|_::_,[],hl,_=>by simp at hl
def rY(lo:Int)(n:Nat):JQ:=(range n).map λk=>.int (lo+(k:Nat))
section
variable{X:Cx}{T:Tb}{W:Nat->St->JR}{Z:Zn}{F F1 B L:JJ}{H H1:Hp}{Y:St}{env:En}{fp:Nat->JM}
def wA(lo:Int)(n:Nat):RelL T F B L H (cG lo n) (rY lo n) []:=by
 unfold cG rY;have:∀l:List Nat,RelL T F B L H (l.map λk=>PV.int (lo+(k:Nat))) (l.map λk=>V.int (lo+(k:Nat))) []:=by
  intro l
  induction l with
  |nil=>exact fP _ _ _ _
  |cons a l ih=>rw[map_cons,map_cons];unfold RelL;exact⟨_,_,[],[],rfl,fQ,ih,rfl⟩
 exact this _
def vc(hg:Gl X "range")(hm:X.mg "range"=none)(ha:PA X [a] ta)(hs:starEach [a] X.env=[(false,eval a X.env)]:=by rfl) :
  PE X (.Call (.Name "range" p) [a] [] pos) (λY H Q=>ta Y H λvs H1=>∃j:Int,vs=[.int j]/\∀r,H1 r=none->Q (.ref r) (upd H1 r (.rng 0 j))):=by
 intro js s Y H Q I h;refine PyProof.Rows.Call_ (gC I hg hm PyProof.Rows.boot_range (PyProof.Rows.callWith_type1 (thn (ha pos js s Y H _ I h) λus s1 zz=>?_) hs rfl));obtain⟨vs,H1,I1,r1,q1⟩:=zz;obtain⟨j,e,q⟩:=q1;subst e;cases r1 with
 |cons r rr=>cases rr;obtain⟨t,rfl⟩:=r;refine call_range_1 ⟨.ref s1.heap.objs.size,_,I1.laid (λb u e=>get?_push_of_some _ e) (Nat.le_refl _) ?_,rfl,q _ (I1.hok.fresh (Nat.le_refl _))⟩;exact⟨_,_,_,get?_push_size _ rfl⟩
theorem mX(hc:X.calm=true):eJ X (.type "list") (λxs H Q=>∃r hi,xs=[.ref r]/\H r=some (.rng 0 hi)/\(0<=hi/\hi<=1000000)/\∀l,H l=none->Q (.ref l) (upd H l (.lst (rY 0 hi.toNat)))):=by
 intro js s Y H xs us Q I rv h;obtain⟨r,hi,rfl,hr,⟨h0,h1⟩,q⟩:=h;obtain⟨u,rfl,rx⟩:=d8 rv;cases rx;obtain⟨t,u,v,e⟩:=I.hok r _ hr;have hsz:Builtin.Range.rangeSize 0 hi 1=(hi.toNat:Int):=by unfold Builtin.Range.rangeSize;rw[if_pos (by decide)];split<;>omega
 have hsm:Builtin.Range.small 0 hi 1=true:=by unfold Builtin.Range.small;rw[hsz];simp only[Builtin.Range.rangeFitsLong,and_eq_true,or_eq_true,decide_eq_true_eq,show(1:Int)>0 by decide,if_true];refine⟨⟨⟨⟨by decide,by omega⟩,by decide⟩,by omega⟩,.inr ()⟩
 refine call_list_range (I.ok.hd hc) e hsm hsz () λh' tk acc c' kp eS hacc=>?_;refine⟨.ref s.heap.objs.size,_,I.laid (t':=tk) kp (Nat.le_refl _) ?_,rfl,q _ (I.hok.fresh (Nat.le_refl _))⟩;refine⟨?_,acc.toList,c',sX _ _ ?_ λi x y e1 e2=>?_,?_⟩
 .rw[sizeLine_eq];simp[rY];omega
 .simp[rY,hacc.1]
 .have:=hacc.2 i y (by simpa using e2);obtain⟨t,rfl⟩:=this;have hi:i<hi.toNat:=by have:=(List.getElem?_eq_some_iff.mp e1).1;simpa[rY]using this
  simp[rY,hi]at e1;subst e1;exact⟨t,by simp⟩
 .simpa using eS
def j0:JS->JT
 | [.int n]=>if decide (0<=n/\n<=1000000)then .ok (.lst .own (cG 0 n.toNat))else .stuck
 |_=>.stuck
def uP(hc:X.calm=true)(hg:Gl X "list")(hm:X.mg "list"=none)(hv:bootBuiltins "list"=some (.type "list"))(hg2:Gl X "range")(hm2:X.mg "range"=none)(ha:SA X T W [a] ms)
  (hs:starEach [a] X.env=[(false,eval a X.env)]:=by rfl)
  (he:starEach [.Call (.Name "range" p2) [a] [] pos2] X.env=[(false,eval (.Call (.Name "range" p2) [a] [] pos2) X.env)]:=by rfl) :
  SE X T W (.Call (.Name "list" p) [.Call (.Name "range" p2) [a] [] pos2] [] pos) (aq j0 ms):=by
 refine PE.wk (ku (p:=p) (pos:=pos) (mX hc) hg hm hv (dR (vc (p:=p2) (pos:=pos2) hg2 hm2 ha hs) g8 (by rw[he];rfl)) (he:=by rw[he];rfl) (hpl:=rfl)) λY H Q hz1=>?_;obtain⟨Z,F,env,fp,S,q⟩:=hz1;unfold aq at q;refine tA.bq S λpvs vs H1 F1 f1 e1 g1 r1 n1 d1 w1=>?_;rw[e1]at q;simp only[Res.J4]at q
 match pvs,r1,q with
 | [.int n],r1,q=>
  obtain⟨v,rfl,rv⟩:=RelL.one r1;unfold Rel at rv;obtain⟨rfl,rfl⟩:=rv;simp only[j0]at q;refine⟨n,rfl,λr hr=>?_⟩;by_cases hn:decide (0<=n/\n<=1000000)=true
  .rw[if_pos hn]at q;have g2:Gr F H F1 (upd H1 r (.rng 0 n)):=g1.trans (Gr.same g1.dom (Ext.upd hr));exact⟨r,n,rfl,ce,of_decide_eq_true hn,λl hl=>GE.newL q g2 (wA 0 n.toNat) (λ_ z=>(nomatch z)) nodup_nil (λ_ z=>(nomatch z)) l hl⟩
  .rw[if_neg hn]at q;exact q.elim
 | [],_,q|[.non],_,q|[.bl _],_,q|[.str _],_,q|[.lst _ _],_,q|[.tup _],_,q|[.obj _ _ _ _],_,q|[.exc _],_,q|[.box _ _],_,q|.int _::_::_,_,q|.non::_::_,_,q|.bl _::_::_,_,q|.str _::_::_,_,q|.lst _ _::_::_,_,q|.tup _::_::_,_,q|.obj _ _ _ _::_::_,_,q|.exc _::_::_,_,q|.box _ _::_::_,_,q=>exact q.elim
end
def bX:JS->Option (JK)
 | []=>some []
 |.int i::xs=>(bX xs).map (i::·)
 |_::_=>none
def n0(ns:JK):Nat:=(firstMet (λi=>ns.getD i 0) ns.length).length
def jg:PV->JT
 |.lst _ xs=>match bX xs with
  |some ns=>if decide (ns.length<=1000)then .ok (.int (n0 ns))else .stuck
  |none=>.stuck
 |_=>.stuck
section
variable{X:Cx}{T:Tb}{W:Nat->St->JR}{Z:Zn}{F F1 B L:JJ}{H H1:Hp}{Y:St}{env:En}{fp:Nat->JM}
def dy:∀{xs:JS}{vs:JQ}{f:JM}{ns:JK},bX xs=some ns->RelL T F B L H xs vs f->vs=ns.map V.int
 | [],_,_,_,e,r=>by cases e;unfold RelL at r;exact r.1
 |.int i::xs,_,_,ns,e,r=>by
  unfold RelL at r;obtain⟨v,ws,f1,f2,rfl,h1,h2,rfl⟩:=r;simp only[bX]at e;cases e2:bX xs with
  |none=>rw[e2]at e;cases e
  |some ms=>rw[e2]at e;cases e;unfold Rel at h1;rw[h1.1,dy e2 h2];rfl
 |.non::_,_,_,_,e,_|.bl _::_,_,_,_,e,_|.str _::_,_,_,_,e,_|.lst _ _::_,_,_,_,e,_|.tup _::_,_,_,_,e,_|.obj _ _ _ _::_,_,_,_,e,_|.exc _::_,_,_,_,e,_|.box _ _::_,_,_,_,e,_=>by simp[bX]at e
def gS:∀{ns:JK}{its:JL},aU (ns.map V.int) its->PyProof.Rows.IntsAre its ns
 | [],_,r=>by cases r;exact .nil
 |n::ns,_,r=>by
  cases r with
  |cons h t=>obtain⟨tk,rfl⟩:=h;exact .cons _ _ (gS t)
theorem mW(hc:X.calm=true):eJ X (.type "set") (λxs H Q=>∃p ns,xs=[.ref p]/\SqL X.K H p (ns.map V.int)/\ns.length<=1000/\∀r S,H r=none->Q (.ref r) (upd H r (.set S (n0 ns)))):=by
 intro js s Y H xs us Q I rv h;obtain⟨p,ns,rfl,hS,hl,q⟩:=h;obtain⟨u,rfl,rx⟩:=d8 rv;cases rx;obtain⟨its,r',pl,hz⟩:=I.list hS;have hlen:=r'.length;rw[length_map]at hlen;refine call_set_list (I.ok.hd hc) pl.isList (ns:=ns) (by simpa using gS r') (by simp only[size_toArray,<- hlen];unfold scanBound;omega) λh' tk hs kp=>?_;have e:its.toArray.size=ns.length:=by simp[hlen]
 rw[e]at hs;exact⟨.ref s.heap.objs.size,_,I.laid (t':=tk) (o:=.set (λk'=>(firstMet (λi=>ns.getD i 0) ns.length).any (·==k')) (n0 ns)) (λb o e=>kp b o (lt_size e) e) (Nat.le_refl _) hs,rfl,q _ _ (I.hok.fresh (Nat.le_refl _))⟩
theorem mY:eJ X (.builtin "len") (λxs H Q=>∃r S n,xs=[.ref r]/\H r=some (.set S n)/\Q (.int n) H):=by intro js s Y H xs us Q I rv h;obtain⟨r,S,n,rfl,hr,q⟩:=h;obtain⟨u,rfl,rx⟩:=d8 rv;cases rx;obtain⟨o,es,ep,t,ho,hex,hd,_,_,hb,hf,hn⟩:=I.hok r _ hr;have hb':es.size<4096:=hb;exact call_len_set ho hex hd hf () ⟨.int n,H,I.tok _,⟨s.toks+1,by rw[hn]⟩,q⟩
theorem E8:bootBuiltins "set"=some (.type "set"):=by decide +kernel
def nB(hK:X.K=T.K)(hc:X.calm=true)(hg:Gl X "len")(hm:X.mg "len"=none)(hg2:Gl X "set")(hm2:X.mg "set"=none)(he:SE X T W e m)
  (hs:starEach [e] X.env=[(false,eval e X.env)]:=by rfl)
  (hs2:starEach [.Call (.Name "set" p2) [e] [] pos2] X.env=[(false,eval (.Call (.Name "set" p2) [e] [] pos2) X.env)]:=by rfl) :
  SE X T W (.Call (.Name "len" p) [.Call (.Name "set" p2) [e] [] pos2] [] pos) (mUn jg m):=by
 refine PE.wk (lU (p:=p) (pos:=pos) mY hg hm boot_len (dR (ku (p:=p2) (pos:=pos2) (mW hc) hg2 hm2 E8 (dR he g8 (by rw[hs];rfl)) (he:=by rw[hs];rfl) (hpl:=rfl)) g8 (by rw[hs2];rfl)) (he:=by rw[hs2];rfl) (hpl:=rfl)) λY H Q hz1=>?_;obtain⟨Z,F,env,fp,S,q⟩:=hz1;unfold mUn at q;refine tE.bq S λx v H1 F1 f1 e1 g1 r1 n1 d1 w1=>?_;rw[e1]at q;cases x with
 |lst fl xs=>
  simp only[Res.J4,jg]at q;cases en:bX xs with
  |none=>rw[en]at q;exact q.elim
  |some ns=>
   rw[en]at q;dsimp only at q;unfold Rel at r1;obtain⟨a,vs,fp',rfl,hl,hr,_⟩:=r1;by_cases hn:decide (ns.length<=1000)=true
   .rw[if_pos hn]at q;have hv:=dy en hr;subst hv;exact⟨a,ns,rfl,by rw[hK];exact hl.sq,of_decide_eq_true hn,λr S hr=>⟨r,S,_,rfl,ce,q.scal (g1.trans (Gr.same g1.dom (Ext.upd hr))) fQ⟩⟩
   .rw[if_neg hn]at q;exact q.elim
 |_=>exact q.elim
end
def f_:JK->Int
 | []=>0
 | [a]=>a
 |a::b::l=>min a (f_ (b::l))
def iA:JK->Int
 | []=>0
 | [a]=>a
 |a::b::l=>max a (iA (b::l))
theorem fX:∀{l:JK},l≠[]->f_ l∈l/\∀x∈l,f_ l<=x
 | [],h=>absurd rfl h
 | [a],_=>by simp[f_]
 |a::b::l,_=>by
  obtain⟨h1,h2⟩:=fX (l:=b::l) (by simp);unfold f_
  grind
def j8:∀{l:JK},l≠[]->iA l∈l/\∀x∈l,x<=iA l
 | [],h=>absurd rfl h
 | [a],_=>by simp[iA]
 |a::b::l,_=>by
  obtain⟨h1,h2⟩:=j8 (l:=b::l) (by simp);unfold iA;refine⟨?_,λx hx=>?_⟩
  .rcases Int.le_total a (iA (b::l))with h|h
   .rw[Int.max_eq_right h];exact mem_cons_of_mem _ h1
   .rw[Int.max_eq_left h];exact mem_cons_self
  .rcases mem_cons.mp hx with rfl|hx
   .exact Int.le_max_left _ _
   .exact Int.le_trans (h2 x hx) (Int.le_max_right _ _)
section
variable{X:Cx}{T:Tb}{W:Nat->St->JR}{Z:Zn}{F F1 B L:JJ}{H H1:Hp}{Y:St}{env:En}{fp:Nat->JM}{js:JI}{s:Shared}
def fZ{h':Heap}{t:Nat}(I:L2.Inv X js Y H s)(k:∀b o,s.heap.get? b=some o->h'.get? b=some o):L2.Inv X js Y H {s with heap:=h',toks:=t}:=I.un (Un.kept k) (I.hok.kept k)
theorem eC{its:JL}{ns:JK}(r:aU (ns.map V.int) its):∀(i:Nat) (v:Value),its.toArray[i]?=some v->∃t,v=.int (ns.getD i 0) t:=by
 intro i v e;have e':its[i]?=some v:=by simpa using e
 have hi:i<ns.length:=by have h1:=(List.getElem?_eq_some_iff.mp e').1;have h2:=r.length;rw[length_map]at h2;omega
 have:∀{ns:JK}{its:JL}{i:Nat}{v:Value},aU (ns.map V.int) its->its[i]?=some v->∃t,v=.int (ns.getD i 0) t:=by
  intro ns
  induction ns with
  |nil=>intro its i v r e;cases r;simp at e
  |cons n ns ih=>
   intro its i v r e;cases r with
   |cons h t=>
    obtain⟨tk,rfl⟩:=h;cases i with
    |zero=>simp at e;exact⟨tk,by rw[<- e];rfl⟩
    |succ i=>obtain⟨tk',h'⟩:=ih t (by simpa using e);exact⟨tk',by rw[h'];rfl⟩
 exact this r e'
theorem rj{ns:JK}(h:0<ns.length):ns.getD (argBest (λi j=>decide (ns.getD i 0<ns.getD j 0)) (ns.length-1)) 0=f_ ns:=by
 obtain⟨h1,h2⟩:=argBest_lt (λi=>ns.getD i 0) (ns.length-1);obtain⟨m1,m2⟩:=fX (l:=ns) (by intro z;simp[z]at h);refine Int.le_antisymm ?_ (m2 _ ?_)
 .obtain⟨i,hi,e⟩:=getElem_of_mem m1;have:=h2 i ()
  grind
 .rw[getD_eq_getElem?_getD,getElem?_eq_getElem ()];exact getElem_mem _
theorem zc{ns:JK}(h:0<ns.length):ns.getD (argBest (λi j=>decide (ns.getD i 0>ns.getD j 0)) (ns.length-1)) 0=iA ns:=by
 obtain⟨h1,h2⟩:=argBest_gt (λi=>ns.getD i 0) (ns.length-1);obtain⟨m1,m2⟩:=j8 (l:=ns) (by intro z;simp[z]at h);refine Int.le_antisymm (m2 _ ?_) ?_
 .rw[getD_eq_getElem?_getD,getElem?_eq_getElem ()];exact getElem_mem _
 .obtain⟨i,hi,e⟩:=getElem_of_mem m1;have:=h2 i ()
  grind
theorem iE{n:Nat}{l I:Addr}(hl:l<n)(e:I=n):∀b∈[I,l],b<n+1:=(by grind)
def dM{h h':Heap}{o:Obj}(hk:∀b u,b∉[h.objs.size]->(h.push o).get? b=some u->h'.get? b=some u):∀b u,h.get? b=some u->h'.get? b=some u:=λb u e=>
 hk b u (λhm=>by
  rcases mem_cons.mp hm with z|z
  .exact absurd (z▸lt_size e) (Nat.lt_irrefl _)
  .cases z) (get?_push_of_some _ e)
theorem pq(hc:X.calm=true):eJ X (.builtin "min") (λxs H Q=>∃p ns,xs=[.ref p]/\(SqL X.K H p (ns.map V.int)\/ SqT X.K H p (ns.map V.int))/\0<ns.length/\Q (.int (f_ ns)) H):=by
 intro js s Y H xs us Q I rv h;obtain⟨p,ns,rfl,hq,hn,q⟩:=h;obtain⟨u,rfl,rx⟩:=d8 rv;cases rx;have hh:=I.ok.hd hc;have key:∀{its:JL},aU (ns.map V.int) its->∀{v:Value}{h':Heap}{tk:Nat},its.toArray[argBest (λi j=>decide (ns.getD i 0<ns.getD j 0)) (its.toArray.size-1)]?=some v->(∀b o,s.heap.get? b=some o->h'.get? b=some o)->EP X js Y Q v {s with heap:=h',toks:=tk}:=by
  intro its r v h' tk hv k;have hl:its.toArray.size=ns.length:=by have:=r.length;simpa using this.symm
  rw[hl]at hv;obtain⟨t,rfl⟩:=eC r _ _ hv;rw[rj hn];exact⟨.int _,H,fZ I k,⟨t,rfl⟩,q⟩
 rcases hq with hq|hq
 .obtain⟨its,r,pl,hz⟩:=I.list hq;have hl:its.toArray.size=ns.length:=by have:=r.length;simpa using this.symm
  obtain⟨o,ho,hcl,n,hd⟩:=pl.isList;have hlt:=lt_size ho;refine call_min_walk (wpAny_pyIter_list pl.isList ?_);refine⟨_,_,_,_,_,_,_,rfl,Walks.list (A:=X.A.in1) hh _ p (Nat.ne_of_lt hlt) its.toArray,⟨⟨_,get?_push_size _ rfl,rfl,rfl⟩,pl.isList.push _⟩,λb hb=>?_,by omega,CmpOf.ints_lt (λi=>ns.getD i 0) (eC r),λv h' tk hP hk=>key r hP (dM hk)⟩;show b <(s.heap.push _).objs.size;rw[size_push];exact iE hlt rfl b hb
 .obtain⟨its,r,pl,hz⟩:=I.tuple hq;have hl:its.toArray.size=ns.length:=by have:=r.length;simpa using this.symm
  have pt:s.heap.IsTuple p its.toArray:=pl;obtain⟨o,ho,hcl,n,hd⟩:=pl;have hlt:=lt_size ho;refine call_min_walk (wpAny_pyIter_tuple pt ?_);refine⟨_,_,_,_,_,_,_,rfl,Walks.tuple (A:=X.A.in1) hh _ p (Nat.ne_of_lt hlt) its.toArray,⟨⟨_,get?_push_size _ rfl,rfl,rfl⟩,pt.push _⟩,λb hb=>?_,by omega,CmpOf.ints_lt (λi=>ns.getD i 0) (eC r),λv h' tk hP hk=>key r hP (dM hk)⟩;show b <(s.heap.push _).objs.size;rw[size_push];exact iE hlt rfl b hb
def pz(hc:X.calm=true):eJ X (.builtin "max") (λxs H Q=>∃p ns,xs=[.ref p]/\(SqL X.K H p (ns.map V.int)\/ SqT X.K H p (ns.map V.int))/\0<ns.length/\Q (.int (iA ns)) H):=by
 intro js s Y H xs us Q I rv h;obtain⟨p,ns,rfl,hq,hn,q⟩:=h;obtain⟨u,rfl,rx⟩:=d8 rv;cases rx;have hh:=I.ok.hd hc;have key:∀{its:JL},aU (ns.map V.int) its->∀{v:Value}{h':Heap}{tk:Nat},its.toArray[argBest (λi j=>decide (ns.getD i 0>ns.getD j 0)) (its.toArray.size-1)]?=some v->(∀b o,s.heap.get? b=some o->h'.get? b=some o)->EP X js Y Q v {s with heap:=h',toks:=tk}:=by
  intro its r v h' tk hv k;have hl:its.toArray.size=ns.length:=by have:=r.length;simpa using this.symm
  rw[hl]at hv;obtain⟨t,rfl⟩:=eC r _ _ hv;rw[zc hn];exact⟨.int _,H,fZ I k,⟨t,rfl⟩,q⟩
 rcases hq with hq|hq
 .obtain⟨its,r,pl,hz⟩:=I.list hq;have hl:its.toArray.size=ns.length:=by have:=r.length;simpa using this.symm
  obtain⟨o,ho,hcl,n,hd⟩:=pl.isList;have hlt:=lt_size ho;refine call_max_walk (wpAny_pyIter_list pl.isList ?_);refine⟨_,_,_,_,_,_,_,rfl,Walks.list (A:=X.A.in1) hh _ p (Nat.ne_of_lt hlt) its.toArray,⟨⟨_,get?_push_size _ rfl,rfl,rfl⟩,pl.isList.push _⟩,λb hb=>?_,by omega,CmpOf.ints_gt (λi=>ns.getD i 0) (eC r),λv h' tk hP hk=>key r hP (dM hk)⟩;show b <(s.heap.push _).objs.size;rw[size_push];exact iE hlt rfl b hb
 .obtain⟨its,r,pl,hz⟩:=I.tuple hq;have hl:its.toArray.size=ns.length:=by have:=r.length;simpa using this.symm
  have pt:s.heap.IsTuple p its.toArray:=pl;obtain⟨o,ho,hcl,n,hd⟩:=pl;have hlt:=lt_size ho;refine call_max_walk (wpAny_pyIter_tuple pt ?_);refine⟨_,_,_,_,_,_,_,rfl,Walks.tuple (A:=X.A.in1) hh _ p (Nat.ne_of_lt hlt) its.toArray,⟨⟨_,get?_push_size _ rfl,rfl,rfl⟩,pt.push _⟩,λb hb=>?_,by omega,CmpOf.ints_gt (λi=>ns.getD i 0) (eC r),λv h' tk hP hk=>key r hP (dM hk)⟩;show b <(s.heap.push _).objs.size;rw[size_push];exact iE hlt rfl b hb
def gI(g:JK->Int):PV->JT:=λx=>match a6 x with
 |some xs=>match bX xs with
  |some ns=>if ns.isEmpty then .stuck else .ok (.int (g ns))
  |none=>.stuck
 |none=>.stuck
def qu(hK:X.K=T.K):Mir T W (p1 (gI g)) (λxs H Q=>∃p ns,xs=[.ref p]/\(SqL X.K H p (ns.map V.int)\/ SqT X.K H p (ns.map V.int))/\0<ns.length/\Q (.int (g ns)) H):=by
 intro B F L Y H Q F' H' xs vs fx gr r nf nd new q
 match xs,r,q with
 | [x],r,q=>
  obtain⟨v,rfl,rv⟩:=RelL.one r;simp only[p1,gI]at q;cases e:a6 x with
  |none=>rw[e]at q;exact q.elim
  |some ys=>
   rw[e]at q;dsimp only at q;cases e2:bX ys with
   |none=>rw[e2]at q;exact q.elim
   |some ns=>
    rw[e2]at q;dsimp only at q;obtain⟨a,us,fx',rfl,hs,hr,_⟩:=rv.seq e;have hu:=dy e2 hr;subst hu;cases ns with
    |nil=>exact q.elim
    |cons n ns=>exact⟨a,_,rfl,by rw[hK];exact hs,by simp,q.scal gr fQ⟩
 | [],_,q=>exact q.elim
 |_::_::_,_,q=>simp only[p1]at q;exact q.elim
theorem sQ:bootBuiltins "min"=some (.builtin "min"):=by decide +kernel
theorem E9:bootBuiltins "max"=some (.builtin "max"):=by decide +kernel
def tw(hK:X.K=T.K)(hc:X.calm=true)(hg:Gl X "min")(hm:X.mg "min"=none)(ha:SE X T W e m)(he:starEach [e] X.env=[(false,eval e X.env)]:=by rfl):SE X T W (.Call (.Name "min" p) [e] [] pos) (aq (p1 (gI f_)) (ae m ao)):=
 eX (pq hc) (qu hK) hg hm sQ (aa ha af (by rw[he];rfl)) (he:=by rw[he];rfl) (hpl:=rfl)
def tz(hK:X.K=T.K)(hc:X.calm=true)(hg:Gl X "max")(hm:X.mg "max"=none)(ha:SE X T W e m)(he:starEach [e] X.env=[(false,eval e X.env)]:=by rfl):SE X T W (.Call (.Name "max" p) [e] [] pos) (aq (p1 (gI iA)) (ae m ao)):=
 eX (pz hc) (qu hK) hg hm E9 (aa ha af (by rw[he];rfl)) (he:=by rw[he];rfl) (hpl:=rfl)
def fS(g:Int->Int->Int):JS->JT
 | [.int i,.int j]=>.ok (.int (g i j))
 |_=>.stuck
def vp{g:Int->Int->Int}{g':Int->Int->Int}(hg:∀i j,g' i j=g i j):Mir T W (fS g) (λxs H Q=>∃i j,xs=[.int i,.int j]/\Q (.int (g' i j)) H):=by
 intro B F L Y H Q F' H' xs vs fx gr r nf nd new q
 match xs,r,q with
 | [x,y],r,q=>
  cases x with
  |int i=>
   cases y with
   |int j=>unfold RelL at r;obtain⟨v,ws,f1,f2,rfl,h1,h2,rfl⟩:=r;obtain⟨u,rfl,h3⟩:=RelL.one h2;unfold Rel at h1 h3;obtain⟨rfl,_⟩:=h1;obtain⟨rfl,_⟩:=h3;exact⟨i,j,rfl,by rw[hg];exact q.scal gr fQ⟩
   |_=>exact q.elim
  |_=>exact q.elim
 | [],_,q=>exact q.elim
 | [x],_,q=>cases x<;>exact q.elim
 |x::y::z::l,_,q=>cases x<;>cases y<;>exact q.elim
theorem lr(hc:X.calm=true)(hg:Gl X "min")(hm:X.mg "min"=none)(ha:SA X T W [a,b] ms)(he:starEach [a,b] X.env=[(false,eval a X.env),(false,eval b X.env)]:=by rfl)(he2:starEach [b] X.env=[(false,eval b X.env)]:=by rfl) :
  SE X T W (.Call (.Name "min" p) [a,b] [] pos) (aq (fS min) ms):=
 eX (vT hc) (vp λi j=>by simp only[Int.min_def];split<;>split<;>omega) hg hm sQ ha (he:=by rw[he,he2]) (hpl:=by rw[he2];rfl)
end
end PR
namespace PR
open PySem PySem.W PyProof.Rows
structure Ord(N:Nat)(lt:Nat->Nat->Bool):Prop where
 tr:∀i j k,i<N->j<N->k<N->lt i j=true->lt j k=true->lt i k=true
 tot:∀i j,i<N->j<N->i≠j->lt i j=false->lt j i=true
 irr:∀i,i<N->lt i i=false
structure Plc(N:Nat)(p:Array Nat):Prop where
 pm:p.toList.Perm (range N)
abbrev at_(p:Array Nat)(i:Nat):Nat:=p.getD i 0
section
variable{N:Nat}{lt:Nat->Nat->Bool}{p:Array Nat}
def Plc.sz(P:Plc N p):p.size=N:=by simpa using P.pm.length_eq
def Plc.get(P:Plc N p)(h:i<N):p[i]?=some (at_ p i):=by
 have:i<p.size:=by rw[P.sz];exact h
 simp[at_,this]
def Plc.bd(P:Plc N p)(h:i<N):at_ p i<N:=by
 have hm:at_ p i∈p.toList:=by have:=P.get h;exact Array.mem_toList_iff.mpr (Array.mem_of_getElem? this)
 simpa using P.pm.mem_iff.mp hm
def Plc.inj(P:Plc N p)(hi:i<N)(hj:j<N)(e:at_ p i=at_ p j):i=j:=by
 have nd:p.toList.Nodup:=P.pm.nodup_iff.mpr nodup_range;have h1:=P.get hi;have h2:=P.get hj;rw[e]at h1;have h1':p.toList[i]?=some (at_ p j):=by simpa using h1
 have h2':p.toList[j]?=some (at_ p j):=by simpa using h2
 obtain⟨a1,b1⟩:=List.getElem?_eq_some_iff.mp h1';obtain⟨a2,b2⟩:=List.getElem?_eq_some_iff.mp h2';exact(getElem_inj nd).mp (b1.trans b2.symm)
def Asc(lt:Nat->Nat->Bool)(p:Array Nat)(n:Nat):Prop:=∀a b,a<b->b<n->lt (at_ p a) (at_ p b)=true
def Dsc(lt:Nat->Nat->Bool)(p:Array Nat)(n:Nat):Prop:=∀a b,a<b->b<n->lt (at_ p b) (at_ p a)=true
theorem Asc.more(O:Ord N lt)(P:Plc N p)(h:Asc lt p n)(h1:1<=n)(hn:n<N)(hl:lt (at_ p (n-1)) (at_ p n)=true):Asc lt p (n+1):=λa b hab hb=>by
 by_cases hbn:b<n
 .exact h a b hab hbn
 .obtain rfl:b=n:=by omega
  by_cases ha:a=b-1
  .rw[ha];exact hl
  .exact O.tr _ _ _ (P.bd ()) (P.bd ()) (P.bd ()) (h a (b-1) () ()) hl
def Dsc.more(O:Ord N lt)(P:Plc N p)(h:Dsc lt p n)(h1:1<=n)(hn:n<N)(hl:lt (at_ p n) (at_ p (n-1))=true):Dsc lt p (n+1):=λa b hab hb=>by
 by_cases hbn:b<n
 .exact h a b hab hbn
 .obtain rfl:b=n:=by omega
  by_cases ha:a=b-1
  .rw[ha];exact hl
  .exact O.tr _ _ _ (P.bd ()) (P.bd ()) (P.bd ()) hl (h a (b-1) () ())
theorem Dsc.rev(P:Plc N p)(h:Dsc lt p n)(hn:n<=N):Asc lt (kas_rev p 0 n) n/\Plc N (kas_rev p 0 n):=by
 have hp:(kas_rev p 0 n).toList.Perm p.toList:=Array.perm_iff_toList_perm.mp (mirror_perm _ _ _ _);have P':Plc N (kas_rev p 0 n):=⟨hp.trans P.pm⟩
 have ix:∀k,k<n->at_ (kas_rev p 0 n) k=at_ p (n-1-k):=λk hk=>by
  have e:=getElem?_mirror_all (xs:=p) (i:=0) (j:=n) (by rw[P.sz];exact hn) k;have h1:(kas_rev p 0 n)[k]?=p[0+n-1-k]?:=by unfold kas_rev;rw[e,if_pos ⟨by omega,hk⟩]
  rw[P'.get (),show 0+n-1-k=n-1-k by omega,P.get ()]at h1;exact Option.some.inj h1
 refine⟨λa b hab hb=>?_,P'⟩;rw[ix a (),ix b hb];exact h _ _ () ()
variable{cmp:Nat->Nat->(Bool->Shared->Prop)->Shared->Prop}{s:Shared}
abbrev Cmp(N:Nat)(lt:Nat->Nat->Bool)(cmp:Nat->Nat->(Bool->Shared->Prop)->Shared->Prop)(s:Shared):Prop:=∀(i j:Nat) (C:Bool->Shared->Prop),i<N->j<N->C (lt i j) s->cmp i j C s
theorem sR(O:Ord N lt)(C:Cmp N lt cmp s)(P:Plc N p):∀(f n:Nat) (Q:Nat->Shared->Prop),1<=n->n+f=N->Asc lt p n->(∀m,n<=m->m<=N->Asc lt p m->(m<N->lt (at_ p m) (at_ p (m-1))=true)->Q m s)->(kas_asc p f n).kasWp cmp Q s
 |0,n,Q,h1,hn,ha,k=>k n (Nat.le_refl _) () ha ()
 |f+1,n,Q,h1,hn,ha,k=>by
  refine C _ _ _ (P.bd ()) (P.bd ()) ?_;cases e:lt (at_ p n) (at_ p (n-1))with
  |true=>exact k n (Nat.le_refl _) () ha λ_=>e
  |false=>have hl:=O.tot _ _ (P.bd ()) (P.bd ()) (λz=>by have:=P.inj () () z;omega) e;exact sR O C P f (n+1) Q () () (ha.more O P h1 () hl) λm hm=>k m ()
def yY(O:Ord N lt)(C:Cmp N lt cmp s)(P:Plc N p):∀(f n:Nat) (Q:Array Nat×Nat×Nat->Shared->Prop),1<=n->n+f=N->Dsc lt p n->(∀m,n<=m->m<=N->Dsc lt p m->Q (p,m,0) s)->(kas_desc f p n 0).kasWp cmp Q s
 |0,n,Q,h1,hn,ha,k=>k n (Nat.le_refl _) () ha
 |f+1,n,Q,h1,hn,ha,k=>by
  refine C _ _ _ (P.bd ()) (P.bd ()) ?_;cases e:lt (at_ p n) (at_ p (n-1))with
  |true=>exact yY O C P f (n+1) Q () () (ha.more O P h1 () e) λm hm=>k m ()
  |false=>have hl:=O.tot _ _ (P.bd ()) (P.bd ()) (λz=>by have:=P.inj () () z;omega) e;refine C _ _ _ (P.bd ()) (P.bd ()) ?_;have e2:lt (p.getD (n-1) 0) (p.getD n 0)=true:=hl;rw[e2];exact k n (Nat.le_refl _) () ha
theorem y7(O:Ord N lt)(C:Cmp N lt cmp s)(P:Plc N p)(h2:2<=N)(Q:Nat×Array Nat->Shared->Prop)(k:∀m p',1<=m->m<=N->Plc N p'->Asc lt p' m->Q (m,p') s):(kas_count N p).kasWp cmp Q s:=by
 unfold kas_count;rw[KasT.kasWp_bind];refine sR O C P (N-1) 1 _ (Nat.le_refl _) () (λa b _ hb=>by omega) λn h1 hn ha hs=>?_;by_cases e:n=N
 .rw[if_pos (by simpa using e)];exact k n p h1 hn P ha
 .rw[if_neg (by simpa using e)];by_cases hn1:n>1
  .rw[if_pos hn1];refine C _ _ _ (P.bd ()) (P.bd ()) ?_;have e2:lt (p.getD 0 0) (p.getD (n-1) 0)=true:=ha 0 (n-1) () ();rw[e2];exact k n p h1 hn P ha
  .rw[if_neg hn1];obtain rfl:n=1:=by omega
   unfold kas_descPart;rw[KasT.kasWp_bind];refine yY O C P (N-2) 2 _ () () (λa b hab hb=>?_) λm hm1 hm2 hd=>?_
   .obtain rfl:a=0:=by omega
    obtain rfl:b=1:=by omega
    exact hs ()
   .dsimp only;rw[if_neg (Nat.lt_irrefl 0)];obtain⟨ha',P'⟩:=hd.rev P hm2;unfold kas_tail3;rw[KasT.kasWp_bind];exact sR O C P' (N-m) m _ () () ha' λn' h1' hn' ha'' _=>k n' _ () hn' P' ha''
theorem lS(O:Ord N lt)(C:Cmp N lt cmp s)(P:Plc N p)(hk:k<N)(ha:Asc lt p k):∀(f l r:Nat) (Q:Nat->Shared->Prop),l<=r->r<=k->r-l<=f->(∀a,a<l->lt (at_ p a) (at_ p k)=true)->(∀a,r<=a->a<k->lt (at_ p k) (at_ p a)=true)->
  (∀m,m<=k->(∀a,a<m->lt (at_ p a) (at_ p k)=true)->(∀a,m<=a->a<k->lt (at_ p k) (at_ p a)=true)->Q m s)->(kas_place p k f l r).kasWp cmp Q s
 |0,l,r,Q,h1,h2,h3,h4,h5,q=>by
  obtain rfl:l=r:=by omega
  exact q l h2 h4 h5
 |f+1,l,r,Q,h1,h2,h3,h4,h5,q=>by
  unfold kas_place;by_cases e:l >= r
  .rw[if_pos e];obtain rfl:l=r:=by omega
   exact q l h2 h4 h5
  .rw[if_neg e];have hm:(l+r) / 2<r:=by omega
   have hm2:l <=(l+r) / 2:=by omega
   refine C _ _ _ (P.bd hk) (P.bd ()) ?_;cases e2:lt (at_ p k) (at_ p ((l+r) / 2))with
   |true=>
    refine lS O C P hk ha f l ((l+r) / 2) Q hm2 () () h4 (λa h6 h7=>?_) q;by_cases hae:a=(l+r) / 2
    .rw[hae];exact e2
    .exact O.tr _ _ _ (P.bd hk) (P.bd ()) (P.bd ()) e2 (ha _ a () h7)
   |false=>
    have hl:=O.tot _ _ (P.bd hk) (P.bd ()) (λz=>by have:=P.inj hk () z;omega) e2;refine lS O C P hk ha f ((l+r) / 2+1) r Q () h2 () (λa h6=>?_) h5 q;by_cases hae:a=(l+r) / 2
    .rw[hae];exact hl
    .exact O.tr _ _ _ (P.bd ()) (P.bd ()) (P.bd hk) (ha a _ () ()) hl
theorem zb(O:Ord N lt)(C:Cmp N lt cmp s):∀(f k:Nat) (p:Array Nat) (Q:Array Nat->Shared->Prop),Plc N p->Asc lt p k->k+f=N->(∀p',Plc N p'->Asc lt p' N->Q p' s)->(kas_bin f p k).kasWp cmp Q s
 |0,k,p,Q,P,ha,hk,q=>q p P (by rw[<- hk];exact ha)
 |f+1,k,p,Q,P,ha,hk,q=>by
  unfold kas_bin;rw[KasT.kasWp_bind];refine lS O C P () ha k 0 k _ (zero_le _) (Nat.le_refl _) () (λ_ z=>absurd z (not_lt_zero _)) (λa h1 h2=>by omega) λm hm h1 h2=>?_;have P':Plc N (bubble p k (k-m)):=⟨(Array.perm_iff_toList_perm.mp (bubble_perm _ _ _)).trans P.pm⟩
  have ix:=getElem?_bubble (xs:=p) (src:=k) (by rw[P.sz];omega) (k-m) ();have g:∀i,i<k+1->at_ (bubble p k (k-m)) i=if i=m then at_ p k else if m<i then at_ p (i-1)else at_ p i:=λi hi=>by
   have e:=ix i;rw[P'.get ()]at e;have hkm:k-(k-m)=m:=by omega
   rw[hkm]at e;by_cases c1:i=m
   .rw[if_pos c1];rw[if_pos c1,P.get ()]at e;exact Option.some.inj e
   .rw[if_neg c1]at e ⊢;by_cases c2:m<i
    .rw[if_pos c2];rw[if_pos ⟨c2,by omega⟩,P.get ()]at e;exact Option.some.inj e
    .rw[if_neg c2];rw[if_neg (λz=>c2 z.1),P.get ()]at e;exact Option.some.inj e
  refine zb O C f (k+1) _ Q P' (λa b hab hb=>?_) () q;rw[g a (),g b hb];by_cases a1:a=m
  .rw[if_pos a1,if_neg (),if_pos ()];exact h2 (b-1) () ()
  .rw[if_neg a1];by_cases a2:m<a
   .rw[if_pos a2,if_neg (),if_pos ()];exact ha _ _ () ()
   .rw[if_neg a2];by_cases b1:b=m
    .rw[if_pos b1];exact h1 a ()
    .rw[if_neg b1];by_cases b2:m<b
     .rw[if_pos b2];by_cases hh:a=b-1
      .omega
      .exact ha _ _ () ()
     .rw[if_neg b2];exact ha _ _ hab ()
theorem At(O:Ord N lt)(C:Cmp N lt cmp s)(h2:2<=N)(Q:Array Nat->Shared->Prop)(q:∀p,Plc N p->Asc lt p N->Q p s):(kas_sort N).kasWp cmp Q s:=by
 unfold kas_sort;rw[KasT.kasWp_bind];refine y7 O C (p:=List.toArray (range N)) ⟨by simp⟩ h2 _ λm p' h1 hm P ha=>?_;dsimp only;by_cases e:m<N
 .rw[if_pos e,Nat.max_eq_left h1];exact zb O C (N-m) m p' Q P ha () q
 .rw[if_neg e];obtain rfl:m=N:=by omega
  exact q p' P ha
end
end PR
namespace PR
open PySem PySem.Spec L2 PyProof.Rows PySem.W
section
variable{prog:Program}{w:World}{A:Around}{E:JF}{s:Shared}
def lW(vs:JL)(p:Array Nat):JP:=(p.toList.map λi=>vs.getD i Value.none).toArray
def u8(N:Nat):Plc N (range N).toArray:=⟨by simp⟩
def kW:lW vs (range vs.length).toArray=vs.toArray:=by unfold lW;congr 1;refine ext_getElem (by simp) λi h1 h2=>?_;simp[h2]
theorem Ah{vs:JL}(h:vs.length<2):(vs.toArray.zip vs.toArray).map (·.2)=vs.toArray:=by
 cases vs with
 |nil=>simp
 |cons v l=>cases l with
  |nil=>simp
  |cons w l=>simp only[List.length_cons]at h;omega
theorem vv{κ:SortKind}(ho:s.heap.get? a=some (seqObj "list" vs.toArray n))(h64:vs.length<64)
  (hK:2<=vs.length->∀s':Shared,(∀b o,b≠a->s.heap.get? b=some o->s'.heap.get? b=some o)->Ord vs.length lt/\(∀Q:SortKind->Shared->Prop,Q κ s'->wpAny (model prog w) A (keyKind' vs.toArray) Q E s')/\Cmp vs.length lt (kas_ask prog w A κ vs) s')
  (h:∀p,Plc vs.length p->Asc lt p vs.length->P (.done (.ret .none)) {s with heap:=sortedHeap s.heap a vs (lW vs p)}) :
  wpAny (model prog w) A (Builtin.«list.sort» ⟨[.ref a],[]⟩) P E s:=by
 have lo:=lt_size ho;obtain⟨e1,g1⟩:∃e1,(s.heap.update a (Obj.mapSeq λ_=>#[])).get? a=some (seqObj "list" #[] e1):=⟨_,get?_update_seq ho (λ_=>#[])⟩
 have g6:(((s.heap.update a (Obj.mapSeq λ_=>#[])).push (seqObj "tuple" vs.toArray 0)).push (seqObj "list" #[] 0)).get? a=some (seqObj "list" #[] e1):=get?_push_of_some _ (get?_push_of_some _ g1);have kp:∀b o,b≠a->s.heap.get? b=some o->(((s.heap.update a (Obj.mapSeq λ_=>#[])).push (seqObj "tuple" vs.toArray 0)).push (seqObj "list" #[] 0)).get? b=some o:=λb o hb q=>
  get?_push_of_some _ (get?_push_of_some _ ((Heap.get?_update_ne _ _ _ _ hb).trans q))
 rw[list_sort_plain];refine wpAny_bind (listItems_at ho rfl (wpAny_bind (listUpdate_at ho rfl (wpAny_bind (seqEpoch_at g1 rfl (wpAny_bind (wpAny_newTuple (wpAny_bind (wpAny_newList (wpAny_holding ?_))))))))))<;>try (simp only[size_toArray,sizeLine_eq];omega)
 show wpAny (model prog w) A _ P E {s with heap:=((s.heap.update a (Obj.mapSeq λ_=>#[])).push (seqObj "tuple" vs.toArray 0)).push (seqObj "list" #[] 0)};dsimp only;by_cases h2:vs.toArray.size<2
 .have h2':vs.length<2:=by simpa using h2
  rw[if_pos h2,if_pos h2];refine wpAny_bind (wpAny_pure ?_);rw[StateT.run_pure];refine wpAny_bind (wpAny_pure ?_);dsimp only;have e3:(arrOf (SortSt.mk' general' (vs.toArray.zip vs.toArray) #[] 7 none)).map (·.2)=lW vs (range vs.length).toArray:=by rw[kW];show(vs.toArray.zip vs.toArray).map (·.2)=vs.toArray;exact Ah h2'
  rw[e3];refine wpAny_bind (seqEpoch_at g6 rfl (wpAny_bind (listUpdate_at g6 rfl ?_ (zero_le _) (by rw[kW];simp only[size_toArray,sizeLine_eq];omega))));simp only[bne_self_eq_false,false_eq_true,if_false];exact wpAny_pure (h _ (u8 _) λx y hxy hy=>by omega)
 .have h2':2<=vs.length:=by simp at h2;omega
  rw[if_neg h2,if_neg h2];obtain⟨O,hk,C⟩:=hK h2' {s with heap:=((s.heap.update a (Obj.mapSeq λ_=>#[])).push (seqObj "tuple" vs.toArray 0)).push (seqObj "list" #[] 0)} kp;refine wpAny_bind (hk _ ?_);refine wpAny_bind (wpAny_mono (kat_run (κ:=κ) (ks:=vs) (vs:=vs) (Q:=λst' s'=>∃ p:Array Nat,arrOf st'=p.map (kas_item (vs.toArray.zip vs.toArray))/\failedOf st'=none/\Plc vs.length p/\Asc lt p vs.length/\s'=_) rfl h2' h64
   (λp st' s' _ a2 a3 a4=>⟨p,a2,a3,a4⟩) (At O C h2' _ λp c1 c2=>⟨c1,c2,rfl⟩)) ?_ λ_ _ e=>e)
  rintro⟨⟨⟩,st'⟩ s' ⟨p,har,hf,c1,c2,rfl⟩;dsimp only;have e3:=kat_snds (ks:=vs) (vs:=vs) rfl har;rw[e3];refine wpAny_bind (seqEpoch_at g6 rfl (wpAny_bind (listUpdate_at g6 rfl ?_ (zero_le _) (by
   rw[size_toArray,length_map,Array.length_toList,c1.sz,sizeLine_eq];omega))))
  rw[hf];simp only[bne_self_eq_false,false_eq_true,if_false];exact wpAny_pure (h _ c1 c2)
theorem rO{κ:SortKind}(hl:s.heap.IsList l vs.toArray)(h64:vs.length<64)
  (hK:2<=vs.length->∀s':Shared,(∀b o,s.heap.get? b=some o->s'.heap.get? b=some o)->Ord vs.length lt/\(∀(E:JF) (Q:SortKind->Shared->Prop),Q κ s'->wpAny (model prog w) A.in1.in1 (keyKind' vs.toArray) Q E s')/\Cmp vs.length lt (kas_ask prog w A.in1.in1 κ vs) s')
  (h:∀p,Plc vs.length p->Asc lt p vs.length->Q (.ref (s.heap.objs.size+1)) {s with heap:=sortedAll s.heap vs (lW vs p)}) :
  wpAny (model prog w) A (call (.builtin "sorted") [.ref l]) Q E s:=by
 refine Calls.call_function_entry kind_sorted plain_sorted entry_sorted (args_sorted1 _) ?_;unfold Builtin.«sorted»;have sz:((s.heap.push (seqObj "list" #[] 0)).update s.heap.objs.size (Obj.mapSeq (·++vs.toArray))).objs.size=s.heap.objs.size+1:=(Heap.size_update _ _ _).trans (size_push' _ _);refine wpAny_bind (m:=checkCount "sorted" 1 1 _) (wpAny_pure (wpAny_bind (collect_list hl (wpAny_bind (wpAny_newList ?_ (by rw[sizeLine_eq];omega))) (by rw[sizeLine_eq];omega))));have g:(((s.heap.push (seqObj "list" #[] 0)).update s.heap.objs.size (Obj.mapSeq (·++vs.toArray))).push (seqObj "list" vs.toArray 0)).get? (s.heap.objs.size+1)=some (seqObj "list" vs.toArray 0):=sz▸get?_push_size _ rfl;have kp:∀b o,s.heap.get? b=some o->(((s.heap.push (seqObj "list" #[] 0)).update s.heap.objs.size (Obj.mapSeq (·++vs.toArray))).push (seqObj "list" vs.toArray 0)).get? b=some o:=λb o q=>
  get?_push_of_some _ ((Heap.get?_update_ne _ _ _ _ (Nat.ne_of_lt (lt_size q))).trans (get?_push_of_some _ q))
 show wpAny _ _ _ _ _ {s with heap:=((s.heap.push (seqObj "list" #[] 0)).update s.heap.objs.size (Obj.mapSeq (·++vs.toArray))).push (seqObj "list" vs.toArray 0)};rw[sz];refine wpAny_bind (wpAny_holding (wpAny_call_entry slot_list_sort ⟨_,g,rfl⟩ entry_list_sort ?body (args_list_sort _)));refine vv (κ:=κ) (lt:=lt) g h64 (λh2 s' k'=>?_) λp c1 c2=>⟨_,rfl,wpAny_pure ⟨_,rfl,h p c1 c2⟩⟩
 obtain⟨O,hk,C⟩:=hK h2 s' λb o q=>k' b o (Nat.ne_of_lt (Nat.lt_succ_of_lt (lt_size q))) (kp b o q);exact⟨O,λQ q=>hk _ Q q,C⟩
def fC(x y:Int×Int):Bool:=decide (x.1<y.1) ||(x.1==y.1&&decide (x.2<y.2))
theorem jC(h1:fC x y=true)(h2:fC y z=true):fC x z=true:=by simp only[fC,or_eq_true,and_eq_true,decide_eq_true_eq,beq_iff_eq]at *;omega
def qi(x:Int×Int):fC x x=false:=by simp[fC]
theorem qh(h:x≠y):fC x y=true\/fC y x=true:=by
 obtain⟨a,b⟩:=x;obtain⟨c,d⟩:=y;have:a≠c\/b≠d:=by
  by_cases e:a=c
  .right;intro e2;exact h (by rw[e,e2])
  .exact .inl e
 simp only[fC,or_eq_true,and_eq_true,decide_eq_true_eq,beq_iff_eq];omega
def dq(h:Heap):JL->JH->Prop
 | [],[]=>True
 |v::vs,x::ps=>(∃a o n t u,v=.ref a/\h.get? a=some o/\o.cls=.type "tuple" /\ o.data=.seq #[.int x.1 t,.int x.2 u] n)/\dq h vs ps
 |_,_=>False
def dq.len:∀{vs:JL}{ps:JH},dq h vs ps->vs.length=ps.length
 | [],[],_=>rfl
 |_::_,_::_,q=>by simp[q.2.len]
def dq.kept(k:∀b o,h.get? b=some o->h'.get? b=some o):∀{vs:JL}{ps:JH},dq h vs ps->dq h' vs ps
 | [],[],_=>trivial
 |_::_,_::_,⟨⟨a,o,n,t,u,e1,e2,e3⟩,q⟩=>⟨⟨a,o,n,t,u,e1,k _ _ e2,e3⟩,q.kept k⟩
def dq.at:∀{vs:JL}{ps:JH},dq h vs ps->∀i,i<ps.length->∃a o n t u,vs.getD i Value.none=.ref a/\h.get? a=some o/\o.data=.seq #[.int (ps.getD i (0,0)).1 t,.int (ps.getD i (0,0)).2 u] n
 |_::_,_::_,⟨⟨a,o,n,t,u,e1,e2,e3⟩,q⟩,0,_=>⟨a,o,n,t,u,by simp[e1],e2,by simpa using e3.2⟩
 |v::vs,x::ps,⟨_,q⟩,i+1,hi=>by have:=q.at i (by simpa using hi);simpa using this
 | [],[],_,i,hi=>by simp at hi
def dq.firsts:∀{vs:JL}{ps:JH},dq h vs ps->∃fs,KatTups h vs fs/\fs.length=ps.length/\∀v∈fs,∃i t,v=.int i t
 | [],[],_=>⟨[],.nil,rfl,λv hv=>by cases hv⟩
 |_::_,_::_,⟨⟨a,o,n,t,u,e1,e2,e3,e4⟩,q⟩=>by
  obtain⟨fs,h1,h2,h3⟩:=q.firsts;subst e1;refine⟨_::fs,.cons e2 e3 e4 rfl h1,by simp[h2],λv hv=>?_⟩;rcases mem_cons.mp hv with rfl|hv
  .exact⟨_,_,rfl⟩
  .exact h3 v hv
def ve{ps:JH}(hd:ps.Nodup):Ord ps.length (λi j=>fC (ps.getD i (0,0)) (ps.getD j (0,0))):=by
 refine⟨λi j k _ _ _ h1 h2=>jC h1 h2,λi j hi hj hn h=>?_,λi _=>qi _⟩;have:ps.getD i (0,0)≠ ps.getD j (0,0):=by simp only[getD_eq_getElem?_getD,getElem?_eq_getElem hi,getElem?_eq_getElem hj,getD_some];exact λe=>hn ((getElem_inj hd).mp e)
 rcases qh this with q|q
 .rw[q]at h;cases h
 .exact q
def nJ(h:Q (decide (x<y)) s):wpAny (model prog w) A (oneLt' b (.int x t) (.int y u)) Q E s:=by
 cases b with
 |true=>exact oneLt_int h
 |false=>exact kat_one _ _ (wpAny_lt_int h)
def vf(hp:dq s.heap vs ps):Cmp vs.length (λi j=>fC (ps.getD i (0,0)) (ps.getD j (0,0))) (kas_ask prog w A (tuples' true) vs) s:=by
 intro i j C hi hj q;rw[hp.len]at hi hj;obtain⟨a,o,n,t,u,e1,e2,e3⟩:=hp.at i hi;obtain⟨a',o',n',t',u',e1',e2',e3'⟩:=hp.at j hj;unfold kas_ask;rw[e1,e1'];dsimp only at q;generalize ps.getD i (0,0)=x at *;generalize ps.getD j (0,0)=y at *;refine kat_lt e2 e3 e2' e3' (kat_cons (wpAny_eqBool_int (kat_go (λh1=>kat_yes (kat_cons (wpAny_eqBool_int (kat_go (λh2=>kat_yes (kat_nil ?_)) λh2=>kat_no (nJ ?_))))) λh1=>kat_no (nJ ?_))))
 .simp only[beq_iff_eq]at h1 h2;have:fC x y=false:=by simp[fC,h1,h2]
  rw[this]at q;exact q
 .simp only[beq_iff_eq]at h1;have:fC x y=decide (x.2<y.2):=by simp[fC,h1]
  rw[this]at q;exact q
 .have:fC x y=decide (x.1<y.1):=by simp[fC,h1]
  rw[this]at q;exact q
theorem sd(hp:dq s.heap vs ps)(h2:2<=vs.length){Q:SortKind->Shared->Prop}(q:Q (tuples' true) s):wpAny (model prog w) A (keyKind' vs.toArray) Q E s:=by obtain⟨fs,h1,hl,hi⟩:=hp.firsts;refine kat_kind (T:=.type "int") h1 (by rw[hl,<- hp.len];omega) (λv hv=>?_) rfl q;obtain⟨i,t,rfl⟩:=hi v hv;exact Looks.of_pure rfl
def ox(hl:s.heap.IsList l vs.toArray)(h64:vs.length<64)(hp:dq s.heap vs ps)(hd:ps.Nodup)
  (h:∀p,Plc vs.length p->Asc (λi j=>fC (ps.getD i (0,0)) (ps.getD j (0,0))) p vs.length->Q (.ref (s.heap.objs.size+1)) {s with heap:=sortedAll s.heap vs (lW vs p)}) :
  wpAny (model prog w) A (call (.builtin "sorted") [.ref l]) Q E s:=
 rO hl h64 (λh2 s' k=>⟨hp.len▸ve hd,λE Q q=>sd (hp.kept k) h2 q,vf (hp.kept k)⟩) h
end
end PR
namespace PR
open PySem PySem.Spec L2 PyProof.Rows
def sF(x:Int):JK->JK
 | []=>[x]
 |y::l=>if x<=y then x::y::l else y::sF x l
def jP:JK->JK
 | []=>[]
 |x::l=>sF x (jP l)
def kI(x:Int):∀l,(sF x l).Perm (x::l)
 | []=>.refl _
 |y::l=>by
  unfold sF;split
  .exact .refl _
  .exact((kI x l).cons y).trans (.swap x y l)
def fM:∀l,(jP l).Perm l
 | []=>.refl _
 |x::l=>(kI x _).trans ((fM l).cons x)
theorem qH(x:Int):∀{l:JK},l.Pairwise (·<=·)->(sF x l).Pairwise (·<=·)
 | [],_=>by simp[sF]
 |y::l,h=>by
  obtain⟨h1,h2⟩:=pairwise_cons.mp h;unfold sF;split
  .refine pairwise_cons.mpr ⟨λz hz=>?_,h⟩;rcases mem_cons.mp hz with rfl|hz
   .assumption
   .have:=h1 z hz;omega
  .refine pairwise_cons.mpr ⟨λz hz=>?_,qH x h2⟩;rcases mem_cons.mp ((kI x l).mem_iff.mp hz)with rfl|hz
   .omega
   .exact h1 z hz
def nv:∀l,(jP l).Pairwise (·<=·)
 | []=>.nil
 |x::l=>qH x (nv l)
def rQ{l l':JK}(h1:l'.Perm l)(h2:l'.Pairwise (·<=·)):l'=jP l:=
 List.Perm.eq_of_pairwise (λa b _ _ x y=>Int.le_antisymm x y) h2 (nv l) (h1.trans (fM l).symm)
def sE(x:Int×Int):JH->JH
 | []=>[x]
 |y::l=>if fC x y then x::y::l else y::sE x l
def cP:JH->JH
 | []=>[]
 |x::l=>sE x (cP l)
def kH(x:Int×Int):∀l,(sE x l).Perm (x::l)
 | []=>.refl _
 |y::l=>by
  unfold sE;split
  .exact .refl _
  .exact((kH x l).cons y).trans (.swap x y l)
def du:∀l,(cP l).Perm l
 | []=>.refl _
 |x::l=>(kH x _).trans ((du l).cons x)
def qG(x:Int×Int):∀{l:JH},x∉l->l.Pairwise (λa b=>fC a b=true)->(sE x l).Pairwise (λa b=>fC a b=true)
 | [],_,_=>by simp[sE]
 |y::l,hn,h=>by
  obtain⟨h1,h2⟩:=pairwise_cons.mp h;unfold sE;split
  .refine pairwise_cons.mpr ⟨λz hz=>?_,h⟩;rcases mem_cons.mp hz with rfl|hz
   .assumption
   .exact jC ‹_› (h1 z hz)
  .refine pairwise_cons.mpr ⟨λz hz=>?_,qG x (λz=>hn (mem_cons_of_mem _ z)) h2⟩;rcases mem_cons.mp ((kH x l).mem_iff.mp hz)with rfl|hz
   .rcases qh (x:=y) (y:=z) (λe=>hn (e▸mem_cons_self))with q|q
    .exact q
    .contradiction
   .exact h1 z hz
def nu:∀{l:JH},l.Nodup->(cP l).Pairwise (λa b=>fC a b=true)
 | [],_=>.nil
 |x::l,h=>by obtain⟨h1,h2⟩:=nodup_cons.mp h;exact qG x (λz=>h1 ((du l).mem_iff.mp z)) (nu h2)
def rP(hd:l.Nodup)(h1:l'.Perm l)(h2:l'.Pairwise (λa b=>fC a b=true)):l'=cP l:=
 List.Perm.eq_of_pairwise (λa b _ _ x y=>by
  have:=jC x y;rw[qi]at this;cases this) h2 (nu hd) (h1.trans (du l).symm)
def uZ{α:Type}(l:List α)(d:α):(range l.length).map (λi=>l.getD i d)=l:=by refine ext_getElem (by simp) λi h1 h2=>?_;simp[h2]
theorem u7{ps:JH}{p:Array Nat}(hd:ps.Nodup)(P:Plc ps.length p)(a:Asc (λi j=>fC (ps.getD i (0,0)) (ps.getD j (0,0))) p ps.length):p.toList.map (λi=>ps.getD i (0,0))=cP ps:=by
 refine rP hd (by have:=P.pm.map (λi=>ps.getD i (0,0));rwa [uZ]at this) ?_;refine List.pairwise_iff_getElem.mpr λi j hi hj hij=>?_;have hs:=P.sz;have hi':i<p.size:=by simpa using hi
 have hj':j<p.size:=by simpa using hj
 have:=a i j hij ();simpa[at_,Array.getD,hi',hj']using this
def PrH(K:PySem.W.Frag)(H:Hp):JQ->JH->Prop
 | [],[]=>True
 |v::vs,x::ps=>(∃a,v=.ref a/\SqT K H a [.int x.1,.int x.2])/\PrH K H vs ps
 |_,_=>False
def PrH.len{K:PySem.W.Frag}{H:Hp}:∀{vs:JQ}{ps:JH},PrH K H vs ps->vs.length=ps.length
 | [],[],_=>rfl
 |_::_,_::_,q=>by simp[q.2.len]
section
variable{X:Cx}{T:Tb}{W:Nat->L2.St->JR}{Z:Zn}{F F1 B L:JJ}{H H1:Hp}{Y:L2.St}{env:En}{fp:Nat->JM}{js:JI}{s:Shared}
def PrH.at(I:L2.Inv X js Y H s):∀{vs:JQ}{its:JL}{ps:JH},PrH X.K H vs ps->aU vs its->dq s.heap its ps
 | [],_,[],_,r=>by cases r;trivial
 |_::_,_,_::_,⟨⟨a,e,h⟩,q⟩,r=>by
  cases r with
  |cons h1 h2=>
   subst e;cases h1;refine⟨?_,q.at I h2⟩;obtain⟨its,r,pl,_⟩:=I.tuple h;obtain⟨u,r2,rfl,⟨t,rfl⟩,r3⟩:∃u r2,its=u::r2/\bV _ u/\aU _ r2:=by cases r with|cons a b=>exact⟨_,_,rfl,a,b⟩
   obtain⟨u',rfl,⟨t',rfl⟩⟩:=d8 r3;obtain⟨o,ho,hcl,n,hd⟩:=pl;exact⟨a,o,n,t,t',rfl,ho,hcl,hd⟩
def v7{vs:JQ}{its:JL}(r:aU vs its)(q:List Nat)(hq:∀i∈q,i<vs.length):aU (q.map λi=>vs.getD i .non) (q.map λi=>its.getD i Value.none):=by
 induction q with
 |nil=>exact .nil
 |cons i q ih=>
  refine .cons ?_ (ih λj hj=>hq j (mem_cons_of_mem _ hj));have hi:=hq i mem_cons_self;have:∀{vs:JQ}{its:JL}{i:Nat},aU vs its->i<vs.length->bV (vs.getD i .non) (its.getD i Value.none):=by
   intro vs its i r
   induction r generalizing i with
   |nil=>intro h;simp at h
   |cons a b ih=>
    intro h;cases i with
    |zero=>simpa using a
    |succ i=>simpa using ih (by simpa using h)
  exact this r hi
def o3:∀{ns:JK}{its:JL},PyProof.Rows.IntsAre its ns->aU (ns.map V.int) its:=by
 intro ns its h
 induction h with
 |nil=>exact .nil
 |cons=>exact .cons ⟨_,rfl⟩ ‹_›
theorem q9:eJ X (.builtin "sorted") (λxs H Q=>∃ p ys,xs=[.ref p]/\SqL X.K H p ys/\ys.length < 64 /\
    ((∃ ns,ys=ns.map V.int/\∀ l,H l=none->Q (.ref l) (upd H l (.lst ((jP ns).map V.int)))) \/
     (∃ps,PrH X.K H ys ps/\ps.Nodup/\∀l (q:List Nat),H l=none->q.Perm (range ys.length)->q.map (λi=>ps.getD i (0,0))=cP ps->Q (.ref l) (upd H l (.lst (q.map λi=>ys.getD i .non)))))):=by
  intro js s Y H xs us Q I rv h;obtain⟨p,ys,rfl,hq,h64,h⟩:=h;obtain⟨u,rfl,rx⟩:=d8 rv;cases rx;obtain⟨its,r,pl,hz⟩:=I.list hq;have hlen:=r.length;have hfr:=I.hok.fresh (le_succ s.heap.objs.size);rcases h with⟨ns,rfl,q⟩ |⟨ps,hp,hd,q⟩
  . refine sorted_ints pl.isList (gS r) () λout ns' a1 a2 a3=>?_;obtain⟨c,hc⟩:=sortedAll_at s.heap its out;have e:=rQ a2 a3;subst e;refine⟨.ref (s.heap.objs.size+1),_,I.laid (λb o=>sortedAll_old) (le_succ _) ?_,rfl,q _ hfr⟩;refine⟨?_,out.toList,c,o3 a1,by simpa using hc⟩;rw[sizeLine_eq];simp[(fM ns).length_eq]at h64 ⊢;omega
  . refine ox pl.isList () (hp.at I r) hd λp P a=>?_;obtain⟨c,hc⟩:=sortedAll_at s.heap its (lW its p);have hl:=hp.len;have pm:p.toList.Perm (range ys.length):=by rw[hlen];exact P.pm
    refine⟨.ref (s.heap.objs.size+1),_,I.laid (λb o=>sortedAll_old) (le_succ _) ?_,rfl,q _ p.toList hfr pm (u7 hd (by rw[<- hl,hlen];exact P) (by rw[<- hl,hlen];exact a))⟩;refine⟨?_,_,c,v7 r p.toList (λi hi=>by simpa using pm.mem_iff.mp hi),hc⟩;rw[sizeLine_eq];simp[P.sz,<- hlen];omega
end
end PR
namespace PR
open PySem PySem.Spec L2
section
def prV(x:Int×Int):PV:=.tup [.int x.1,.int x.2]
def iK:PV->Option (Int×Int)
 |.tup [.int a,.int b]=>some (a,b)
 |_=>none
def gz:JS->Option (JH)
 | []=>some []
 |x::xs=>match iK x,gz xs with
  |some y,some ys=>some (y::ys)
  |_,_=>none
def fD:PV->JT
 | .lst _ xs=>if decide (xs.length < 64) then (match bX xs with
  |some ns=>.ok (.lst .own ((jP ns).map .int))
  |none=>match gz xs with
   |some ps=>if decide ps.Nodup then .ok (.lst .own ((cP ps).map prV))else .stuck
   |none=>.stuck)else .stuck
 |_=>.stuck
section
variable{X:Cx}{T:Tb}{W:Nat->St->JR}{Z:Zn}{F F1 B L:JJ}{H H1:Hp}{Y:St}{env:En}{fp:Nat->JM}
def vg(e:iK x=some y):x=prV y:=by
 unfold iK at e;split at e
 .cases e;rfl
 .cases e
def jD:∀{xs:JS}{vs:JQ}{f:JM}{ps:JH},gz xs=some ps->RelL T F B L H xs vs f->PrH T.K H vs ps/\f=[]
 | [],_,_,_,e,r=>by cases e;unfold RelL at r;obtain⟨rfl,rfl⟩:=r;exact⟨trivial,rfl⟩
 |x::xs,_,_,ps,e,r=>by
  unfold RelL at r;obtain⟨v,ws,f1,f2,rfl,h1,h2,rfl⟩:=r;unfold gz at e;cases e1:iK x with
  |none=>rw[e1]at e;cases e
  |some y=>
   cases e2:gz xs with
   |none=>rw[e1,e2]at e;cases e
   |some ys=>rw[e1,e2]at e;cases e;obtain⟨q,rfl⟩:=jD e2 h2;have:=vg e1;subst this;unfold prV Rel at h1;obtain⟨a,us,rfl,hs,hr⟩:=h1;unfold RelL at hr;obtain⟨v1,w1,g1,g2,rfl,k1,k2,rfl⟩:=hr;obtain⟨v2,rfl,k3⟩:=RelL.one k2;unfold Rel at k1 k3;obtain⟨rfl,rfl⟩:=k1;obtain⟨rfl,rfl⟩:=k3;exact⟨⟨⟨a,rfl,hs⟩,q⟩,rfl⟩
def PrH.rel:∀{vs:JQ}{ps:JH},PrH T.K H vs ps->RelL T F B L H (ps.map prV) vs []
 | [],[],_=>fP _ _ _ _
 |_::_,x::ps,⟨⟨a,e,h⟩,q⟩=>by subst e;rw[map_cons];unfold RelL;refine⟨_,_,[],[],rfl,?_,q.rel,rfl⟩;unfold prV Rel;refine⟨a,_,rfl,h,?_⟩;unfold RelL;refine⟨_,_,[],[],rfl,fQ,?_,rfl⟩;unfold RelL;exact⟨_,_,[],[],rfl,fQ,fP _ _ _ _,rfl⟩
def PrH.get:∀{vs:JQ}{ps:JH},PrH K H vs ps->∀i,i<vs.length->∃a,vs.getD i .non=.ref a/\SqT K H a [.int (ps.getD i (0,0)).1,.int (ps.getD i (0,0)).2]
 |_::_,_::_,⟨h,q⟩,0,_=>by simpa using h
 |_::_,_::_,⟨_,q⟩,i+1,hi=>by simpa using q.get i (by simpa using hi)
 | [],[],_,_,hi=>by simp at hi
def PrH.map(h:PrH K H vs ps)(q:List Nat)(hq:∀i∈q,i<vs.length):PrH K H (q.map λi=>vs.getD i .non) (q.map λi=>ps.getD i (0,0)):=by
 induction q with
 |nil=>trivial
 |cons i q ih=>exact⟨h.get i (hq i mem_cons_self),ih λj hj=>hq j (mem_cons_of_mem _ hj)⟩
def AS(ns:JK):RelL T F B L H (ns.map PV.int) (ns.map V.int) []:=by
 induction ns with
 |nil=>exact fP _ _ _ _
 |cons a l ih=>rw[map_cons,map_cons];unfold RelL;exact⟨_,_,[],[],rfl,fQ,ih,rfl⟩
def RelL.len2:∀{xs:JS}{vs:JQ}{f:JM},RelL T F B L H xs vs f->xs.length=vs.length
 | [],_,_,r=>by unfold RelL at r;rw[r.1];rfl
 |x::xs,_,_,r=>by unfold RelL at r;obtain⟨v,ws,f1,f2,rfl,_,h2,_⟩:=r;simp[h2.len2]
def sr(hK:X.K=T.K):Mir T W (p1 fD) (λxs H Q=>∃ p ys,xs=[.ref p]/\SqL X.K H p ys/\ys.length < 64 /\
    ((∃ ns,ys=ns.map V.int/\∀ l,H l=none->Q (.ref l) (upd H l (.lst ((jP ns).map V.int)))) \/
     (∃ps,PrH X.K H ys ps/\ps.Nodup/\∀l (q:List Nat),H l=none->q.Perm (range ys.length)->q.map (λi=>ps.getD i (0,0))=cP ps->Q (.ref l) (upd H l (.lst (q.map λi=>ys.getD i .non)))))):=by
  intro B F L Y H Q F' H' xs vs fx g r nf nd new q
  match xs,r,q with
  | [x],r,q=>
    obtain⟨v,rfl,r1⟩:=r.one;simp only[p1]at q;cases x with
    |lst f xs=>
      unfold Rel at r1;obtain⟨a,ws,fp',rfl,hl,hr,_⟩:=r1;simp only[fD]at q;by_cases hn:decide (xs.length<64)=true
      . rw[if_pos hn]at q;refine⟨a,ws,rfl,by rw[hK];exact hl.sq,by rw[<- hr.len2];exact of_decide_eq_true hn,?_⟩;cases e1:bX xs with
        |some ns=>rw[e1]at q;dsimp only at q;exact .inl ⟨ns,dy e1 hr,GE.newL q g (AS _) (λ_ h=>by cases h) .nil (λ_ h=>by cases h)⟩
        |none=>
          rw[e1]at q;dsimp only at q;cases e2:gz xs with
          |none=>rw[e2]at q;exact q.elim
          |some ps=>
            rw[e2]at q;dsimp only at q;by_cases hd:decide ps.Nodup=true
            . rw[if_pos hd]at q;obtain⟨hp,rfl⟩:=jD e2 hr;refine .inr ⟨ps,by rw[hK];exact hp,of_decide_eq_true hd,λl q' hl' pm e=>?_⟩;have h2:=hp.map q' λi hi=>by simpa using pm.mem_iff.mp hi
              rw[e]at h2;exact GE.newL q g h2.rel (λ_ h=>by cases h) .nil (λ_ h=>by cases h) l hl'
            . rw[if_neg hd]at q;exact q.elim
      . rw[if_neg hn]at q;exact q.elim
    |_=>exact q.elim
  | [],_,q=>exact q.elim
  |_::_::_,_,q=>simp only[p1]at q;exact q.elim
theorem vV:bootBuiltins "sorted"=some (.builtin "sorted"):=by decide +kernel
def nA(hK:X.K=T.K)(hg:Gl X "sorted")(hm:X.mg "sorted"=none)(ha:SE X T W e m)(he:starEach [e] X.env=[(false,eval e X.env)]:=by rfl):SE X T W (.Call (.Name "sorted" p) [e] [] pos) (aq (p1 fD) (ae m ao)):=
 eX q9 (sr hK) hg hm vV (aa ha af (by rw[he];rfl)) (he:=by rw[he];rfl) (hpl:=rfl)
end
section
variable{X:Cx}{T:Tb}{W:Nat->St->JR}{Z:Zn}{F:JJ}{H:Hp}{Y:St}{env:En}{fp:Nat->JM}
def et(hg:Gl X x)(hm:∃t,X.mg x=some (.int i t))(hd:(x ==("__debug__":Str))=false:=by decide):SE X T W (.Name x pos) (mC (.int i)):=by obtain⟨t,h⟩:=hm;exact wq hg h hd
end
def db{α:Type}(n:Nat)(y:α)(xs:List α):List α:=xs.take n++y::xs.drop n
def AX:V->JQ->Hp->VK->Prop:=λx vs H Q=>∃l xs k y,x=.ref l/\vs=[.int k,y]/\H l=some (.lst xs)/\xs.length<sizeLine/\(0<=k/\k<=xs.length)/\Q .non (upd H l (.lst (db k.toNat y xs)))
def uD(r:aU xs its)(n:Nat):aU (xs.take n) (its.take n):=by
 induction r generalizing n with
 |nil=>simp;exact .nil
 |cons a b ih=>cases n with
  |zero=>exact .nil
  |succ n=>exact .cons a (ih n)
def uE(r:aU xs its)(n:Nat):aU (xs.drop n) (its.drop n):=by
 induction r generalizing n with
 |nil=>simp;exact .nil
 |cons a b ih=>cases n with
  |zero=>exact .cons a b
  |succ n=>exact ih n
section
variable{X:Cx}{T:Tb}{W:Nat->St->JR}{Z:Zn}{F F1 B L:JJ}{H H1:Hp}{Y:St}{env:En}{fp:Nat->JM}{D:Ends}
theorem vj:MtM X "list.insert" AX:=by
 intro js s Y H x vs v us Q I rx rv h;obtain⟨l,xs,k,y,rfl,rfl,hH,hz,⟨h0,h1⟩,q⟩:=h;cases rx;obtain⟨u0,u,rfl,⟨t,rfl⟩,ru⟩:∃u0 u,us=[u0,u]/\bV (.int k) u0/\bV y u:=by
  cases rv with
  |cons a b=>obtain⟨u,rfl,ru⟩:=d8 b;exact⟨_,u,rfl,a,ru⟩
 obtain⟨z,its,n,r,hl,e⟩:=I.lstM hH;have hlen:=r.length;have fits:¬(!Builtin.List.listFitsIndex k)=true:=by rw[sizeLine_eq]at hz;simp[Builtin.List.listFitsIndex];omega
 refine call_meets PySem.F.slot_list_insert ⟨_,e,rfl⟩ PySem.F.entry_list_insert (PySem.F.args_list_insert_3 _ _ _) (PySem.AutoSeq1.list_insert_list_int_val_1 l its.toArray n k t u fits (by rw[size_toArray];omega)) ⟨e,?_⟩;refine⟨.non,_,I.lset (its':=db k.toNat u its) hH e ?_ ?_ ?_,rfl,q⟩
 .have hk:min k.toNat its.toArray.size=k.toNat:=by rw[size_toArray];omega
  dsimp only;rw[if_neg (),hk];apply Array.toList_inj.mp;simp[db,List.take_of_length_le]
 .exact(uD r _).append (.cons ru (uE r _))
 .simp[db];omega
def RelL.ins(hv:Rel T F B L H v u []):∀(n:Nat) {xs:JS}{ws:JQ}{f:JM},RelL T F B L H xs ws f->RelL T F B L H (db n v xs) (db n u ws) f
 |0,xs,ws,f,h=>by show RelL T F B L H (v::xs) (u::ws) f;unfold RelL;exact⟨u,ws,[],f,rfl,hv,h,rfl⟩
 |n+1,[],ws,f,h=>by unfold RelL at h;obtain⟨rfl,rfl⟩:=h;show RelL T F B L H [v] [u] [];unfold RelL;exact⟨u,[],[],[],rfl,hv,fP _ _ _ _,rfl⟩
 |n+1,x::xs,ws,f,h=>by unfold RelL at h;obtain⟨w,ws,f1,f2,rfl,h1,h2,rfl⟩:=h;show RelL T F B L H (x::db n v xs) (w::db n u ws) _;unfold RelL;exact⟨w,_,f1,f2,rfl,h1,RelL.ins hv n h2,rfl⟩
def uc:PV->Bool
 |.int _=>true
 |x=>(iK x).isSome
def yg(h:uc v=true)(r:Rel T F B L H v u f):f=[]:=by
 have two:∀{v:PV},(iK v).isSome=true->Rel T F B L H v u f->f=[]:=λ{v} h r=>by
  obtain⟨y,e⟩:=isSome_iff_exists.mp h;have:gz [v]=some [y]:=by simp[gz,e]
  refine(jD (T:=T) (F:=F) (B:=B) (L:=L) (H:=H) (vs:=[u]) this ?_).2;unfold RelL;exact⟨u,[],f,[],rfl,r,fP _ _ _ _,by simp⟩
 cases v with
 |int i=>unfold Rel at r;exact r.2
 |tup xs=>exact two h r
 |_=>simp[uc,iK]at h
def j_(i:Nat)(k e:ME):MS:=λenv=>match k env with
 | .ok (.int j)=>(match e env with
  | .ok v=>(match env[i]? with
   |some (some (.lst .own xs))=>if uc v&&v.J1&&decide (0<=j/\j<=xs.length)&&decide (xs.length<10000000)then .next (env.set i (some (.lst .own (db j.toNat v xs))))else .stuck
   |_=>.stuck)
  |_=>.stuck)
 |_=>.stuck
theorem uJ(hK:X.K=T.K)(hN:X.N[i]?=some x)(hv:Vis X.env.scope x)(hk:SE X T W k mk)(he:SE X T W e m)
  (hs:swapsWith (.Call (.Attribute (.Name x px) "insert" apos) [k,e] [] cpos) none pos.line X.env=pure false:=by rfl) (hst:starEach [k,e] X.env=[(false,eval k X.env),(false,eval e X.env)]:=by rfl) (hst2:starEach [e] X.env=[(false,eval e X.env)]:=by rfl)
  (hfew:((backTo cpos (starEach [k,e] X.env)).all (λx=>!x.1)&&(backToKw cpos (keywordEach [] X.env)).all (λx=>x.1.isSome)&&decide ([k,e].length+([]:List Keyword).length+(if([]:List Keyword).isEmpty then 0 else 1)<30))=true:=by rfl)
  (hline:(apos.endLine==cpos.line)=true:=by rfl) (hd:(x ==("__debug__":Str))=false:=by decide) (hcd:(x ==("__classdict__":Str))=false:=by decide) :
  SS X T W (.Expr (.Call (.Attribute (.Name x px) "insert" apos) [k,e] [] cpos) pos) (j_ i mk m):=
 PS.wk (jY (pos:=pos) (wX (cpos:=cpos) (apos:=apos) PySem.F.plainAttrs_list PySem.F.slot_list_insert PySem.F.type_list_insert vj (fR (pos:=px) hN hv hd hcd) (aa hk (aa he af (by rw[hst2];rfl)) (by rw[hst,hst2])) rfl hfew hline (by rw[hst,hst2]) (by rw[hst2];rfl)) hs) λD Y H hz1=>by
  obtain⟨Z,F,env,fp,S,q⟩:=hz1;unfold j_ at q;split at q
  .rename_i j ek
   split at q
   .rename_i v em
    split at q
    .rename_i xs eo
     split at q
     .rename_i hc
      simp only[and_eq_true,decide_eq_true_eq]at hc;obtain⟨⟨⟨c1,c2⟩,c3⟩,c4⟩:=hc;obtain⟨a,ws,fp',h1,hl,hr,hf⟩:=S.lst eo;refine⟨_,h1,.inl ⟨rfl,ws,by rw[hK];exact SqL.of hl⟩,Z,F,env,fp,S,?_⟩;unfold ae ao;rw[ek,em];intro vs H1 F1 f1 g r n1 d1 w1;unfold RelL at r;obtain⟨u0,us,f2,f3,rfl,r0,r1,rfl⟩:=r;obtain⟨u,rfl,ru⟩:=r1.one;unfold Rel at r0;obtain⟨rfl,rfl⟩:=r0;have f0:=yg c1 ru;subst f0;have S1:=S.grow g;have hl1:=g.ext a _ hl;have hln:=hr.length;refine⟨a,ws,j,u,rfl,rfl,hl1,?_,by omega,?_⟩
      .rw[<- hln,sizeLine_eq];omega
      .have ndi:(a::fp').Nodup:=by rw[<- hf];exact S.nd i
       exact q F1 _ Y _ (S1.mutL (v:=u) eo h1 hf (RelL.ins (Rel.noL (by simpa[PV.J1]using c2) ru) j.toNat (hr.ext g.ext g.mono)) (nodup_cons.mp ndi).2 (λb hb=>.inl hb) hl1)
     .exact q.elim
    .exact q.elim
   .exact q.elim
  .exact q.elim
end
def Bc:PV->PV->JT:=fT (λ_ j=>decide (0<=j)) λi j=>.int (i / 2 ^ j.toNat)
def d9(ns:JK):Bool:=ns.all λv=>decide (-1000000<=v/\v<=1000000)
def jZ:PV->JT:=λx=>match a6 x with
 |some xs=>match bX xs with
  |some ns=>if decide (ns.length<=1000)&&d9 ns then .ok (.int ns.sum)else .stuck
  |none=>.stuck
 |none=>.stuck
theorem oF(ns:JK):∀n,n<=ns.length->preSum (λi=>ns.getD i 0) n=(ns.take n).sum
 |0,_=>rfl
 |n+1,h=>by have hn:n<ns.length:=h;have e:preSum (λi=>ns.getD i 0) (n+1)=preSum (λi=>ns.getD i 0) n+ns.getD n 0:=rfl;rw[e,oF ns n (),take_add_one,getElem?_eq_getElem hn,Option.toList_some,sum_append,List.sum_singleton];simp[hn]
theorem m8:∀{ns:JK},d9 ns=true->-(1000000*ns.length:Int)<= ns.sum/\ns.sum<=1000000*ns.length
 | [],_=>by simp
 |n::ns,h=>by simp only[d9,all_cons,and_eq_true,decide_eq_true_eq]at h;have:=m8 (ns:=ns) (by simpa[d9]using h.2);simp only[sum_cons,length_cons];omega
def rR(h:d9 ns=true)(k:Nat):d9 (ns.take k)=true:=by simp only[d9,all_eq_true]at h ⊢;exact λx hx=>h x (List.mem_of_mem_take hx)
section
variable{X:Cx}{T:Tb}{W:Nat->St->JR}{Z:Zn}{F F1 B L:JJ}{H H1:Hp}{Y:St}{env:En}{fp:Nat->JM}{js:JI}{s:Shared}{a b:Expr}{ma mb:ME}{pos:Pos}
def C3(ha:SE X T W a ma)(hb:SE X T W b mb):SE X T W (.BinOp a .RShift b pos) (mOp Bc ma mb):=kT Dy (qv (λ_ _ h=>of_decide_eq_true h) λ_ _ _ _ _ _=>fQ) ha hb
theorem pp(hc:X.calm=true):eJ X (.builtin "sum") (λxs H Q=>∃p ns,xs=[.ref p]/\(SqL X.K H p (ns.map V.int)\/ SqT X.K H p (ns.map V.int))/\ns.length<=1000/\d9 ns=true/\Q (.int ns.sum) H):=by
 intro js s Y H xs us Q I rv h;obtain⟨p,ns,rfl,hq,hn,hsm,q⟩:=h;obtain⟨u,rfl,rx⟩:=d8 rv;cases rx;have hh:=I.ok.hd hc;have fit:∀m,m=ns.length->∀j,j<m->InLong (ns.getD j 0)/\InLong (preSum (λi=>ns.getD i 0) (j+1)):=λm e j hj=>by
  subst e;have h1:ns.getD j 0∈ns:=by simp[hj]
  simp only[d9,all_eq_true,decide_eq_true_eq]at hsm;have h2:=hsm _ h1;have h3:=m8 (rR (k:=j+1) (show d9 ns=true by simpa[d9,all_eq_true]using hsm));rw[oF ns (j+1) hj];have h4:(ns.take (j+1)).length<=1000:=by simp;omega
  unfold InLong;omega
 have key:∀{its:JL},aU (ns.map V.int) its->∀{h':Heap}{tk t':Nat},(∀b o,s.heap.get? b=some o->h'.get? b=some o)->EP X js Y Q (.int (preSum (λi=>ns.getD i 0) its.toArray.size) t') {s with heap:=h',toks:=tk}:=by
  intro its r h' tk t' k;have hl:its.toArray.size=ns.length:=by have:=r.length;simpa using this.symm
  rw[hl,oF ns _ (Nat.le_refl _),take_length];exact⟨.int _,H,fZ I k,⟨t',rfl⟩,q⟩
 rcases hq with hq|hq
 .obtain⟨its,r,pl,hz⟩:=I.list hq;have hl:its.toArray.size=ns.length:=by have:=r.length;simpa using this.symm
  obtain⟨o,ho,hcl,n,hd⟩:=pl.isList;have hlt:=lt_size ho;refine call_sum_walk (wpAny_pyIter_list pl.isList ?_);refine⟨_,_,_,_,_,_,(λi=>ns.getD i 0),rfl,Walks.list (A:=X.A.in1) hh _ p (Nat.ne_of_lt hlt) its.toArray,⟨⟨_,get?_push_size _ rfl,rfl,rfl⟩,pl.isList.push _⟩,λb hb=>?_,eC r,fit _ hl,λh' tk t' hk=>key r (dM hk)⟩;show b <(s.heap.push _).objs.size;rw[size_push];exact iE hlt rfl b hb
 .obtain⟨its,r,pl,hz⟩:=I.tuple hq;have hl:its.toArray.size=ns.length:=by have:=r.length;simpa using this.symm
  have pt:s.heap.IsTuple p its.toArray:=pl;obtain⟨o,ho,hcl,n,hd⟩:=pl;have hlt:=lt_size ho;refine call_sum_walk (wpAny_pyIter_tuple pt ?_);refine⟨_,_,_,_,_,_,(λi=>ns.getD i 0),rfl,Walks.tuple (A:=X.A.in1) hh _ p (Nat.ne_of_lt hlt) its.toArray,⟨⟨_,get?_push_size _ rfl,rfl,rfl⟩,pt.push _⟩,λb hb=>?_,eC r,fit _ hl,λh' tk t' hk=>key r (dM hk)⟩;show b <(s.heap.push _).objs.size;rw[size_push];exact iE hlt rfl b hb
def Bt(hK:X.K=T.K):Mir T W (p1 jZ) (λxs H Q=>∃p ns,xs=[.ref p]/\(SqL X.K H p (ns.map V.int)\/ SqT X.K H p (ns.map V.int))/\ns.length<=1000/\d9 ns=true/\Q (.int ns.sum) H):=by
 intro B F L Y H Q F' H' xs vs fx gr r nf nd new q
 match xs,r,q with
 | [x],r,q=>
  obtain⟨v,rfl,rv⟩:=RelL.one r;simp only[p1,jZ]at q;cases e:a6 x with
  |none=>rw[e]at q;exact q.elim
  |some ys=>
   rw[e]at q;dsimp only at q;cases e2:bX ys with
   |none=>rw[e2]at q;exact q.elim
   |some ns=>
    rw[e2]at q;dsimp only at q;obtain⟨a,us,fx',rfl,hs,hr,_⟩:=rv.seq e;have hu:=dy e2 hr;subst hu;split at q
    .rename_i hc
     simp only[and_eq_true,decide_eq_true_eq]at hc;exact⟨a,_,rfl,by rw[hK];exact hs,hc.1,hc.2,q.scal gr fQ⟩
    .exact q.elim
 | [],_,q=>exact q.elim
 |_::_::_,_,q=>simp only[p1]at q;exact q.elim
theorem E7:bootBuiltins "sum"=some (.builtin "sum"):=by decide +kernel
def lH(hK:X.K=T.K)(hc:X.calm=true)(hg:Gl X "sum")(hm:X.mg "sum"=none)(ha:SE X T W e m)(he:starEach [e] X.env=[(false,eval e X.env)]:=by rfl):SE X T W (.Call (.Name "sum" p) [e] [] pos) (aq (p1 jZ) (ae m ao)):=
 eX (pp hc) (Bt hK) hg hm E7 (aa ha af (by rw[he];rfl)) (he:=by rw[he];rfl) (hpl:=rfl)
end
def lV:PV->PV->JT
 |x,.int i=>match a6 x with
  |some xs=>match atI xs i with
   |some y=>.ok y
   |none=>.stuck
  |none=>.stuck
 |_,_=>.stuck
section
variable{X:Cx}{T:Tb}{W:Nat->St->JR}
def xI(hK:X.K=T.K):je T W lV (λx y H Q=>AW X.K x y H Q \/(AU X.K x y H Q\/AV x y H Q)):=by
 intro B F L Y H Q F' H' x y v u fx fy g rx ry nf nd new q;cases y with
 |int i=>
  simp only[lV]at q;cases e:a6 x with
  |none=>rw[e]at q;exact q.elim
  |some xs=>
   rw[e]at q;dsimp only at q;obtain⟨a,ws,fx',rfl,hs,hr,sl⟩:=rx.seq e;cases e2:atI xs i with
   |none=>rw[e2]at q;exact q.elim
   |some z=>
    rw[e2]at q;dsimp only at q;obtain⟨w,f',h1,h2,h3⟩:=uA hr e2;unfold Rel at ry;obtain⟨rfl,rfl⟩:=ry;rw[append_nil]at nf nd new;have s2:=h3.trans sl;have q':Q w H':=q w H' F' f' g h2 (λa ha=>nf a (s2.subset ha)) (nd.sublist s2) (λa ha=>new a (s2.subset ha));rcases hs with hs|hs
    .exact .inl ⟨a,ws,i,w,rfl,rfl,by rw[hK];exact hs,h1,q'⟩
    .exact .inr (.inl ⟨a,ws,i,w,rfl,rfl,by rw[hK];exact hs,h1,q'⟩)
 |_=>exact q.elim
def tD(hK:X.K=T.K)(ha:SE X T W a ma)(hb:SE X T W b mb)(hs:io b):SE X T W (.Subscript a b pos) (mOp lV ma mb):=
 Cl oZ (xI hK) ha hb hs
end
structure Sup(K:PySem.W.Frag)(C f:Addr):Prop where
 ga:specialIn K (.ref C) "__getattribute__"=some (some (.builtin "type.__getattribute__"))
 rd:readsIn K C (.type "type")=true
 fc:findCls K (.ref C) (.type "type") "__init__"=some (.val (.ref f))
 kp:PySem.W.keepIn K (.ref f)=true
def iB(m:JS->JT)(ms:MA):MS:=λenv=>match (env[(0:Nat)]?:Option (Option PV))with
 |some (some (.obj .own c ks vs))=>match ms env with
  |.ok xs=>if hasL Fl.JZ xs then .stuck else match m (.obj .own c ks vs::mapL Fl.JV xs)with
   |.ok (.obj fl c' ks' vs')=>if(PV.obj fl c' ks' vs').has Fl.J0 then .stuck else .next (env.set 0 (some (.obj fl c' ks' vs')))
   |_=>.stuck
  |.exc c=>.exc c env
  |.stuck=>.stuck
 |_=>.stuck
section
variable{X:Cx}{T:Tb}{W:Nat->St->JR}{Z:Zn}{F F1 F3:JJ}{H H1 H3:Hp}{Y:St}{env:En}{fp:Nat->JM}
theorem ax.sup(S:ax T Z F H Y env fp)(h0:Y[0]?=some (some v0))(hl:0<env.length)
  (nx:∀a∈fx,Z.H0 a=none\/Z.fp0 a) (nj:∀a∈fx,∀i,a∉fp i) (nF:∀a∈fx,¬F a) (cx:∀a∈fx,∃o,H a=some o/\Chg o)
  (hp3:cF T ⟨H,F,(·∈fp 0++fx),B',some v0⟩ F3 H3) (r:Rel T F3 B' NoL H3 o v0 f3) (hb:o.has Fl.J0=false) (nd3:f3.Nodup) (nf3:∀a∈f3,¬F3 a) (new3:∀a∈f3,H a=none\/a∈fp 0++fx)
  (ho:∃fl c ks xs,o=.obj fl c ks xs):ax T Z F3 H3 Y (env.set 0 (some o)) (bR fp 0 f3):=by
 have zfree:∀a,H a=none->Z.H0 a=none\/Z.fp0 a:=λa z=>by
  by_cases q:Z.fp0 a
  .exact .inr q
  .refine .inl ?_;cases w:Z.H0 a with
   |none=>rfl
   |some o=>rw[S.hp.keep a o w q]at z;exact(nomatch z)
 have inn:∀a∈fp 0++fx,Z.H0 a=none\/Z.fp0 a:=λa h=>by
  rcases mem_append.mp h with h|h
  .exact S.new 0 a h
  .exact nx a h
 have jn:∀j,j≠0->∀a∈fp j,a∉fp 0++fx:=λj hj a ha z=>by
  rcases mem_append.mp z with z|z
  .exact S.dj j 0 hj a ha z
  .exact nj a z j ha
 have chgn:∀a∈fp 0++fx,∃o,H a=some o/\Chg o:=λa h=>by
  rcases mem_append.mp h with h|h
  .exact S.ch 0 a h
  .exact cx a h
 have rel':Rel T F3 Z.B NoL H3 o v0 f3:=Rel.noB hb r;refine⟨⟨S.hp.bo,λa u e n=>hp3.keep a u (S.hp.keep a u e n) λz=>?_,λa h=>hp3.f0 a (S.hp.f0 a h),λa h=>?_,hp3.ft⟩,by rw[length_set,S.len],λj pv e=>?_,λj=>?_,λj k hjk b hb=>?_,λj b hb=>?_,λj b hb=>?_,λj b hb=>?_,λw hw=>?_⟩
 .rcases inn a z with q|q
  .rw[e]at q;cases q
  .exact n q
 .rcases hp3.fn a h with z|z|z
  .exact S.hp.fn a z
  .exact .inr (zfree a z)
  .exact .inr (inn a z)
 .by_cases hj:j=0
  .subst hj;rw[getElem?_set_self hl]at e;cases e;refine⟨v0,h0,?_⟩;unfold bR;rw[if_pos rfl];exact rel'
  .rw[getElem?_set_ne (Ne.symm hj)]at e;obtain⟨w,h1,h2⟩:=S.rel j pv e;refine⟨w,h1,?_⟩;unfold bR;rw[if_neg hj];refine Rel.tr (λa h=>hp3.f0 a h) (λ_ h=>h) (λ_ h=>h) (λb u q h=>hp3.keep b u q λz=>?_) (λb hb u q=>hp3.keep b u q (jn j hj b hb)) h2;rcases h with h|h|h|h
   .rcases mem_append.mp z with z|z
    .exact(S.dis 0 b z).1 h
    .exact nF b z h
   .obtain⟨⟨o',e1⟩,e2⟩:=S.hp.bo.1 b h;rcases inn b z with q'|q'
    .rw[e1]at q';cases q'
    .exact e2 q'
   .exact h
   .obtain⟨o',e1,e2⟩:=chgn b z;have q1:H b=some u:=q;rw[q1]at e1;cases e1;cases u with
    |lst _|ins _ _ _=>exact h
    |_=>exact e2
 .unfold bR;split
  .exact nd3
  .exact S.nd j
 .grind[bR,ax,cF,Gr]
 .unfold bR at hb;by_cases h1:j=0
  .rw[if_pos h1]at hb;exact⟨nf3 b hb,r.there b hb⟩
  .rw[if_neg h1]at hb;obtain⟨n,u,e⟩:=S.dis j b hb;refine⟨λz=>?_,u,hp3.keep b u e (jn j h1 b hb)⟩;rcases hp3.fn b z with q|q|q
   .exact n q
   .have q':H b=none:=q;rw[e]at q';cases q'
   .exact jn j h1 b hb q
 .unfold bR at hb;by_cases h1:j=0
  .rw[if_pos h1]at hb;rcases new3 b hb with q|q
   .exact zfree b q
   .exact inn b q
  .rw[if_neg h1]at hb;exact S.new j b hb
 .unfold bR at hb;by_cases h1:j=0
  .rw[if_pos h1]at hb;exact r.chg b hb
  .rw[if_neg h1]at hb;obtain⟨u,e,c⟩:=S.ch j b hb;exact⟨u,hp3.keep b u e (jn j h1 b hb),c⟩
 .obtain⟨h1,h2⟩:=S.pn w hw;refine⟨h1,?_⟩;obtain⟨fl,c,ks,xs,e⟩:=ho;subst e;unfold dw;rw[getElem?_set_self hl]
def CW
  (cx:Ctx X T W kk) (U:Sup X.K C f) (G:dD X.prog X.w X.K X.mg X.base (CXP X.prog X.w) k f fd ps (spI T ps.length m)) (hk:k<=kk) (hg:Gl X x) (hm:X.mg x=some (.ref C)) (hb:f8 X.K fd ps [])
  (hN:X.N[0]?=some y) (hv:Vis X.env.scope y) (hn:iC ms n) (hps:n+1=ps.length) (ha:SA X T W es ms)
  (hdb:(x ==("__debug__":Str))=false:=by decide) (hdy:(y ==("__debug__":Str))=false:=by decide) (hcy:(y ==("__classdict__":Str))=false:=by decide)
  (hst:starEach (.Name y px::es) X.env=(false,eval (.Name y px) X.env)::starEach es X.env:=by rfl) (hpl:(backTo pos (starEach es X.env)).any (·.1)=false:=by rfl)
  (ht:eval (.Call (.Attribute (.Name x p) "__init__" apos) (.Name y px::es) [] pos) X.env=(do
   let ov <- eval (.Name x p) X.env
   standAt apos.atName
   let(f,first) <- holding [ov] (getMethod ov "__init__" pl)
   callWith pos f first (backTo pos (starEach (.Name y px::es) X.env)) (backToKw pos (keywordEach [] X.env))):=by rfl)
  (hs:swapsWith (.Call (.Attribute (.Name x p) "__init__" apos) (.Name y px::es) [] pos) none pos'.line X.env=pure false:=by rfl) :
  SS X T W (.Expr (.Call (.Attribute (.Name x p) "__init__" apos) (.Name y px::es) [] pos) pos') (iB m ms):=by
 have pe:PE X (.Call (.Attribute (.Name x p) "__init__" apos) (.Name y px::es) [] pos) (λY H Q=>∃ Z F env fp,ax T Z F H Y env fp/\(match iB m ms env with
   |.next e=>∀F' H' fp',ax T Z F' H' Y e fp'->Q .non H'
   |.exc c e=>∀F' H' fp',ax T Z F' H' Y e fp'->W c Y H'
   |_=>False)):=by
  intro js s Y H Q I h;obtain⟨Z,F,env,fp,S,q⟩:=h;refine methodCall_KW (pl:=pl) (kc I hg hm ?_ hdb) ht;refine PySem.W.method_cls I.kIn U.ga (PySem.W.cls_value I.kIn U.rd U.fc rfl ?_);have I':=I.tok (s.toks+1);unfold iB at q;cases e0:env[0]? with
  |none=>rw[e0]at q;exact q.elim
  |some o0=>
  cases o0 with
  |none=>rw[e0]at q;exact q.elim
  |some ov=>
  obtain⟨v0,hv0,r0⟩:=S.rel 0 ov e0;have hl0:0<env.length:=(List.getElem?_eq_some_iff.mp e0).1;rw[e0]at q;by_cases hob:∃c ks vs,ov=.obj .own c ks vs
  case neg=>
   exfalso;cases ov with
   |obj fl c ks vs=>
    cases fl with
    |own=>exact hob ⟨_,_,_,rfl⟩
    |_=>exact q
   |_=>exact q
  obtain⟨c,ks,vs0,rfl⟩:=hob;dsimp only at q;have pa:=dR (X:=X) (fR (pos:=px) hN hv hdy hcy) ha hst;refine callWith_K (first:=[]) (h₀:=X.base) I'.ok.mod.kin U.kp (thn (pa pos js _ Y H (λvs H1=>∀ us s1,L2.Inv X js Y H1 s1->aU vs us->wpAny (model X.prog X.w) X.A (call (.ref f) us) (EP X js Y Q) X.xe s1) I'
   ⟨v0,hv0,tA.bind S (λc e=>?_) (λe=>by rw[e]at q;exact q) λxs vs H1 F1 f1 e1 g1 r1 n1 d1 w1 us s1 I1 rv=>?_⟩) λus s1 ⟨vs,H1,I1,r,q1⟩=>⟨I1.kIn,q1 us s1 I1 r⟩) hst hpl
  .rw[e]at q;exact λH' x=>q F H' fp (S.grow (Gr.same S.hp.ft x))
  rw[e1]at q;dsimp only at q;by_cases hln:hasL Fl.JZ xs=true
  .rw[if_pos hln]at q;exact q.elim
  rw[if_neg hln]at q;have hln':hasL Fl.JZ xs=false:=by simpa using hln
  have S1:=S.grow g1;obtain⟨v0',hv0',r0'⟩:=S1.rel 0 _ e0;rw[hv0]at hv0';cases hv0';have xn:∀a∈f1,∀i,a∉fp i:=λa ha i hi=>by obtain⟨_,o,e⟩:=S.dis i a hi;rw[w1 a ha]at e;cases e
  have xz:∀a∈f1,Z.H0 a=none\/Z.fp0 a:=λa ha=>by
   by_cases q:Z.fp0 a
   .exact .inr q
   .refine .inl ?_;cases w:Z.H0 a with
    |none=>rfl
    |some o=>have:=w1 a ha;rw[S.hp.keep a o w q]at this;cases this
  have hBo:∀a,Z.B a->(∃o,H1 a=some o)/\a∉fp 0++f1:=λa h=>by
   obtain⟨⟨o,h1⟩,h2⟩:=S.hp.bo.1 a h;have h3:=S.hp.keep a o h1 h2;refine⟨⟨o,g1.ext a o h3⟩,λz=>?_⟩;rcases mem_append.mp z with z|z
   .exact S.bow a h ⟨0,z⟩
   .rw[w1 a z]at h3;cases h3
  have R:v3 T F1 (λa=>(∃o,H1 a=some o)/\a∉fp 0++f1) H1 (.obj .own c ks vs0::mapL Fl.JV xs) (v0::vs) (fp 0++f1):=by
   refine⟨?_,nodup_append.mpr ⟨S.nd 0,d1,λa ha b hb z=>by subst z;exact xn a hb 0 ha⟩,λa ha=>?_,⟨λa h=>h,S.tbo g1.ext λa z=>(mem_append.mp z).elim (λz=>.inr ⟨0,z⟩) λz=>.inl (w1 a z)⟩,g1.dom⟩
   .unfold RelL;refine⟨v0,vs,fp 0,f1,rfl,Rel.tr (λ_ h=>h) hBo (λ_ h=>h) (λ_ _ q _=>q) (λ_ _ _ q=>q) r0',?_,rfl⟩;exact RelL.JV hBo (λ_ h=>h.elim) (RelL.noL (L':=NoL) hln' r1)
   .rcases mem_append.mp ha with ha|ha
    .exact(S1.dis 0 a ha).1
    .exact n1 a ha
  have r2:aU (v0::vs) us:=rv;have hl:us.length=ps.length:=by rw[<- r2.length,length_cons,<- r1.length,hn env xs e1];exact hps
  refine wpAny_call (codeAny_mono (G.run X.A X.stack s1 H1 ⟨us,[]⟩ us (v0::vs) Q (λcls _ H'=>∃ c,cls=.ref (T.xcl c)/\W c Y H') (cx.room.mono hk) I1.env0 (by simpa using hb s1 us I1.kIn (by simpa using hl)) r2
   ⟨by rw[r2.length,hl],v0,_,F1,_,_,rfl,R,⟨.own,c,ks,vs0,rfl⟩,?_⟩) λrs s' hq=>?_)
  .cases e:m (.obj .own c ks vs0::mapL Fl.JV xs)with
   |ok o=>
    rw[e]at q;cases o with
    |obj fl c' ks' vs'=>
     dsimp only at q;by_cases hbr:(PV.obj fl c' ks' vs').has Fl.J0=true
     .rw[if_pos hbr]at q;exact q.elim
     .rw[if_neg hbr]at q;dsimp only at q;have hbr':(PV.obj fl c' ks' vs').has Fl.J0=false:=by simpa using hbr
      intro F3 H3 f3 hp3 r3 nd3 nf3 new3;exact q F3 H3 _ (S1.sup hv0 hl0 xz xn n1 r1.chg hp3 r3 hbr' nd3 nf3 new3 ⟨_,_,_,_,rfl⟩)
    |_=>exact q.elim
   |exc c|stuck=>rw[e]at q;exact q.elim
  .cases rs with
   |error e=>obtain⟨cls,H',fl,c,rfl,hw⟩:=hq;exact cx.xf js Y H1 s1 c H' e s' I1 fl hw
   |ok fl=>
    cases fl with
    |ret u=>exact I1.after hq
    |next|brk|cont=>exact False.elim hq
 exact PS.wk (jY (pos:=pos') pe hs) λD Y H hz1=>by
  obtain⟨Z,F,env,fp,S,q⟩:=hz1;refine⟨Z,F,env,fp,S,?_⟩;cases e:iB m ms env with
  |next e'|exc c e'=>rw[e]at q;exact λF' H' fp' S'=>q F' H' Y fp' S'
  |ret v=>
   exfalso;revert e;unfold iB;split
   .split
    .split
     .simp
     .split
      .split<;>simp
      .simp
    .simp
    .simp
   .simp
  |brk e'=>
   exfalso;revert e;unfold iB;split
   .split
    .split
     .simp
     .split
      .split<;>simp
      .simp
    .simp
    .simp
   .simp
  |cont e'=>
   exfalso;revert e;unfold iB;split
   .split
    .split
     .simp
     .split
      .split<;>simp
      .simp
    .simp
    .simp
   .simp
  |stuck=>rw[e]at q;exact q
end
end
section
def whL(c:MT)(b:MS):Nat->MS
 |0,_=>.stuck
 |k+1,env=>match c env with
  |.ok true=>match b env with
   |.next e|.cont e=>whL c b k e
   |.brk e=>.next e
   |.ret v=>.ret v
   |.exc x e=>.exc x e
   |.stuck=>.stuck
  |.ok false=>.next env
  |.exc x=>.exc x env
  |.stuck=>.stuck
def jF(c:MT)(b:MS):MS:=whL c b 100000
section
variable{X:Cx}{T:Tb}{W:Nat->St->JR}
def lF(hp:PassesOwn (model X.prog X.w) X.A X.env X.xe)(hc:ST X T W c mc)(hb:SSs X T W body mb):SS X T W (.While c body [] pos) (jF mc mb):=
 PS.wk (wI (pos:=pos) hp hc hb) λD Y H hz1=>by
  obtain⟨Z,F,env,fp,S,q⟩:=hz1;unfold jF at q;refine⟨λm σ' H'=>∃F' env' fp',ax T Z F' H' σ' env' fp'/\GS T W Z D (whL mc mb m env'),⟨100000,F,env,fp,S,q⟩,?_⟩;rintro m σ' H' ⟨F',env',fp',S',q'⟩;cases m with
  |zero=>exact q'.elim
  |succ k=>
   unfold whL at q';refine tT.bind S' (λc e H2 x=>?_) (λe=>by rw[e]at q';exact q') λb H1 F1 e g=>?_
   .rw[e]at q';exact q' F' H2 σ' fp' (S'.grow (Gr.same S'.hp.ft x))
   .cases b with
    |false=>rw[e]at q';exact(if_neg (by decide)).mpr (q' F1 H1 σ' fp' (S'.grow g))
    |true=>
     rw[e]at q';dsimp only at q';refine(if_pos rfl).mpr ⟨λσ2 H2=>∃F2 env2 fp2,ax T Z F2 H2 σ2 env2 fp2/\GS T W Z D (whL mc mb k env2),λσ2 H2 h=>⟨k,Nat.lt_succ_self k,h⟩,Z,F1,env',fp',S'.grow g,?_⟩;cases eb:mb env' with
     |next e2|cont e2=>rw[eb]at q';exact λF3 H3 σ3 fp3 S3=>⟨F3,e2,fp3,S3,q'⟩
     |brk e2|ret v|exc c e2|stuck=>rw[eb]at q';exact q'
end
def fg:JS->Option (List Bool)
 | []=>some []
 |.bl b::xs=>(fg xs).map (b::·)
 |_=>none
def iO(f:List Bool->Bool):PV->JT
 |.lst _ xs=>match fg xs with
  |some bs=>.ok (.bl (f bs))
  |none=>.stuck
 |_=>.stuck
def lg(bs:List Bool):Bool:=bs.all id
def kQ(bs:List Bool):Bool:=bs.any id
section
variable{X:Cx}{T:Tb}{W:Nat->St->JR}{Z:Zn}{F F1 B L:JJ}{H H1:Hp}{Y:St}{env:En}{fp:Nat->JM}{js:JI}{s:Shared}
def n9:∀{xs:JS}{vs:JQ}{f:JM}{bs:List Bool},fg xs=some bs->RelL T F B L H xs vs f->vs=bs.map V.bl
 | [],_,_,_,e,h=>by simp only[fg,Option.some.injEq]at e;subst e;unfold RelL at h;rw[h.1];rfl
 |.bl b::xs,_,_,bs,e,h=>by
  simp only[fg]at e;cases e2:fg xs with
  |none=>rw[e2]at e;cases e
  |some ms=>rw[e2]at e;cases e;unfold RelL at h;obtain⟨v,ws,f1,f2,rfl,h1,h2,_⟩:=h;unfold Rel at h1;rw[h1.1,n9 e2 h2];rfl
 |.non::_,_,_,_,e,_|.int _::_,_,_,_,e,_|.str _::_,_,_,_,e,_|.lst _ _::_,_,_,_,e,_|.tup _::_,_,_,_,e,_|.obj _ _ _ _::_,_,_,_,e,_|.exc _::_,_,_,_,e,_|.box _ _::_,_,_,_,e,_=>by simp[fg]at e
def za:∀{bs:List Bool}{its:JL},aU (bs.map V.bl) its->∀(i:Nat) (v:Value),its.toArray[i]?=some v->v=.bool (bs.getD i false)
 | [],_,r,i,v,e=>by cases r;simp at e
 |b::bs,_,r,i,v,e=>by
  cases r with
  |cons r1 r2=>
   cases i with
   |zero=>simp at e;subst e;exact r1
   |succ i=>exact za r2 i v (by simpa using e)
def AK(bs:List Bool)(n:Nat)(h:n=bs.length):(range n).all (λi=>bs.getD i false)=lg bs:=by
 subst h;unfold lg;rw[Bool.eq_iff_iff,all_eq_true,all_eq_true];refine⟨λz x hx=>?_,λz i hi=>?_⟩
 .obtain⟨i,hi,e⟩:=getElem_of_mem hx;have:=z i (mem_range.mpr hi);rw[<- e];simpa[hi]using this
 .have hi':=mem_range.mp hi;have:=z bs[i] (getElem_mem hi');simpa[hi']using this
def AJ(bs:List Bool)(n:Nat)(h:n=bs.length):(range n).any (λi=>bs.getD i false)=kQ bs:=by
 subst h;unfold kQ;rw[Bool.eq_iff_iff,any_eq_true,any_eq_true];refine⟨λ⟨i,hi,z⟩=>?_,λ⟨x,hx,z⟩=>?_⟩
 .have hi':=mem_range.mp hi;exact⟨bs[i],getElem_mem hi',by simpa[hi']using z⟩
 .obtain⟨i,hi,e⟩:=getElem_of_mem hx;exact⟨i,mem_range.mpr hi,by rw[<- e]at z;simpa[hi]using z⟩
def n8{bs:List Bool}{its:JL}(r:aU (bs.map V.bl) its):TruthOf X.prog X.w A (λi v=>its.toArray[i]?=some v) (λi=>bs.getD i false):=λi v s Q E hP hQ=>by rw[za r i v hP];exact wpAny_truthy_bool hQ
def pD(hc:X.calm=true):eJ X (.builtin "all") (λxs H Q=>∃p bs,xs=[.ref p]/\SqL X.K H p (bs.map V.bl)/\Q (.bl (lg bs)) H):=by
 intro js s Y H xs us Q I rv h;obtain⟨p,bs,rfl,hq,q⟩:=h;obtain⟨u,rfl,rx⟩:=d8 rv;cases rx;have hh:=I.ok.hd hc;obtain⟨its,r,pl,hz⟩:=I.list hq;have hl:its.toArray.size=bs.length:=by have:=r.length;simpa using this.symm
 obtain⟨o,ho,hcl,n,hd⟩:=pl.isList;have hlt:=lt_size ho;have key:∀{h':Heap}{tk:Nat},(∀b o,s.heap.get? b=some o->h'.get? b=some o)->EP X js Y Q (.bool (lg bs)) {s with heap:=h',toks:=tk}:=λk=>⟨.bl _,H,fZ I k,rfl,q⟩
 refine call_all_walk (wpAny_pyIter_list pl.isList ?_);refine⟨_,_,_,_,_,_,(λi=>bs.getD i false),rfl,Walks.list (A:=X.A.in1) hh _ p (Nat.ne_of_lt hlt) its.toArray,⟨⟨_,get?_push_size _ rfl,rfl,rfl⟩,pl.isList.push _⟩,n8 r,λh' tk hk=>?_⟩;rw[AK bs _ hl];exact key (dM hk)
def pC(hc:X.calm=true):eJ X (.builtin "any") (λxs H Q=>∃p bs,xs=[.ref p]/\SqL X.K H p (bs.map V.bl)/\Q (.bl (kQ bs)) H):=by
 intro js s Y H xs us Q I rv h;obtain⟨p,bs,rfl,hq,q⟩:=h;obtain⟨u,rfl,rx⟩:=d8 rv;cases rx;have hh:=I.ok.hd hc;obtain⟨its,r,pl,hz⟩:=I.list hq;have hl:its.toArray.size=bs.length:=by have:=r.length;simpa using this.symm
 obtain⟨o,ho,hcl,n,hd⟩:=pl.isList;have hlt:=lt_size ho;have key:∀{h':Heap}{tk:Nat},(∀b o,s.heap.get? b=some o->h'.get? b=some o)->EP X js Y Q (.bool (kQ bs)) {s with heap:=h',toks:=tk}:=λk=>⟨.bl _,H,fZ I k,rfl,q⟩
 refine call_any_walk (wpAny_pyIter_list pl.isList ?_);refine⟨_,_,_,_,_,_,(λi=>bs.getD i false),rfl,Walks.list (A:=X.A.in1) hh _ p (Nat.ne_of_lt hlt) its.toArray,⟨⟨_,get?_push_size _ rfl,rfl,rfl⟩,pl.isList.push _⟩,n8 r,λh' tk hk=>?_⟩;rw[AJ bs _ hl];exact key (dM hk)
def tZ(hK:X.K=T.K)(f:List Bool->Bool):Mir T W (p1 (iO f)) (λxs H Q=>∃p bs,xs=[.ref p]/\SqL X.K H p (bs.map V.bl)/\Q (.bl (f bs)) H):=by
 intro B F L Y H Q F' H' xs vs fx gr r nf nd new q
 match xs,r,q with
 | [x],r,q=>
  obtain⟨v,rfl,rv⟩:=RelL.one r;simp only[p1]at q;cases x with
  |lst fl ys=>
   simp only[iO]at q;cases e2:fg ys with
   |none=>rw[e2]at q;exact q.elim
   |some bs=>rw[e2]at q;dsimp only at q;unfold Rel at rv;obtain⟨a,us,fp',rfl,hl,hr,_⟩:=rv;have hu:=n9 e2 hr;subst hu;exact⟨a,_,rfl,by rw[hK];exact hl.sq,q.scal gr jp⟩
  |_=>exact q.elim
 | [],_,q=>exact q.elim
 |_::_::_,_,q=>simp only[p1]at q;exact q.elim
theorem Fb:bootBuiltins "all"=some (.builtin "all"):=by decide +kernel
theorem Fa:bootBuiltins "any"=some (.builtin "any"):=by decide +kernel
def ww(hK:X.K=T.K)(hc:X.calm=true)(hg:Gl X "all")(hm:X.mg "all"=none)(ha:SE X T W e m)(he:starEach [e] X.env=[(false,eval e X.env)]:=by rfl):SE X T W (.Call (.Name "all" p) [e] [] pos) (aq (p1 (iO lg)) (ae m ao)):=
 eX (pD hc) (tZ hK lg) hg hm Fb (aa ha af (by rw[he];rfl)) (he:=by rw[he];rfl) (hpl:=rfl)
def wv(hK:X.K=T.K)(hc:X.calm=true)(hg:Gl X "any")(hm:X.mg "any"=none)(ha:SE X T W e m)(he:starEach [e] X.env=[(false,eval e X.env)]:=by rfl):SE X T W (.Call (.Name "any" p) [e] [] pos) (aq (p1 (iO kQ)) (ae m ao)):=
 eX (pC hc) (tZ hK kQ) hg hm Fa (aa ha af (by rw[he];rfl)) (he:=by rw[he];rfl) (hpl:=rfl)
end
end
section
open AutoSeq1 (wpAny_loadPart')
section
variable{prog:Program}{w:World}{A:Around}{E:JF}{s:Shared}
theorem kP(ft:TypeCalled T nI iI)
  (c1:checkTypeCall T ⟨us,kw⟩=pure .unit) (c2:checkBuiltinCall nI ⟨.type T::us,kw⟩=pure .unit) (eN:entryFor table nI=some Bn) (eI:entryFor table iI=some Bi) (g:Meets (Bn ⟨.type T::us,kw⟩) S)
  (h:S A.in1 (wants Q1 E) s) (nx:∀ob s1,Q1 ob s1->s1.TypeIs ob T/\argsOk iI ⟨ob::us,kw⟩/\∃Si,Meets (Bi ⟨ob::us,kw⟩) Si/\Si A.in1 (wants (λr s2=>r=.none/\Q ob s2) E) s1) :
  wpAny (model prog w) A (call (.type T) us kw) Q E s:=by
 obtain⟨cc,tt,hmro⟩:=ft.mro;have hmade:=ft.made;have hsub:=ft.sub;have h1:=ft.notType;have h2:=ft.canCreate;refine wpAny_call (codeAny_of_tree (show wpAny _ _ (callAny (.type T) _) _ _ _ from wpAny_pure ⟨Code.quiet_builtin _ (by decide +kernel),codeAny_builtin F.entry_type_call ?_⟩));rw[Around.under_plain (weight_type_call_type T us kw) (units_type_call_type T us kw)]
 repeat (any_goals (first|assumption|wp_step|fail))
 refine codeAny_mono (codeAny_call_builtin ft.plain eN (wpAny_of_eq c2 (g prog w A.in1 _ s h))) λr s1 hr=>?_;cases r with
 |error e=>exact hr
 |ok fl=>
  cases fl with
  |ret ob=>
   obtain⟨hT,hok,Si,gi,hsi⟩:=nx _ _ hr;have hli:=ft.init.lookup;have hbi:=ft.init.bind ob
   repeat (any_goals (first|assumption|wp_step|fail))
   refine codeAny_mono (codeAny_call_builtin ft.init.plain eI (ft.init.check _ _ _ _ _ _ _ _ hT hok (gi prog w A.in1 _ s1 hsi))) λr2 s2 hr2=>?_;cases r2 with
   |error e=>exact hr2
   |ok fl2=>
    cases fl2 with
    |ret r=>
     obtain⟨rfl,hq⟩:=hr2
     repeat (any_goals (first|assumption|wp_step|fail))
    |_=>exact hr2.elim
  |_=>exact hr.elim
def Cy(hl:typeLookup (.type T) "__init__"=pure (some (.builtin "object.__init__")))(hm:Bind.madeBy (.type T)=pure (some nI))(hne:(some nI != some "object.__new__")=true) :
  Meets (Builtin.«object.__init__» ⟨[self,a],kw⟩) (λ_ R s=>s.TypeIs self T/\R (.ok (.ret .none)) s):=by
 refine Meets.of_wp λpr w A R s0 hs=>?_;obtain⟨hT,hq⟩:=hs
 repeat (any_goals (first|assumption|wp_step|fail))
 exact⟨_,rfl,hq⟩
def cK1(a v:Value):checkTypeCall "enumerate" ⟨[a],[("start",v)]⟩=pure .unit:=by kernel_rfl
def cK2(a v:Value):checkBuiltinCall "enumerate.__new__" ⟨[.type "enumerate",a],[("start",v)]⟩=pure .unit:=by kernel_rfl
def cK3(a b v:Value):argsOk "object.__init__" ⟨[a,b],[("start",v)]⟩:=by
 unfold argsOk;rw[signature?_of (id:="object.__init__") (n:=['_','_','t','i','n','i','_','_']) (o:=['t','c','e','j','b','o']) (by kernel_rfl) F.owner_object]
 kernel_rfl
abbrev itO(n:String)(l:Addr):Obj:={cls:=.type n,data:=.fields #[.ref l,.int 0 0]}
abbrev enO(it:Addr)(i:Int):Obj:={cls:=.type "enumerate",data:=.fields #[.none,.bool false,.ref it,rawInt i,.none,.none]}
def om(n:String)(l:Addr)(s:Shared):Prop:=∀(pr:Program) (w:World) (A:Around) (Q:JF) (E:JF),Q (.ref s.heap.objs.size) {s with heap:=s.heap.push (itO n l)}->wpAny (model pr w) A (pyIter (.ref l)) Q E s
def HI(n:String)(l:Addr)(t:Tok) :
  Meets (Builtin.«enumerate.__new__» ⟨[.type "enumerate",.ref l],[("start",.int 1 t)]⟩) (λ_ R s=>om n l s/\R (.ok (.ret (.ref (s.heap.push (itO n l)).objs.size))) {s with heap:=(s.heap.push (itO n l)).push (enO s.heap.objs.size 1)}):=
 .of_wp λpr w A R s0 h=>by
  obtain⟨hp,g,d,tk,os⟩:=s0;obtain⟨hI,h⟩:=h;have hsub:=sub_enumerate;have hJ:∀{Q:JF}{E:JF},Q (.ref hp.objs.size) ⟨hp.push (itO n l),g,d,tk,os⟩->wpAny (model pr w) A.in1 (pyIter (.ref l)) Q E ⟨hp,g,d,tk,os⟩:=λ{Q E} q=>hI pr w A.in1 Q E q;have hJ':∀{Q:JF}{E:JF},Q (.ref hp.objs.size) ⟨hp.push (itO n l),g,d,tk,os⟩->wpAny (model pr w) A (pyIter (.ref l)) Q E ⟨hp,g,d,tk,os⟩:=λ{Q E} q=>hI pr w A Q E q
  wp_walk
  refine wpAny_stack_any λst=>wpAny_pure ?_;split<;>try (rename_i c _ _ _ _ _;cases(c==Value.type "enumerate"))
  all_goals (wp_walk using hJ,hJ')
  all_goals exact⟨_,rfl,h⟩
def E0(hI:om n l s)(h:Q (.ref (s.heap.objs.size+1)) {s with heap:=(s.heap.push (itO n l)).push (enO s.heap.objs.size 1)}) :
  wpAny (model prog w) A (call (.type "enumerate") [.ref l] [("start",.int 1 t)]) Q E s:=by
 have hz:(s.heap.push (itO n l)).objs.size=s.heap.objs.size+1:=size_push ..
 refine kP (Q1:=λob s1=>s1.TypeIs ob "enumerate" /\ Q ob s1) F.called_enumerate (cK1 _ _) (cK2 _ _) F.entry_enumerate_new F.entry_object_init (HI n l t) ⟨hI,?_⟩ λob s1 hq=>⟨hq.1,cK3 ob _ _,_,Cy F.called_enumerate.init.lookup F.called_enumerate.made (by decide),hq.1,rfl,hq.2⟩
 show _/\_;rw[hz];have:=get?_push_size (s.heap.push (itO n l)) (o:=enO s.heap.objs.size 1) rfl;rw[hz]at this;exact⟨⟨_,this,rfl⟩,h⟩
def qd(t:Addr):¬((Value.ref t==Value.none)=true):=Bool.false_ne_true
def xt(hit:s.heap.IsTupleIter it t i)(ht:s.heap.IsTuple t items)(hx:items[i]?=some x)
  (hQ:∀h',h'.IsTupleIter it t (i+1)->SameBut it s.heap h'->Q x {s with heap:=h'}):wpAny (model prog w) A (Builtin.SmallTypes.nextOf (.ref it)) Q E s:=by
 obtain⟨o,ho,hc,hd⟩:=id hit;obtain⟨o2,ho2,_,n2,hd2⟩:=ht;unfold Builtin.SmallTypes.nextOf;refine wpAny_bind (wpAny_callSpecial?_slot (name:=Str.ofString "__next__") hit.typeIs F.slot_tuple_iterator_next (wpAny_call_entry F.slot_tuple_iterator_next hit.typeIs F.entry_tuple_iterator_next ?_ (F.args_tuple_iterator_next_1 _)));refine(show wpAny _ _ (field (.ref it) 0 >>= _) _ _ s from wpAny_bind (wpAny_field ho hd (x:=.ref t) rfl ?_));refine(show wpAny _ _ (if(Value.ref t==Value.none)=true then _ else _) _ _ s from ?_);rw[if_neg (qd t)];refine(show wpAny _ _ (field (.ref it) 1 >>= _) _ _ s from wpAny_bind (wpAny_field ho hd (x:=.int i 0) rfl ?_));refine(show wpAny _ _ (seqItems? (.ref t) >>= _) _ _ s from wpAny_bind (wpAny_seqItems ho2 hd2 ?_));simp only[toNat_natCast,hx];refine wpAny_bind (wpAny_setField ho hd (by simp) (wpAny_pure ⟨x,rfl,wpAny_pure (hQ _ ⟨_,Heap.get?_update_self _ ho (Obj.isFreed_of_fields (Obj.data_mapFields hd _)),(Obj.cls_mapFields ..).trans hc,by rw[Obj.data_mapFields hd];simp[rawInt]⟩ (SameBut.update ..))⟩))
theorem Bq(hh:A.handled=none)(hit:s.heap.IsTupleIter it t i)(ht:s.heap.IsTuple t items)(hx:items[i]?=none)
  (hE:∀h' e,ExtBut it s.heap h'->(∃o,h'.get? e=some o/\o.cls=.type "StopIteration")->E (.ref e) {s with heap:=h'}):wpAny (model prog w) A (Builtin.SmallTypes.nextOf (.ref it)) Q E s:=by
 obtain⟨o,ho,hc,hd⟩:=id hit;obtain⟨o2,ho2,_,n2,hd2⟩:=ht;unfold Builtin.SmallTypes.nextOf;refine wpAny_bind (wpAny_callSpecial?_slot (name:=Str.ofString "__next__") hit.typeIs F.slot_tuple_iterator_next (wpAny_call_entry F.slot_tuple_iterator_next hit.typeIs F.entry_tuple_iterator_next ?_ (F.args_tuple_iterator_next_1 _)));refine(show wpAny _ _ (field (.ref it) 0 >>= _) _ _ s from wpAny_bind (wpAny_field ho hd (x:=.ref t) rfl ?_));refine(show wpAny _ _ (if(Value.ref t==Value.none)=true then _ else _) _ _ s from ?_);rw[if_neg (qd t)];refine(show wpAny _ _ (field (.ref it) 1 >>= _) _ _ s from wpAny_bind (wpAny_field ho hd (x:=.int i 0) rfl ?_));refine(show wpAny _ _ (seqItems? (.ref t) >>= _) _ _ s from wpAny_bind (wpAny_seqItems ho2 hd2 ?_));simp only[toNat_natCast,hx];refine wpAny_bind (wpAny_rule (wpAny_bind (wpAny_setField ho hd (by simp) (show wpAny _ _ (newExc (.type "StopIteration") [] >>= _) _ _ _ from wpAny_bind ?_))));simp only[newExc,newTuple];refine wpAny_bind (wpAny_newObj_type (wpAny_bind (m:=firstArgMember _ _) (wpAny_of_eq (a:=Value.none) (by first|rfl |(simp only[firstArgMember];rfl)) (wpAny_newObj_type ?_ (by size_fits)))) (by size_fits));simp only[raiseNew];refine wpAny_bind (wpAny_handled ?_)
 first|rw[show A.in1.handled=none from hh]|rw[hh]|skip
 exact wpAny_bind (wpAny_pure (wpAny_throw (hE _ _ (((SameBut.update ..).extBut.push _).push _) ⟨_,get?_push_size _ rfl,rfl⟩)))
inductive jN(h:Heap)(it l:Addr)(its:JP)(i:Nat):Prop
 |lst (a:h.IsListIter it l i) (b:h.IsList l its)
 |tup (a:h.IsTupleIter it l i) (b:h.IsTuple l its)
def jN.at(x:jN h it l its i)(k1:∀o,h.get? it=some o->h'.get? it=some o)(k2:∀o,h.get? l=some o->h'.get? l=some o):jN h' it l its i:=by
 rcases x with⟨⟨o,e,r⟩,⟨o2,e2,r2⟩⟩ |⟨⟨o,e,r⟩,⟨o2,e2,r2⟩⟩
 .exact .lst ⟨o,k1 o e,r⟩ ⟨o2,k2 o2 e2,r2⟩
 .exact .tup ⟨o,k1 o e,r⟩ ⟨o2,k2 o2 e2,r2⟩
def jN.obj(x:jN h it l its i):∃o,h.get? it=some o/\∀v,o.data≠.cell v:=by
 rcases x with⟨⟨o,e,_,d⟩,_⟩ |⟨⟨o,e,_,d⟩,_⟩
 .exact⟨o,e,λv z=>by rw[d]at z;cases z⟩
 .exact⟨o,e,λv z=>by rw[d]at z;cases z⟩
def Bp(hi:jN s.heap it l its i)(hne:l≠it)(hx:its[i]?=some x)(hQ:∀h',jN h' it l its (i+1)->SameBut it s.heap h'->Q x {s with heap:=h'}) :
  wpAny (model prog w) A (Builtin.SmallTypes.nextOf (.ref it)) Q E s:=by
 rcases hi with⟨a,b⟩ |⟨a,b⟩
 .exact wpAny_nextOf_list_item a b hx λh' q sb=>hQ h' (.lst q (b.extBut sb.extBut hne)) sb
 .exact xt a b hx λh' q sb=>hQ h' (.tup q (b.extBut sb.extBut hne)) sb
def Ei(hh:A.handled=none)(hi:jN s.heap it l its i)(hx:its[i]?=none)
  (hE:∀h' e,ExtBut it s.heap h'->(∃o,h'.get? e=some o/\o.cls=.type "StopIteration")->E (.ref e) {s with heap:=h'}):wpAny (model prog w) A (Builtin.SmallTypes.nextOf (.ref it)) Q E s:=by
 rcases hi with⟨a,b⟩ |⟨a,b⟩
 .exact wpAny_nextOf_list_end hh a b hx hE
 .exact Bq hh a b hx hE
theorem BX{Q:JF}(he:IsEnum s.heap e it k old)(hi:jN s.heap it l its i)(hne:e≠it)(hli:l≠it)(hle:l≠e)(hx:its[i]?=some x)
  (hQ:∀ h',IsEnumOut h' e it (k+1) x s.heap.objs.size->jN h' it l its (i+1)->h'.get? s.heap.objs.size=some { cls:=.type "tuple", data:=.seq #[.int k s.toks,x] }->h'.objs.size=s.heap.objs.size+1 ->
   (∀b o,b≠e->b≠it->s.heap.get? b=some o->h'.get? b=some o)->Q (.ref s.heap.objs.size) {s with heap:=h',toks:=s.toks+1}) :
  wpAny (model prog w) A (Builtin.«enumerate.__next__» ⟨[.ref e],[]⟩) (λfin s'=>∃v,fin=.done (.ret v)/\Q v s') E s:=by
 obtain⟨hp,g,d,tk,os⟩:=s;refine(show wpAny _ _ (field (.ref e) 2 >>= _) _ _ _ from wpAny_bind (wpAny_field he rfl (x:=.ref it) rfl ?_));refine wpAny_bind (Bp hi hli hx λh1 i1 s1=>?_)
 replace s1:SameBut it hp h1:=s1
 have e1:IsEnum h1 e it k old:=(s1.2 e hne).trans he;refine(show wpAny _ _ (field (.ref e) 3 >>= _) _ _ ⟨h1,g,d,tk,os⟩from wpAny_bind (wpAny_field e1 rfl (x:=rawInt k) rfl ?_));refine(show wpAny _ _ (field (.ref e) 4 >>= _) _ _ ⟨h1,g,d,tk,os⟩from wpAny_bind (wpAny_field e1 rfl (x:=.none) rfl ?_));refine(show wpAny _ _ (mkInt k >>= _) _ _ ⟨h1,g,d,tk,os⟩from wpAny_bind (wpAny_mkInt ?_));refine(show wpAny _ _ (setField (.ref e) 3 (rawInt (k+1)) >>= _) _ _ ⟨h1,g,d,tk+1,os⟩from wpAny_bind (wpAny_setField_rec e1 (by simp) λh2 e2 s2=>?_))
 replace s2:SameBut e h1 h2:=s2
 replace e2:IsEnum h2 e it (k+1) old:=e2
 refine(show wpAny _ _ (setField (.ref e) 4 .none >>= _) _ _ ⟨h2,g,d,tk+1,os⟩from wpAny_bind (wpAny_setField_rec e2 (by simp) λh3 e3 s3=>?_))
 replace s3:SameBut e h2 h3:=s3
 replace e3:IsEnum h3 e it (k+1) old:=e3
 refine(show wpAny _ _ (newTuple [.int k tk,x] >>= _) _ _ ⟨h3,g,d,tk+1,os⟩from wpAny_bind (wpAny_newTuple ?_));have e4:IsEnum (h3.push {cls:=.type "tuple",data:=.seq #[.int k tk,x]}) e it (k+1) old:=get?_push_of_some _ e3;generalize hh4:h3.push {cls:=.type "tuple",data:=.seq #[.int k tk,x]}=h4 at e4;have z3:h3.objs.size=hp.objs.size:=by rw[s3.1,s2.1,s1.1]
 have lte:e<hp.objs.size:=lt_size he;have t4:h4.get? hp.objs.size=some {cls:=.type "tuple",data:=.seq #[.int k tk,x]}:=by rw[<- hh4,<- z3];exact get?_push_size _ rfl
 have z4:h4.objs.size=hp.objs.size+1:=by rw[<- hh4,size_push,z3]
 have k4:∀b o,b≠e->h1.get? b=some o->h4.get? b=some o:=λb o hb q=>by rw[<- hh4];exact get?_push_of_some _ (s3.extBut b o hb (s2.extBut b o hb q))
 refine(show wpAny _ _ (Builtin.SmallTypes.ownedTupleIsFree (.ref e) >>= _) _ _ ⟨h4,g,d,tk+1,os⟩from ?_);rw[z3];refine wpAny_bind ?_;unfold Builtin.SmallTypes.ownedTupleIsFree;refine wpAny_bind (wpAny_field e4 rfl (x:=.none) rfl (wpAny_pure ?_));simp only[if_true];refine wpAny_bind (wpAny_rule (wpAny_bind (wpAny_field e4 rfl (x:=old) rfl (wpAny_bind (wpAny_setField_rec e4 (by simp) λh5 e5 s5=>?_)))))
 replace s5:SameBut e h4 h5:=s5
 replace e5:IsEnum h5 e it (k+1) x:=e5
 refine(show wpAny _ _ (Builtin.SmallTypes.ownedTupleHandOut (.ref e) (.ref hp.objs.size) >>= _) _ _ ⟨h5,g,d,tk+1,os⟩from wpAny_bind ?_);unfold Builtin.SmallTypes.ownedTupleHandOut;refine wpAny_bind (wpAny_setField_rec e5 (by simp) λh6 e6 s6=>?_)
 replace s6:SameBut e h5 h6:=s6
 replace e6:IsEnumOut h6 e it (k+1) x hp.objs.size:=e6
 refine wpAny_setField_rec e6 (by simp) λh7 e7 s7=>?_
 replace s7:SameBut e h6 h7:=s7
 replace e7:IsEnumOut h7 e it (k+1) x hp.objs.size:=e7
 have up:∀b o,b≠e->h4.get? b=some o->h7.get? b=some o:=λb o hb q=>s7.extBut b o hb (s6.extBut b o hb (s5.extBut b o hb q));refine wpAny_bind (wpAny_letGo (wpAny_pure ⟨_,rfl,hQ h7 e7 (i1.at (λo q=>up it o hne.symm (k4 it o hne.symm q)) λo q=>up l o hle (k4 l o hle q)) (up _ _ (Nat.ne_of_gt lte) t4) (by rw[s7.1,s6.1,s5.1,z4]) λb o hb hb2 q=>up b o hb (k4 b o hb (s1.extBut b o hb2 q))⟩))
def A5(he:IsEnum s.heap e it k old)(hi:jN s.heap it l its i)(hne:e≠it)(hli:l≠it)(hle:l≠e)(hx:its[i]?=some x)
  (hQ:∀ h',IsEnumOut h' e it (k+1) x s.heap.objs.size->jN h' it l its (i+1)->h'.get? s.heap.objs.size=some { cls:=.type "tuple", data:=.seq #[.int k s.toks,x] }->h'.objs.size=s.heap.objs.size+1 ->
   (∀b o,b≠e->b≠it->s.heap.get? b=some o->h'.get? b=some o)->Q (some (.ref s.heap.objs.size)) {s with heap:=h',toks:=s.toks+1}):wpAny (model prog w) A (pyNext (.ref e)) Q E s:=by
 have hT:s.TypeIs (.ref e) "enumerate":=⟨_,he,rfl⟩
 unfold pyNext;exact wpAny_bind (wpAny_attempt (wpAny_callSpecial?_slot (name:=Str.ofString "__next__") hT F.slot_enumerate_next (wpAny_call_entry F.slot_enumerate_next hT F.entry_enumerate_next (BX he hi hne hli hle hx λh' a b c d q=>wpAny_pure (hQ h' a b c d q)) (F.args_enumerate_next_1 _))))
def Dm(hh:A.handled=none)(he:IsEnum s.heap e it k old)(hi:jN s.heap it l its i)(hx:its[i]?=none)
  (hQ:∀h',ExtBut it s.heap h'->Q none {s with heap:=h'}):wpAny (model prog w) A (pyNext (.ref e)) Q E s:=by
 have hT:s.TypeIs (.ref e) "enumerate":=⟨_,he,rfl⟩
 unfold pyNext;refine wpAny_bind (wpAny_attempt (wpAny_callSpecial?_slot (name:=Str.ofString "__next__") hT F.slot_enumerate_next (wpAny_call_entry F.slot_enumerate_next hT F.entry_enumerate_next ?_ (F.args_enumerate_next_1 _))));refine(show wpAny _ _ (field (.ref e) 2 >>= _) _ _ _ from wpAny_bind (wpAny_field he rfl (x:=.ref it) rfl ?_));refine wpAny_bind (Ei hh hi hx λh' y q ⟨o,ho,hc⟩=>?_);exact wpAny_bind (wpAny_isInstance (T:="StopIteration") (b:=true) ⟨o,ho,hc⟩ isSubtype_stop (wpAny_pure (hQ _ q)))
end
section
variable{X:Cx}{T:Tb}{W:Nat->St->JR}{Z:Zn}{F F1 B L:JJ}{H H1:Hp}{Y:St}{env:En}{js:JI}{s:Shared}
def nP{fp:JM}{vs:JQ}(I:L2.Inv X js Y H s)(hf:∀b∈fp,mM X js H b)(k:∀b o,b∉fp->s.heap.get? b=some o->h'.get? b=some o)(hp:s.heap.objs.size<=a)(new:d0 X.prog X.w (upd H a (.tup vs)) h' a (.tup vs)) :
  L2.Inv X js Y (upd H a (.tup vs)) {s with heap:=h',toks:=t'}:=by
 have hn:H a=none:=I.hok.fresh hp;have nit:∀b u,H b=some u->b∉fp:=λb u e z=>by rw[(hf b z).1]at e;cases e
 refine I.step (g':=s.gens) (d':=s.drawn) (ch:=fp) (λb hb=>?_) (λb o _ _ hc e _=>k b o hc e) (λb o _ _ hc e _=>⟨o.slots,k b o hc e⟩) (λb o _ e n=>?_) (λb o hc e=>⟨o,k b o hc e⟩)
  (λb xs e=>by rw[aY (cC e hn)];exact e) (λb o u e=>by rw[aY (cC e hn)];exact e) (λb ps e=>⟨#[],by rw[aY (cC e hn),e];simp⟩) (λm hm=>?_) (λb u e=>?_) I.bare
 .obtain⟨_,q1,_,q3,q4,q5⟩:=hf b hb;exact⟨q3,q1,q4,q5⟩
 .rw[aY (Nat.ne_of_lt (Nat.lt_of_lt_of_le (lt_size e) hp))];exact n
 .obtain⟨o,es,ep,ho,r⟩:=hm;exact⟨o,es,ep,k _ o (λz=>(hf _ z).2.1 rfl) ho,r⟩
 .by_cases hb:b=a
  .subst hb;rw[ce]at e;cases e;exact new
  .rw[aY hb]at e;refine(I.hok b u e).stay (λc v hc q=>k c v ?_ q) (λc q=>by rw[aY (cC q hn)];exact q) λc xs _ q=>by rw[aY (cC q hn)];exact q
   rcases hc with z|z
   .rw[z];exact nit b u e
   .exact nit c _ z
def Sq(tp:Bool)(K:PySem.W.Frag)(H:Hp)(l:Addr)(xs:JQ):Prop:=match tp with
 |true=>SqT K H l xs
 |false=>SqL K H l xs
def Af(tp:Bool)(h:Heap)(it l:Addr)(i:Nat):Prop:=match tp with
 |true=>h.IsTupleIter it l i
 |false=>h.IsListIter it l i
def Ite(tp:Bool)(K:PySem.W.Frag)(st:Int)(l:Addr):It:=
 ⟨λi H=>∃xs x,Sq tp K H l xs/\xs[i]?=some x,λi H v H'=>∃p y,H p=none/\v=.ref p/\H'=upd H p (.tup [.int (st+i),y])/\∀xs,Sq tp K H l xs->xs[i]?=some y,λi H=>∃xs,Sq tp K H l xs/\xs.length<=i⟩
theorem Cj(I:L2.Inv X js Y H s)(hq:Sq tp X.K H l xs)(ha:Af tp s.heap it l i):∃its:JL,aU xs its/\jN s.heap it l its.toArray i/\l≠it/\∀e k old,IsEnum s.heap e it k old->e≠it/\l≠e:=by
 cases tp with
 |false=>
  obtain⟨its,rv,p,_⟩:=I.list hq;obtain⟨o,ho,hc,_⟩:=id p.isList;obtain⟨o2,ho2,hc2,_⟩:=id (show s.heap.IsListIter it l i from ha);refine⟨its,rv,.lst ha p.isList,λz=>?_,λe k old he=>⟨λz=>?_,λz=>?_⟩⟩
  .rw[z,ho2]at ho;cases ho;rw[hc2]at hc;exact absurd hc (by decide)
  .grind
  grind
 |true=>
  obtain⟨its,rv,p,_⟩:=I.tuple hq;have p':s.heap.IsTuple l its.toArray:=p;obtain⟨o,ho,hc,_⟩:=id p';obtain⟨o2,ho2,hc2,_⟩:=id (show s.heap.IsTupleIter it l i from ha);refine⟨its,rv,.tup ha p',λz=>?_,λe k old he=>⟨λz=>?_,λz=>?_⟩⟩
  .rw[z,ho2]at ho;cases ho;rw[hc2]at hc;exact absurd hc (by decide)
  .grind
  grind
def C0(I:L2.Inv X js Y H s)(h1:Sq tp X.K H l xs)(h2:Sq tp X.K H l ys):xs=ys:=by
 cases tp with
 |false=>exact I.list_inj h1 h2
 |true=>exact I.tuple_inj h1 h2
def Ht(x:jN h it l its i)(hl:tp=true->∃o,h.get? l=some o/\o.cls=.type "tuple")(hl2:tp=false->∃o,h.get? l=some o/\o.cls=.type "list"):Af tp h it l i:=by
 cases tp with
 |false=>
  obtain⟨o,ho,hc⟩:=hl2 rfl;rcases x with⟨a,b⟩ |⟨a,⟨o2,ho2,hc2,_⟩⟩
  .exact a
  .rw[ho]at ho2;cases ho2;rw[hc]at hc2;exact absurd hc2 (by decide)
 |true=>
  obtain⟨o,ho,hc⟩:=hl rfl;rcases x with⟨a,⟨o2,ho2,hc2,_⟩⟩ |⟨a,b⟩
  .rw[ho]at ho2;cases ho2;rw[hc]at hc2;exact absurd hc2 (by decide)
  .exact a
theorem m7{els:List Expr}{x1}(tp:Bool)(st:Int)(l e it:Addr) :
  vX P w K (.Tuple els x1 tpos) (Ite tp K st l) [e,it] e (λi h=>(∃old,IsEnum h e it (st+i) old)/\Af tp h it l i) where
 mem:=by simp
 obj:=λi h st b hb=>by
  obtain⟨⟨old,he⟩,ha⟩:=st;simp only[mem_cons,not_mem_nil,or_false]at hb;rcases hb with rfl|rfl
  .exact⟨_,he,λv z=>by cases z⟩
  .cases tp with
   |false=>obtain⟨o,e,c,d⟩:=id (show h.IsListIter b l i from ha);exact⟨o,e,λv z=>by rw[d]at z;cases z⟩
   |true=>obtain⟨o,e,c,d⟩:=id (show h.IsTupleIter b l i from ha);exact⟨o,e,λv z=>by rw[d]at z;cases z⟩
 keep:=λi h h' st k=>by
  obtain⟨⟨old,he⟩,ha⟩:=st;refine⟨⟨old,k e (by simp) _ he⟩,?_⟩;cases tp with
  |false=>obtain⟨o,e,r⟩:=id (show h.IsListIter it l i from ha);exact⟨o,k it (by simp) o e,r⟩
  |true=>obtain⟨o,e,r⟩:=id (show h.IsTupleIter it l i from ha);exact⟨o,k it (by simp) o e,r⟩
 item:=by
  intro X hP hw hK hc i js s Y H E I hf stt hg;subst hP hw hK;obtain⟨⟨old,he⟩,ha⟩:=stt;obtain⟨xs,x,hq,hx⟩:=hg;obtain⟨its,rv,hi,hli,hen⟩:=Cj I hq ha;obtain⟨hne,hle⟩:=hen e _ old he;obtain⟨u,hu,ru⟩:=rv.get hx;refine A5 he hi hne hli hle (x:=u) (by simpa using hu) λh1 eo in1 tu sz kp=>?_;refine⟨_,rfl,wpAny_letOwnedTupleGo_enum eo λh2 e2 s2=>?_⟩
  replace s2:SameBut e h1 h2:=s2
  have lte:e<s.heap.objs.size:=lt_size he;have kp2:∀b o,b∉[e,it]->s.heap.get? b=some o->h2.get? b=some o:=λb o hb q=>by simp only[mem_cons,not_mem_nil,or_false,not_or]at hb;exact s2.extBut b o hb.1 (kp b o hb.1 hb.2 q)
  have tu2:h2.get? s.heap.objs.size=some {cls:=.type "tuple",data:=.seq #[.int (st+i) s.toks,u]}:=s2.extBut _ _ (Nat.ne_of_gt lte) tu;refine⟨.ref s.heap.objs.size,upd H s.heap.objs.size (.tup [.int (st+i),x]),(nP (h':=h2) (t':=s.toks+1) (vs:=[.int (st+i),x]) I hf kp2 (Nat.le_refl _) ⟨by rw[sizeLine_eq];simp,[.int (st+i) s.toks,u],.cons ⟨_,rfl⟩ (.cons ru .nil),⟨_,tu2,rfl,_,rfl⟩⟩ :),rfl,⟨_,x,I.hok.fresh (Nat.le_refl _),rfl,rfl,λys hy=>by rw[C0 I hy hq];exact hx⟩,⟨⟨u,?_⟩,?_⟩,λb hb=>?_⟩
  .have:st+((i+1:Nat):Int)=st+i+1:=by omega
   rw[this];exact e2
  .have in2:=in1.at (λo q=>s2.extBut it o hne.symm q) λo q=>s2.extBut l o hle q;refine Ht in2 (λz=>?_) λz=>?_
   .subst z;obtain⟨_,_,p,_⟩:=I.tuple hq;obtain⟨o,ho,hc,_⟩:=id (show s.heap.IsTuple l _ from p);exact⟨o,kp2 l o (by simp[hle,hli]) ho,hc⟩
   .subst z;obtain⟨_,_,p,_⟩:=I.list hq;obtain⟨o,ho,hc,_⟩:=id p.isList;exact⟨o,kp2 l o (by simp[hle,hli]) ho,hc⟩
  .have:b<s.heap.objs.size:=by
    simp only[mem_cons,not_mem_nil,or_false]at hb;rcases hb with rfl|rfl
    .exact lte
    .obtain⟨o,ho,_⟩:=hi.obj;exact lt_size ho
   rw[aY (Nat.ne_of_lt this)];exact(hf b hb).1
 done:=by intro X hP hw hK hc i js s Y H E I hf stt hg;subst hP hw hK;obtain⟨⟨old,he⟩,ha⟩:=stt;obtain⟨xs,hq,hx⟩:=hg;obtain⟨its,rv,hi,hli,hen⟩:=Cj I hq ha;obtain⟨f0,f1,f2,f3,f4,f5⟩:=hf it (by simp);have hl:=rv.length;exact Dm (I.ok.hd hc) he hi (by simp;omega) λh' eb=>⟨rfl,I.turned (t':=s.toks) (λb o hb e=>eb b o hb e) f0 f1 f3 f4 f5⟩
 self:=λ_ _ _ _ _ st h=>by obtain⟨⟨old,he⟩,_⟩:=st;exact wpAny_pyIter_enum he h
def pE{M:Model}{A:Around}{E:JF}{s:Shared}{env:Env}{Ty:String}{rest:List Expr}{kws:List Keyword}{Q:JF}
  (h:wpAny M A (spliced (backTo pos (starEach (e::rest) env))) (λvs s1=>wpAny M A (evalAll ((backToKw pos (keywordEach kws env)).map (·.2))) (λks s2=>wpAny M A (call (.type Ty) vs (((backToKw pos (keywordEach kws env)).filterMap (·.1)).zip ks)) Q E s2) E s1) E s)
  (hall:(backToKw pos (keywordEach kws env)).all (·.1.isSome)=true:=by rfl) (hkw:(backToKw pos (keywordEach kws env)).any (·.1.isNone)=false:=by rfl)
  (he:starEach (e::rest) env=(false,eval e env)::starEach rest env:=by rfl) (hpl:(backTo pos (starEach (e::rest) env)).any (·.1)=false:=by rfl) :
  wpAny M A (callWith pos (.type Ty) [] (backTo pos (starEach (e::rest) env)) (backToKw pos (keywordEach kws env))) Q E s:=by
 unfold callWith;refine wpAny_bind (wpAny_holding (wpAny_mono (evalArgs_kw2 (Q:=λa s1=>wpAny M A (call (.type Ty) ([]++ a.pos) a.kw) Q E s1) hall h he) (λa s1 h1=>wpAny_bind (wpAny_standAt ?_)) λ_ _ x=>x));simp only[hpl,hkw,Bool.or_false];exact wpAny_bind (wpAny_pure (wpAny_bind (wpAny_mono h1 (λr s2 hr=>wpAny_bind (wpAny_holding (wpAny_point (wpAny_pure hr)))) λ_ _ x=>x)))
theorem uz:bootBuiltins "enumerate"=some (.type "enumerate"):=by decide +kernel
abbrev enE(l:Expr)(p pos kp cp:Pos)(j:Nat):Expr:=.Call (.Name "enumerate" p) [l] [⟨some "start",.Constant (.int 1) j cp,kp⟩] pos
def tR{x1}(hg:Gl X "enumerate")(hm:X.mg "enumerate"=none)(hl:PE X l tl)(hs:starEach [l] X.env=[(false,eval l X.env)]:=by rfl) :
  PI X (.Tuple els x1 tpos) (enE l p pos kp cp j) (λY H R=>tl Y H λx H1=>∃a tp xs,[x]=[V.ref a]/\Sq tp X.K H1 a xs/\R (Ite tp X.K 1 a) H1):=by
 intro js s Y H R I h;refine wpAny_Call_Name_kw (gC I hg hm uz ?_ (by decide) (by decide));refine pE ?_ rfl rfl hs (by rw[hs];rfl);refine thn (dR (te:=tl) hl g8 (by rw[hs];rfl) pos js s Y H (λvs H1=>∃a tp xs,vs=[.ref a]/\Sq tp X.K H1 a xs/\R (Ite tp X.K 1 a) H1) I h) λus s1 hz1=>?_;obtain⟨vs,H1,I1,r1,a,tp,xs,ev,hq,q⟩:=hz1;subst ev;obtain⟨u,rfl,rx⟩:=d8 r1;cases rx;refine thn (tQ (nm:=some "start") (kpos:=kp) (oI (i:=1) (j:=j) (pos:=cp)) wM pos js s1 Y H1 (λzs H2=>zs=[.int 1]/\H2=H1) I1 ⟨rfl,rfl⟩) λws s2 hz1=>?_;obtain⟨zs,H2,I2,r2,ez,eh⟩:=hz1;subst ez;rw[eh]at I2;clear eh;obtain⟨u2,rfl,rx2⟩:=d8 r2;obtain⟨t,rfl⟩:=rx2;have hI:∃n,om n a s2/\∀h',h'.get? s2.heap.objs.size=some (itO n a)->Af tp h' s2.heap.objs.size a 0:=by
  cases tp with
  |false=>obtain⟨its,rv,pl,_⟩:=I2.list hq;exact⟨"list_iterator",λ_ _ _ _ _ q=>wpAny_pyIter_list pl.isList q,λh' e=>⟨_,e,rfl,rfl⟩⟩
  |true=>obtain⟨its,rv,pl,_⟩:=I2.tuple hq;exact⟨"tuple_iterator",λ_ _ _ _ _ q=>wpAny_pyIter_tuple (show s2.heap.IsTuple a its.toArray from pl) q,λh' e=>⟨_,e,rfl,rfl⟩⟩
 obtain⟨n,hI,hA⟩:=hI;have hz:(s2.heap.push (itO n a)).objs.size=s2.heap.objs.size+1:=size_push ..
 have he:((s2.heap.push (itO n a)).push (enO s2.heap.objs.size 1)).get? (s2.heap.objs.size+1)=some (enO s2.heap.objs.size 1):=by have:=get?_push_size (s2.heap.push (itO n a)) (o:=enO s2.heap.objs.size 1) rfl;rw[hz]at this;exact this
 refine E0 hI (wpAny_pyIter_enum (i:=1) (old:=.none) he ?_);refine⟨s2.heap.objs.size+1,[s2.heap.objs.size+1,s2.heap.objs.size],_,_,H1,rfl,I2.kept (t':=s2.toks) λb o e=>get?_push_of_some _ (get?_push_of_some _ e),m7 tp 1 a _ _,⟨⟨.none,by simpa using he⟩,hA _ (get?_push_of_some _ (get?_push_size _ rfl))⟩,λb hb=>?_,q⟩;simp only[mem_cons,not_mem_nil,or_false]at hb;rcases hb with rfl|rfl
 .exact I2.fpOk (le_succ _) (I2.hok.fresh (le_succ _))
 .exact I2.fpOk (Nat.le_refl _) (I2.hok.fresh (Nat.le_refl _))
end
def enP(k:Int):JS->JS
 | []=>[]
 |x::xs=>.tup [.int k,x]::enP (k+1) xs
theorem gn:∀(k:Int) (xs:JS) (i:Nat),(enP k xs)[i]?=(xs[i]?).map λx=>.tup [.int (k+i),x]
 |_,[],i|k,x::xs,0=>by simp[enP]
 |k,x::xs,i+1=>by simp only[enP,getElem?_cons_succ,gn (k+1) xs i];congr 1;funext y;congr 3;omega
def fF:∀(k:Int) (xs:JS),(enP k xs).length=xs.length
 |_,[]=>rfl
 |k,_::xs=>by simp[enP,fF (k+1) xs]
def vt(m:ME):MI:=λenv=>(m env).bind λx=>match x with
 |.lst f xs=>if !f.JZ&&eO xs then .ok (enP 1 xs)else .stuck
 |.tup xs=>if eO xs then .ok (enP 1 xs)else .stuck
 |_=>.stuck
def BC(m:ME):MI:=λenv=>(m env).bind λx=>match a6 x with
 |some xs=>.ok (enP 1 xs)
 |none=>.stuck
section
variable{X:Cx}{T:Tb}{W:Nat->St->JR}{Z:Zn}{F F1 B L:JJ}{H H1:Hp}{Y:St}{env:En}{fp:Nat->JM}
def jV(hp:H2 p=none)(r:Rel T F B L H2 x v f):Rel T F B L (upd H2 p (.tup [.int k,v])) (.tup [.int k,x]) (.ref p) f:=by unfold Rel;refine⟨p,_,rfl,SqT.of ce,?_⟩;have r2:Rel T F B L (upd H2 p (.tup [.int k,v])) x v f:=r.ext (Ext.upd hp) λ_ h=>h;unfold RelL;refine⟨.int k,[v],[],f,rfl,fQ,?_,rfl⟩;unfold RelL;exact⟨v,[],f,[],rfl,r2,by unfold RelL;exact⟨rfl,rfl⟩,by simp⟩
def Av{x1}(hK:X.K=T.K)(hg:Gl X "enumerate")(hm:X.mg "enumerate"=none)(he:SE X T W e m)(hs:starEach [e] X.env=[(false,eval e X.env)]:=by rfl) :
  SI X T W (.Tuple els x1 tpos) (enE e p pos kp cp j) (vt m):=λjs s Y H R I h=>tR hg hm he hs js s Y H R I (by
 obtain⟨Z,F,env,fp,S,q⟩:=h;unfold vt at q;refine tE.bq S λx v H1 F1 f1 e1 g1 r1 n1 d1 w1=>?_;rw[e1]at q;simp only[Res.J4]at q;have S1:=S.grow g1;rw[hK];have key:∀(tp:Bool) (a:Addr) (xs:JS) (vs:JQ),RelL T F1 Z.B NoL H1 xs vs []->(∀H2,(∀a o,H1 a=some o->¬Own fp a->H2 a=some o)->Sq tp T.K H2 a vs)->ItR T F1 Z.B (Own fp) H1 (Ite tp T.K 1 a) (enP 1 xs):=by intro tp a xs vs hr hq H2 hk;have hq2:=hq H2 hk;refine⟨λi x ex=>?_,⟨vs,hq2,by rw[fF,hr.length];exact Nat.le_refl _⟩⟩;rw[gn]at ex;obtain⟨y,ey,rfl⟩:=map_eq_some_iff.mp ex;obtain⟨v,_,ev,_,_⟩:=hr.get ey;refine⟨⟨vs,v,hq2,ev⟩,λw H3 hy=>?_⟩;obtain⟨p,y',hp,rfl,rfl,hall⟩:=hy;have:=hall vs hq2;rw[ev]at this;cases this;exact⟨Ext.upd hp,jV hp (ii S1.fow S1.bow S1.oow hk hr ey ev)⟩
 cases x with
 |lst f xs=>
  dsimp only at q;by_cases hc:(!f.JZ&&eO xs)=true
  .rw[if_pos hc]at q;rw[and_eq_true]at hc;unfold Rel at r1;obtain⟨a,vs,fp',rfl,hl,hr,hf⟩:=r1;obtain⟨rfl,hr'⟩:=eB hc.2 hr;refine⟨a,false,vs,rfl,hl.sq,q _ H1 F1 g1 (key false a xs vs hr' λH2 hk=>?_)⟩;have na:f≠.mod->∀o,H1 a=some o->H2 a=some o:=λhn o ho=>by
    refine hk a o ho ?_;cases f with
    |own=>rintro⟨i,hi⟩;obtain⟨_,o',ho'⟩:=S.dis i a hi;obtain rfl:f1=[a]:=hf;rw[w1 a mem_cons_self]at ho';cases ho'
    |frz=>exact S1.fow a hl.1
    |bor=>exact S1.bow a hl.1
    |lnt=>exact absurd hc.1 (by decide)
    |mod=>exact absurd rfl hn
   show SqL T.K H2 a vs;by_cases hn:f=.mod
   .subst hn;exact .inr hl
   .exact .inl (Rd.tr (na hn) (hl.rd hn))
  .rw[if_neg hc]at q;exact q.elim
 |tup xs=>
  dsimp only at q;by_cases hc:eO xs=true
  .rw[if_pos hc]at q;unfold Rel at r1;obtain⟨a,vs,rfl,hl,hr⟩:=r1;obtain⟨rfl,hr'⟩:=eB hc hr;refine⟨a,true,vs,rfl,hl,q _ H1 F1 g1 (key true a xs vs hr' λH2 hk=>?_)⟩;exact SqT.tr (λo ho hfx=>hk a o ho λz=>by
    have:=S1.oow a o z ho;cases o with
    |lst _|ins _ _ _=>exact hfx
    |_=>exact this) hl
  .rw[if_neg hc]at q;exact q.elim
 |_=>exact q.elim)
def wg{x1}(hK:X.K=T.K)(hg:Gl X "enumerate")(hm:X.mg "enumerate"=none)(he:SE X T W e m)(hs:starEach [e] X.env=[(false,eval e X.env)]:=by rfl) :
  SIc X T W (.Tuple els x1 tpos) (enE e p pos kp cp j) (BC m):=λjs s Y H R I h=>tR hg hm he hs js s Y H R I (by
 obtain⟨Z,F,env,fp,S,q⟩:=h;unfold BC at q;refine tE.bq S λx v H1 F1 f1 e1 g1 r1 n1 d1 w1=>?_;rw[e1]at q;simp only[Res.J4]at q;cases es:a6 x with
 |none=>rw[es]at q;exact q.elim
 |some xs=>
  rw[es]at q;obtain⟨a,vs,f',rfl,hs,hr,_⟩:=r1.seq es;rw[hK];have key:∀(tp:Bool),Sq tp T.K H1 a vs->(∀H2,Ext H1 H2->Sq tp T.K H2 a vs)->ItC T F1 Z.B (Own fp) H1 (Ite tp T.K 1 a) (enP 1 xs):=by intro tp _ hq H2 hx;have hq2:=hq H2 hx;refine⟨λi x ex=>?_,⟨vs,hq2,by rw[fF,hr.length];exact Nat.le_refl _⟩⟩;rw[gn]at ex;obtain⟨y,ey,rfl⟩:=map_eq_some_iff.mp ex;obtain⟨v,f,ev,rv,_⟩:=hr.get ey;refine⟨⟨vs,v,hq2,ev⟩,λw H3 hy=>?_⟩;obtain⟨p,y',hp,rfl,rfl,hall⟩:=hy;have:=hall vs hq2;rw[ev]at this;cases this;exact⟨Ext.upd hp,f,λb hb=>rv.there b hb,jV hp (rv.ext hx λ_ h=>h)⟩
  rcases hs with hs|hs
  .refine⟨a,false,vs,rfl,hs,q _ H1 F1 g1 (key false hs λH2 hx=>?_)⟩;rcases hs with z|z
   .exact .inl (Rd.tr (λo q=>hx a o q) z)
   .exact .inr z
  .exact⟨a,true,vs,rfl,hs,q _ H1 F1 g1 (key true hs λH2 hx=>SqT.tr (λo q _=>hx a o q) hs)⟩)
end
open AutoSeq1 (wpAny_loadPart')
section
variable{prog:Program}{w:World}{A:Around}{E:JF}{s:Shared}
abbrev zTI(n:Addr):Obj:={cls:=.type "tuple",data:=.seq #[.ref n,.ref (n+1)]}
abbrev zTO:Obj:={cls:=.type "tuple",data:=.seq #[.none,.none]}
abbrev zO(n:Addr):Obj:={cls:=.type "zip",data:=.fields #[.none,.bool false,.bool false,.ref (n+2),.ref (n+3)]}
abbrev Ci(h:Heap)(l1 l2:Addr):Heap:=((((h.push (itO "list_iterator" l1)).push (itO "list_iterator" l2)).push (zTI h.objs.size)).push zTO).push (zO h.objs.size)
def Gg(hl:typeLookup (.type T) "__init__"=pure (some (.builtin "object.__init__")))(hm:Bind.madeBy (.type T)=pure (some nI))(hne:(some nI != some "object.__new__")=true) :
  Meets (Builtin.«object.__init__» ⟨[self,a,b],[]⟩) (λ_ R s=>s.TypeIs self T/\R (.ok (.ret .none)) s):=by
 refine Meets.of_wp λpr w A R s0 hs=>?_;obtain⟨hT,hq⟩:=hs
 repeat (any_goals (first|assumption|wp_step|fail))
 exact⟨_,rfl,hq⟩
def IG(l1 l2:Addr)(xs ys:JP) :
  Meets (Builtin.«zip.__new__» ⟨[.type "zip",.ref l1,.ref l2],[]⟩) (λ_ R s=>s.heap.IsList l1 xs/\s.heap.IsList l2 ys/\R (.ok (.ret (.ref (s.heap.objs.size+4)))) {s with heap:=Ci s.heap l1 l2}):=
 .of_wp λpr w A R s0 h=>by
  obtain⟨hp,g,d,tk,os⟩:=s0;obtain⟨h1,h2,h⟩:=h;have hsub:=sub_zip;have h2':(hp.push (itO "list_iterator" l1)).IsList l2 ys:=by obtain⟨o,e,r⟩:=h2;exact⟨o,get?_push_of_some _ e,r⟩
  have hz1:(hp.push (itO "list_iterator" l1)).objs.size=hp.objs.size+1:=size_push ..
  have hJ1:∀{Q:JF}{E:JF},Q (.ref hp.objs.size) ⟨hp.push (itO "list_iterator" l1),g,d,tk,os⟩->wpAny (model pr w) A.in1 (pyIter (.ref l1)) Q E ⟨hp,g,d,tk,os⟩:=λ{Q E} q=>wpAny_pyIter_list h1 q;have hJ2:∀{Q:JF}{E:JF},Q (.ref (hp.push (itO "list_iterator" l1)).objs.size) ⟨(hp.push (itO "list_iterator" l1)).push (itO "list_iterator" l2),g,d,tk,os⟩->wpAny (model pr w) A.in1 (pyIter (.ref l2)) Q E ⟨hp.push (itO "list_iterator" l1),g,d,tk,os⟩:=λ{Q E} q=>wpAny_pyIter_list h2' q
  wp_walk using hJ1,hJ2
  refine⟨_,rfl,?_⟩;simp only[size_push];exact h
def Ca(h1:s.heap.IsList l1 xs)(h2:s.heap.IsList l2 ys)(h:Q (.ref (s.heap.objs.size+4)) {s with heap:=Ci s.heap l1 l2}) :
  wpAny (model prog w) A (call (.type "zip") [.ref l1,.ref l2] []) Q E s:=by
 have hz:((((s.heap.push (itO "list_iterator" l1)).push (itO "list_iterator" l2)).push (zTI s.heap.objs.size)).push zTO).objs.size=s.heap.objs.size+4:=by simp only[size_push]
 refine kP (Q1:=λob s1=>s1.TypeIs ob "zip" /\ Q ob s1) F.called_zip (F.typeCall_zip_2 _ _) (F.newCall_zip_2 _ _) F.entry_zip_new F.entry_object_init (IG l1 l2 xs ys) ⟨h1,h2,?_⟩ λob s1 hq=>⟨hq.1,?_,_,Gg F.called_zip.init.lookup F.called_zip.made (by decide),hq.1,rfl,hq.2⟩
 .have:=get?_push_size ((((s.heap.push (itO "list_iterator" l1)).push (itO "list_iterator" l2)).push (zTI s.heap.objs.size)).push zTO) (o:=zO s.heap.objs.size) rfl;rw[hz]at this;exact⟨⟨_,this,rfl⟩,h⟩
 .exact F.args_object_init_3 _ _ _
end
section
variable{X:Cx}{T:Tb}{W:Nat->St->JR}{Z:Zn}{F F1 B L:JJ}{H H1:Hp}{Y:St}{env:En}{js:JI}{s:Shared}
def vz{fp:JM}(I:L2.Inv X js Y H s)(hf:∀b∈fp,mM X js H b)(k:∀b o,b∉fp->s.heap.get? b=some o->h'.get? b=some o) :
  L2.Inv X js Y H {s with heap:=h',toks:=t'}:=by
 have nit:∀b u,H b=some u->b∉fp:=λb u e z=>by rw[(hf b z).1]at e;cases e
 refine I.step (g':=s.gens) (d':=s.drawn) (ch:=fp) (λb hb=>?_) (λb o _ _ hc e _=>k b o hc e) (λb o _ _ hc e _=>⟨o.slots,k b o hc e⟩) (λ_ _ _ _ n=>n) (λb o hc e=>⟨o,k b o hc e⟩)
  (λ_ _ e=>e) (λ_ _ _ e=>e) (λb ps e=>⟨#[],by rw[e];simp⟩) (λm hm=>?_) (λb u e=>?_) I.bare
 .obtain⟨_,q1,_,q3,q4,q5⟩:=hf b hb;exact⟨q3,q1,q4,q5⟩
 .obtain⟨o,es,ep,ho,r⟩:=hm;exact⟨o,es,ep,k _ o (λz=>(hf _ z).2.1 rfl) ho,r⟩
 .refine(I.hok b u e).stay (λc v hc q=>k c v ?_ q) (λ_ q=>q) λ_ _ _ q=>q;rcases hc with z|z
  .rw[z];exact nit b u e
  .exact nit c _ z
def Itz(K:PySem.W.Frag)(l1 l2:Addr):It:=
  ⟨λi H=>∃ xs ys x y,SqL K H l1 xs/\SqL K H l2 ys/\xs[i]?=some x/\ys[i]?=some y,
   λi H v H'=>∃p x y,H p=none/\v=.ref p/\H'=upd H p (.tup [x,y])/\(∀xs,SqL K H l1 xs->xs[i]?=some x)/\∀ys,SqL K H l2 ys->ys[i]?=some y,
   λi H=>∃xs ys,SqL K H l1 xs/\SqL K H l2 ys/\(xs.length<=i\/ys.length<=i)⟩
def kb{h h':Heap}{it l:Addr}{i:Nat}(a:h.IsListIter it l i)(k:∀o,h.get? it=some o->h'.get? it=some o):h'.IsListIter it l i:=by obtain⟨o,e,r⟩:=a;exact⟨o,k o e,r⟩
theorem v9{P:Program}{w:World}{K:PySem.W.Frag}{els:List Expr}{x1}(l1 l2 z ti to i1 i2:Addr)(D:ZipApart z ti to i1 i2 l1 l2) :
  vX P w K (.Tuple els x1 tpos) (Itz K l1 l2) [z,ti,to,i1,i2] z (λi h=>IsZip h z ti to .none/\IsPair h ti (.ref i1) (.ref i2)/\(∃a b,IsPair h to a b)/\h.IsListIter i1 l1 i/\h.IsListIter i2 l2 i) where
 mem:=by simp
 obj:=λi h st b hb=>by
  obtain⟨hz,ht,⟨a',b',ho⟩,h1,h2⟩:=st;simp only[mem_cons,not_mem_nil,or_false]at hb;rcases hb with rfl|rfl|rfl|rfl|rfl
  .exact⟨_,hz,λv z=>by cases z⟩
  .exact⟨_,ht,λv z=>by cases z⟩
  .exact⟨_,ho,λv z=>by cases z⟩
  .obtain⟨o,e,c,d⟩:=id h1;exact⟨o,e,λv z=>by rw[d]at z;cases z⟩
  .obtain⟨o,e,c,d⟩:=id h2;exact⟨o,e,λv z=>by rw[d]at z;cases z⟩
 keep:=λi h h' st k=>by obtain⟨hz,ht,⟨a',b',ho⟩,h1,h2⟩:=st;exact⟨k z (by simp) _ hz,k ti (by simp) _ ht,⟨a',b',k to (by simp) _ ho⟩,kb h1 (k i1 (by simp)),kb h2 (k i2 (by simp))⟩
 item:=by
  intro X hP hw hK hc i js s Y H E I hf stt hg;subst hP hw hK;obtain⟨hz,ht,⟨a',b',ho⟩,h1,h2⟩:=stt;obtain⟨xs,ys,x,y,hq1,hq2,hx,hy⟩:=hg;obtain⟨its1,rv1,pl1,_⟩:=I.list hq1;obtain⟨its2,rv2,pl2,_⟩:=I.list hq2;obtain⟨u1,hu1,ru1⟩:=rv1.get hx;obtain⟨u2,hu2,ru2⟩:=rv2.get hy;refine wpAny_pyNext_zip_item D hz ht ho h1 h2 pl1.isList pl2.isList (x:=u1) (y:=u2) (by simpa using hu1) (by simpa using hu2) λh' z' to' i1' i2' pr sz kp=>?_;refine⟨_,rfl,wpAny_letOwnedTupleGo_zip z' λh3 z3 s3=>?_⟩
  replace s3:SameBut z h' h3:=s3
  have ltz:z<s.heap.objs.size:=lt_size hz;have kp2:∀b o,b∉[z,ti,to,i1,i2]->s.heap.get? b=some o->h3.get? b=some o:=λb o hb q=>by simp only[mem_cons,not_mem_nil,or_false,not_or]at hb;exact s3.extBut b o hb.1 (kp b o hb.1 hb.2.2.1 hb.2.2.2.1 hb.2.2.2.2 q)
  have tu2:h3.get? s.heap.objs.size=some {cls:=.type "tuple",data:=.seq #[u1,u2]}:=s3.extBut _ _ (Nat.ne_of_gt ltz) pr;refine⟨.ref s.heap.objs.size,upd H s.heap.objs.size (.tup [x,y]),(nP (h':=h3) (t':=s.toks) (vs:=[x,y]) I hf kp2 (Nat.le_refl _) ⟨by rw[sizeLine_eq];simp,[u1,u2],.cons ru1 (.cons ru2 .nil),⟨_,tu2,rfl,_,rfl⟩⟩ :),rfl,⟨_,x,y,I.hok.fresh (Nat.le_refl _),rfl,rfl,λzs hz=>by rw[I.list_inj hz hq1];exact hx,λzs hz=>by rw[I.list_inj hz hq2];exact hy⟩,⟨z3,s3.extBut ti _ D.TIz (kp ti _ D.TIz D.TITO D.TIi1 D.TIi2 ht),⟨_,_,s3.extBut to _ D.TOz to'⟩,kb i1' λo q=>s3.extBut i1 o D.i1z q,kb i2' λo q=>s3.extBut i2 o D.i2z q⟩,λb hb=>?_⟩;have:b<s.heap.objs.size:=by
   simp only[mem_cons,not_mem_nil,or_false]at hb;rcases hb with rfl|rfl|rfl|rfl|rfl
   .exact ltz
   .exact lt_size ht
   .exact lt_size ho
   .obtain⟨o,e,_⟩:=id h1;exact lt_size e
   .obtain⟨o,e,_⟩:=id h2;exact lt_size e
  rw[aY (Nat.ne_of_lt this)];exact(hf b hb).1
 done:=by
  intro X hP hw hK hc i js s Y H E I hf stt hg;subst hP hw hK;obtain⟨hz,ht,⟨a',b',ho⟩,h1,h2⟩:=stt;obtain⟨xs,ys,hq1,hq2,hx⟩:=hg;obtain⟨its1,rv1,pl1,_⟩:=I.list hq1;obtain⟨its2,rv2,pl2,_⟩:=I.list hq2;have l1':=rv1.length;have l2':=rv2.length;refine wpAny_pyNext_zip_end (I.ok.hd hc) D hz ht ho h1 h2 pl1.isList pl2.isList (by simp;omega) λh' kp=>⟨rfl,vz (t':=s.toks) I hf λb o hb q=>?_⟩
  grind
 self:=λ_ _ _ _ _ st h=>wpAny_pyIter_zip st.1 h
theorem E6:bootBuiltins "zip"=some (.type "zip"):=by decide +kernel
theorem Dn{x1}(hg:Gl X "zip")(hm:X.mg "zip"=none)(ha:PA X [a,b] ta)(hs:starEach [a,b] X.env=[(false,eval a X.env),(false,eval b X.env)]:=by rfl)(hs2:starEach [b] X.env=[(false,eval b X.env)]:=by rfl) :
  PI X (.Tuple els x1 tpos) (.Call (.Name "zip" p) [a,b] [] pos) (λY H R=>ta Y H λvs H1=>∃l1 l2 xs ys,vs=[V.ref l1,V.ref l2]/\SqL X.K H1 l1 xs/\SqL X.K H1 l2 ys/\R (Itz X.K l1 l2) H1):=by
 intro js s Y H R I h;refine PyProof.Rows.Call_ (gC I hg hm E6 (PyProof.Rows.callWith_type1 (thn (ha pos js s Y H _ I h) λus s1 zz=>?_) (by rw[hs,hs2]) (by rw[hs2];rfl)));obtain⟨vs,H1,I1,r1,q1⟩:=zz;obtain⟨l1,l2,xs,ys,e,hq1,hq2,q⟩:=q1;subst e;cases r1 with
 |cons r rr=>
  cases rr with
  |cons r' rr=>
   cases rr;cases r;cases r';obtain⟨its1,rv1,pl1,_⟩:=I1.list hq1;obtain⟨its2,rv2,pl2,_⟩:=I1.list hq2;have hl1:l1<s1.heap.objs.size:=by obtain⟨o,e,_⟩:=id pl1.isList;exact lt_size e
   have hl2:l2<s1.heap.objs.size:=by obtain⟨o,e,_⟩:=id pl2.isList;exact lt_size e
   have z1:(s1.heap.push (itO "list_iterator" l1)).objs.size=s1.heap.objs.size+1:=size_push ..
   have z2:((s1.heap.push (itO "list_iterator" l1)).push (itO "list_iterator" l2)).objs.size=s1.heap.objs.size+2:=by simp only[size_push]
   have z3:(((s1.heap.push (itO "list_iterator" l1)).push (itO "list_iterator" l2)).push (zTI s1.heap.objs.size)).objs.size=s1.heap.objs.size+3:=by simp only[size_push]
   have z4:((((s1.heap.push (itO "list_iterator" l1)).push (itO "list_iterator" l2)).push (zTI s1.heap.objs.size)).push zTO).objs.size=s1.heap.objs.size+4:=by simp only[size_push]
   have e4:=get?_push_size ((((s1.heap.push (itO "list_iterator" l1)).push (itO "list_iterator" l2)).push (zTI s1.heap.objs.size)).push zTO) (o:=zO s1.heap.objs.size) rfl;have e3:=get?_push_size (((s1.heap.push (itO "list_iterator" l1)).push (itO "list_iterator" l2)).push (zTI s1.heap.objs.size)) (o:=zTO) rfl;have e2:=get?_push_size ((s1.heap.push (itO "list_iterator" l1)).push (itO "list_iterator" l2)) (o:=zTI s1.heap.objs.size) rfl;have e1:=get?_push_size (s1.heap.push (itO "list_iterator" l1)) (o:=itO "list_iterator" l2) rfl;have e0:=get?_push_size s1.heap (o:=itO "list_iterator" l1) rfl;rw[z4]at e4;rw[z3]at e3;rw[z2]at e2;rw[z1]at e1;refine Ca pl1.isList pl2.isList (wpAny_pyIter_zip (f0:=.none) e4 ?_);refine⟨s1.heap.objs.size+4,[s1.heap.objs.size+4,s1.heap.objs.size+2,s1.heap.objs.size+3,s1.heap.objs.size,s1.heap.objs.size+1],_,_,H1,rfl,I1.kept (t':=s1.toks) λb o e=>get?_push_of_some _ (get?_push_of_some _ (get?_push_of_some _ (get?_push_of_some _ (get?_push_of_some _ e)))),v9 l1 l2 _ _ _ _ _ (PyProof.Rows.zipApart_new hl1 hl2),⟨e4,get?_push_of_some _ (get?_push_of_some _ e2),⟨.none,.none,get?_push_of_some _ e3⟩,⟨_,get?_push_of_some _ (get?_push_of_some _ (get?_push_of_some _ (get?_push_of_some _ e0))),rfl,rfl⟩,⟨_,get?_push_of_some _ (get?_push_of_some _ (get?_push_of_some _ e1)),rfl,rfl⟩⟩,λb hb=>?_,q⟩;simp only[mem_cons,not_mem_nil,or_false]at hb;have hb':s1.heap.objs.size<=b:=by rcases hb with rfl|rfl|rfl|rfl|rfl<;>omega
   exact I1.fpOk hb' (I1.hok.fresh hb')
end
def iD:JS->JS->JS
 |x::xs,y::ys=>.tup [x,y]::iD xs ys
 |_,_=>[]
def pJ:∀(xs ys:JS) (i:Nat) {p:PV},(iD xs ys)[i]?=some p->∃x y,xs[i]?=some x/\ys[i]?=some y/\p=.tup [x,y]
 | [],_,i,_,h|_::_,[],i,_,h=>by simp[iD]at h
 |x::xs,y::ys,0,p,h=>by simp only[iD,getElem?_cons_zero]at h;exact⟨x,y,rfl,rfl,(Option.some.inj h).symm⟩
 |x::xs,y::ys,i+1,p,h=>by simp only[iD,getElem?_cons_succ]at h;exact pJ xs ys i h
theorem pI:∀(xs ys:JS),(iD xs ys).length=min xs.length ys.length
 | [],_|_::_,[]=>by simp[iD]
 |_::xs,_::ys=>by simp only[iD,length_cons,pI xs ys];omega
def j9(ms:MA):MI:=λenv=>(ms env).bind λzs=>match zs with
 | [.lst _ xs,.lst _ ys]=>if eO xs&&eO ys then .ok (iD xs ys)else .stuck
 |_=>.stuck
section
variable{X:Cx}{T:Tb}{W:Nat->St->JR}{Z:Zn}{F F1 B L:JJ}{H H1:Hp}{Y:St}{env:En}{fp:Nat->JM}
def uX(hp:H2 p=none)(r:Rel T F B L H2 x v [])(r':Rel T F B L H2 y u []):Rel T F B L (upd H2 p (.tup [v,u])) (.tup [x,y]) (.ref p) []:=by unfold Rel;refine⟨p,_,rfl,SqT.of ce,?_⟩;have r1:Rel T F B L (upd H2 p (.tup [v,u])) x v []:=r.ext (Ext.upd hp) λ_ h=>h;have r2:Rel T F B L (upd H2 p (.tup [v,u])) y u []:=r'.ext (Ext.upd hp) λ_ h=>h;unfold RelL;refine⟨v,[u],[],[],rfl,r1,?_,rfl⟩;unfold RelL;exact⟨u,[],[],[],rfl,r2,by unfold RelL;exact⟨rfl,rfl⟩,by simp⟩
def ub{xs:JS}{vs:JQ}{i:Nat}{x:PV}(h:RelL T F B L H xs vs [])(e:xs[i]?=some x):∃v,vs[i]?=some v/\Rel T F B L H x v []:=by obtain⟨v,f,ev,rv,sl⟩:=h.get e;have:f=[]:=List.eq_nil_of_sublist_nil sl;subst this;exact⟨v,ev,rv⟩
theorem oz{els:List Expr}{x1}(hK:X.K=T.K)(hg:Gl X "zip")(hm:X.mg "zip"=none)(ha:SA X T W [a,b] ms)(hs:starEach [a,b] X.env=[(false,eval a X.env),(false,eval b X.env)]:=by rfl)(hs2:starEach [b] X.env=[(false,eval b X.env)]:=by rfl) :
  SIc X T W (.Tuple els x1 tpos) (.Call (.Name "zip" p) [a,b] [] pos) (j9 ms):=λjs s Y H R I h=>Dn hg hm ha hs hs2 js s Y H R I (by
 obtain⟨Z,F,env,fp,S,q⟩:=h;unfold j9 at q;refine tA.bq S λzs vs H1 F1 f1 e1 g1 r1 n1 d1 w1=>?_;rw[e1]at q;simp only[Res.J4]at q;split at q
 .rename_i f xs g ys
  split at q
  .rename_i hc
   rw[and_eq_true]at hc;unfold RelL at r1;obtain⟨v1,ws,f2,f3,rfl,ra,rb,_⟩:=r1;obtain⟨v2,rfl,rc⟩:=rb.one;unfold Rel at ra rc;obtain⟨a1,us,fp1,rfl,hl1,hr1,_⟩:=ra;obtain⟨a2,ws,fp2,rfl,hl2,hr2,_⟩:=rc;obtain⟨rfl,_⟩:=eB hc.1 hr1;obtain⟨rfl,_⟩:=eB hc.2 hr2;rw[hK];refine⟨a1,a2,us,ws,rfl,hl1.sq,hl2.sq,q _ H1 F1 g1 λH2 hx=>?_⟩;have up:∀{a:Addr}{us:JQ},SqL T.K H1 a us->SqL T.K H2 a us:=λ{a us} hs=>by
    rcases hs with z|z
    .exact .inl (Rd.tr (λo q=>hx a o q) z)
    .exact .inr z
   have s1:=up hl1.sq;have s2:=up hl2.sq;have ln1:=hr1.length;have ln2:=hr2.length;refine⟨λi x ex=>?_,⟨us,ws,s1,s2,by rw[pI];omega⟩⟩;obtain⟨x1,y1,ex1,ey1,rfl⟩:=pJ xs ys i ex;obtain⟨v,ev,rv⟩:=ub hr1 ex1;obtain⟨u,eu,ru⟩:=ub hr2 ey1;refine⟨⟨us,ws,v,u,s1,s2,ev,eu⟩,λw H3 hy=>?_⟩;obtain⟨p,v',u',hp,rfl,rfl,hall1,hall2⟩:=hy;have q1:=hall1 us s1;have q2:=hall2 ws s2;rw[ev]at q1;rw[eu]at q2;cases q1;cases q2;exact⟨Ext.upd hp,[],λb hb=>(nomatch hb),uX hp (rv.ext hx λ_ h=>h) (ru.ext hx λ_ h=>h)⟩
  .exact q.elim
 .exact q.elim)
end
section
variable{X:Cx}{T:Tb}{W:Nat->St->JR}{F B L:JJ}{H:Hp}
def qb{α:Type}(k:Nat)(xs:List α):List α:=(replicate k xs).flatten
def oK:PV->PV->JT
 |.lst .own xs,.int k=>if eO xs&&decide (0<=k/\k<=1000000)&&decide (xs.length*k.toNat<=10000000)then .ok (.lst .own (qb k.toNat xs))else .stuck
 |_,_=>.stuck
def RelL.rep(r:RelL T F B L H xs vs []):∀k:Nat,RelL T F B L H (qb k xs) (qb k vs) []
 |0=>fP F B L H
 |k+1=>by have:=RelL.append r (RelL.rep r k);simpa[qb,replicate_succ]using this
theorem Bu:je T W oK Gx:=by
 intro B F L Y H Q F' H' x y v u fx fy g rx ry nf nd new q;cases x with
 |lst f xs=>
  cases f with
  |own=>
   cases y with
   |int k=>
    simp only[oK]at q;split at q
    .rename_i hc
     simp only[and_eq_true,decide_eq_true_eq]at hc;obtain⟨⟨c1,c2⟩,c3⟩:=hc;unfold Rel at rx ry;obtain⟨a,vs,fp1,rfl,hl1,hr1,hf1⟩:=rx;obtain⟨rfl,rfl⟩:=ry;obtain⟨rfl,_⟩:=eB c1 hr1;have ln:=hr1.length;refine⟨a,k,vs,rfl,rfl,hl1,by omega,by omega,by rw[<- ln,sizeLine_eq];omega,?_⟩;exact GE.newL q g (RelL.rep hr1 k.toNat) (λb hb=>(nomatch hb)) nodup_nil (λb hb=>(nomatch hb))
    .exact q.elim
   |_=>exact q.elim
  |_=>cases y<;>exact q.elim
 |_=>exact q.elim
def rV(ha:SE X T W a ma)(hb:SE X T W b mb):SE X T W (.BinOp a .Mult b pos) (mOp oK ma mb):=kT Dz Bu ha hb
end
section
variable{prog:Program}{w:World}{A:Around}{R:Result->Shared->Prop}{ia:Addr}{fps wrs:JM}{len:Nat}{Pv:Nat->Value->Prop}{Sv:Nat->Heap->Prop}
abbrev Az(xs:JP)(c:Nat):Obj:={cls:=.type "list",dict:=none,data:=.seq xs c,slots:=#[]}
def ka:(toString "min"++toString ".loop":String)= "min.loop":=by decide
theorem sw(kw:List (Str×Value))(Wk:Walks prog w A.in1 ia fps wrs len Pv Sv)(lt:Nat->Nat->Bool)(hc:CmpOf prog w A.in1 .Lt Pv lt)(best:Addr)(nb:best∉fps) :
  ∀(left j:Nat) (sh:Shared) (u:Value) (cap:Nat),len-(j+1)=left->j+1<=len->Sv (j+1) sh.heap->Pv (argBest lt j) u->sh.heap.get? best=some (Az #[u,u] cap)->
   (∀v h' tk,Pv (argBest lt (len-1)) v->(∀b o,b∉wrs->b≠best->sh.heap.get? b=some o->h'.get? b=some o)->R (.ok (.ret v)) {sh with heap:=h',toks:=tk})->codeAny (model prog w) A (.builtin "min.loop" ⟨[.ref ia,.none,.ref best],kw⟩) R sh
 |0,j,sh,u,cap,e1,e2,st,pu,ob,fin=>by
  have nw:best∉wrs:=λz=>nb (Wk.sub _ z);have ej:j+1=len:=by omega
  refine codeAny_builtin F.entry_min_loop ?_;rw[Around.under_plainId F.plain_min_loop _];refine(show wpAny _ A.in1 (seqItems? (.ref best) >>= _) _ _ sh from wpAny_bind (wpAny_seqItems ob rfl ?_));refine(show wpAny _ A.in1 (tryCatch (pyNext (.ref ia)) _ >>= _) _ _ sh from wpAny_bind (wpAny_tryCatch (Wk.done sh _ _ (ej▸st) λh' tk kp=>?_)));refine(show wpAny _ A.in1 (updateSeq best (λ_=>#[]) >>= _) _ _ _ from wpAny_bind (wpAny_updateSeq (kp best _ nw ob) rfl (wpAny_bind (wpAny_letGo (wpAny_pure ?_)))));exact fin u _ tk (by rw[<- ej];exact pu) λb o q1 q2 e=>(get?_update_other _ _ (Ne.symm q2)).trans (kp b o q1 e)
 |left+1,j,sh,u,cap,e1,e2,st,pu,ob,fin=>by
  have nw:best∉wrs:=λz=>nb (Wk.sub _ z);have lj:j+1<len:=by omega
  refine codeAny_builtin F.entry_min_loop ?_;rw[Around.under_plainId F.plain_min_loop _];refine(show wpAny _ A.in1 (seqItems? (.ref best) >>= _) _ _ sh from wpAny_bind (wpAny_seqItems ob rfl ?_));refine(show wpAny _ A.in1 (tryCatch (pyNext (.ref ia)) _ >>= _) _ _ sh from wpAny_bind (wpAny_tryCatch (Wk.item (j+1) sh _ _ lj st λv h' tk pv st' kp=>?_)));have ob':=kp best _ nw ob;refine(show wpAny _ A.in1 (tryCatch (holding [v,v] (richCompare .Lt v u >>= _)) _ >>= _) _ _ _ from wpAny_bind (wpAny_tryCatch (wpAny_holding (wpAny_bind (hc (j+1) (argBest lt j) v u _ _ _ pv pu (wpAny_bind (wpAny_holding (wpAny_truthy_bool (wpAny_bind (wpAny_letGo (wpAny_pure ?_)))))))))));by_cases yes:lt (j+1) (argBest lt j)=true
  .rw[yes];simp only[if_true];refine wpAny_bind (wpAny_updateSeq ob' rfl (wpAny_bind (wpAny_letGo ?_)));rw[ka];refine wpAny_pure ⟨plainId_quiet F.plain_min_loop _,sw kw Wk lt hc best nb left (j+1) _ v _ () lj (Wk.frame _ _ _ st' λb hb o e=>(get?_update_other _ _ (λz:best=b=>nb (z▸hb))).trans e) (by simp only[argBest,yes,if_true];exact pv) (Heap.get?_update_self _ ob' rfl) λv' h2 t2 pv' kp2=>?_⟩;exact fin v' h2 t2 pv' λb o q1 q2 e=>kp2 b o q1 q2 ((get?_update_other _ _ (Ne.symm q2)).trans (kp b o q1 e))
  .have no:lt (j+1) (argBest lt j)=false:=by simpa using yes
   rw[no];simp only[false_eq_true,if_false];refine wpAny_bind (wpAny_letGo ?_);rw[ka];refine wpAny_pure ⟨plainId_quiet F.plain_min_loop _,sw kw Wk lt hc best nb left (j+1) _ u cap () lj st' (by simp only[argBest,no,false_eq_true,if_false];exact pu) ob' λv' h2 t2 pv' kp2=>?_⟩;exact fin v' h2 t2 pv' λb o q1 q2 e=>kp2 b o q1 q2 (kp b o q1 e)
theorem BA(kw:List (Str×Value))(Wk:Walks prog w A.in1 ia fps wrs len Pv Sv)(lt:Nat->Nat->Bool)(hc:CmpOf prog w A.in1 .Lt Pv lt)(best:Addr)(nb:best∉fps)(pos:0<len)(st:Sv 0 sh.heap)(ob:sh.heap.get? best=some (Az #[] cap))
  (fin:∀v h' tk,Pv (argBest lt (len-1)) v->(∀b o,b∉wrs->b≠best->sh.heap.get? b=some o->h'.get? b=some o)->R (.ok (.ret v)) {sh with heap:=h',toks:=tk}):codeAny (model prog w) A (.builtin "min.loop" ⟨[.ref ia,.none,.ref best],kw⟩) R sh:=by
 have nw:best∉wrs:=λz=>nb (Wk.sub _ z);refine codeAny_builtin F.entry_min_loop ?_;rw[Around.under_plainId F.plain_min_loop _];refine(show wpAny _ A.in1 (seqItems? (.ref best) >>= _) _ _ sh from wpAny_bind (wpAny_seqItems ob rfl ?_));refine(show wpAny _ A.in1 (tryCatch (pyNext (.ref ia)) _ >>= _) _ _ sh from wpAny_bind (wpAny_tryCatch (Wk.item 0 sh _ _ pos st λv h' tk pv st' kp=>?_)));have ob':=kp best _ nw ob;refine(show wpAny _ A.in1 (updateSeq best (λ_=>#[v,v]) >>= _) _ _ _ from wpAny_bind (wpAny_updateSeq ob' rfl ?_));rw[ka];refine wpAny_pure ⟨plainId_quiet F.plain_min_loop _,sw kw Wk lt hc best nb _ 0 _ v _ rfl pos (Wk.frame _ _ _ st' λb hb o e=>(get?_update_other _ _ (λz:best=b=>nb (z▸hb))).trans e) pv (Heap.get?_update_self _ ob' rfl) λv' h2 t2 pv' kp2=>?_⟩;exact fin v' h2 t2 pv' λb o q1 q2 e=>kp2 b o q1 q2 ((get?_update_other _ _ (Ne.symm q2)).trans (kp b o q1 e))
def Eo(Wk:Walks prog w A.in1 ia fps wrs 0 Pv Sv)(best:Addr)(nb:best∉fps)(st:Sv 0 sh.heap)(ob:sh.heap.get? best=some (Az #[] cap))
  (fin:∀h' tk,(∀b o,b∉wrs->sh.heap.get? b=some o->h'.get? b=some o)->R (.ok (.ret d)) {sh with heap:=h',toks:=tk}):codeAny (model prog w) A (.builtin "min.loop" ⟨[.ref ia,.none,.ref best],[(dn,d)]⟩) R sh:=by
 refine codeAny_builtin F.entry_min_loop ?_;rw[Around.under_plainId F.plain_min_loop _];refine(show wpAny _ A.in1 (seqItems? (.ref best) >>= _) _ _ sh from wpAny_bind (wpAny_seqItems ob rfl ?_));refine(show wpAny _ A.in1 (tryCatch (pyNext (.ref ia)) _ >>= _) _ _ sh from wpAny_bind (wpAny_tryCatch (Wk.done sh _ _ st λh' tk kp=>?_)));exact wpAny_bind (wpAny_rule (wpAny_pure (fin h' tk kp)))
end
section
variable{prog:Program}{w:World}{A:Around}{E:JF}{s:Shared}
def Ad(y d:Value):argsOk "min" ⟨[y],[(Str.ofString "default",d)]⟩:=by
 unfold argsOk
 kernel_rfl
theorem rh
  (h:wpAny (model prog w) A.in1 (pyIter x) (λit s2=>∃ ia fps wrs len Pv Sv lt,it=.ref ia/\Walks prog w A.in1 ia fps wrs len Pv Sv/\Sv 0 s2.heap/\(∀ b ∈ fps,b < s2.heap.objs.size)/\CmpOf prog w A.in1 .Lt Pv lt /\
   ∀v h' tk,(len=0/\v=d\/0<len/\Pv (argBest lt (len-1)) v)->(∀b o,b∉wrs->s2.heap.get? b=some o->h'.get? b=some o)->Q v {s2 with heap:=h',toks:=tk}) E s) :
  wpAny (model prog w) A (call (.builtin "min") [x] [(Str.ofString "default",d)]) Q E s:=by
 refine PyProof.Rows.kmk_tree F.kind_min F.plain_min F.entry_min (Ad _ _) ?_;refine(show wpAny _ A.in1 (Builtin.Builtins.bindParams "min" ["key","default"] 0 ⟨[],[(Str.ofString "default",d)]⟩ >>= _) _ _ s from wpAny_bind (wpAny_of_eq (a:=[none,some d]) (by kernel_rfl) (wpAny_bind (wpAny_pure (wpAny_bind (wpAny_mono h (λit s2 q=>?_) λ_ _ e=>e))))));obtain⟨ia,fps,wrs,len,Pv,Sv,lt,rfl,Wk,st,hf,hc,fin⟩:=q;refine wpAny_bind (wpAny_newObj_type ?_);rw[ka];have nb:s2.heap.objs.size∉fps:=λz=>Nat.lt_irrefl _ (hf _ z);have st':=Wk.frame _ _ (s2.heap.push (Az #[] 0)) st λb _ o e=>get?_push_of_some _ e;refine wpAny_pure ⟨plainId_quiet F.plain_min_loop _,?_⟩;by_cases pos:0<len
 .exact BA _ Wk lt hc s2.heap.objs.size nb pos st' (get?_push_size _ rfl) λv h' tk pv kp=>fin v h' tk (.inr ⟨pos,pv⟩) λb o q e=>kp b o q (Nat.ne_of_lt (lt_size e)) (get?_push_of_some _ e)
 .have z:len=0:=by omega
  subst z;exact Eo Wk s2.heap.objs.size nb st' (get?_push_size _ rfl) λh' tk kp=>fin d h' tk (.inl ⟨rfl,rfl⟩) λb o q e=>kp b o q (get?_push_of_some _ e)
end
section
variable{X:Cx}{T:Tb}{W:Nat->St->JR}{Z:Zn}{F F1 B L:JJ}{H H1:Hp}{Y:St}{env:En}{fp:Nat->JM}{js:JI}{s:Shared}
def q_{M:Model}{A:Around}{E:JF}{s:Shared}{env:Env}{id:String}{rest:List Expr}{kws:List Keyword}{Q:JF}
  (h:wpAny M A (spliced (backTo pos (starEach (e::rest) env))) (λvs s1=>wpAny M A (evalAll ((backToKw pos (keywordEach kws env)).map (·.2))) (λks s2=>wpAny M A (call (.builtin id) vs (((backToKw pos (keywordEach kws env)).filterMap (·.1)).zip ks)) Q E s2) E s1) E s)
  (hall:(backToKw pos (keywordEach kws env)).all (·.1.isSome)=true:=by rfl) (hkw:(backToKw pos (keywordEach kws env)).any (·.1.isNone)=false:=by rfl)
  (he:starEach (e::rest) env=(false,eval e env)::starEach rest env:=by rfl) (hpl:(backTo pos (starEach (e::rest) env)).any (·.1)=false:=by rfl) :
  wpAny M A (callWith pos (.builtin id) [] (backTo pos (starEach (e::rest) env)) (backToKw pos (keywordEach kws env))) Q E s:=by
 unfold callWith;refine wpAny_bind (wpAny_holding (wpAny_mono (evalArgs_kw2 (Q:=λa s1=>wpAny M A (call (.builtin id) ([]++ a.pos) a.kw) Q E s1) hall h he) (λa s1 h1=>wpAny_bind (wpAny_standAt ?_)) λ_ _ x=>x));simp only[hpl,hkw,Bool.or_false];exact wpAny_bind (wpAny_pure (wpAny_bind (wpAny_mono h1 (λr s2 hr=>wpAny_bind (wpAny_holding (wpAny_point (wpAny_pure hr)))) λ_ _ x=>x)))
def GU(vs:JQ)(P:V->Prop):Prop:=match vs with
 | [v]=>P v
 |_=>False
def Bl(h:GU vs P):∃v,vs=[v]/\P v:=by
 match vs,h with
 | [v],h=>exact⟨v,rfl,h⟩
def xJ(ns:JK):V:=if ns.isEmpty then .non else .int (f_ ns)
def wF(K:PySem.W.Frag):V->Hp->VK->Prop:=λv H Q=>∃p ns,v=.ref p/\(SqL K H p (ns.map V.int)\/ SqT K H p (ns.map V.int))/\Q (xJ ns) H
def vS(hc:X.calm=true)(I:L2.Inv X js Y H s)(hq:SqL X.K H p (ns.map V.int)\/ SqT X.K H p (ns.map V.int))(q:Q (xJ ns) H):wpAny (model X.prog X.w) X.A (call (.builtin "min") [.ref p] [(Str.ofString "default",.none)]) (EP X js Y Q) X.xe s:=by
 have hh:=I.ok.hd hc;have key:∀{its:JL},aU (ns.map V.int) its->∀{v:Value}{h':Heap}{tk:Nat},(its.toArray.size=0/\v=.none\/0<its.toArray.size/\its.toArray[argBest (λi j=>decide (ns.getD i 0<ns.getD j 0)) (its.toArray.size-1)]?=some v)->(∀b o,s.heap.get? b=some o->h'.get? b=some o)->EP X js Y Q v {s with heap:=h',toks:=tk}:=by
  intro its r v h' tk hv k;have hl:its.toArray.size=ns.length:=by have:=r.length;simpa using this.symm
  rw[hl]at hv;rcases hv with⟨h0,rfl⟩ |⟨hn,hv⟩
  .have e:ns=[]:=List.length_eq_zero_iff.mp h0;subst e;exact⟨.non,H,fZ I k,rfl,q⟩
  .obtain⟨t,rfl⟩:=eC r _ _ hv;rw[rj hn];have e:xJ ns=.int (f_ ns):=by
    unfold xJ;rw[if_neg];intro z;have:ns=[]:=by simpa using z
    rw[this]at hn;exact absurd hn (by decide)
   rw[e]at q;exact⟨.int _,H,fZ I k,⟨t,rfl⟩,q⟩
 rcases hq with hq|hq
 .obtain⟨its,r,pl,hz⟩:=I.list hq;obtain⟨o,ho,hcl,n,hd⟩:=pl.isList;have hlt:=lt_size ho;refine rh (wpAny_pyIter_list pl.isList ?_);refine⟨_,_,_,_,_,_,_,rfl,Walks.list (A:=X.A.in1) hh _ p (Nat.ne_of_lt hlt) its.toArray,⟨⟨_,get?_push_size _ rfl,rfl,rfl⟩,pl.isList.push _⟩,λb hb=>?_,CmpOf.ints_lt (λi=>ns.getD i 0) (eC r),λv h' tk hP hk=>key r hP (dM hk)⟩;show b <(s.heap.push _).objs.size;rw[size_push];exact iE hlt rfl b hb
 .obtain⟨its,r,pl,hz⟩:=I.tuple hq;have pt:s.heap.IsTuple p its.toArray:=pl;obtain⟨o,ho,hcl,n,hd⟩:=pl;have hlt:=lt_size ho;refine rh (wpAny_pyIter_tuple pt ?_);refine⟨_,_,_,_,_,_,_,rfl,Walks.tuple (A:=X.A.in1) hh _ p (Nat.ne_of_lt hlt) its.toArray,⟨⟨_,get?_push_size _ rfl,rfl,rfl⟩,pt.push _⟩,λb hb=>?_,CmpOf.ints_lt (λi=>ns.getD i 0) (eC r),λv h' tk hP hk=>key r hP (dM hk)⟩;show b <(s.heap.push _).objs.size;rw[size_push];exact iE hlt rfl b hb
abbrev mdE(e:Expr)(p pos kp cp:Pos)(j:Nat):Expr:=.Call (.Name "min" p) [e] [⟨some "default",.Constant .none j cp,kp⟩] pos
def A7(hc:X.calm=true)(hg:Gl X "min")(hm:X.mg "min"=none)(he:PE X e te)(hs:starEach [e] X.env=[(false,eval e X.env)]:=by rfl):PE X (mdE e p pos kp cp j) (tUn (wF X.K) te):=by intro js s Y H Q I h;refine wpAny_Call_Name_kw (gC I hg hm sQ ?_ (by decide) (by decide));refine q_ ?_ rfl rfl hs (by rw[hs];rfl);refine thn (dR (te:=te) he g8 (by rw[hs];rfl) pos js s Y H (λvs H1=>GU vs λv=>wF X.K v H1 Q) I h) λus s1 hz1=>?_;obtain⟨vs,H1,I1,r1,q1⟩:=hz1;obtain⟨v,rfl,a,ns,rfl,hq,q⟩:=Bl q1;obtain⟨u,rfl,rx⟩:=d8 r1;cases rx;refine thn (tQ (nm:=some "default") (kpos:=kp) (wT (j:=j) (pos:=cp)) wM pos js s1 Y H1 (λzs H2=>zs=[.non]/\H2=H1) I1 ⟨rfl,rfl⟩) λws s2 hz1=>?_;obtain⟨zs,H2,I2,r2,ez,eh⟩:=hz1;subst ez;rw[eh]at I2;clear eh;obtain⟨u2,rfl,rx2⟩:=d8 r2;cases rx2;exact vS hc I2 hq q
def nH(x:PV):JT:=match a6 x with
 | some xs=>(match bX xs with
  |some ns=>.ok (if ns.isEmpty then .non else .int (f_ ns))
  |none=>.stuck)
 |none=>.stuck
def xG(hK:X.K=T.K):HU T W nH (wF X.K):=by
 intro B F L Y H Q F' H' x v fx g rx nf nd new q;unfold nH at q;cases e:a6 x with
 |none=>rw[e]at q;exact q.elim
 |some xs=>
  rw[e]at q;dsimp only at q;cases e2:bX xs with
  |none=>rw[e2]at q;exact q.elim
  |some ns=>
   rw[e2]at q;dsimp only at q;obtain⟨a,us,fx',rfl,hs,hr,_⟩:=rx.seq e;have hu:=dy e2 hr;subst hu;refine⟨a,ns,rfl,by rw[hK];exact hs,q.scal g ?_⟩;unfold xJ;split
   .unfold Rel;exact⟨rfl,rfl⟩
   .exact fQ
def AA(hK:X.K=T.K)(hc:X.calm=true)(hg:Gl X "min")(hm:X.mg "min"=none)(he:SE X T W e m)(hs:starEach [e] X.env=[(false,eval e X.env)]:=by rfl):SE X T W (mdE e p pos kp cp j) (mUn nH m):=
 PE.wk (A7 hc hg hm he hs) λ_ _ _ h=>tE.mir1 (xG hK) h
end
def w5(x y:PV):JT:=match x,y with
 | .tup xs,.tup ys=>(match bX xs,bX ys with
  |some ns,some ms=>.ok (.bl (HT.lexLt ns ms))
  |_,_=>.stuck)
 |_,_=>.stuck
section
variable{X:Cx}{T:Tb}{W:Nat->St->JR}{Z:Zn}{F F1 B L:JJ}{H H1:Hp}{Y:St}{env:En}{fp:Nat->JM}{D:Ends}
def Bv(hK:X.K=T.K):je T W w5 (Gy X.K):=by
 intro B F L Y H Q F' H' x y v u fx fy gr rx ry _ _ _ q;unfold w5 at q;split at q
 case h_2=>exact q.elim
 rename_i xs ys
 split at q
 case h_2=>exact q.elim
 rename_i ns ms e1 e2
 unfold Rel at rx ry;obtain⟨a,vs,rfl,hs,hr⟩:=rx;obtain⟨b,us,rfl,ht,hq⟩:=ry;have z1:=dy e1 hr;have z2:=dy e2 hq;subst z1 z2;exact⟨a,b,ns,ms,rfl,rfl,by rw[hK];exact hs,by rw[hK];exact ht,q.scal gr jp⟩
theorem CV(hK:X.K=T.K)(hu:X.A.units+64<cLine)(ha:SE X T W a ma)(hb:SE X T W b mb):ST X T W (.Compare a [.Lt] [b] pos) (aB (mOp w5 ma mb)):=fL (DD ()) (Bv hK) ha hb (fk _)
end
open AutoSeq1 (wpAny_loadPart')
section
variable{prog:Program}{w:World}{A:Around}{E:JF}{s:Shared}
def dK1(a:Value):checkTypeCall "enumerate" ⟨[a],[]⟩=pure .unit:=by kernel_rfl
def dK2(a:Value):checkBuiltinCall "enumerate.__new__" ⟨[.type "enumerate",a],[]⟩=pure .unit:=by kernel_rfl
def dK3(a b:Value):argsOk "object.__init__" ⟨[a,b],[]⟩:=by
 unfold argsOk;rw[signature?_of (id:="object.__init__") (n:=['_','_','t','i','n','i','_','_']) (o:=['t','c','e','j','b','o']) (by kernel_rfl) F.owner_object]
 kernel_rfl
def EX(n:String)(l:Addr) :
  Meets (Builtin.«enumerate.__new__» ⟨[.type "enumerate",.ref l],[]⟩) (λ_ R s=>om n l s/\R (.ok (.ret (.ref (s.heap.push (itO n l)).objs.size))) {s with heap:=(s.heap.push (itO n l)).push (enO s.heap.objs.size 0)}):=
 .of_wp λpr w A R s0 h=>by
  obtain⟨hp,g,d,tk,os⟩:=s0;obtain⟨hI,h⟩:=h;have hsub:=sub_enumerate;have hJ:∀{Q:JF}{E:JF},Q (.ref hp.objs.size) ⟨hp.push (itO n l),g,d,tk,os⟩->wpAny (model pr w) A.in1 (pyIter (.ref l)) Q E ⟨hp,g,d,tk,os⟩:=λ{Q E} q=>hI pr w A.in1 Q E q;have hJ':∀{Q:JF}{E:JF},Q (.ref hp.objs.size) ⟨hp.push (itO n l),g,d,tk,os⟩->wpAny (model pr w) A (pyIter (.ref l)) Q E ⟨hp,g,d,tk,os⟩:=λ{Q E} q=>hI pr w A Q E q
  wp_walk
  refine wpAny_stack_any λst=>wpAny_pure ?_;split<;>try (rename_i c _ _ _ _ _;cases(c==Value.type "enumerate"))
  all_goals (wp_walk using hJ,hJ')
  all_goals exact⟨_,rfl,h⟩
def Cb(hI:om n l s)(h:Q (.ref (s.heap.objs.size+1)) {s with heap:=(s.heap.push (itO n l)).push (enO s.heap.objs.size 0)}) :
  wpAny (model prog w) A (call (.type "enumerate") [.ref l] []) Q E s:=by
 have hz:(s.heap.push (itO n l)).objs.size=s.heap.objs.size+1:=size_push ..
 refine kP (Q1:=λob s1=>s1.TypeIs ob "enumerate" /\ Q ob s1) F.called_enumerate (dK1 _) (dK2 _) F.entry_enumerate_new F.entry_object_init (EX n l) ⟨hI,?_⟩ λob s1 hq=>⟨hq.1,dK3 ob _,_,Cy F.called_enumerate.init.lookup F.called_enumerate.made (by decide),hq.1,rfl,hq.2⟩
 show _/\_;rw[hz];have:=get?_push_size (s.heap.push (itO n l)) (o:=enO s.heap.objs.size 0) rfl;rw[hz]at this;exact⟨⟨_,this,rfl⟩,h⟩
end
def kZ(m:ME):MI:=λenv=>(m env).bind λx=>match x with
 |.lst f xs=>if !f.JZ&&eO xs then .ok (enP 0 xs)else .stuck
 |.tup xs=>if eO xs then .ok (enP 0 xs)else .stuck
 |_=>.stuck
def qy(m:ME):MI:=λenv=>(m env).bind λx=>match a6 x with
 |some xs=>.ok (enP 0 xs)
 |none=>.stuck
section
variable{X:Cx}{T:Tb}{W:Nat->St->JR}{Z:Zn}{F F1 B L:JJ}{H H1:Hp}{Y:St}{env:En}{fp:Nat->JM}{js:JI}{s:Shared}
def ql{x1}(hg:Gl X "enumerate")(hm:X.mg "enumerate"=none)(hl:PE X l tl)(hs:starEach [l] X.env=[(false,eval l X.env)]:=by rfl) :
  PI X (.Tuple els x1 tpos) (.Call (.Name "enumerate" p) [l] [] pos) (λY H R=>tl Y H λx H1=>∃a tp xs,[x]=[V.ref a]/\Sq tp X.K H1 a xs/\R (Ite tp X.K 0 a) H1):=by
 intro js s Y H R I h;refine PyProof.Rows.Call_ (gC I hg hm uz (PyProof.Rows.callWith_type1 (thn (dR (te:=tl) hl g8 (by rw[hs];rfl) pos js s Y H (λvs H1=>∃a tp xs,vs=[.ref a]/\Sq tp X.K H1 a xs/\R (Ite tp X.K 0 a) H1) I h) λus s2 ⟨vs,H1,I2,r1,a,tp,xs,ev,hq,q⟩=>?_) (by rw[hs];rfl) rfl));subst ev;obtain⟨u,rfl,rx⟩:=d8 r1;cases rx;have hI:∃n,om n a s2/\∀h',h'.get? s2.heap.objs.size=some (itO n a)->Af tp h' s2.heap.objs.size a 0:=by
  cases tp with
  |false=>obtain⟨its,rv,pl,_⟩:=I2.list hq;exact⟨"list_iterator",λ_ _ _ _ _ q=>wpAny_pyIter_list pl.isList q,λh' e=>⟨_,e,rfl,rfl⟩⟩
  |true=>obtain⟨its,rv,pl,_⟩:=I2.tuple hq;exact⟨"tuple_iterator",λ_ _ _ _ _ q=>wpAny_pyIter_tuple (show s2.heap.IsTuple a its.toArray from pl) q,λh' e=>⟨_,e,rfl,rfl⟩⟩
 obtain⟨n,hI,hA⟩:=hI;have hz:(s2.heap.push (itO n a)).objs.size=s2.heap.objs.size+1:=size_push ..
 have he:((s2.heap.push (itO n a)).push (enO s2.heap.objs.size 0)).get? (s2.heap.objs.size+1)=some (enO s2.heap.objs.size 0):=by have:=get?_push_size (s2.heap.push (itO n a)) (o:=enO s2.heap.objs.size 0) rfl;rw[hz]at this;exact this
 refine Cb hI (wpAny_pyIter_enum (i:=0) (old:=.none) he ?_);refine⟨s2.heap.objs.size+1,[s2.heap.objs.size+1,s2.heap.objs.size],_,_,H1,rfl,I2.kept (t':=s2.toks) λb o e=>get?_push_of_some _ (get?_push_of_some _ e),m7 tp 0 a _ _,⟨⟨.none,by simpa using he⟩,hA _ (get?_push_of_some _ (get?_push_size _ rfl))⟩,λb hb=>?_,q⟩;simp only[mem_cons,not_mem_nil,or_false]at hb;rcases hb with rfl|rfl
 .exact I2.fpOk (le_succ _) (I2.hok.fresh (le_succ _))
 .exact I2.fpOk (Nat.le_refl _) (I2.hok.fresh (Nat.le_refl _))
def pU{x1}(hK:X.K=T.K)(hg:Gl X "enumerate")(hm:X.mg "enumerate"=none)(he:SE X T W e m)(hs:starEach [e] X.env=[(false,eval e X.env)]:=by rfl) :
  SI X T W (.Tuple els x1 tpos) (.Call (.Name "enumerate" p) [e] [] pos) (kZ m):=λjs s Y H R I h=>ql hg hm he hs js s Y H R I (by
 obtain⟨Z,F,env,fp,S,q⟩:=h;unfold kZ at q;refine tE.bq S λx v H1 F1 f1 e1 g1 r1 n1 d1 w1=>?_;rw[e1]at q;simp only[Res.J4]at q;have S1:=S.grow g1;rw[hK];have key:∀(tp:Bool) (a:Addr) (xs:JS) (vs:JQ),RelL T F1 Z.B NoL H1 xs vs []->(∀H2,(∀a o,H1 a=some o->¬Own fp a->H2 a=some o)->Sq tp T.K H2 a vs)->ItR T F1 Z.B (Own fp) H1 (Ite tp T.K 0 a) (enP 0 xs):=by intro tp a xs vs hr hq H2 hk;have hq2:=hq H2 hk;refine⟨λi x ex=>?_,⟨vs,hq2,by rw[fF,hr.length];exact Nat.le_refl _⟩⟩;rw[gn]at ex;obtain⟨y,ey,rfl⟩:=map_eq_some_iff.mp ex;obtain⟨v,_,ev,_,_⟩:=hr.get ey;refine⟨⟨vs,v,hq2,ev⟩,λw H3 hy=>?_⟩;obtain⟨p,y',hp,rfl,rfl,hall⟩:=hy;have:=hall vs hq2;rw[ev]at this;cases this;exact⟨Ext.upd hp,jV hp (ii S1.fow S1.bow S1.oow hk hr ey ev)⟩
 cases x with
 |lst f xs=>
  dsimp only at q;by_cases hc:(!f.JZ&&eO xs)=true
  .rw[if_pos hc]at q;rw[and_eq_true]at hc;unfold Rel at r1;obtain⟨a,vs,fp',rfl,hl,hr,hf⟩:=r1;obtain⟨rfl,hr'⟩:=eB hc.2 hr;refine⟨a,false,vs,rfl,hl.sq,q _ H1 F1 g1 (key false a xs vs hr' λH2 hk=>?_)⟩;have na:f≠.mod->∀o,H1 a=some o->H2 a=some o:=λhn o ho=>by
    refine hk a o ho ?_;cases f with
    |own=>rintro⟨i,hi⟩;obtain⟨_,o',ho'⟩:=S.dis i a hi;obtain rfl:f1=[a]:=hf;rw[w1 a mem_cons_self]at ho';cases ho'
    |frz=>exact S1.fow a hl.1
    |bor=>exact S1.bow a hl.1
    |lnt=>exact absurd hc.1 (by decide)
    |mod=>exact absurd rfl hn
   show SqL T.K H2 a vs;by_cases hn:f=.mod
   .subst hn;exact .inr hl
   .exact .inl (Rd.tr (na hn) (hl.rd hn))
  .rw[if_neg hc]at q;exact q.elim
 |tup xs=>
  dsimp only at q;by_cases hc:eO xs=true
  .rw[if_pos hc]at q;unfold Rel at r1;obtain⟨a,vs,rfl,hl,hr⟩:=r1;obtain⟨rfl,hr'⟩:=eB hc hr;refine⟨a,true,vs,rfl,hl,q _ H1 F1 g1 (key true a xs vs hr' λH2 hk=>?_)⟩;exact SqT.tr (λo ho hfx=>hk a o ho λz=>by
    have:=S1.oow a o z ho;cases o with
    |lst _|ins _ _ _=>exact hfx
    |_=>exact this) hl
  .rw[if_neg hc]at q;exact q.elim
 |_=>exact q.elim)
def uM{x1}(hK:X.K=T.K)(hg:Gl X "enumerate")(hm:X.mg "enumerate"=none)(he:SE X T W e m)(hs:starEach [e] X.env=[(false,eval e X.env)]:=by rfl) :
  SIc X T W (.Tuple els x1 tpos) (.Call (.Name "enumerate" p) [e] [] pos) (qy m):=λjs s Y H R I h=>ql hg hm he hs js s Y H R I (by
 obtain⟨Z,F,env,fp,S,q⟩:=h;unfold qy at q;refine tE.bq S λx v H1 F1 f1 e1 g1 r1 n1 d1 w1=>?_;rw[e1]at q;simp only[Res.J4]at q;cases es:a6 x with
 |none=>rw[es]at q;exact q.elim
 |some xs=>
  rw[es]at q;obtain⟨a,vs,f',rfl,hs,hr,_⟩:=r1.seq es;rw[hK];have key:∀(tp:Bool),Sq tp T.K H1 a vs->(∀H2,Ext H1 H2->Sq tp T.K H2 a vs)->ItC T F1 Z.B (Own fp) H1 (Ite tp T.K 0 a) (enP 0 xs):=by intro tp _ hq H2 hx;have hq2:=hq H2 hx;refine⟨λi x ex=>?_,⟨vs,hq2,by rw[fF,hr.length];exact Nat.le_refl _⟩⟩;rw[gn]at ex;obtain⟨y,ey,rfl⟩:=map_eq_some_iff.mp ex;obtain⟨v,f,ev,rv,_⟩:=hr.get ey;refine⟨⟨vs,v,hq2,ev⟩,λw H3 hy=>?_⟩;obtain⟨p,y',hp,rfl,rfl,hall⟩:=hy;have:=hall vs hq2;rw[ev]at this;cases this;exact⟨Ext.upd hp,f,λb hb=>rv.there b hb,jV hp (rv.ext hx λ_ h=>h)⟩
  rcases hs with hs|hs
  .refine⟨a,false,vs,rfl,hs,q _ H1 F1 g1 (key false hs λH2 hx=>?_)⟩;rcases hs with z|z
   .exact .inl (Rd.tr (λo q=>hx a o q) z)
   .exact .inr z
  .exact⟨a,true,vs,rfl,hs,q _ H1 F1 g1 (key true hs λH2 hx=>SqT.tr (λo q _=>hx a o q) hs)⟩)
end
def oU(i j:Nat):MS:=λenv=>match env[i]?,env[j]? with
 |some (some v),some (some w)=>if i=j then .stuck else .ret (.tup [v,w])
 |_,_=>.stuck
section
variable{X:Cx}{T:Tb}{W:Nat->St->JR}{Z:Zn}{F F1 B L:JJ}{H H1:Hp}{Y:St}{env:En}{fp:Nat->JM}{D:Ends}
def pR{x1}(hN:X.N[i]?=some x)(hv:Vis X.env.scope x)(hN2:X.N[j]?=some y)(hv2:Vis X.env.scope y)(hd:(x ==("__debug__":Str))=false:=by decide)(hcd:(x ==("__classdict__":Str))=false:=by decide)(hd2:(y ==("__debug__":Str))=false:=by decide)(hcd2:(y ==("__classdict__":Str))=false:=by decide) :
  SS X T W (.Return (some (.Tuple [.Name x px,.Name y py] x1 tpos)) pos) (oU i j):=
 PS.wk (r_ (pos:=pos) (wR (pos:=tpos) (dR (te:=CT i) (fR (pos:=px) hN hv hd hcd) (dR (te:=CT j) (fR (pos:=py) hN2 hv2 hd2 hcd2) g8)))) λD Y H hz1=>by
  obtain⟨Z,F,env,fp,S,q⟩:=hz1;unfold oU at q;split at q
  case h_2=>exact q.elim
  rename_i pv pw ei ej
  split at q
  case isTrue=>exact q.elim
  rename_i hij
  obtain⟨v,e1,r1⟩:=S.rel i pv ei;obtain⟨w,e2,r2⟩:=S.rel j pw ej;refine⟨v,e1,w,e2,small (by simp),λp hp=>?_⟩;have g:Gr F H F (upd H p (.tup [v,w])):=Gr.same S.hp.ft (Ext.upd hp);have S2:=S.grow g;obtain⟨v',e1',r1'⟩:=S2.rel i pv ei;obtain⟨w',e2',r2'⟩:=S2.rel j pw ej;rw[e1]at e1';cases e1';rw[e2]at e2';cases e2';refine q F (upd H p (.tup [v,w])) (.ref p) (fp i++fp j) S2.hp ?_ (nodup_append.mpr ⟨S.nd i,S.nd j,λa ha b hb z=>?_⟩) (λa ha=>?_) (λa ha=>?_)
  .unfold Rel;refine⟨p,_,rfl,SqT.of ce,?_⟩;unfold RelL;refine⟨v,[w],fp i,fp j,rfl,r1',?_,rfl⟩;unfold RelL;exact⟨w,[],fp j,[],rfl,r2',by unfold RelL;exact⟨rfl,rfl⟩,by simp⟩
  .subst z;exact S.dj i j hij a ha hb
  .rcases mem_append.mp ha with h|h
   .exact(S2.dis i a h).1
   .exact(S2.dis j a h).1
  .rcases mem_append.mp ha with h|h
   .exact S.new i a h
   .exact S.new j a h
end
section
variable{P:Program}{w:World}{mg:JG}{base:Heap}{T:Tb}
def EC(F:Fun T.K x qual st f fd)(S:eW N ps (aQ st))
  (body:∀ (cdv:Value) (A:Around) (outer:List Env) (s:Shared) (H:Hp) (E:XK),Ctx (fG (CXP P w) P w T.K mg base N qual (aQ st) f cdv A outer s H E) T (WD T E) k ->
   SSs (fG (CXP P w) P w T.K mg base N qual (aQ st) f cdv A outer s H E) T (WD T E) (cM st) m):dD P w T.K mg base (CXP P w) (k+1) f fd ps (spM T ps.length (bh N.length m)):=
 HF F S λcdv A outer s H E hr=>body cdv A outer s H E (uu hr)
def BQ(F:Fun T.K x qual st f fd)(S:eW N ps (aQ st))
  (body:∀ (cdv:Value) (A:Around) (outer:List Env) (s:Shared) (H:Hp) (E:XK),Ctx (fG (CXP P w) P w T.K mg base N qual (aQ st) f cdv A outer s H E) T (WD T E) k ->
   SSs (fG (CXP P w) P w T.K mg base N qual (aQ st) f cdv A outer s H E) T (WD T E) (cM st) m):dD P w T.K mg base (CXP P w) (k+1) f fd ps (spI T ps.length (jo N.length m)):=
 EE F S λcdv A outer s H E hr=>body cdv A outer s H E (uu hr)
end
end
section
section
variable{X:Cx}{T:Tb}{W:Nat->St->JR}{Z:Zn}{F F1 B L:JJ}{H H1:Hp}{Y:St}{env:En}{fp:Nat->JM}{D:Ends}{ks:List Nat}
def ax.drop(S:ax T Z F H Y env fp)(h0:n≠0):ax T Z F H Y (env.set n none) (bR fp n []):=by
 refine⟨S.hp,by rw[length_set,S.len],λi pv e=>?_,λi=>?_,λi j hij a ha hb=>?_,λi a ha=>?_,λi a ha=>?_,λi a ha=>?_,λv hv=>?_⟩
 .by_cases hi:i=n
  .subst hi;rw[getElem?_set]at e;simp at e
  .rw[getElem?_set_ne (Ne.symm hi)]at e;obtain⟨v,h1,h2⟩:=S.rel i pv e;exact⟨v,h1,by unfold bR;rw[if_neg hi];exact h2⟩
 .unfold bR;split;exact nodup_nil;exact S.nd i
 .unfold bR at ha hb;split at ha
  .cases ha
  .split at hb
   .cases hb
   .exact S.dj i j hij a ha hb
 .unfold bR at ha;split at ha;cases ha;exact S.dis i a ha
 .unfold bR at ha;split at ha;cases ha;exact S.new i a ha
 .unfold bR at ha;split at ha;cases ha;exact S.ch i a ha
 .obtain⟨h1,h2⟩:=S.pn v hv;refine⟨h1,?_⟩;unfold dw at h2 ⊢;rw[getElem?_set_ne h0];exact h2
def wj{α:Type}{l:List α}{i:Nat}{x:α}(h:l[i]?=some x):l.set i x=l:=by obtain⟨hi,e⟩:=List.getElem?_eq_some_iff.mp h;rw[<- e];exact List.set_getElem_self hi
end
open AutoSeq1 (wpAny_loadPart')
def oB(m:ME)(r c t:Nat):JS->JS->PV->En->Out
 | [],_,_,e=>.next e
 |x::xs,rows,cv,e=>match m (((e.set t (some x)).set r none).set c (some cv))with
  |.ok (.tup [a,b])=>if(PV.tup [a,b]).has Fl.J0 ||(PV.tup [a,b]).has Fl.JZ||decide (1000000<=rows.length)then .stuck else oB m r c t xs (rows++[.tup [a,b]]) b.JX ((e.set t (some x)).set r (some (.lst .own (rows++[.tup [a,b]]))))
  |_=>.stuck
def t5(mi:MI)(r c t:Nat)(m:ME):MS:=λenv=>match mi env with
 | .ok xs=>(match env[r]?,env[c]? with
  |some (some (.lst .own rows)),some (some cv)=>oB m r c t xs rows cv.JX (env.set c none)
  |_,_=>.stuck)
 |.exc c=>.exc c env
 |.stuck=>.stuck
section
variable{X:Cx}{T:Tb}{W:Nat->St->JR}{Z:Zn}{F F1 B L:JJ}{H H1:Hp}{Y:St}{env:En}{fp:Nat->JM}{D:Ends}
def ax.wideB(S:ax T Z F H Y env fp)(h1:∀a,Z.B a->B' a)(h2:∀a,B' a->(∃o,Z.H0 a=some o)/\¬Z.fp0 a):ax T ⟨Z.H0,Z.F0,Z.fp0,B',Z.pin⟩ F H Y env fp:=
 ⟨⟨⟨h2,S.hp.bo.2⟩,S.hp.keep,S.hp.f0,S.hp.fn,S.hp.ft⟩,S.len,λi pv e=>by
  obtain⟨v,q1,q2⟩:=S.rel i pv e;exact⟨v,q1,Rel.tr (λ_ h=>h) h1 (λ_ h=>h) (λ_ _ h _=>h) (λ_ _ _ h=>h) q2⟩,S.nd,S.dj,S.dis,S.new,S.ch,S.pn⟩
def ax.blind(S:ax T Z F H Y env fp)(h0:c≠0)(hc:env[c]?=some none)(v:V):ax T Z F H (Y.set c (some v)) env fp:=
 ⟨S.hp,by rw [length_set,S.len],λi pv e=>by
  have:i≠c:=by rintro rfl;rw[hc]at e;cases e
  rw[getElem?_set_ne (Ne.symm this)];exact S.rel i pv e,S.nd,S.dj,S.dis,S.new,S.ch,λw hw=>by
  rw[getElem?_set_ne h0];exact S.pn w hw⟩
def ax.bOut(S:ax T Z F H Y env fp)(h:Z.B a):(∃o,H a=some o)/\∀j,a∉fp j:=by
 obtain⟨⟨o,h1⟩,h2⟩:=S.hp.bo.1 a h;refine⟨⟨o,S.hp.keep a o h1 h2⟩,λj hj=>?_⟩;rcases S.new j a hj with z|z
 .rw[h1]at z;cases z
 .exact h2 z
def VB(H:Hp)(fp:Nat->JM)(r:Nat)(ra:Addr):JJ:=λa=>(∃o,H a=some o)/\a≠ra/\∀j,j≠r->a∉fp j
theorem atI_last(ws:JQ)(u:V):atI (ws++[u]) (-1)=some u:=by
 unfold atI;have e:ixN (ws++[u]).length (-1)=some ws.length:=by rw[length_append,List.length_singleton];unfold ixN;rw[if_neg (),if_pos ()];congr 1;omega
 rw[e];simp
theorem As{r c t:Nat}{k1 k2}{nr nc nt:Str}{iter e:Expr}{mi:MI}{m:ME}{pos pt p1 p2 p3 p4 p5 p6 p7 p8 p9 p10 p11 p12:Pos}(hp:PassesOwn (model X.prog X.w) X.A X.env X.xe)(hc:X.calm=true)(hK:X.K=T.K)(hN:X.N.Nodup)
  (hr:X.N[r]?=some nr) (hvr:Vis X.env.scope nr) (hcn:X.N[c]?=some nc) (hlc:Loc X.env.scope nc) (ht:X.N[t]?=some nt) (hlt:Loc X.env.scope nt) (r0:r≠0) (c0:c≠0) (t0:t≠0) (rc:r≠c) (rt:r≠t) (ct:c≠t)
  (hi:SI X T W (.Name nt pt) iter mi) (he:SE X T W e m)
  (hs:swapsWith (.Call (.Attribute (.Name nr p1) "append" p2) [e] [] p3) none p4.line X.env=pure false:=by rfl) (hst:starEach [e] X.env=[(false,eval e X.env)]:=by rfl)
  (hfew:((backTo p3 (starEach [e] X.env)).all (λx=>!x.1)&&(backToKw p3 (keywordEach [] X.env)).all (λx=>x.1.isSome)&&decide ([e].length+([]:List Keyword).length+(if([]:List Keyword).isEmpty then 0 else 1)<30))=true:=by rfl)
  (hline:(p2.endLine==p3.line)=true:=by rfl) (hd:(nr ==("__debug__":Str))=false:=by decide) (hcd:(nr ==("__classdict__":Str))=false:=by decide)
  (hs2:swapsWith (.Subscript (.Subscript (.Name nr p6) (.UnaryOp .USub (.Constant (.int 1) k1 p7) p8) p9) (.Constant (.int 1) k2 p10) p11) (some (.Name nc p5)) p12.line X.env=pure false:=by rfl)
  (hfc:X.fn nc=true\/X.env.scope.names.lookup nc=some .local:=by first|exact .inl rfl|exact .inr rfl|assumption) (hft:X.fn nt=true\/X.env.scope.names.lookup nt=some .local:=by first|exact .inl rfl|exact .inr rfl|assumption)
  (hx1:io (.UnaryOp .USub (.Constant (.int 1) k1 p7) p8):=by intro _ _;rfl) (hx2:io (.Constant (.int 1) k2 p10):=by intro _ _;rfl)
  (hsf:∀x,foldedSetIterable iter X.env x=pure x:=by intro _;rfl) :
  SS X T W (.For (.Name nt pt) iter [.Expr (.Call (.Attribute (.Name nr p1) "append" p2) [e] [] p3) p4,.Assign [.Name nc p5] (.Subscript (.Subscript (.Name nr p6) (.UnaryOp .USub (.Constant (.int 1) k1 p7) p8) p9) (.Constant (.int 1) k2 p10) p11) p12] [] pos) (t5 mi r c t m):=
 PS.wk (wK (pos:=pos) hp hc hi (oH (pos:=pt) hN ht hlt hft) (qg (jY (pos:=p4) (wX (cpos:=p3) (apos:=p2) PySem.F.plainAttrs_list PySem.F.slot_list_append PySem.F.type_list_append kB (fR (pos:=p1) hr hvr hd hcd) (aa he af hst) rfl hfew hline hst) hs)
  (tN (wJ (pos:=p12) hN hcn hlc (wU (pos:=p11) oZ (wU (pos:=p9) oZ (fR (pos:=p6) hr hvr hd hcd) (Cn (pos:=p8) v8 (oI (i:=1) (j:=k1) (pos:=p7))) hx1) (oI (i:=1) (j:=k2) (pos:=p10)) hx2) hs2 hfc))) hsf) λD Y H hz1=>by
  obtain⟨Z,F,env,fp,S,q⟩:=hz1;unfold t5 at q;refine⟨Z,F,env,fp,S,?_⟩;cases em:mi env with
  |exc x=>rw[em]at q;exact λH' x=>q F H' Y fp (S.grow (Gr.same S.hp.ft x))
  |stuck=>rw[em]at q;exact q
  |ok xs=>
   rw[em]at q;dsimp only at q;intro J H1 F1 g1 it;have S1:=S.grow g1;split at q
   case h_2=>exact q.elim
   rename_i rows cv er ec
   obtain⟨ra,ws,fpr,hra,hla,hrr,hfr⟩:=S1.lst er;obtain⟨v0,hv0,rv0⟩:=S1.rel c cv ec;have ram:ra∈fp r:=by rw[hfr];exact mem_cons_self
   have cl:c<env.length:=(List.getElem?_eq_some_iff.mp ec).1;refine ⟨λi n σ2 H2=>n=xs.length - i/\i <= xs.length/\∃ F2 env2 fp2 rows cv v,ax T (Z.re F1 H1 fp) F2 H2 σ2 env2 fp2/\env2[r]?=some (some (.lst .own rows))/\env2[c]?=some none/\σ2[c]?=some (some v)/\σ2[r]?=some (some (.ref ra))/\Rel T F2 (VB H2 fp2 r ra) NoL H2 cv v []/\GS T W Z D (oB m r c t (xs.drop i) rows cv env2),
    ⟨xs.length,by simp,zero_le _,F1,env.set c none,bR fp c [],rows,cv.JX,v0,S1.enter.drop c0,by rw[getElem?_set_ne (Ne.symm rc)];exact er,by rw[getElem?_set];simp[cl],hv0,hra,Rel.JX (λa h=>?_) (λa h=>h.elim) (λa h=>?_) rv0,q⟩,?_⟩
   .obtain⟨h1,h2⟩:=S1.bOut h;refine⟨h1,λz=>h2 r (by rw[z];exact ram),λj _ hj=>?_⟩;unfold bR at hj;split at hj
    .cases hj
    .exact h2 j hj
   .refine⟨(S1.dis c a h).2,λz=>S1.dj c r (Ne.symm rc) a h (by rw[z];exact ram),λj _ hj=>?_⟩;unfold bR at hj;split at hj
    .cases hj
    .rename_i jc
     exact S1.dj c j (Ne.symm jc) a h hj
   clear q er ec hla hrr hfr hv0 rv0 ws fpr;rintro i n σ2 H2 ⟨rfl,hi',F2,env2,fp2,rows,cv,v,S2,er,ec,hv,hra2,rcv,q2⟩;obtain⟨go,stop⟩:=it H2 S2.hp.keep;by_cases hlt':i<xs.length
   .have hx:xs[i]?=some xs[i]:=by simp[hlt']
    obtain⟨g1',yl⟩:=go i _ hx;refine .inr ⟨g1',λσ3 H3=>∃F2 env2 fp2 rows cv v,ax T (Z.re F1 H1 fp) F2 H3 σ3 env2 fp2/\env2[r]?=some (some (.lst .own rows))/\env2[c]?=some none/\σ3[c]?=some (some v)/\σ3[r]?=some (some (.ref ra))/\Rel T F2 (VB H3 fp2 r ra) NoL H3 cv v []/\GS T W Z D (oB m r c t (xs.drop (i+1)) rows cv env2),λσ3 H3 h3=>⟨xs.length-(i+1),by omega,rfl,hlt',h3⟩,λx H3 hy=>?_⟩;obtain⟨ex3,rx⟩:=yl x H3 hy;rw[List.drop_eq_getElem_cons hlt']at q2;unfold oB at q2;have S3:=(S2.grow (Gr.same S2.hp.ft ex3)).put (i:=t) (pv:=xs[i]) (v:=x) (f:=[]) (rx.ext Ext.refl S2.hp.f0) nodup_nil (λ_ z=>(nomatch z)) (λ_ z=>(nomatch z)) (λ_ z=>(nomatch z)) (by simp[aO,t0]);show Gk _ _ _ (σ2.set t (some x)) H3;split at q2
    case h_2=>exact q2.elim
    rename_i pa pb em2
    split at q2
    .exact q2.elim
    rename_i hnb
    simp only[or_eq_true,decide_eq_true_eq,not_or,Bool.not_eq_true]at hnb;obtain⟨⟨nb,nl⟩,nrow⟩:=hnb;have hv3:(σ2.set t (some x))[c]?=some (some v):=by rw[getElem?_set_ne (Ne.symm ct)];exact hv
    have hra3:(σ2.set t (some x))[r]?=some (some (.ref ra)):=by rw[getElem?_set_ne (Ne.symm rt)];exact hra2
    have er3:(env2.set t (some xs[i]))[r]?=some (some (.lst .own rows)):=by rw[getElem?_set_ne (Ne.symm rt)];exact er
    have ec3:(env2.set t (some xs[i]))[c]?=some none:=by rw[getElem?_set_ne (Ne.symm ct)];exact ec
    obtain⟨ra',ws,fpr,hra',hla,hrr,hfr⟩:=S3.lst er3;rw[hra3]at hra';cases hra';generalize hσ3:σ2.set t (some x)=σ3 at *;generalize henv3:env2.set t (some xs[i])=env3 at *;generalize hfp3:bR fp2 t []=fp3 at *;have ram3:ra∈fp3 r:=by rw[hfr];exact mem_cons_self
    have sub3:∀j a,a∈fp3 j->a∈fp2 j:=λj a h=>by
     rw[<- hfp3]at h;unfold bR at h;split at h
     .cases h
     .exact h
    have S4:=(S3.drop r0).enter;have S5:=S4.wideB (B':=λa=>(∃ o,H3 a=some o)/\¬ Own (bR fp3 r []) a) (λa h=>by
     obtain⟨h1,h2⟩:=S3.bOut h;refine⟨h1,λ⟨j,hj⟩=>?_⟩;unfold bR at hj;split at hj
     .cases hj
     .exact h2 j hj) (λa h=>h)
    have rcv3:Rel T F2 (λa=>(∃ o,H3 a=some o)/\¬ Own (bR fp3 r []) a) NoL H3 cv v []:=Rel.tr (λ_ h=>h) (λa h=>⟨let ⟨o,q⟩:=h.1;⟨o,ex3 a o q⟩,λhz1=>by
     obtain⟨j,hj⟩:=hz1;unfold bR at hj;split at hj
     .cases hj
     .rename_i jr
      exact h.2.2 j jr (sub3 j a hj)⟩) (λ_ h=>h) (λa o q _=>ex3 a o q) (λa _ o q=>ex3 a o q) rcv
    have S6:=S5.put (i:=c) (pv:=cv) (v:=v) (f:=[]) rcv3 nodup_nil (λ_ z=>(nomatch z)) (λ_ z=>(nomatch z)) (λ_ z=>(nomatch z)) (by simp[aO,c0]);rw[wj hv3]at S6;refine⟨_,hra3,.inl ⟨rfl,ws,by rw[hK];exact SqL.of hla⟩,_,F2,_,_,S6,?_⟩;unfold ae ao;rw[em2];intro vs H4 F4 f4 g r4 n4 d4 w4;obtain⟨u,rfl,ru⟩:=r4.one;have S7:=S3.grow g;have hl4:=g.ext ra _ hla;refine⟨ra,ws,u,rfl,rfl,hl4,?_,?_⟩
    .rw[<- hrr.length,sizeLine_eq];omega
    have ru':Rel T F4 (Z.re F1 H1 fp).B NoL H4 (.tup [pa,pb]) u f4:=Rel.noL nl (Rel.noB nb ru);have rone:RelL T F4 (Z.re F1 H1 fp).B NoL H4 [.tup [pa,pb]] [u] f4:=by unfold RelL;exact⟨u,[],f4,[],rfl,ru',by unfold RelL;exact⟨rfl,rfl⟩,by simp⟩
    have bes:=S3.beside g n4 w4;have S8:=S7.mutL (v:=u) er3 hra3 hfr (RelL.append (hrr.ext g.ext g.mono) rone) (by
     grind[bR,ax,cF,Gr]) (λb hb=>by
     rcases mem_append.mp hb with hb|hb
     .exact .inl hb
     .exact .inr (bes b hb)) hl4
    unfold Rel at ru';obtain⟨ta,tvs,rfl,hsq,hrl⟩:=ru';unfold RelL at hrl;obtain⟨va,w1,fa,fb0,rfl,hra4,hrl,ef4⟩:=hrl;unfold RelL at hrl;obtain⟨vb,w2,fb,fz,rfl,hrb4,hrl,efb⟩:=hrl;unfold RelL at hrl;obtain⟨rfl,rfl⟩:=hrl;have fbm:∀a∈fb,a∈f4:=λa ha=>by rw[ef4,efb];simp[ha]
    have raF:¬F4 ra:=(S7.dis r ra ram3).1;have raB:¬(Z.re F1 H1 fp).B ra:=λz=>(S7.bOut z).2 r ram3;have nfix:∀o,H4 ra=some o->¬iY o:=λo h=>by rw[hl4]at h;cases h;exact λz=>z
    have keep8:∀a o,H4 a=some o->a≠ra->upd H4 ra (.lst (ws++[V.ref ta])) a=some o:=λa o h n=>by unfold upd;rw[if_neg n];exact h
    have hsq8:SqT T.K (upd H4 ra (.lst (ws++[V.ref ta]))) ta [va,vb]:=SqT.tr (λo h1 h2=>keep8 ta o h1 λz=>nfix o (by rw[<- z];exact h1) h2) hsq;have hrb8:Rel T F4 (Z.re F1 H1 fp).B NoL (upd H4 ra (.lst (ws++[V.ref ta]))) pb vb fb:=Rel.tr (λ_ h=>h) (λ_ h=>h) (λ_ h=>h) (by grind) (λa ha o h=>keep8 a o h λz=>(bes a (fbm a ha)).2.2 r (by rw[z];exact ram3)) hrb4;have ra8:upd H4 ra (.lst (ws++[V.ref ta])) ra=some (.lst (ws++[V.ref ta])):=by unfold upd;simp
    refine⟨_,hra3,1,rfl,.inl ⟨ra,ws++[V.ref ta],-1,V.ref ta,rfl,rfl,by rw[hK];exact SqL.of ra8,atI_last ws _,.inr (.inl ⟨ta,[va,vb],1,vb,rfl,rfl,by rw[hK];exact hsq8,rfl,?_⟩)⟩⟩;have ec8:(env3.set r (some (.lst .own (rows++[.tup [pa,pb]]))))[c]?=some none:=by rw[getElem?_set_ne rc];exact ec3
    have rl:r<env3.length:=(List.getElem?_eq_some_iff.mp er3).1;have cl3:c<σ3.length:=(List.getElem?_eq_some_iff.mp hv3).1;refine⟨F4,_,_,rows++[.tup [pa,pb]],pb.JX,vb,S8.blind c0 ec8 vb,by rw[getElem?_set];simp[rl],ec8,by rw[getElem?_set];simp[cl3],by rw[getElem?_set_ne (Ne.symm rc)];exact hra3,Rel.JX (λa h=>?_) (λa h=>h.elim) (λa h=>?_) hrb8,q2⟩
    .obtain⟨h1,h2⟩:=S8.bOut h;refine⟨h1,λz=>h2 r (by rw[z];unfold bR;simp),λj _=>h2 j⟩
    .have b4:=bes a (fbm a h);have na:a≠ra:=λz=>b4.2.2 r (by rw[z];exact ram3);refine⟨?_,na,λj jr hj=>?_⟩
     .obtain⟨o,ho⟩:=hrb8.there a h;exact⟨o,ho⟩
     .unfold bR at hj;rw[if_neg jr]at hj;exact b4.2.2 j hj
   .have e:i=xs.length:=by omega
    subst e;rw[drop_length]at q2;unfold oB at q2;exact .inl ⟨stop,q2 F2 H2 σ2 fp2 (S1.leave S2)⟩
end
open PySem.W (findIn fnOf keepIn nsIn codeIn isFn Frag)
structure FS where
 q:Str
 s:Stmt
 k:Nat
 N:JN
 c:Option Nat
def cE(s:Stmt):Str:=match s with
 |.FunctionDef n _ _ _ _ _ _ _ _ _=>n
 |_=>""
structure Clo(H:Hp)(fr:JN)(cl:List (Str×Addr))(cvs:JQ):Prop where
 inj:∀x y c,cl.lookup x=some c->cl.lookup y=some c->x=y
 sub:∀x c,cl.lookup x=some c->x∈fr
 len:cvs.length=fr.length
 val:∀(i:Nat) x v,fr[i]?=some x->cvs[i]?=some v->∃c o u z,cl.lookup x=some c/\H c=some (.frz o u)/\o.data=.cell (some z)/\bV v z
def Clo.tr(C:Clo H fr cl cvs)(h:∀b o u,H b=some (.frz o u)->H' b=some (.frz o u)):Clo H' fr cl cvs:=
 ⟨C.inj,C.sub,C.len,λi x v h1 h2=>let⟨c,o,u,z,q1,q2,q3⟩:=C.val i x v h1 h2;⟨c,o,u,z,q1,h _ _ _ q2,q3⟩⟩
structure FI where
 name:Str
 qual:Str
 params:Arguments
 body:List Stmt
 scope:Scope
 fr:JN
def FI.bx(i:FI)(H:Hp)(f:Addr)(cvs:JQ):Prop:=∃cl doc pm ctv c' oc u u' vs t,H f=some (.frz (PySem.W.fnMade i.name i.qual i.params i.body i.scope cl doc pm c' ctv) u)/\
 H c'=some (.frz oc u')/\oc.data=.fields vs/\vs[1]?=some (.str i.qual t)/\Clo H i.fr cl cvs
def FI.bxs{i:FI}(h:∀b o u,H b=some (.frz o u)->H' b=some (.frz o u))(q:i.bx H f cvs):i.bx H' f cvs:=by obtain⟨cl,doc,pm,ctv,c',oc,u,u',vs,t,h1,h2,h3,h4,C⟩:=q;exact⟨cl,doc,pm,ctv,c',oc,u,u',vs,t,h _ _ _ h1,h _ _ _ h2,h3,h4,C.tr h⟩
structure NFd where
 i:Nat
 j:Nat
 q:Str
 k:Nat
 fr:JN
 N:JN
structure PT where
 F:List FS
 C:JN
 X:JN
 A:JN
 M:List (Nat×Str×Nat)
 Mk:List (Nat×Nat)
 U:List (Nat×Nat)
 B:JN
 I:List (Str×Int)
 KT:List (Option Nat×String×List Bool)
 HT:List (Nat×List Bool)
 D:List (JN):=[]
 G:Option NFd:=none
def fs0:FS:=⟨"",.Pass ⟨0,0,0,0⟩,0,[],none⟩
def pk{α:Type}(d:α)(l:List α)(i:Nat):α:=l.getD i (l.headD d)
def g7{α:Type}{d:α}{p:α->Prop}{l:List α}(hl:l≠[])(h:∀x∈l,p x)(i:Nat):p (pk d l i):=by
 unfold pk;rw[getD_eq_getElem?_getD];cases e:l[i]? with
 |some C=>exact h C (List.mem_of_getElem? e)
 |none=>
  cases l with
  |nil=>exact absurd rfl hl
  |cons a l=>exact h a mem_cons_self
section
variable(p:PT)(K:Frag)
def gAt(x:Str):Addr:=match nsIn K mainGlobals x with
 |some (some (.ref a))=>a
 |_=>0
def mAt(c:Addr)(x:Str):Addr:=match findIn K (.ref c) x with
 |some (some (.ref a))=>a
 |_=>0
def dAt(f:Addr):FuncData:=match K.lookup f with
 |some ⟨_,_,.func d,_⟩=>d
 |_=>default
def PT.fs(i:Nat):FS:=pk fs0 p.F i
def PT.ps(i:Nat):JN:=(p.fs i).N.take (p.fs i).k
def PT.ca(c:Nat):Addr:=gAt K (pk "" p.C c)
def PT.xa(c:Nat):Addr:=gAt K (pk "" p.X c)
def PT.fx(x:FS):Addr:=match x.c with
 |none=>gAt K (cE x.s)
 |some c=>mAt K (p.ca K c) (cE x.s)
def PT.fa(i:Nat):Addr:=p.fx K (p.fs i)
def lit(x:FS):Obj->Obj
 |⟨oc,od,.func d,sl⟩=>⟨oc,od,.func (fnOf (cE x.s) x.q (eV x.s) (cM x.s) (aQ x.s) .none d.kwdefaults d.doc d.pyModule d.annotations d.code d.closureTuple),sl⟩
 |o=>o
def Hu:Option Obj->Bool
 |some ⟨_,_,.func _,_⟩=>true
 |_=>false
def scB(x:FS):Bool:=decide ((aQ x.s).kind=.function)&&!(aQ x.s).isCoroutine&&!(aQ x.s).isGenerator&&decide x.N.Nodup&&decide (x.k<=x.N.length) &&
 (x.N.take x.k).all (λy=>decide ((aQ x.s).names.lookup y=some .local \/(aQ x.s).names.lookup y=some .cell))&&(aQ x.s).names.all (λy=>decide (y.2≠.free))
def PT.chF(x:FS):Bool:=Hu (K.lookup (p.fx K x))&&codeIn K (dAt K (p.fx K x)).code x.q&&keepIn K (.ref (p.fx K x))&&(match x.c with|none=>decide (nsIn K mainGlobals (cE x.s)=some (some (.ref (p.fx K x))))|some _=>true)
def chC(A:JN)(x:Str):Bool:=plainGet K (gAt K x) Str.empty&&hasDictIn K (gAt K x)&&plainOver K (gAt K x)&&decide (findIn K (.ref (gAt K x)) "__setattr__"=some (some (.builtin "object.__setattr__"))) &&
 decide (nsIn K mainGlobals x=some (some (.ref (gAt K x))))&&A.all (λy=>decide (findIn K (.ref (gAt K x)) y=some none))
def PT.chM(x:Nat×Str×Nat):Bool:=decide (findIn K (.ref (p.ca K x.1)) x.2.1=some (some (.ref (p.fa K x.2.2))))&&isFn K (.ref (p.fa K x.2.2))&&keepIn K (.ref (p.fa K x.2.2))
def PT.chK(x:Nat×Nat):Bool:=makesIn K (p.ca K x.1)&&decide (findIn K (.ref (p.ca K x.1)) "__init__"=some (some (.ref (p.fa K x.2))))&&isFn K (.ref (p.fa K x.2))&&keepIn K (.ref (p.ca K x.1))
def Cw(f:Addr):Option PySem.W.CFound->Bool
 |some (.val (.ref a))=>decide (a=f)
 |_=>false
def PT.chU(x:Nat×Nat):Bool:=decide (specialIn K (.ref (p.ca K x.1)) "__getattribute__"=some (some (.builtin "type.__getattribute__")))&&readsIn K (p.ca K x.1) (.type "type")&&Cw (p.fa K x.2) (findCls K (.ref (p.ca K x.1)) (.type "type") "__init__")&&keepIn K (.ref (p.fa K x.2))
def tgV(y:Option Nat×String×List Bool):Value:=match y.1 with
 |some x=>.ref (p.xa K x)
 |none=>.type y.2.1
def chX(x:Str):Bool:=decide (nsIn K mainGlobals x=some (some (.ref (gAt K x))))&&vL K (gAt K x)
def chI(x:Str×Int):Bool:=match nsIn K mainGlobals x.1 with
 |some (some (.int i _))=>decide (i=x.2)
 |_=>false
def PT.chT(y:Option Nat×String×List Bool):Bool:=decide (p.X.map (λx=>kitOne K (.ref (gAt K x)) (tgV p K y))=y.2.2.map some)
def PT.chH(y:Nat×List Bool):Bool:=decide (p.X.map (λx=>exmOne K (.ref (gAt K x)) (.ref (p.xa K y.1)))=y.2.map some)
def PT.ch1:Bool:=p.F.all (p.chF K)
def PT.ch2:Bool:=p.C.all (chC K p.A)&&p.Mk.all (p.chK K)&&p.U.all (p.chU K)&&p.X.all (chX K)&&p.B.all (λx=>decide (nsIn K mainGlobals x=some none))&&p.I.all (chI K)&&p.KT.all (p.chT K)&&p.HT.all (p.chH K)
def PT.ch3:Bool:=p.M.all (p.chM K)
def PT.ob:List (Option Obj):=p.F.map λx=>K.lookup (p.fx K x)
def PT.ol:List (Option Obj):=p.F.map λx=>(K.lookup (p.fx K x)).map (lit x)
end
structure Tx(p:PT)(K:Frag)(mg:JG):Prop where
 fn:∀i,Fun K (cE (p.fs i).s) (p.fs i).q (p.fs i).s (p.fa K i) (dAt K (p.fa K i))
 sc:∀i,eW (p.fs i).N (p.ps i) (aQ (p.fs i).s)
 bn:∀i,f8 K (dAt K (p.fa K i)) (p.ps i) []
 gl:∀i,(p.fs i).c=none->mg (cE (p.fs i).s)=some (.ref (p.fa K i))
 cl:∀c,Cls K (p.ca K c)
 cg:∀c,mg (pk "" p.C c)=some (.ref (p.ca K c))
 cn:∀c,∀x∈p.A,fv K (p.ca K c) x
 me:∀x∈p.M,Ch K (p.ca K x.1) x.2.1 (p.fa K x.2.2)
 mm:∀x∈p.Mk,Mk K (p.ca K x.1) (p.fa K x.2)
 su:∀x∈p.U,Sup K (p.ca K x.1) (p.fa K x.2)
 xg:∀c,mg (pk "" p.X c)=some (.ref (p.xa K c))
 xe:∀c,vL K (p.xa K c)=true
 bi:∀x∈p.B,mg x=none
 ci:∀x∈p.I,∃tk,mg x.1=some (.int x.2 tk)
 kt:∀y∈p.KT,∀c,kitOne K (.ref (p.xa K c)) (tgV p K y)=some (qk y.2.2 c)
 ht:∀y∈p.HT,∀c,exmOne K (.ref (p.xa K c)) (.ref (p.xa K y.1))=some (qk y.2 c)
def Bnd(x:FS):Prop:=∀(kV doc pm:Value) (an:Option Addr) (cdv ct:Value) (us:JL),us.length=(x.N.take x.k).length->bindArgs (fnOf (cE x.s) x.q (eV x.s) (cM x.s) (aQ x.s) .none kV doc pm an cdv ct) ⟨us,[]⟩=pure ((x.N.take x.k).zip us)
def Ag:List FS->Prop
 | []=>True
 |x::l=>Bnd x/\Ag l
def Ag.get:∀{l:List FS},Ag l->∀x∈l,Bnd x
 | [],_,_,h=>nomatch h
 |y::l,⟨h1,h2⟩,x,h=>by
  rcases mem_cons.mp h with rfl|h
  .exact h1
  .exact h2.get x h
section
variable{x:FS}
def lsS{us:JL}(h:us.length=n+1):∃a r,us=a::r/\r.length=n:=by
 cases us with
 |nil=>cases h
 |cons a r=>exact⟨a,r,rfl,Nat.succ.inj h⟩
def bn1(h:∀(kV doc pm:Value) (an:Option Addr) (cdv ct u1:Value),bindArgs (fnOf (cE x.s) x.q (eV x.s) (cM x.s) (aQ x.s) .none kV doc pm an cdv ct) ⟨[u1],[]⟩=pure ((x.N.take x.k).zip [u1]):=by intros;rfl)(hk:(x.N.take x.k).length=1:=by rfl):Bnd x:=λkV doc pm an cdv ct us hl=>by rw[hk]at hl;obtain⟨_,_,rfl,l1⟩:=lsS hl;cases List.eq_nil_of_length_eq_zero l1;exact h ..
def bn2(h:∀(kV doc pm:Value) (an:Option Addr) (cdv ct u1 u2:Value),bindArgs (fnOf (cE x.s) x.q (eV x.s) (cM x.s) (aQ x.s) .none kV doc pm an cdv ct) ⟨[u1,u2],[]⟩=pure ((x.N.take x.k).zip [u1,u2]):=by intros;rfl)(hk:(x.N.take x.k).length=2:=by rfl):Bnd x:=λkV doc pm an cdv ct us hl=>by rw[hk]at hl;obtain⟨_,_,rfl,l1⟩:=lsS hl;obtain⟨_,_,rfl,l2⟩:=lsS l1;cases List.eq_nil_of_length_eq_zero l2;exact h ..
def bn3(h:∀(kV doc pm:Value) (an:Option Addr) (cdv ct u1 u2 u3:Value),bindArgs (fnOf (cE x.s) x.q (eV x.s) (cM x.s) (aQ x.s) .none kV doc pm an cdv ct) ⟨[u1,u2,u3],[]⟩=pure ((x.N.take x.k).zip [u1,u2,u3]):=by intros;rfl)(hk:(x.N.take x.k).length=3:=by rfl):Bnd x:=λkV doc pm an cdv ct us hl=>by rw[hk]at hl;obtain⟨_,_,rfl,l1⟩:=lsS hl;obtain⟨_,_,rfl,l2⟩:=lsS l1;obtain⟨_,_,rfl,l3⟩:=lsS l2;cases List.eq_nil_of_length_eq_zero l3;exact h ..
def bn4(h:∀(kV doc pm:Value) (an:Option Addr) (cdv ct u1 u2 u3 u4:Value),bindArgs (fnOf (cE x.s) x.q (eV x.s) (cM x.s) (aQ x.s) .none kV doc pm an cdv ct) ⟨[u1,u2,u3,u4],[]⟩=pure ((x.N.take x.k).zip [u1,u2,u3,u4]):=by intros;rfl)(hk:(x.N.take x.k).length=4:=by rfl):Bnd x:=λkV doc pm an cdv ct us hl=>by rw[hk]at hl;obtain⟨_,_,rfl,l1⟩:=lsS hl;obtain⟨_,_,rfl,l2⟩:=lsS l1;obtain⟨_,_,rfl,l3⟩:=lsS l2;obtain⟨_,_,rfl,l4⟩:=lsS l3;cases List.eq_nil_of_length_eq_zero l4;exact h ..
def bn5(h:∀(kV doc pm:Value) (an:Option Addr) (cdv ct u1 u2 u3 u4 u5:Value),bindArgs (fnOf (cE x.s) x.q (eV x.s) (cM x.s) (aQ x.s) .none kV doc pm an cdv ct) ⟨[u1,u2,u3,u4,u5],[]⟩=pure ((x.N.take x.k).zip [u1,u2,u3,u4,u5]):=by intros;rfl)(hk:(x.N.take x.k).length=5:=by rfl):Bnd x:=λkV doc pm an cdv ct us hl=>by rw[hk]at hl;obtain⟨_,_,rfl,l1⟩:=lsS hl;obtain⟨_,_,rfl,l2⟩:=lsS l1;obtain⟨_,_,rfl,l3⟩:=lsS l2;obtain⟨_,_,rfl,l4⟩:=lsS l3;obtain⟨_,_,rfl,l5⟩:=lsS l4;cases List.eq_nil_of_length_eq_zero l5;exact h ..
end
def wa{l:JN}{α:Type}{f:Addr->Option Bool}{bs:List Bool}(hl:l≠[])(h:l.map (λx=>f (gAt K x))=bs.map some)(c:Nat):f (gAt K (pk "" l c))=some (qk bs c):=by
 have e:gAt K (pk "" l c)=pick (l.map (gAt K)) c:=by
  unfold pk pick;cases l with
  |nil=>exact absurd rfl hl
  |cons a l=>rw[getD_eq_getElem?_getD,getD_eq_getElem?_getD,getElem?_map];cases(a::l)[c]?<;>rfl
 rw[e];exact wO (g:=id) (by simpa using hl) (by rw[map_map];exact h) c
def Tx.of{p:PT}{K:Frag}{h:Heap}{mg:JG}(X:K.In h)(N:h.Ns mainGlobals mg)(hb:Ag p.F)(hs:p.F.all scB=true)(hF:p.F≠[])(hC:p.C≠[])(hX:p.X≠[])
  (e:p.ob K=p.ol K) (h1:p.ch1 K=true) (h2:p.ch2 K=true) (h3:p.ch3 K=true):Tx p K mg:=by
 simp only[PT.ch2,and_eq_true,all_eq_true,decide_eq_true_eq]at h2;obtain⟨⟨⟨⟨⟨⟨⟨c1,c2⟩,c3⟩,c4⟩,c5⟩,c6⟩,c7⟩,c8⟩:=h2;simp only[PT.ch1,PT.ch3,all_eq_true]at h1 h3 hs;have fnx:∀x∈p.F,Fun K (cE x.s) x.q x.s (p.fx K x) (dAt K (p.fx K x)):=λx hx=>by
  have q:=h1 x hx;simp only[PT.chF,and_eq_true]at q;obtain⟨⟨⟨q1,q2⟩,q3⟩,_⟩:=q;have e1:K.lookup (p.fx K x)=(K.lookup (p.fx K x)).map (lit x):=List.map_inj_left.mp e x hx;cases eo:K.lookup (p.fx K x)with
  |none=>rw[eo]at q1;cases q1
  |some o=>
   rw[eo]at e1 q1;obtain⟨oc,od,dt,sl⟩:=o;cases dt with
   |func d=>
    have e2:(⟨oc,od,.func d,sl⟩:Obj)=lit x ⟨oc,od,.func d,sl⟩:=Option.some.inj e1;simp only[lit,Obj.mk.injEq,Data.func.injEq,true_and,and_true]at e2;have ed:dAt K (p.fx K x)=d:=by unfold dAt;rw[eo]
    rw[ed]at q2 ⊢;exact⟨⟨oc,od,d.kwdefaults,d.doc,d.pyModule,d.annotations,d.code,d.closureTuple,sl,e2,eo,q2⟩,q3⟩
   |_=>cases q1
 have scx:∀x∈p.F,eW x.N (x.N.take x.k) (aQ x.s):=λx hx=>by have q:=hs x hx;simp only[scB,and_eq_true,decide_eq_true_eq,all_eq_true,not_eq_true']at q;obtain⟨⟨⟨⟨⟨⟨q1,q2⟩,q3⟩,q4⟩,q5⟩,q6⟩,q7⟩:=q;exact⟨q1,q2,q3,q4,by rw[length_take,Nat.min_eq_left q5],q6,q7⟩
 have clx:∀x∈p.C,(Cls K (gAt K x)/\mg x=some (.ref (gAt K x)))/\∀y∈p.A,fv K (gAt K x) y:=λx hx=>by have q:=c1 x hx;simp only[chC,and_eq_true,decide_eq_true_eq,all_eq_true]at q;obtain⟨⟨⟨⟨⟨q1,q2⟩,q3⟩,q4⟩,q5⟩,q6⟩:=q;exact⟨⟨⟨q1,q2,q3,q4⟩,mg_of X N q5⟩,q6⟩
 have xx:∀x∈p.X,mg x=some (.ref (gAt K x))/\vL K (gAt K x)=true:=λx hx=>by have q:=c4 x hx;simp only[chX,and_eq_true,decide_eq_true_eq]at q;exact⟨mg_of X N q.1,q.2⟩
 refine ⟨g7 (p:=λx=>Fun K (cE x.s) x.q x.s (p.fx K x) (dAt K (p.fx K x))) hF fnx,g7 (p:=λx=>eW x.N (x.N.take x.k) (aQ x.s)) hF scx,g7 (p:=λx=>f8 K (dAt K (p.fx K x)) (x.N.take x.k) []) hF λx hx=>(fnx x hx).binds (hb.get x hx),
  g7 (p:=λx=>x.c=none->mg (cE x.s)=some (.ref (p.fx K x))) hF λx hx hc=>?_,g7 (p:=λx=>Cls K (gAt K x)) hC λx hx=>(clx x hx).1.1,g7 (p:=λx=>mg x=some (.ref (gAt K x))) hC λx hx=>(clx x hx).1.2,
  g7 (p:=λx=>∀y∈p.A,fv K (gAt K x) y) hC λx hx=>(clx x hx).2,λx hx=>?_,λx hx=>?_,λx hx=>?_,g7 (p:=λx=>mg x=some (.ref (gAt K x))) hX λx hx=>(xx x hx).1,g7 (p:=λx=>vL K (gAt K x)=true) hX λx hx=>(xx x hx).2,
  λx hx=>PySem.W.mg_none_of X N (c5 x hx),λx hx=>?_,λy hy c=>?_,λy hy c=>?_⟩
 .have q:=h1 x hx;simp only[PT.chF,and_eq_true]at q;have q:=q.2;rw[hc]at q;exact mg_of X N (of_decide_eq_true q)
 .have q:=h3 x hx;simp only[PT.chM,and_eq_true,decide_eq_true_eq]at q;exact⟨q.1.1,q.1.2,q.2⟩
 .have q:=c2 x hx;simp only[PT.chK,and_eq_true,decide_eq_true_eq]at q;exact⟨q.1.1.1,q.1.1.2,q.1.2,q.2⟩
 .have q:=c3 x hx;simp only[PT.chU,and_eq_true,decide_eq_true_eq]at q;refine⟨q.1.1.1,q.1.1.2,?_,q.2⟩;have q:=q.1.2;unfold Cw at q;split at q
  .rename_i a e
   rw[e,of_decide_eq_true q]
  .cases q
 .have q:=c6 x hx;unfold chI at q;split at q
  .rename_i i tk e
   exact⟨tk,by rw[<- of_decide_eq_true q];exact mg_of X N e⟩
  .cases q
 .exact wa (α:=Bool) (f:=λa=>kitOne K (.ref a) (tgV p K y)) hX (of_decide_eq_true (c7 y hy)) c
 .exact wa (α:=Bool) (f:=λa=>exmOne K (.ref a) (.ref (p.xa K y.1))) hX (of_decide_eq_true (c8 y hy)) c
def PT.attOk(p:PT):Prop:=p.A.Nodup/\p.A.all kr=true
def PT.gs(p:PT):NFd:=p.G.getD ⟨0,0,"",0,[],[]⟩
def PT.gst(p:PT):Stmt:=(cM (p.fs p.gs.i).s).getD p.gs.j (.Pass ⟨0,0,0,0⟩)
def PT.fi(p:PT):FI:=⟨cE p.gst,p.gs.q,eV p.gst,cM p.gst,aQ p.gst,p.gs.fr⟩
def PT.gpos(p:PT):Pos:=match p.gst with
 |.FunctionDef _ _ _ _ _ _ _ _ _ pos=>pos
 |_=>⟨0,0,0,0⟩
def PT.gt(p:PT)(K:Frag):Addr×Addr:=(PySem.W.tabIn K (cE (p.fs p.gs.i).s)).getD (0,0)
@[reducible] def PT.T(p:PT)(h:p.attOk)(K:Frag):Tb where
 K:=K
 nc:=p.C.length
 cls:=p.ca K
 att:=jA p.A
 inj:=vW h.1 h.2
 xcl:=p.xa K
 dk:=λk=>p.D.getD k []
 bx:=λk H a vs=>if k=99 then p.fi.bx H a vs else if 1000<=k then a=k-1000/\∀v∈vs,v=.ref a else ∃o,H a=some (.frz o (.dK (((p.D.getD k []).map Sum.inr).zip vs)))/\(p.D.getD k []).length=vs.length
 bxs:=λk H H' a vs h q=>by
  split at q
  .rw[if_pos ‹_›];exact FI.bxs h q
  .rw[if_neg ‹_›];split at q
   .rw[if_pos ‹_›];exact q
   .rw[if_neg ‹_›];obtain⟨o,z,l⟩:=q;exact⟨o,h _ _ _ z,l⟩
 tb:=λa=>if p.G.isSome=true/\a=(p.gt K).2 then some #[rawInt p.gpos.line,rawInt p.gpos.col,.str p.gs.q 0]else none
section
variable{p:PT}{K:Frag}{mg:JG}
def Tx.cls(t:Tx p K mg)(n:Nat):∀c<n,Cls K (p.ca K c):=λc _=>t.cl c
def Tx.b(t:Tx p K mg)(j:Nat)(h:p.B[j]?=some x:=by rfl):mg x=none:=t.bi x (List.mem_of_getElem? h)
def Tx.c(t:Tx p K mg)(j:Nat)(h:p.I[j]?=some (x,i):=by rfl):∃tk,mg x=some (.int i tk):=t.ci (x,i) (List.mem_of_getElem? h)
end
open PySem.W (keepIn Frag)
section
variable{P:Program}{w:World}{K:Frag}{mg:JG}{base:Heap}{p:PT}{hA:p.attOk}
abbrev OkF(p:PT)(hA:p.attOk)(P:Program)(w:World)(K:Frag)(mg:JG)(base:Heap)(k i:Nat)(m:JS->JT):Prop:=dD P w K mg base (CXP P w) k (p.fa K i) (dAt K (p.fa K i)) (p.ps i) (spM (p.T hA K) (p.ps i).length m)
abbrev OkI(p:PT)(hA:p.attOk)(P:Program)(w:World)(K:Frag)(mg:JG)(base:Heap)(k i:Nat)(m:JS->JT):Prop:=dD P w K mg base (CXP P w) k (p.fa K i) (dAt K (p.fa K i)) (p.ps i) (spI (p.T hA K) (p.ps i).length m)
def okC(i:Nat)(t:Tx p K mg)(body:∀ (cdv:Value) (A:Around) (outer:List Env) (s:Shared) (H:Hp) (E:XK),Ctx (fG (CXP P w) P w K mg base (p.fs i).N (p.fs i).q (aQ (p.fs i).s) (p.fa K i) cdv A outer s H E) (p.T hA K) (WD (p.T hA K) E) k->(p.fs i).N.Nodup ->
  SSs (fG (CXP P w) P w K mg base (p.fs i).N (p.fs i).q (aQ (p.fs i).s) (p.fa K i) cdv A outer s H E) (p.T hA K) (WD (p.T hA K) E) (cM (p.fs i).s) m):OkF p hA P w K mg base (k+1) i (bh (p.fs i).N.length m):=
 EC (T:=p.T hA K) (t.fn i) (t.sc i) λa b c d e f g=>body a b c d e f g (t.sc i).nd
def okI(i:Nat)(t:Tx p K mg)(body:∀ (cdv:Value) (A:Around) (outer:List Env) (s:Shared) (H:Hp) (E:XK),Ctx (fG (CXP P w) P w K mg base (p.fs i).N (p.fs i).q (aQ (p.fs i).s) (p.fa K i) cdv A outer s H E) (p.T hA K) (WD (p.T hA K) E) k->(p.fs i).N.Nodup ->
  SSs (fG (CXP P w) P w K mg base (p.fs i).N (p.fs i).q (aQ (p.fs i).s) (p.fa K i) cdv A outer s H E) (p.T hA K) (WD (p.T hA K) E) (cM (p.fs i).s) m):OkI p hA P w K mg base (k+1) i (jo (p.fs i).N.length m):=
 BQ (T:=p.T hA K) (t.fn i) (t.sc i) λa b c d e f g=>body a b c d e f g (t.sc i).nd
def dm{X:Cx}{k k2 i c:Nat}{mn:Str}{m m':JS->JT}{ps:JN}(j:Nat)(t:Tx p X.K X.mg)(G:dD X.prog X.w X.K X.mg X.base (CXP X.prog X.w) k (p.fa X.K i) (dAt X.K (p.fa X.K i)) ps (spM (p.T hA X.K) ps.length m))(e:some m=some m')(hj:p.M[j]?=some (c,mn,i):=by rfl)(hp:p.ps i=ps:=by rfl)(hk:k<=k2:=by decide) :
  ∃f fd,Ch X.K (p.ca X.K c) mn f/\f8 X.K fd ps []/\dD X.prog X.w X.K X.mg X.base (CXP X.prog X.w) k2 f fd ps (spM (p.T hA X.K) ps.length m'):=by
 cases e;exact⟨_,_,t.me _ (List.mem_of_getElem? hj),hp▸t.bn i,G.mono hk⟩
end
def dno{n c:Nat}{q:Prop}(h:c<n)(hc:n<=c:=by exact Nat.le_add_left _ _):q:=absurd h (Nat.not_lt.mpr hc)
section
variable{X:Cx}{W:Nat->St->JR}{p:PT}{hA:p.attOk}
def bB(t:Tx p X.K X.mg)
  (G:dD X.prog X.w X.K X.mg X.base (CXP X.prog X.w) k (p.fa X.K i) (dAt X.K (p.fa X.K i)) (p.ps i) (spM (p.T hA X.K) (p.ps i).length m)) (cx:Ctx X (p.T hA X.K) W kk) (ha:SA X (p.T hA X.K) W (e::es) ms)
  (hk:k<=kk:=by decide) (hx:cE (p.fs i).s=x:=by rfl) (hc:(p.fs i).c=none:=by rfl) (hg:Gl X x:=by rfl) (hn:iC ms n:=by repeat' first|exact fY|apply eP) (hps:n=(p.ps i).length:=by rfl)
  (hdb:(x ==("__debug__":Str))=false:=by decide) (he:starEach (e::es) X.env=(false,eval e X.env)::starEach es X.env:=by rfl) (hpl:(backTo pos (starEach es X.env)).any (·.1)=false:=by rfl) :
  SE X (p.T hA X.K) W (.Call (.Name x np) (e::es) [] pos) (aq (aN m) ms):=
 wu G cx hk hg (by subst hx;exact t.gl i hc) (t.fn i).kp (t.bn i) hn hps ha hdb he hpl
def cw(t:Tx p X.K X.mg)
  (D:eG X (p.T hA X.K) k mn ps [] disp) (cx:Ctx X (p.T hA X.K) W kk) (ho:SE X (p.T hA X.K) W o mo) (ha:SA X (p.T hA X.K) W (e::es) ms)
  (hm:∀k,jA p.A k≠mn:=by exact rz (by decide +kernel) (by decide +kernel)) (hk:k<=kk:=by decide) (hn:iC ms n:=by repeat' first|exact fY|apply eP) (hps:n+1=ps.length:=by rfl)
  (hst:starEach (e::es) X.env=(false,eval e X.env)::starEach es X.env:=by rfl) (hpl:(backTo pos (starEach es X.env)).any (·.1)=false:=by rfl)
  (ht:eval (.Call (.Attribute o mn apos) (e::es) [] pos) X.env=(do
   let ov <- eval o X.env
   standAt apos.atName
   let(f,first) <- holding [ov] (getMethod ov mn pl)
   callWith pos f first (backTo pos (starEach (e::es) X.env)) (backToKw pos (keywordEach [] X.env))):=by rfl) :
  SE X (p.T hA X.K) W (.Call (.Attribute o mn apos) (e::es) [] pos) (bM disp mo ms):=
 C6 (pl:=pl) cx (t.cls _) hm D hk hn hps ho ha hst hpl ht
def tH(t:Tx p X.K X.mg)
  (D:eG X (p.T hA X.K) k mn ps [] disp) (cx:Ctx X (p.T hA X.K) W kk) (ho:SE X (p.T hA X.K) W o mo)
  (hm:∀k,jA p.A k≠mn:=by exact rz (by decide +kernel) (by decide +kernel)) (hk:k<=kk:=by decide) (hps:ps.length=1:=by rfl)
  (ht:eval (.Call (.Attribute o mn apos) [] [] pos) X.env=(do
   let ov <- eval o X.env
   standAt apos.atName
   let(f,first) <- holding [ov] (getMethod ov mn pl)
   callWith pos f first (backTo pos (starEach [] X.env)) (backToKw pos (keywordEach [] X.env))):=by rfl) :
  SE X (p.T hA X.K) W (.Call (.Attribute o mn apos) [] [] pos) (bM disp mo ao):=
 AC (pl:=pl) cx (t.cls _) hm D hk hps ho ht
def lM(c:Nat)(t:Tx p X.K X.mg)
  (G:dD X.prog X.w X.K X.mg X.base (CXP X.prog X.w) k (p.fa X.K i) (dAt X.K (p.fa X.K i)) (p.ps i) (spI (p.T hA X.K) (p.ps i).length m)) (cx:Ctx X (p.T hA X.K) W kk) (ha:SA X (p.T hA X.K) W (e::es) ms)
  (hM:(c,i)∈ p.Mk:=by decide) (hcn:c<p.C.length:=by decide) (hk:k+1<=kk:=by decide) (hx:pk ("":Str) p.C c=x:=by rfl) (hg:Gl X x:=by rfl) (hn:iC ms n:=by repeat' first|exact fY|apply eP) (hps:n+1=(p.ps i).length:=by rfl)
  (hdb:(x ==("__debug__":Str))=false:=by decide) (he:starEach (e::es) X.env=(false,eval e X.env)::starEach es X.env:=by rfl) (hpl:(backTo pos (starEach es X.env)).any (·.1)=false:=by rfl) :
  SE X (p.T hA X.K) W (.Call (.Name x np) (e::es) [] pos) (jH c m ms):=
 C4 (t.mm _ hM) hcn G cx hk hg (by subst hx;exact t.cg c) (t.bn i) hn hps ha hdb he hpl
def aL(k:Nat)(t:Tx p X.K X.mg)(cx:Ctx X (p.T hA X.K) W kk)(he:SE X (p.T hA X.K) W e m)(hf:jA p.A k=f:=by rfl)(hm:f∈p.A:=by decide)(hb:attributeBase e f X.env (eval e X.env)=eval e X.env:=by rfl) :
  SE X (p.T hA X.K) W (.Attribute e f pos) (mUn (ap k) m):=AG cx.hK hf (t.cls _) (λc _=>t.cn c f hm) he hb
def gy(ha:SA X T W es ms)(hn:iC ms n:=by repeat' first|exact fY|apply eP)(hs:n<=1000:=by decide):SE X T W (.List es pos) (e_ ms):=C7 ha hn hs
def lL{x1}(ha:SA X T W es ms)(hn:iC ms n:=by repeat' first|exact fY|apply eP)(hs:n<=1000:=by decide):SE X T W (.Tuple es x1 pos) (jG ms):=C2 ha hn hs
def bE(cx:Ctx X T W kk)(ha:SE X T W a ma)(hb:SE X T W b mb)(hs:io b:=by exact λ_ _=>rfl):SE X T W (.Subscript a b pos) (mOp aK ma mb):=C9 cx.hK ha hb hs
def bJ(hN:X.N.Nodup)(he:SE X T W e m)(hi:X.N[i]?=some x:=by rfl)(hx:Loc X.env.scope x:=by first|exact .inl rfl|exact .inr rfl)(hs:swapsWith e (some (.Name x pos')) pos.line X.env=pure false:=by rfl)
  (hf:X.fn x=true\/X.env.scope.names.lookup x=some .local:=by first|exact .inl rfl|exact .inr rfl|assumption):SS X T W (.Assign [.Name x pos'] e pos) (aW i m):=CY hN hi hx he hs hf
def sgN(hN:X.N.Nodup)(hi:X.N[i]?=some x:=by rfl)(hx:Loc X.env.scope x:=by first|exact .inl rfl|exact .inr rfl)(hf:X.fn x=true\/X.env.scope.names.lookup x=some .local:=by first|exact .inl rfl|exact .inr rfl|assumption):SG X T (.Name x pos) (tgN i):=Aw hN hi hx hf
def b6(h:k<=i:=by decide):im (tgN i) k:=v_ h
def rW(cx:Ctx X T W kk)(he:SE X T W e m)(hN:X.N[i]?=some x:=by rfl)(hv:Vis X.env.scope x:=by first|exact Or.inl rfl|exact Or.inr (Or.inl rfl)|exact Or.inr (Or.inr rfl))
  (hs:swapsWith (.Call (.Attribute (.Name x px) "append" apos) [e] [] cpos) none pos.line X.env=pure false:=by rfl) (hst:starEach [e] X.env=[(false,eval e X.env)]:=by rfl)
  (hfew:((backTo cpos (starEach [e] X.env)).all (λx=>!x.1)&&(backToKw cpos (keywordEach [] X.env)).all (λx=>x.1.isSome)&&decide ([e].length+([]:List Keyword).length+(if([]:List Keyword).isEmpty then 0 else 1)<30))=true:=by rfl)
  (hline:(apos.endLine==cpos.line)=true:=by rfl) (hd:(x ==("__debug__":Str))=false:=by decide) (hcd:(x ==("__classdict__":Str))=false:=by decide) :
  SS X T W (.Expr (.Call (.Attribute (.Name x px) "append" apos) [e] [] cpos) pos) (dU i m):=uK cx.hK hN hv he hs hst hfew hline hd hcd
def sFld(k:Nat)(t:Tx p X.K X.mg)(cx:Ctx X (p.T hA X.K) W kk)(he:SE X (p.T hA X.K) W e m)(hf:jA p.A k=f:=by rfl)(hm:f∈p.A:=by decide)(hN:X.N[i]?=some x:=by rfl)
  (hv:Vis X.env.scope x:=by first|exact Or.inl rfl|exact Or.inr (Or.inl rfl)|exact Or.inr (Or.inr rfl))
  (hs:swapsWith e (some (.Attribute (.Name x px) f pos')) pos.line X.env=pure false:=by rfl) (hd:(x ==("__debug__":Str))=false:=by decide) (hcd:(x ==("__classdict__":Str))=false:=by decide) :
  SS X (p.T hA X.K) W (.Assign [.Attribute (.Name x px) f pos'] e pos) (gK i k m):=CZ cx.hK hf (t.cls _) (λc _=>t.cn c f hm) hN hv he hs hd hcd
def cB(c:Nat)(t:Tx p X.K X.mg)(cx:Ctx X (p.T hA X.K) W k)(hB:X.K.In X.base)(hx:XM X (p.T hA X.K) W)(ha:SA X (p.T hA X.K) W (e::es) ms)
  (hm:pk ("":Str) p.X c=x:=by rfl) (hg:Gl X x:=by rfl) (hn:iC ms n:=by repeat' first|exact fY|apply eP) (hn2:n<=100:=by decide) (hd:(x ==("__debug__":Str))=false:=by decide)
  (he:starEach (e::es) X.env=(false,eval e X.env)::starEach es X.env:=by rfl) (hpl:(backTo cpos (starEach es X.env)).any (·.1)=false:=by rfl) :
  SS X (p.T hA X.K) W (.Raise (some (.Call (.Name x np) (e::es) [] cpos)) none pos) (bH c ms):=
 uI cx (by subst hm;exact t.xg c) hB (BT (t.xe c)).2 hx hg hn hn2 ha hd he hpl
def pX(c:Nat)(t:Tx p X.K X.mg)
  (G:dD X.prog X.w X.K X.mg X.base (CXP X.prog X.w) k (p.fa X.K i) (dAt X.K (p.fa X.K i)) (p.ps i) (spI (p.T hA X.K) (p.ps i).length m)) (cx:Ctx X (p.T hA X.K) W kk) (ha:SA X (p.T hA X.K) W es ms)
  (hU:(c,i)∈ p.U:=by decide) (hk:k<=kk:=by decide) (hx:pk ("":Str) p.C c=x:=by rfl) (hg:Gl X x:=by rfl) (hN:X.N[0]?=some y:=by rfl) (hv:Vis X.env.scope y:=by first|exact Or.inl rfl|exact Or.inr (Or.inl rfl)|exact Or.inr (Or.inr rfl))
  (hn:iC ms n:=by repeat' first|exact fY|apply eP) (hps:n+1=(p.ps i).length:=by rfl)
  (hdb:(x ==("__debug__":Str))=false:=by decide) (hdy:(y ==("__debug__":Str))=false:=by decide) (hcy:(y ==("__classdict__":Str))=false:=by decide)
  (hst:starEach (.Name y px::es) X.env=(false,eval (.Name y px) X.env)::starEach es X.env:=by rfl) (hpl:(backTo pos (starEach es X.env)).any (·.1)=false:=by rfl)
  (ht:eval (.Call (.Attribute (.Name x q) "__init__" apos) (.Name y px::es) [] pos) X.env=(do
   let ov <- eval (.Name x q) X.env
   standAt apos.atName
   let(f,first) <- holding [ov] (getMethod ov "__init__" pl)
   callWith pos f first (backTo pos (starEach (.Name y px::es) X.env)) (backToKw pos (keywordEach [] X.env))):=by rfl)
  (hs:swapsWith (.Call (.Attribute (.Name x q) "__init__" apos) (.Name y px::es) [] pos) none pos'.line X.env=pure false:=by rfl) :
  SS X (p.T hA X.K) W (.Expr (.Call (.Attribute (.Name x q) "__init__" apos) (.Name y px::es) [] pos) pos') (iB m ms):=
 CW (pl:=pl) cx (t.su _ hU) G hk hg (by subst hx;exact t.cg c) (t.bn i) hN hv hn hps ha hdb hdy hcy hst hpl ht hs
end
section
variable{X:Cx}{W:Nat->St->JR}{T:Tb}
abbrev nmC(X:Cx)(caps:List Nat)(tn:JN):JN:=caps.map (λi=>X.N.getD i "")++ tn
def cOf(h:mG X.env.scope scope X.N caps (nmC X caps tn) tn=true):eU X scope caps (nmC X caps tn) tn:=B5 h rfl rfl
def cV(tn:JN)(cx:Ctx X T W kk)(hi:SIc X T W tg iter mi)(hk:im g caps.length)
  (hb:∀C s H ex,(nmC X caps tn).Nodup->SG (cxC X scope C (nmC X caps tn) s H ex) T tg g/\STs (cxC X scope C (nmC X caps tn) s H ex) T WF ifs mc/\SE (cxC X scope C (nmC X caps tn) s H ex) T WF elt me)
  (h:mG X.env.scope scope X.N caps (nmC X caps tn) tn=true:=by kernel_rfl) (hs:∀x,foldedSetIterable iter X.env x=pure x:=by intro _;rfl):SE X T W (.ListComp elt [⟨tg,iter,ifs,0⟩] scope pos) (aV caps tn.length mi g mc me):=
 AE (cOf h) cx.calm hi hk (λC s H ex=>hb C s H ex (cOf h).nd) hs
def dL(tn:JN)(cx:Ctx X T W kk)(hN:X.N.Nodup)(hi:SIc X T W tg iter mi)(hk:im g caps.length)
  (hb:∀C s H ex,(nmC X caps tn).Nodup->SG (cxC X scope C (nmC X caps tn) s H ex) T tg g/\STs (cxC X scope C (nmC X caps tn) s H ex) T WF ifs mc/\SE (cxC X scope C (nmC X caps tn) s H ex) T WF elt me)
  (h:mG X.env.scope scope X.N caps (nmC X caps tn) tn=true:=by kernel_rfl) (hy:X.N[i]?=some y:=by rfl) (hx:Loc X.env.scope y:=by first|exact .inl rfl|exact .inr rfl)
  (hsw:swapsWith (.ListComp elt [⟨tg,iter,ifs,0⟩] scope pos) (some (.Name y py)) spos.line X.env=pure true:=by rfl)
  (hs:∀x,foldedSetIterable iter X.env x=pure x:=by intro _;rfl)
  (hf:X.fn y=true\/X.env.scope.names.lookup y=some .local:=by first|exact .inl rfl|exact .inr rfl|assumption) :
  SS X T W (.Assign [.Name y py] (.ListComp elt [⟨tg,iter,ifs,0⟩] scope pos) spos) (aW i (aV caps tn.length mi g mc me)):=
 Ar (cOf h) cx.calm hN hy hx hi hk (λC s H ex=>hb C s H ex (cOf h).nd) hsw hs hf
end
end
section
open PySem.W (findIn fnOf keepIn nsIn codeIn isFn Frag)
structure PE where
 D:List (FS×Bool)
 G:List (Str×List (Str×Int))
 S:List (Str×Str)
 P:List (Str×JN)
open PySem.W (fnOf Frag)
end
section
open PySem.W (keepIn Frag)
section
variable{env e e':En}{v:PV}{i:Nat}{r:Out}
@[simp] def qO:mC v env=.ok v:=rfl
@[simp] def c9:ao env=.ok []:=rfl
@[simp] def cr:ae a m env=(a env).bind λx=>(m env).bind λxs=>.ok (x::xs):=rfl
@[simp] def HH:mUn f a env=(a env).bind f:=rfl
@[simp] def gj:mOp f a b env=(a env).bind λx=>(b env).bind λy=>f x y:=rfl
@[simp] def eD:aq f m env=(m env).bind f:=rfl
@[simp] def o8:e_ m env=(m env).bind λxs=>.ok (.lst .own xs):=rfl
@[simp] def ET:jG m env=(m env).bind λxs=>.ok (.tup xs):=rfl
@[simp] def uo:jx a env=(a env).bind λb=>.ok (!b):=rfl
@[simp] def mD:cO a env=(a env).bind oJ:=rfl
@[simp] def Jg:pM a c env=(a env).bind (qq c):=rfl
@[simp] def gM:fE env=.ok none:=rfl
@[simp] def BU:bN env=.ok true:=rfl
def Bd:Option (Option PV)->JT
 |some (some v)=>.ok (v.J2 Fl.JU)
 |_=>.stuck
@[simp] def nG(v:PV):Bd (some (some v))=.ok (v.J2 Fl.JU):=rfl
@[simp] def dH:ac i env=Bd env[i]?:=by
 unfold ac;cases env[i]? with
 |none=>rfl
 |some w=>cases w<;>rfl
def pBl:PV->Res Bool
 |.bl b=>.ok b
 |_=>.stuck
@[simp] def IT(b:Bool):pBl (.bl b)=.ok b:=rfl
@[simp] def jl:aB a env=(a env).bind pBl:=by rfl
def GK:PV->JT
 |.bl b=>.ok (.bl (!b))
 |_=>.stuck
@[simp] def H_(b:Bool):GK (.bl b)=.ok (.bl (!b)):=rfl
@[simp] def ID:qx a env=(a env).bind GK:=by rfl
def sf(r:JT):PV->JT
 |.bl b=>if b then r else .ok (.bl false)
 |_=>.stuck
@[simp] def Ia(r:JT)(b:Bool):sf r (.bl b)=if b then r else .ok (.bl false):=rfl
@[simp] def BW:iU a b env=(a env).bind (sf (b env)):=by
 unfold iU;congr 1;funext x;cases x with
 |bl b=>cases b<;>rfl
 |_=>rfl
def pOr(r:JT):PV->JT
 |.bl b=>if b then .ok (.bl true)else r
 |_=>.stuck
@[simp] def IS(r:JT)(b:Bool):pOr r (.bl b)=if b then .ok (.bl true)else r:=rfl
@[simp] def Jf:oW a b env=(a env).bind (pOr (b env)):=by
 unfold oW;congr 1;funext x;cases x with
 |bl b=>cases b<;>rfl
 |_=>rfl
@[simp] def yS:kD f g a b c env=(a env).bind λx=>(b env).bind λy=>(f x y).bind (sf ((c env).bind λz=>g y z)):=by
 unfold kD;congr 1;funext x;congr 1;funext y;congr 1;funext z;cases z with
 |bl b=>cases b<;>rfl
 |_=>rfl
@[simp] def Hx(g:Int->Int->PV)(i j:Int):fU g (.int i) (.int j)=.ok (g i j):=rfl
def Co:PV->Res (JO)
 |.int i=>.ok (some i)
 |_=>.stuck
@[simp] def FP(i:Int):Co (.int i)=.ok (some i):=rfl
@[simp] def ij:gh a env=(a env).bind Co:=by rfl
def GN(l h:JO):PV->JT
 |.lst _ xs=>.ok (.lst .own (i_ xs l h))
 |_=>.stuck
@[simp] def GM(l h:JO)(f:Fl)(xs:JS):GN l h (.lst f xs)=.ok (.lst .own (i_ xs l h)):=rfl
@[simp] def f6:fq o lo hi env=(o env).bind λx=>(lo env).bind λl=>(hi env).bind λh=>GN l h x:=by rfl
def aA(v:PV):JT:=if v.has Fl.J0 then .stuck else .ok v
@[simp] def y_:aN f xs=(f (mapL Fl.JV xs)).bind aA:=by unfold aN;cases f (mapL Fl.JV xs)<;>rfl
def dG(disp:Nat->Option (JS->JT))(r:Res (JS)):PV->JT
 |.obj fl c ks vs=>match disp c with
  |some m=>r.bind λxs=>aN m (.obj fl c ks vs::xs)
  |none=>.stuck
 |_=>.stuck
@[simp] def GL(disp:Nat->Option (JS->JT))(r:Res (JS))(fl:Fl)(c:Nat)(ks:List Nat)(vs:JS):dG disp r (.obj fl c ks vs)=match disp c with
  |some m=>r.bind λxs=>aN m (.obj fl c ks vs::xs)
  |none=>.stuck:=rfl
@[simp] def yR:bM disp o ms env=(o env).bind (dG disp (ms env)):=by unfold bM;congr 1;funext x;cases x<;>rfl
@[simp] def IC:e9 m env=(m env).bind λx=>match x with
 |.lst f xs=>if !f.JZ&&eO xs then .ok xs else .stuck
 |.tup xs=>if eO xs then .ok xs else .stuck
 |_=>.stuck:=rfl
def wY(x:PV):Res (JS):=match a6 x with
 |some xs=>.ok xs
 |none=>.stuck
@[simp] def FR(f:Fl)(xs:JS):wY (.lst f xs)=.ok xs:=rfl
@[simp] def FQ(xs:JS):wY (.tup xs)=.ok xs:=rfl
@[simp] def BV:cm m env=(m env).bind wY:=rfl
@[simp] def IE:iq a b env=(a env).bind λx=>if x then b env else .ok false:=rfl
@[simp] def EU:iS a b env=(a env).bind λx=>if x then .ok true else b env:=rfl
@[simp] def EV:sB c a b env=(c env).bind λx=>if x then a env else b env:=rfl
@[simp] def yQ:jH c f m env=(m env).bind λxs=>aN f (.obj .own c [] []::xs):=rfl
def ag(h1:a env=.next e)(h2:b e=r):ar a b env=r:=by unfold ar;rw[h1];exact h2
def dB(h1:a env=.ret v):ar a b env=.ret v:=by unfold ar;rw[h1]
def jb(h:c env=.ok true)(h2:a env=r):mBr c a b env=r:=by unfold mBr;rw[h];exact h2
def bU(h:c env=.ok false)(h2:b env=r):mBr c a b env=r:=by unfold mBr;rw[h];exact h2
def CJ(h:c env=.ok x):mBr c a b env=if x then a env else b env:=by unfold mBr;rw[h];cases x<;>rfl
def aw(h:m env=.ok v)(hl:v.J1=true:=by simp)(ho:aO i env=true:=by rfl):aW i m env=.next (env.set i (some v)):=by unfold aW;rw[h];simp[hl,ho]
def a5(h:m env=.ok v)(hl:v.J1=true:=by simp):bw m env=.ret v:=by unfold bw;rw[h];simp[hl]
def dF(h:env[i]?=some (some v)):dv i env=.ret v:=by unfold dv;rw[h]
def il(h:m env=.ok v):iT m env=.next env:=by unfold iT;rw[h]
def aD:a9 env=.next env:=rfl
def bZ(h:m env=.ok v)(ho:env[i]?=some (some (.obj .own c ks vs)))(hl:v.J1=true)(hk:ks.contains k=false)(hn:ks.length<900) :
  gK i k m env=.next (env.set i (some (.obj .own c (ks++[k]) (vs++[v])))):=by
 unfold gK;rw[h,ho];simp only[hl,hk];simp[hn]
def eR(h:m env=.ok v)(ho:env[i]?=some (some (.lst .own xs)))(hl:v.J1=true)(hn:xs.length<10000000):dU i m env=.next (env.set i (some (.lst .own (xs++[v])))):=by unfold dU;rw[h,ho];simp[hl,hn]
def jS(h:m env=.ok v)(ho:env[i]?=some (some (.lst .own xs)))(hk:mk env=.ok (.int j))(hj:ixN xs.length j=some n)(hl:v.J1=true) :
  ig i mk m env=.next (env.set i (some (.lst .own (xs.set n v)))):=by
 unfold ig;rw[h,ho,hk];simp[hj,hl]
def gD(h:env[i]?=some (some v)):jq i env=.next (env.set i (some (v.J2 Fl.JW))):=by unfold jq;rw[h]
def au(h:m (args.map some++replicate (n-args.length) none)=.ret v):bh n m args=.ok v:=by unfold bh;rw[h]
def nD(h:m (args.map some++replicate (n-args.length) none)=.next e):bh n m args=.ok .non:=by unfold bh;rw[h]
def cW(h:m (args.map some++replicate (n-args.length) none)=.next e)(ho:e[0]?=some (some v)):jo n m args=.ok v:=by unfold jo;rw[h];simp[ho]
def jk(P:Nat->En->Prop)(h:it env=.ok xs)(h0:P 0 env)
  (step:∀(k:Nat) (x:PV) (e:En),xs[k]?=some x->P k e->∃e1 e2,g x e=some e1/\(body e1=.next e2\/body e1=.cont e2)/\P (k+1) e2):∃e2,cU it g body env=.next e2/\P xs.length e2:=by
 unfold cU;rw[h];dsimp only;have key:∀ (ys pre:JS) (e:En),pre ++ ys=xs->P pre.length e->∃ e2,mS (λx e=>match g x e with
  |some e'=>body e'
  |none=>.stuck) ys e=.next e2/\P xs.length e2:=by
  intro ys
  induction ys with
  |nil=>intro pre e hp hP;simp at hp;subst hp;exact⟨e,rfl,hP⟩
  |cons y ys ih=>
   intro pre e hp hP;obtain⟨e1,e2,h1,h2,h3⟩:=step pre.length y e (by rw[<- hp];simp) hP;obtain⟨e3,h4,h5⟩:=ih (pre++[y]) e2 (by rw[<- hp];simp) (by simpa using h3);refine⟨e3,?_,h5⟩;unfold mS;simp only[h1];rcases h2 with h2|h2<;>rw[h2]<;>exact h4
 exact key xs [] env rfl h0
def lx(P:Nat->En->Prop)(R:Out->Prop)(h:it env=.ok xs)(h0:P 0 env)
  (step:∀(k:Nat) (x:PV) (e:En),xs[k]?=some x->P k e->∃e1,g x e=some e1/\((∃e2,(body e1=.next e2\/body e1=.cont e2)/\P (k+1) e2)\/(∃e2,body e1=.brk e2/\R (.next e2))\/(∃v,body e1=.ret v/\R (.ret v))\/ ∃c e2,body e1=.exc c e2/\R (.exc c e2)))
  (fin:∀e,P xs.length e->R (.next e)):R (cU it g body env):=by
 unfold cU;rw[h];dsimp only;have key:∀ (ys pre:JS) (e:En),pre ++ ys=xs->P pre.length e->R (mS (λx e=>match g x e with
  |some e'=>body e'
  |none=>.stuck) ys e):=by
  intro ys
  induction ys with
  |nil=>intro pre e hp hP;simp at hp;subst hp;exact fin e hP
  |cons y ys ih=>
   intro pre e hp hP;obtain⟨e1,h1,h2⟩:=step pre.length y e (by rw[<- hp];simp) hP;unfold mS;simp only[h1];rcases h2 with⟨e2,h2,h3⟩ |⟨e2,h2,h3⟩ |⟨v,h2,h3⟩ |⟨c,e2,h2,h3⟩
   .have:=ih (pre++[y]) e2 (by rw[<- hp];simp) (by simpa using h3);rcases h2 with h2|h2<;>rw[h2]<;>exact this
   .rw[h2];exact h3
   .rw[h2];exact h3
   .rw[h2];exact h3
 exact key xs [] env rfl h0
def aM(h:mi env=.ok xs)(hl:xs.length<=10000000)(hc:dP g mc me (bQ caps k env) xs=.ok ys):aV caps k mi g mc me env=.ok (.lst .own ys):=by unfold aV;rw[h];simp only[Res.J4,hl,if_true,hc]
def bp{α:Type}{a:α->PV}{f:α->PV}:∀(xs:List α),(∀x∈xs,∃e1,g (a x).JX env=some e1/\me e1=.ok (f x)/\(f x).has Fl.J0=false/\(f x).has Fl.JZ=false)->
  dP g bN me env (xs.map a)=.ok (xs.map f)
 | [],_=>rfl
 |x::xs,h=>by obtain⟨e1,h1,h2,h3,h4⟩:=h x mem_cons_self;rw[map_cons,dP,h1];simp only[BU,Res.J4,if_true,h2,h3,h4,Bool.or_self,false_eq_true,if_false,bp xs λy hy=>h y (mem_cons_of_mem _ hy)];rfl
def cN{α:Type}{a:α->PV}{f:α->PV}{p:α->Bool}:∀(xs:List α),(∀x∈xs,∃e1,g (a x).JX env=some e1/\mc e1=.ok (p x)/\(p x=true->me e1=.ok (f x)/\(f x).has Fl.J0=false/\(f x).has Fl.JZ=false))->
  dP g mc me env (xs.map a)=.ok ((xs.filter p).map f)
 | [],_=>rfl
 |x::xs,h=>by
  obtain⟨e1,h1,h2,h3⟩:=h x mem_cons_self;have ih:=cN (g:=g) (mc:=mc) (me:=me) (a:=a) (f:=f) (p:=p) xs λy hy=>h y (mem_cons_of_mem _ hy);rw[map_cons,dP,h1];cases hp:p x with
  |true=>obtain⟨h4,h5,h6⟩:=h3 hp;simp only[h2,hp,Res.J4,if_true,h4,h5,h6,Bool.or_self,false_eq_true,if_false,ih];rw[List.filter_cons_of_pos hp];rfl
  |false=>simp only[h2,hp,Res.J4,false_eq_true,if_false,ih];rw[List.filter_cons_of_neg (by simp[hp])]
end
def iL(ns:JK):JS:=ns.map .int
def xW(ns:JK):ns.map PV.int=iL ns:=rfl
section
variable(ns ms:JK)(g:Fl->Fl)(p:Fl->Bool)
@[simp] def Hv:iL []=[]:=rfl
@[simp] def fI(n:Int):iL (n::ns)=.int n::iL ns:=rfl
@[simp] def ba:(iL ns).length=ns.length:=by simp[iL]
@[simp] def Hw:iL ns++iL ms=iL (ns++ms):=by simp[iL]
@[simp] def nQ(k:Nat):(iL ns).drop k=iL (ns.drop k):=by simp[iL]
@[simp] def vB(k:Nat):(iL ns).take k=iL (ns.take k):=by simp[iL]
@[simp] def xV(k:Nat):(iL ns)[k]?=(ns[k]?).map .int:=by simp[iL]
@[simp] def qF(k:Nat)(n:Int):(iL ns).set k (.int n)=iL (ns.set k n):=by simp[iL,map_set]
@[simp] def nM:mapL g (iL ns)=iL ns:=by
 induction ns with
 |nil=>rfl
 |cons n ns ih=>simp[mapL,PV.J2,ih]
@[simp] def Ga:hasL p (iL ns)=false:=by
 induction ns with
 |nil=>rfl
 |cons n ns ih=>simp[hasL,PV.has,ih]
@[simp] def Ge:PyData.canLayAll0 (dataL (iL ns))=true:=by
 induction ns with
 |nil=>rfl
 |cons n ns ih=>simp only[fI,dataL,PV.data,PyData.canLayAll0,ih];rfl
@[simp] def Gc:PyData.depthAll (dataL (iL ns))=0:=by
 induction ns with
 |nil=>rfl
 |cons n ns ih=>simp only[fI,dataL,PV.data,PyData.depthAll,ih];rfl
@[simp] def jR(i:Int):shp (.int i)=true:=rfl
@[simp] def IP(b:Bool):shp (.bl b)=true:=rfl
@[simp] def HW:shp .non=true:=rfl
@[simp] def pV(f:Fl):shp (.lst f (iL ns))=true:=by simp[shp,SeqAt.shaped,PV.data,PyData.canLay0,PyData.depth]
@[simp] def ny:(iL ns).all shp=true:=by
 induction ns with
 |nil=>rfl
 |cons n ns ih=>simp only[fI,all_cons,jR,ih];rfl
mutual
def qP:∀d:PyData,d.canLay0=true->PyData.eqv d d=true
 |.none,_=>rfl
 |.bool b,_|.int b,_|.str b,_=>by simp[PyData.eqv]
 |.list xs,h=>by simp only[PyData.canLay0]at h;simp only[PyData.eqv];exact eqvL_self xs h
 |.tuple xs,h=>by simp only[PyData.canLay0]at h;simp only[PyData.eqv];exact eqvL_self xs h
 |.dict xs,h=>by simp[PyData.canLay0]at h
def eqvL_self:∀ds:List PyData,PyData.canLayAll0 ds=true->PyData.eqvAll ds ds=true
 | [],_=>rfl
 |d::ds,h=>by simp only[PyData.canLayAll0,and_eq_true]at h;simp only[PyData.eqvAll,qP d h.1,eqvL_self ds h.2];rfl
end
def Br(h:x.data=y.data)(hs:shp x=true):pNe x y=.ok (.bl false):=by
 have hy:shp y=true:=by unfold shp at hs ⊢;rw[<- h];exact hs
 have hc:=SeqAt.canLay_of_shaped hs;unfold pNe;rw[hs,hy,<- h,qP _ hc];rfl
@[simp] def Jh(i j:Int):pEq (.int i) (.int j)=.ok (.bl (decide (i=j))):=by unfold pEq;simp only[jR,Bool.and_self,if_true,PV.data,PyData.eqv];congr 2
@[simp] def I0(i j:Int):pNe (.int i) (.int j)=.ok (.bl (!decide (i=j))):=by unfold pNe;simp only[jR,Bool.and_self,if_true,PV.data,PyData.eqv];congr 2
@[simp] def JB(i j:Bool):pEq (.bl i) (.bl j)=.ok (.bl (decide (i=j))):=by cases i<;>cases j<;>rfl
@[simp] def Jy(i j:Bool):pNe (.bl i) (.bl j)=.ok (.bl (!decide (i=j))):=by cases i<;>cases j<;>rfl
def nZ:PyData.eqvAll (dataL (iL ns)) (dataL (iL ms))=decide (ns=ms):=by
 induction ns generalizing ms with
 |nil=>cases ms<;>simp[dataL,PyData.eqvAll]
 |cons n ns ih=>
  cases ms with
  |nil=>simp[dataL,PyData.eqvAll]
  |cons m ms=>simp only[fI,dataL,PV.data,PyData.eqvAll,PyData.eqv,ih];by_cases h:n=m<;>simp[h]
@[simp] def IF(f f':Fl):pEq (.lst f (iL ns)) (.lst f' (iL ms))=.ok (.bl (decide (ns=ms))):=by unfold pEq;simp only[pV,Bool.and_self,if_true,PV.data,PyData.eqv,nZ]
@[simp] def Ic(f f':Fl):pNe (.lst f (iL ns)) (.lst f' (iL ms))=.ok (.bl (!decide (ns=ms))):=by unfold pNe;simp only[pV,Bool.and_self,if_true,PV.data,PyData.eqv,nZ]
@[simp] def lt_int(i j:Int):pLt (.int i) (.int j)=.ok (.bl (decide (i<j))):=rfl
@[simp] def le_int(i j:Int):pLe (.int i) (.int j)=.ok (.bl (decide (i<=j))):=rfl
@[simp] def gt_int(i j:Int):pGt (.int i) (.int j)=.ok (.bl (decide (j<i))):=rfl
@[simp] def ge_int(i j:Int):pGe (.int i) (.int j)=.ok (.bl (decide (j<=i))):=rfl
@[simp] def GC(i j:Int):aP (.int i) (.int j)=.ok (.int (i+j)):=rfl
@[simp] def sub_int(i j:Int):iy (.int i) (.int j)=.ok (.int (i-j)):=rfl
@[simp] def neg_int(i:Int):Dw (.int i)=.ok (.int (-i)):=rfl
def bF(h:0<j):cK (.int i) (.int j)=.ok (.int (i%j)):=by simp[cK,fT,h]
def eE(h:0<j)(h2:j<1073741824):dC (.int i) (.int j)=.ok (.int (i / j)):=by simp[dC,fT,h,h2]
def cH(h:(-(2 ^ 64)<i/\i<2 ^ 64)\/(-(2 ^ 64)<j/\j<2 ^ 64)):ck (.int i) (.int j)=.ok (.int (i*j)):=by unfold ck fT;dsimp only;rw[if_pos (by simpa using h)]
@[simp] def Ik(f:Fl)(xs:JS):cX (.lst f xs)=.ok (.int xs.length):=rfl
@[simp] def Ij(xs:JS):cX (.tup xs)=.ok (.int xs.length):=rfl
@[simp] def Hn(f:Fl)(xs:JS):dE (.lst f xs)=.ok (.lst .own xs):=rfl
@[simp] def IU(f:PV->JT)(x:PV):p1 f [x]=f x:=by simp only[p1]
@[simp] def Ip(c:String)(i:Int):qq c (.int i)=.ok (.bl (kf "int" c)):=rfl
@[simp] def Ja(c:String)(i:Bool):qq c (.bl i)=.ok (.bl (kf "bool" c)):=rfl
@[simp] def Im(c:String):qq c .non=.ok (.bl (kf "NoneType" c)):=rfl
@[simp] def Io(c:String)(f:Fl)(xs:JS):qq c (.lst f xs)=.ok (.bl (kf "list" c)):=rfl
@[simp] def Il(c:String)(xs:JS):qq c (.tup xs)=.ok (.bl (kf "tuple" c)):=rfl
@[simp] def Gi(b:Bool):oJ (.bl b)=.ok b:=rfl
@[simp] def FK(i:Int):oJ (.int i)=.ok (i != 0):=rfl
@[simp] def Hl(i:Int):(PV.int i).J2 g=.int i:=by simp[PV.J2]
@[simp] def Ig(b:Bool):(PV.bl b).J2 g=.bl b:=by simp[PV.J2]
@[simp] def Hj:PV.non.J2 g=.non:=by simp[PV.J2]
@[simp] def Hh(x:Str):(PV.str x).J2 g=.str x:=by simp[PV.J2]
@[simp] def Hm(x:Nat):(PV.exc x).J2 g=.exc x:=by simp[PV.J2]
@[simp] def Hk(f:Fl)(xs:JS):(PV.lst f xs).J2 g=.lst (g f) (mapL g xs):=by simp[PV.J2]
@[simp] def Hg(xs:JS):(PV.tup xs).J2 g=.tup (mapL g xs):=by simp[PV.J2]
@[simp] def Hi(f:Fl)(c:Nat)(ks:List Nat)(xs:JS):(PV.obj f c ks xs).J2 g=.obj (g f) c ks (mapL g xs):=by simp[PV.J2]
@[simp] def He:mapL g []=[]:=by simp[mapL]
@[simp] def vq(x:PV)(xs:JS):mapL g (x::xs)=x.J2 g::mapL g xs:=by simp[mapL]
@[simp] def IA(i:Int):(PV.int i).has p=false:=by simp[PV.has]
@[simp] def Jb(b:Bool):(PV.bl b).has p=false:=by simp[PV.has]
@[simp] def Iy:PV.non.has p=false:=by simp[PV.has]
@[simp] def Iw(x:Str):(PV.str x).has p=false:=by simp[PV.has]
@[simp] def IB(x:Nat):(PV.exc x).has p=false:=by simp[PV.has]
@[simp] def Iz(f:Fl)(xs:JS):(PV.lst f xs).has p=(p f||hasL p xs):=by simp[PV.has]
@[simp] def Iu(xs:JS):(PV.tup xs).has p=hasL p xs:=by simp[PV.has]
@[simp] def Ix(f:Fl)(c:Nat)(ks:List Nat)(xs:JS):(PV.obj f c ks xs).has p=(p f||hasL p xs):=by simp[PV.has]
@[simp] def HB:hasL p []=false:=by simp[hasL]
@[simp] def Gb(x:PV)(xs:JS):hasL p (x::xs)=(x.has p||hasL p xs):=by simp[hasL]
@[simp] def Hb(x:PV):x.J1=!x.has Fl.JZ:=rfl
@[simp] def Gf(x:PV):x.JX=x.J2 Fl.JX:=rfl
@[simp] def Ho:Fl.own.JU=.lnt:=rfl
@[simp] def Hr:Fl.frz.JU=.frz:=rfl
@[simp] def Hs:Fl.bor.JU=.bor:=rfl
@[simp] def Hq:Fl.lnt.JU=.lnt:=rfl
@[simp] def FL:Fl.own.JV=.own:=rfl
@[simp] def FN:Fl.frz.JV=.frz:=rfl
@[simp] def FO:Fl.bor.JV=.bor:=rfl
@[simp] def FM:Fl.lnt.JV=.bor:=rfl
@[simp] def CK:Fl.own.JX=.bor:=rfl
@[simp] def E2:Fl.frz.JX=.frz:=rfl
@[simp] def E3:Fl.bor.JX=.bor:=rfl
@[simp] def E1:Fl.lnt.JX=.bor:=rfl
@[simp] def FT:Fl.own.JY=true:=rfl
@[simp] def FV:Fl.frz.JY=false:=rfl
@[simp] def FW:Fl.bor.JY=false:=rfl
@[simp] def FU:Fl.lnt.JY=false:=rfl
@[simp] def FX:Fl.own.JZ=false:=rfl
@[simp] def FZ:Fl.frz.JZ=false:=rfl
@[simp] def F5:Fl.bor.JZ=false:=rfl
@[simp] def FY:Fl.lnt.JZ=true:=rfl
@[simp] def F6:Fl.own.J0=false:=rfl
@[simp] def F8:Fl.frz.J0=false:=rfl
@[simp] def F_:Fl.bor.J0=true:=rfl
@[simp] def F7:Fl.lnt.J0=false:=rfl
@[simp] def Ey:Fl.own.JW=.frz:=rfl
@[simp] def EA:Fl.frz.JW=.frz:=rfl
@[simp] def EB:Fl.bor.JW=.bor:=rfl
@[simp] def Ez:Fl.lnt.JW=.lnt:=rfl
theorem iZ(h0:0<=i)(h:ns[i.toNat]?=some n):aK (.lst f (iL ns)) (.int i)=.ok (.int n):=by have hl:i.toNat<ns.length:=(List.getElem?_eq_some_iff.mp h).1;unfold aK;simp only[a6,atI,ixN,ba,h0,if_true];rw[if_pos ()];simp[h]
end
section
variable{env:En}{r:Out}
def ju(o:Out)(Q:En->Prop):Prop:=∃e,(o=.next e\/o=.cont e)/\Q e
def b8(h1:a env=.next e)(h2:ju (b e) Q):ju (ar a b env) Q:=by obtain⟨e2,h3,h4⟩:=h2;refine⟨e2,?_,h4⟩;unfold ar;rw[h1];exact h3
def bu(h1:o=.next e)(h2:Q e):ju o Q:=⟨e,.inl h1,h2⟩
def x_{it:MI}{g:TgM}{body rest:MS}{xs:JS}(P:Nat->En->Prop){Q:En->Prop}(h:it env=.ok xs)(h0:P 0 env)
  (step:∀(k:Nat) (x:PV) (e:En),xs[k]?=some x->P k e->∃e1,g x e=some e1/\ju (body e1) (P (k+1))) (fin:∀e,P xs.length e->ju (rest e) Q):ju (ar (cU it g body) rest env) Q:=by
 obtain⟨e2,h1,h2⟩:=jk P h h0 λk x e h1 h2=>by obtain⟨e1,h3,e2,h4,h5⟩:=step k x e h1 h2;exact⟨e1,e2,h3,h4,h5⟩
 exact b8 h1 (fin e2 h2)
def ji(P:Nat->En->Prop)(h:it env=.ok xs)(h0:P 0 env)
  (step:∀(k:Nat) (x:PV) (e:En),xs[k]?=some x->P k e->∃e1,g x e=some e1/\ju (body e1) (P (k+1))) (fin:∀e,P xs.length e->Q e):ju (cU it g body env) Q:=by
 obtain⟨e2,h1,h2⟩:=jk P h h0 λk x e h1 h2=>by obtain⟨e1,h3,e2,h4,h5⟩:=step k x e h1 h2;exact⟨e1,e2,h3,h4,h5⟩
 exact⟨e2,.inl h1,fin e2 h2⟩
def fB{it:MI}{g:TgM}{body rest:MS}{xs:JS}(P:Nat->En->Prop)(h:it env=.ok xs)(h0:P 0 env)
  (step:∀(k:Nat) (x:PV) (e:En),xs[k]?=some x->P k e->∃e1,g x e=some e1/\ju (body e1) (P (k+1))) (fin:∀e,P xs.length e->rest e=r):ar (cU it g body) rest env=r:=by
 obtain⟨e2,h1,h2⟩:=jk P h h0 λk x e h1 h2=>by obtain⟨e1,h3,e2,h4,h5⟩:=step k x e h1 h2;exact⟨e1,e2,h3,h4,h5⟩
 exact ag h1 (fin e2 h2)
theorem sG(h:-1000000<=i/\i<=1000000):inR i=true:=by
 have e:(2:Int) ^ 62=4611686018427387904:=by decide
 unfold inR;rw[decide_eq_true_eq,e];omega
def AN(hi:inR n=true)(h:ms env=.ok [.int n]):bO ms env=.ok (cG 0 n.toNat):=by unfold bO;rw[h,Res.J4];dsimp only;rw[if_pos hi]
def wz{n:Nat}(hi:inR (n:Int)=true)(h:ms env=.ok [.int n]):bO ms env=.ok (cG 0 n):=by have:=AN hi h;rw[toNat_natCast]at this;exact this
theorem Ek{n:Nat}(hn:n<=1000000):-1000000 <=(n:Int)/\(n:Int)<= 1000000:=by omega
def bv{n:Nat}(h:ms env=.ok [.int n])(hn:n<=1000000):bO ms env=.ok (cG 0 n):=wz (sG (Ek hn)) h
def AM(hh:(inR lo&&inR hi)=true)(h:ms env=.ok [.int lo,.int hi]):nN ms env=.ok (cG lo (hi-lo).toNat):=by unfold nN;rw[h,Res.J4];dsimp only;rw[if_pos hh]
def AL(h:ms env=.ok [.int lo,.int hi])(hl:-1000000<=lo/\lo<=1000000)(hh:-1000000<=hi/\hi<=1000000):nN ms env=.ok (cG lo (hi-lo).toNat):=
 AM (by rw[sG hl,sG hh];rfl) h
def aZ(lo:Int)(n:Nat):(cG lo n).length=n:=by simp[cG]
def da(h:(cG lo n)[k]?=some x):k<n/\x=.int (lo+k):=by
 have hk:k<n:=by
  have:=(List.getElem?_eq_some_iff.mp h).1
  rwa [aZ]at this
 refine⟨hk,?_⟩;simp[cG,hk]at h;exact h.symm
def mf{ns:JK}{k:Nat}{x:PV}(h:(iL ns)[k]?=some x):∃n,ns[k]?=some n/\x=.int n:=by simp at h;obtain⟨n,h1,h2⟩:=h;exact⟨n,h1,h2.symm⟩
def cS(h:aO i e=true):tgN i v e=some (e.set i (some v)):=by simp[tgN,h]
end
theorem y3(ns:JK)(lo hi:Nat){l h:Int}(hl:l=lo)(hh:h=hi):i_ (iL ns) (some l) (some h)=iL ((ns.take hi).drop lo):=by
 subst hl hh;unfold i_;rw[HT.sIx_nat,HT.sIx_nat];simp only[ba,nQ,vB];congr 1;rw[List.drop_take];rcases Nat.le_total lo ns.length with h1|h1
 .rw[Nat.min_eq_left h1];rcases Nat.le_total hi ns.length with h2|h2
  .rw[Nat.min_eq_left h2]
  .rw[Nat.min_eq_right h2,List.take_of_length_le (by simp),List.take_of_length_le (by simp;omega)]
 .rw[Nat.min_eq_right h1,List.drop_eq_nil_of_le (Nat.le_refl _),List.drop_eq_nil_of_le h1];simp
theorem eY(hf:f≠.mod)(hg:g≠.mod)(h:xs.length+ys.length<=10000000):aP (.lst f xs) (.lst g ys)=.ok (.lst .own (xs++ys)):=by
 unfold aP
 grind
theorem ke(h:k<n):ixN n (k:Int)=some k:=by unfold ixN;rw[if_pos (),if_pos (),toNat_natCast]
def llL(f:Fl)(xss:List (JK)):JS:=xss.map λxs=>.lst f (iL xs)
section
variable(xss yss:List (JK))(g:Fl->Fl)(p:Fl->Bool)(f:Fl)
@[simp] def Ih:llL f []=[]:=rfl
@[simp] def iV(xs:JK):llL f (xs::xss)=.lst f (iL xs)::llL f xss:=rfl
@[simp] def oY:(llL f xss).length=xss.length:=by simp[llL]
@[simp] def Ii:llL f xss++llL f yss=llL f (xss++yss):=by simp[llL]
@[simp] def Hf:mapL g (llL f xss)=llL (g f) xss:=by
 induction xss with
 |nil=>rfl
 |cons n ns ih=>simp[ih]
def dO(h:p f=false):hasL p (llL f xss)=false:=by
 induction xss with
 |nil=>rfl
 |cons n ns ih=>simp[ih,h]
def t7{k:Nat}{x:PV}(h:(llL f xss)[k]?=some x):∃xs,xss[k]?=some xs/\x=.lst f (iL xs):=by simp[llL]at h;obtain⟨n,h1,h2⟩:=h;exact⟨n,h1,h2.symm⟩
end
@[simp] def Ib(b c:Bool):kU (.bl b) (.bl c)=.ok (.bl (!(b==c))):=rfl
@[simp] def jh(ns:JK):bX (iL ns)=some ns:=by
 induction ns with
 |nil=>rfl
 |cons n ns ih=>simp[bX,ih]
def nO(h:ns.length<=1000):jg (.lst f (iL ns))=.ok (.int (n0 ns)):=by unfold jg;simp only[jh];rw[if_pos (by simpa using h)]
def ut:∀(l acc:JK),(acc++l).Nodup->l.foldl step_dedup acc=acc++l
 | [],acc,_=>by simp
 |x::l,acc,h=>by
  have h':((acc++[x])++ l).Nodup:=by simpa using h
  rw[foldl_cons];have hx:x∉acc:=λhm=>by rw[nodup_append]at h;exact h.2.2 x hm x mem_cons_self rfl
  have:step_dedup acc x=acc++[x]:=by unfold step_dedup;rw[if_neg];simpa using hx
  rw[this,ut l _ h'];simp
def B2(ns:JK):(range ns.length).map (λi=>ns.getD i 0)=ns:=by
 apply List.ext_getElem?;intro i;by_cases h:i<ns.length
 .simp[h]
 .simp[h]
def qV(h:ns.Nodup):n0 ns=ns.length:=by unfold n0 firstMet;rw[B2,ut ns [] (by simpa using h)];rfl
def ua(i:Int)(ns:JK):inL (.int i) (iL ns)=ns.contains i:=by
 induction ns with
 |nil=>rfl
 |cons n ns ih=>have e:inL (.int i) (iL (n::ns))=(PyData.eqv (PV.int n).data (PV.int i).data||inL (.int i) (iL ns)):=rfl;rw[e,ih,List.contains_cons];congr 1;simp only[PV.data,PyData.eqv];exact Bool.beq_comm
@[simp] def JA(i:Int)(ns:JK)(f:Fl):pIn (.int i) (.lst f (iL ns))=.ok (.bl (ns.contains i)):=by unfold pIn;simp only[a6,jR,ny,Bool.and_self,if_true,ua]
@[simp] def Ha(i:Int)(ns:JK)(f:Fl):iM (.int i) (.lst f (iL ns))=.ok (.bl (!ns.contains i)):=by unfold iM;simp only[a6,jR,ny,Bool.and_self,if_true,ua]
def Ends(o:Out):Prop:=∃e,o=.next e
section
variable{env e:En}
def gH(h:Ends (m (args.map some++replicate (n-args.length) none))):bh n m args=.ok .non:=by obtain⟨e,h⟩:=h;exact nD h
def i6(h1:a env=.next e)(h2:Ends (b e)):Ends (ar a b env):=by obtain⟨e2,h2⟩:=h2;exact⟨e2,ag h1 h2⟩
def vM(h:o=.next e):Ends o:=⟨e,h⟩
def yU{it:MI}{g:TgM}{body rest:MS}{xs:JS}(P:Nat->En->Prop)(h:it env=.ok xs)(h0:P 0 env)
  (step:∀(k:Nat) (x:PV) (e:En),xs[k]?=some x->P k e->∃e1,g x e=some e1/\ju (body e1) (P (k+1))) (fin:∀e,P xs.length e->Ends (rest e)):Ends (ar (cU it g body) rest env):=by
 obtain⟨e2,h1,h2⟩:=jk P h h0 λk x e h1 h2=>by obtain⟨e1,h3,e2,h4,h5⟩:=step k x e h1 h2;exact⟨e1,e2,h3,h4,h5⟩
 exact i6 h1 (fin e2 h2)
end
def dJ(h:m env=.ok (.lst f xs))(hf:f.JZ=false)(h1:hasL Fl.JY xs=false)(h2:hasL Fl.JZ xs=false):e9 m env=.ok xs:=by unfold e9;rw[h];simp[hf,eO,h1,h2]
end
end PR
namespace PR
section
variable{n r s k o:Nat}{adj:Nat->Nat->Prop}{far:JK}
def gt(far:JK)(i:Nat):Int:=far.getD i 0
def o6(x:Int)(h:o<far.length)(i:Nat):gt (far.set o x) i=if i=o then x else gt far i:=by
 simp only[gt,getD_eq_getElem?_getD,getElem?_set];by_cases e:o=i
 .subst e;simp[h]
 .rw[if_neg e,if_neg (Ne.symm e)]
structure Far(n r:Nat)(adj:Nat->Nat->Prop)(s k:Nat)(d:Nat->Prop)(far:JK):Prop where
 len:far.length=n
 rt:gt far r=0
 rng:∀i<n,0<=gt far i/\(gt far i<=s+1\/gt far i=n)
 top:∀i<n,gt far i<=n
 up:∀i<n,∀j<n,gt far i<s->adj i j->gt far j<=gt far i+1
 upk:∀i<k,∀j<n,gt far i=s->adj i j->gt far j<=s+1
 upd:∀j<n,d j->gt far j<=s+1
 dn:∀i<n,i≠r->gt far i<n->1<=gt far i/\∃j<n,adj i j/\gt far j=gt far i-1
theorem Far.start(hr:r<n)(h:∀i<n,gt far i=if i=r then 0 else(n:Int))(hl:far.length=n):Far n r adj 0 0 (λ_=>False) far where
 len:=hl
 rt:=by rw[h r hr,if_pos rfl]
 rng:=λi hi=>by rw[h i hi];split<;>omega
 top:=λi hi=>by rw[h i hi];split<;>omega
 up:=λi hi j _ hv _=>by have:=h i hi;split at this<;>omega
 upk:=λi hi=>absurd hi (not_lt_zero _)
 upd:=λ_ _ z=>z.elim
 dn:=λi hi hn hv=>by rw[h i hi,if_neg hn]at hv;omega
theorem Far.skip(F:Far n r adj s k (λ_=>False) far)(hk:gt far k≠s):Far n r adj s (k+1) (λ_=>False) far where
 len:=F.len
 rt:=F.rt
 rng:=F.rng
 top:=F.top
 up:=F.up
 upk:=λi hi j hj e a=>by
  rcases Nat.lt_or_ge i k with h|h
  .exact F.upk i h j hj e a
  .have:i=k:=by omega
   subst this;exact absurd e hk
 upd:=F.upd
 dn:=F.dn
def Far.close(F:Far n r adj s k d far)(hd:∀j,j<n->adj k j->d j):Far n r adj s (k+1) (λ_=>False) far where
 len:=F.len
 rt:=F.rt
 rng:=F.rng
 top:=F.top
 up:=F.up
 upk:=λi hi j hj e a=>by
  rcases Nat.lt_or_ge i k with h|h
  .exact F.upk i h j hj e a
  .have:i=k:=by omega
   subst this;exact F.upd j hj (hd j hj a)
 upd:=λ_ _ z=>z.elim
 dn:=F.dn
def Far.none(F:Far n r adj s k (λ_=>False) far)(hd:∀j,¬d j):Far n r adj s k d far where
 len:=F.len
 rt:=F.rt
 rng:=F.rng
 top:=F.top
 up:=F.up
 upk:=F.upk
 upd:=λj _ z=>absurd z (hd j)
 dn:=F.dn
theorem Far.relax(F:Far n r adj s k d far)(hk:k<n)(ek:gt far k=s)(ho:o<n)(a:adj o k)(hs:s<n) :
  Far n r adj s k (λj=>d j\/j=o) (far.set o (min (gt far o) (s+1)))/\gt (far.set o (min (gt far o) (s+1))) k=s:=by
 have hol:o<far.length:=by rw[F.len];exact ho
 have g:=o6 (min (gt far o) ((s:Int)+1)) hol;by_cases hw:gt far o<=s+1
 .have e:∀i,gt (far.set o (min (gt far o) ((s:Int)+1))) i=gt far i:=λi=>by
   rw[g i];split
   .rename_i z;subst z;omega
   .rfl
  refine⟨⟨by rw[length_set];exact F.len,by rw[e];exact F.rt,λi hi=>by rw[e];exact F.rng i hi,λi hi=>by rw[e];exact F.top i hi,λi hi j hj=>by rw[e,e];exact F.up i hi j hj,λi hi j hj=>by rw[e,e];exact F.upk i hi j hj,λj hj z=>?_,λi hi hn=>?_⟩,by rw[e];exact ek⟩
  .rw[e];rcases z with z|z
   .exact F.upd j hj z
   .subst z;exact hw
  .rw[e];intro hv;obtain⟨h1,j,hj,aj,ej⟩:=F.dn i hi hn hv;exact⟨h1,j,hj,aj,by rw[e];exact ej⟩
 .have hn:gt far o=n:=by have:=(F.rng o ho).2;omega
  have hm:min (gt far o) ((s:Int)+1)=s+1:=by omega
  rw[hm]at g ⊢;have hlt:(s:Int)+1<n:=by omega
  have ko:k≠o:=λz=>by subst z;omega
  have ro:r≠o:=λz=>by subst z;have:=F.rt;omega
  have le:∀i,gt (far.set o ((s:Int)+1)) i<=gt far i:=λi=>by
   rw[g i];split
   .rename_i z;subst z;omega
   .exact Int.le_refl _
  have ne:∀i,i≠o->gt (far.set o ((s:Int)+1)) i=gt far i:=λi z=>by rw[g i,if_neg z]
  have eo:gt (far.set o ((s:Int)+1)) o=s+1:=by rw[g o,if_pos rfl]
  refine⟨⟨by rw[length_set];exact F.len,by rw[ne r ro];exact F.rt,λi hi=>?_,λi hi=>Int.le_trans (le i) (F.top i hi),λi hi j hj hv aj=>?_,λi hi j hj hv aj=>?_,λj hj z=>?_,λi hi hn' hv=>?_⟩,by rw[ne k ko];exact ek⟩
  .by_cases z:i=o
   .subst z;rw[eo];omega
   .rw[ne i z];exact F.rng i hi
  .have z:i≠o:=λz=>by subst z;rw[eo]at hv;omega
   rw[ne i z]at hv ⊢;exact Int.le_trans (le j) (F.up i hi j hj hv aj)
  .have z:i≠o:=λz=>by subst z;rw[eo]at hv;omega
   rw[ne i z]at hv;exact Int.le_trans (le j) (F.upk i hi j hj hv aj)
  .rcases z with z|z
   .exact Int.le_trans (le j) (F.upd j hj z)
   .subst z;rw[eo];exact Int.le_refl _
  .by_cases z:i=o
   .subst z;rw[eo];exact⟨by omega,k,hk,a,by rw[ne k ko];omega⟩
   .rw[ne i z]at hv ⊢;obtain⟨h1,j,hj,aj,ej⟩:=F.dn i hi hn' hv;refine⟨h1,j,hj,aj,?_⟩;rw[ne j λq=>by subst q;omega];exact ej
theorem Far.next(F:Far n r adj s n (λ_=>False) far):Far n r adj (s+1) 0 (λ_=>False) far where
 len:=F.len
 rt:=F.rt
 rng:=λi hi=>by have:=F.rng i hi;omega
 top:=F.top
 up:=λi hi j hj hv a=>by
  by_cases h:gt far i<s
  .exact F.up i hi j hj h a
  .have e:gt far i=s:=by omega
   have:=F.upk i hi j hj e a;omega
 upk:=λi hi=>absurd hi (not_lt_zero _)
 upd:=λ_ _ z=>z.elim
 dn:=F.dn
structure pG(n r:Nat)(adj:Nat->Nat->Prop)(far:JK):Prop where
 len:far.length=n
 rt:gt far r=0
 rng:∀i<n,0<=gt far i/\gt far i<=n
 up:∀i<n,∀j<n,adj i j->gt far j<=gt far i+1
 dn:∀i<n,i≠r->gt far i<n->1<=gt far i/\∃j<n,adj i j/\gt far j=gt far i-1
theorem Far.dist(F:Far n r adj n 0 (λ_=>False) far):pG n r adj far where
 len:=F.len
 rt:=F.rt
 rng:=λi hi=>⟨(F.rng i hi).1,F.top i hi⟩
 up:=λi hi j hj a=>by
  by_cases h:gt far i<n
  .exact F.up i hi j hj h a
  .have:=F.top j hj;omega
 dn:=F.dn
theorem nL:∀{l l':JK},l.Nodup->(∀x∈l,x∈l')->l.length<=l'.length
 | [],_,_,_=>zero_le _
 |x::l,l',nd,sub=>by obtain⟨h1,h2⟩:=nodup_cons.mp nd;have hx:=sub x mem_cons_self;have:=nL (l':=l'.erase x) h2 (by grind);rw[List.length_erase_of_mem hx]at this;have:=List.length_pos_of_mem hx;rw[length_cons];omega
theorem pG.below(D:pG n r adj far)(hr:r<n):∀(m:Nat),(∃i<n,gt far i=m)->m<n->∀v,v<=m->∃i<n,gt far i=v
 |0,h,_,v,hv=>by
  have:v=0:=by omega
  subst this;exact h
 |m+1,⟨i,hi,e⟩,hm,v,hv=>by
  rcases Nat.lt_or_ge v (m+1)with h|h
  .have hir:i≠r:=λz=>by subst z;have:=D.rt;omega
   obtain⟨_,j,hj,_,ej⟩:=D.dn i hi hir ();exact D.below hr m ⟨j,hj,by omega⟩ () v ()
  .have:v=m+1:=by omega
   subst this;exact⟨i,hi,e⟩
def cD(h:i<far.length):gt far i∈far:=by simp[gt,h]
theorem pG.all(D:pG n r adj far)(hr:r<n)(conn:∀S:Nat->Prop,S r->(∀i<n,∀j<n,adj i j->S i->S j)->∀i<n,S i):∀i<n,gt far i<n:=by
 refine conn (λi=>gt far i<n) (by show gt far r<n;rw[D.rt];omega) λi hi j hj a hv=>?_;show gt far j<n;rcases Int.lt_or_le (gt far j) n with h|h
 .exact h
 exfalso;have h1:=D.up i hi j hj a;have h2:=(D.rng j hj).2;have e:gt far i=((n-1:Nat):Int):=by omega
 have all:∀v:Nat,v<n+1->(v:Int)∈ far:=λv hv=>by
  rcases Nat.lt_or_ge v n with h|h
  .obtain⟨x,hx,ex⟩:=D.below hr (n-1) ⟨i,hi,e⟩ () v ();rw[<- ex];exact cD (by rw[D.len];exact hx)
  .have:(v:Int)=gt far j:=by omega
   rw[this];exact cD (by rw[D.len];exact hj)
 have:=nL (l:=(range (n+1)).map λk:Nat=>(k:Int)) (l':=far) (Pairwise.map _ (λa b h z=>h ()) nodup_range) (by grind);rw[length_map,length_range,D.len]at this;omega
end
end PR
namespace PR
open PySem PySem.Spec L2
def prL(ps:JH):JS:=ps.map prV
section
variable{ps qs:JH}{x:Int×Int}{f:Fl}{g:Fl->Fl}{p:Fl->Bool}
@[simp] def HZ:prL []=[]:=rfl
@[simp] def lR:prL (x::ps)=prV x::prL ps:=rfl
@[simp] def lv:(prL ps).length=ps.length:=by simp[prL]
@[simp] def A2:prL ps++prL qs=prL (ps++qs):=by simp[prL]
@[simp] def prL_get(k:Nat):(prL ps)[k]?=(ps[k]?).map prV:=by simp[prL]
@[simp] def HX:PV.J2 g (prV x)=prV x:=rfl
@[simp] def HY:(prV x).has p=false:=rfl
@[simp] def Hd:mapL g (prL ps)=prL ps:=by
 induction ps with
 |nil=>rfl
 |cons n ns ih=>simp[mapL,ih]
@[simp] def HA:hasL p (prL ps)=false:=by
 induction ps with
 |nil=>rfl
 |cons n ns ih=>simp[hasL,ih]
@[simp] def rS:shp (prV x)=true:=rfl
@[simp] def pW:(prL ps).all shp=true:=by
 induction ps with
 |nil=>rfl
 |cons n ns ih=>simp only[lR,all_cons,rS,ih];rfl
def EW(x y:Int×Int):PyData.eqv (prV x).data (prV y).data=decide (x=y):=by obtain⟨a,b⟩:=x;obtain⟨c,d⟩:=y;simp only[prV,PV.data,dataL,PyData.eqv,PyData.eqvAll];by_cases h1:a=c<;>by_cases h2:b=d<;>simp[h1,h2]
def xX:inL (prV x) (prL ps)=ps.contains x:=by
 induction ps with
 |nil=>rfl
 |cons n ns ih=>
  have e:inL (prV x) (prL (n::ns))=(PyData.eqv (prV n).data (prV x).data||inL (prV x) (prL ns)):=rfl;rw[e,ih,List.contains_cons,EW];congr 1;by_cases h:n=x
  .subst h;simp
  .rw[decide_eq_false h];exact(beq_eq_false_iff_ne.mpr (Ne.symm h)).symm
@[simp] def Jz:pIn (prV x) (.lst f (prL ps))=.ok (.bl (ps.contains x)):=by unfold pIn;simp only[a6,rS,pW,Bool.and_self,if_true,xX]
@[simp] def G_:iM (prV x) (.lst f (prL ps))=.ok (.bl (!ps.contains x)):=by unfold iM;simp only[a6,rS,pW,Bool.and_self,if_true,xX]
@[simp] def Ir:aK (prV x) (.int 0)=.ok (.int x.1):=rfl
@[simp] def Iq:aK (prV x) (.int 1)=.ok (.int x.2):=rfl
def ou(a b:Int):PV.tup [.int a,.int b]=prV (a,b):=rfl
@[simp] def I8:gI f_ (prV x)=.ok (.int (min x.1 x.2)):=rfl
@[simp] def I9:gI iA (prV x)=.ok (.int (max x.1 x.2)):=rfl
@[simp] def se:gz (prL ps)=some ps:=by
 induction ps with
 |nil=>rfl
 |cons n ns ih=>have:iK (prV n)=some n:=rfl;simp[gz,ih,this]
def uL(ns:JK)(h:ns.length<64):fD (.lst f (iL ns))=.ok (.lst .own (iL (jP ns))):=by simp[fD,h,jh];rfl
def rN(h:ps.length<64)(hd:ps.Nodup):fD (.lst f (prL ps))=.ok (.lst .own (prL (cP ps))):=by
 cases ps with
 |nil=>rfl
 |cons n ns=>have e:bX (prL (n::ns))=none:=rfl;simp only[fD,e,se,lv];rw[if_pos (decide_eq_true h),if_pos (decide_eq_true hd)];rfl
def Di(n:Nat)(i:Int)(ns:JK):db n (.int i) (iL ns)=iL (db n i ns):=by simp[db,iL]
def jX{α:Type}{n:Nat}{y z:α}{l:List α}:z∈db n y l↔z=y\/z∈l:=by
 unfold db;rw[mem_append,mem_cons];constructor
 .rintro(h|h|h)
  .exact .inr (List.mem_of_mem_take h)
  .exact .inl h
  .exact .inr (List.mem_of_mem_drop h)
 .rintro(h|h)
  .exact .inr (.inl h)
  .rw[<- List.take_append_drop n l]at h;rcases mem_append.mp h with h|h
   .exact .inl h
   .exact .inr (.inr h)
def iH{α:Type}(n:Nat)(y:α)(l:List α):(db n y l).Perm (y::l):=by unfold db;refine List.perm_middle.trans ?_;rw[List.take_append_drop]
def vC{i n:Nat}{mk m:ME}{env:En}{xs:JS}{v:PV}{j:Int}(hk:mk env=.ok (.int j))(h:m env=.ok v)(ho:env[i]?=some (some (.lst .own xs)))(hf:uc v=true)(hl:v.J1=true)(hj:j=n)(hn:n<=xs.length)(hx:xs.length<10000000) :
  j_ i mk m env=.next (env.set i (some (.lst .own (db n v xs)))):=by
 subst hj;unfold j_;rw[hk,h,ho];simp only[hf,hl];simp[hx,hn]
end
def cY{x:PV}{xs:JS}{k:Nat}{y:PV}(hs:a6 x=some xs)(h:xs[k]?=some y)(ho:y.has Fl.JY=false):aK x (.int k)=.ok y:=by have hl:k<xs.length:=(List.getElem?_eq_some_iff.mp h).1;unfold aK;simp only[hs,atI];rw[ke hl];simp[h,ho]
def nbL(ps:JH)(at_:Int):JK:=jP ((ps.filter λx=>decide (x.2=at_)).map (·.1)++(ps.filter λx=>decide (x.1=at_)).map (·.2))
def ib{ps:JH}{a o:Int}:o∈nbL ps a ↔(o,a)∈ ps \/(a,o)∈ ps:=by
 unfold nbL;rw[(fM _).mem_iff,mem_append];simp only[mem_map,mem_filter,decide_eq_true_eq];constructor
 .rintro(⟨⟨x,y⟩,⟨h1,h2⟩,h3⟩ |⟨⟨x,y⟩,⟨h1,h2⟩,h3⟩)
  .dsimp only at h2 h3;subst h2 h3;exact .inl h1
  .dsimp only at h2 h3;subst h2 h3;exact .inr h1
 .rintro(h|h)
  .exact .inl ⟨_,⟨h,rfl⟩,rfl⟩
  .exact .inr ⟨_,⟨h,rfl⟩,rfl⟩
def mm(w:Int×Int):Int×Int:=(min w.1 w.2,max w.1 w.2)
structure FF(n:Nat)(ws:JH):Prop where
 rg:∀w∈ws,0<=w.1/\w.1<n/\0<=w.2/\w.2<n/\w.1≠w.2
 nd:(ws.map mm).Nodup
 sz:ws.length<64
end PR
namespace PR
theorem Ct{w u:Int×Int}(h:mm w=mm u):w=u\/w=(u.2,u.1):=by obtain⟨a,b⟩:=w;obtain⟨c,d⟩:=u;simp only[mm,Prod.mk.injEq]at h ⊢;omega
def tX{w u:Int×Int}(h:mm w=mm u):(w.1=u.1/\w.2=u.2)\/(w.1=u.2/\w.2=u.1):=by
 rcases Ct h with rfl|rfl
 .exact .inl ⟨rfl,rfl⟩
 .exact .inr ⟨rfl,rfl⟩
structure Tree(n:Nat)(od:JK)(k:Nat)(ws:JH):Prop where
 rg:∀w∈ws,w.1∈od.take k/\w.2∈od.take k/\w.1≠w.2
 nd:(ws.map mm).Nodup
 ln:ws.length+1=k
 cn:∀S:Int->Prop,(∀w∈ws,(S w.1↔S w.2))->∀a∈od.take k,(S a↔S (od.getD 0 0))
theorem Tree.start{n:Nat}{od:JK}(h:od.length=n)(hn:1<=n):Tree n od 1 [] where
 rg:=λw hw=>by cases hw
 nd:=.nil
 ln:=rfl
 cn:=λS _ a ha=>by
  cases od with
  |nil=>simp at h;omega
  |cons x l=>
   have:a=x:=by simpa using ha
   subst this;simp
theorem Tree.more{n:Nat}{od:JK}{k j:Nat}{ws:JH}{w:Int×Int}{p:Nat}(T:Tree n od k ws)(hod:od.Nodup)(hk:k<od.length)(hj:j<k)(hw:w=(od.getD k 0,od.getD j 0)\/ w=(od.getD j 0,od.getD k 0)):Tree n od (k+1) (db p w ws):=by
 have hjl:j<od.length:=by omega
 have e1:od.getD k 0=od[k]:=by simp[hk]
 have e2:od.getD j 0=od[j]:=by simp[hjl]
 rw[e1,e2]at hw;have tk:od.take (k+1)=od.take k++[od[k]]:=by rw[take_add_one];simp[hk]
 have mj:od[j]∈ od.take k:=List.mem_take_iff_getElem.mpr ⟨j,by omega,rfl⟩;have nk:od[k]∉ od.take k:=λz=>by obtain⟨i,hi,e⟩:=List.mem_take_iff_getElem.mp z;have:=(getElem_inj hod).mp e;omega
 have ne:od[k]≠ od[j]:=λz=>nk (z▸mj);have mem:∀u∈db p w ws,u=w\/u∈ws:=λu hu=>jX.mp hu;refine⟨λu hu=>?_,?_,?_,λS hS a ha=>?_⟩
 .rcases mem u hu with rfl|hu
  .grind
  .obtain⟨h1,h2,h3⟩:=T.rg u hu;rw[tk];exact⟨mem_append_left _ h1,mem_append_left _ h2,h3⟩
 .have:((db p w ws).map mm).Perm (mm w::ws.map mm):=(iH p w ws).map mm;refine this.symm.nodup (nodup_cons.mpr ⟨λz=>?_,T.nd⟩);obtain⟨u,hu,e⟩:=mem_map.mp z;obtain⟨h1,h2,_⟩:=T.rg u hu;rcases hw with rfl|rfl
  .rcases tX e with⟨q1,q2⟩ |⟨q1,q2⟩
   .exact nk (by rw[q1]at h1;exact h1)
   .exact nk (by rw[q2]at h2;exact h2)
  .rcases tX e with⟨q1,q2⟩ |⟨q1,q2⟩
   .exact nk (by rw[q2]at h2;exact h2)
   .exact nk (by rw[q1]at h1;exact h1)
 .rw[(iH p w ws).length_eq,length_cons,T.ln]
 .have hw':=hS w (jX.mpr (.inl rfl));have cn:=T.cn S λu hu=>hS u (jX.mpr (.inr hu))
  grind
structure gu(n m:Nat)(ws:JH):Prop where
 rg:∀w∈ws,0<=w.1/\w.1<n/\0<=w.2/\w.2<n/\w.1≠w.2
 nd:(ws.map mm).Nodup
 ln:ws.length<=m
 cn:∀S:Int->Prop,(∀w∈ws,(S w.1↔S w.2))->∀i j:Nat,i<n->j<n->S i->S j
theorem Tree.whole{n:Nat}{od:JK}{ws:JH}(T:Tree n od n ws)(hp:od.Perm ((range n).map λk:Nat=>(k:Int))):gu n n ws:=by
 have hl:od.length=n:=by simpa using hp.length_eq
 have ht:od.take n=od:=by rw[<- hl,take_length]
 have hm:∀a,a∈od↔∃k:Nat,k<n/\(k:Int)=a:=λa=>by rw[hp.mem_iff];simp
 refine⟨λw hw=>?_,T.nd,by have:=T.ln;omega,λS hS i j hi hj hs=>?_⟩
 .obtain⟨h1,h2,h3⟩:=T.rg w hw;rw[ht]at h1 h2;obtain⟨a,ha,ea⟩:=(hm _).mp h1;obtain⟨b,hb,eb⟩:=(hm _).mp h2;omega
 .have cn:=T.cn S hS;rw[ht]at cn;exact(cn j ((hm _).mpr ⟨j,hj,rfl⟩)).mpr ((cn i ((hm _).mpr ⟨i,hi,rfl⟩)).mp hs)
theorem gu.more{n m p:Nat}{ws:JH}{a b:Int}(h:gu n m ws)(ha:0<=a/\a<n)(hb:0<=b/\b<n)(hne:a≠b)(h1:(a,b)∉ ws)(h2:(b,a)∉ ws):gu n (m+1) (db p (a,b) ws):=by
 refine⟨λu hu=>?_,?_,?_,λS hS=>h.cn S λu hu=>hS u (jX.mpr (.inr hu))⟩
 .rcases jX.mp hu with rfl|hu
  .exact⟨ha.1,ha.2,hb.1,hb.2,hne⟩
  .exact h.rg u hu
 .have:((db p (a,b) ws).map mm).Perm (mm (a,b)::ws.map mm):=(iH p (a,b) ws).map mm;refine this.symm.nodup (nodup_cons.mpr ⟨λz=>?_,h.nd⟩);obtain⟨u,hu,e⟩:=mem_map.mp z;rcases Ct e with rfl|rfl
  .exact h1 hu
  .exact h2 hu
 .rw[(iH p (a,b) ws).length_eq,length_cons];have:=h.ln;omega
def gu.keep{n m:Nat}{ws:JH}(h:gu n m ws):gu n (m+1) ws:=⟨h.rg,h.nd,Nat.le_succ_of_le h.ln,h.cn⟩
theorem gu.good{n m:Nat}{ws:JH}(h:gu n m ws)(hm:m<64):FF n ws:=⟨h.rg,h.nd,by have:=h.ln;omega⟩
open PySem L2 in
def jM(o:Out)(Q:PV->Prop):Prop:=∃v,o=.ret v/\Q v
section
open PySem L2
variable{env e:En}{Q:PV->Prop}
def bY{a b:MS}(h1:a env=.next e)(h2:jM (b e) Q):jM (ar a b env) Q:=by obtain⟨v,h,q⟩:=h2;exact⟨v,ag h1 h,q⟩
def lQ{c:MT}{a b rest:MS}(hc:c env=.ok true)(h:jM (a env) Q):jM (ar (mBr c a b) rest env) Q:=by obtain⟨v,h1,h2⟩:=h;exact⟨v,dB (jb hc h1),h2⟩
def dg{o:Out}{v:PV}(h:o=.ret v)(q:Q v):jM o Q:=⟨v,h,q⟩
def iG{it:MI}{g:TgM}{body rest:MS}{xs:JS}(P:Nat->En->Prop)(h:it env=.ok xs)(h0:P 0 env)
  (step:∀(k:Nat) (x:PV) (e:En),xs[k]?=some x->P k e->∃e1,g x e=some e1/\ju (body e1) (P (k+1))) (fin:∀e,P xs.length e->jM (rest e) Q):jM (ar (cU it g body) rest env) Q:=by
 obtain⟨e2,h1,h2⟩:=jk P h h0 λk x e h1 h2=>by obtain⟨e1,h3,e2,h4,h5⟩:=step k x e h1 h2;exact⟨e1,e2,h3,h4,h5⟩
 exact bY h1 (fin e2 h2)
end
end PR
namespace PR
open PySem L2
section
variable{env:En}
def gU(ho:env[0]?=some (some (.obj .own c ks vs)))(ha:ms env=.ok xs)(hl:hasL Fl.JZ xs=false)
  (hm:m (.obj .own c ks vs::mapL Fl.JV xs)=.ok (.obj fl c' ks' vs')) (hb:(PV.obj fl c' ks' vs').has Fl.J0=false):iB m ms env=.next (env.set 0 (some (.obj fl c' ks' vs'))):=by
 unfold iB;rw[ho];dsimp only;rw[ha];dsimp only;rw[hl,if_neg (by decide),hm];dsimp only;rw[hb,if_neg (by decide)]
end
def kJ(h:c env=.ok true)(h2:ju (a env) Q):ju (mBr c a b env) Q:=by rw[CJ h];exact h2
def nS(h:c env=.ok false)(h2:ju (b env) Q):ju (mBr c a b env) Q:=by rw[CJ h];exact h2
section
variable{env:En}{g:TgM}{me:ME}
def f7(f:Int->Int)(row:JK)(h:∀x∈row,∃e1,g (.int x) env=some e1/\me e1=.ok (.int (f x))):dP g bN me env (iL row)=.ok (iL (row.map f)):=by rw[show iL (row.map f)=row.map λx=>PV.int (f x) by simp[iL]];exact bp (a:=PV.int) (f:=λx=>.int (f x)) row λx hx=>let⟨e1,h1,h2⟩:=h x hx;⟨e1,h1,h2,rfl,rfl⟩
def kO(lo:Int)(f:Nat->Int)(n:Nat)(h:∀k<n,∃e1,g (.int (lo+(k:Int))) env=some e1/\me e1=.ok (.int (f k))):dP g bN me env (cG lo n)=.ok (iL ((range n).map f)):=by rw[show iL ((range n).map f)=(range n).map λk=>PV.int (f k) by simp[iL]];exact bp (a:=λk:Nat=>PV.int (lo+(k:Int))) (f:=λk=>.int (f k)) (range n) λk hk=>let⟨e1,h1,h2⟩:=h k (mem_range.mp hk);⟨e1,h1,h2,rfl,rfl⟩
def dA(p:Nat->Bool)(f:Nat->Int)(n:Nat)(h:∀k<n,∃e1,g (.int (0+(k:Int))) env=some e1/\mc e1=.ok (p k)/\(p k=true->me e1=.ok (.int (f k)))):dP g mc me env (cG 0 n)=.ok (iL (((range n).filter p).map f)):=by rw[show iL (((range n).filter p).map f)=((range n).filter p).map λk=>PV.int (f k) by simp[iL]];exact cN (a:=λk:Nat=>PV.int (0+(k:Int))) (f:=λk=>.int (f k)) (p:=p) (range n) λk hk=>let⟨e1,h1,h2,h3⟩:=h k (mem_range.mp hk);⟨e1,h1,h2,λz=>⟨h3 z,rfl,rfl⟩⟩
end
theorem cZ(h0:0<=i)(h:i<cs.length):aK (.lst f (iL cs)) (.int i)=.ok (.int (gt cs i.toNat)):=by
 have:i.toNat<cs.length:=by omega
 exact iZ _ h0 (by simp[gt,this])
def y2(xs:JS)(k:Nat)(h:k<=xs.length):i_ xs none (some (k:Int))=xs.take k:=by unfold i_;rw[HT.sIx_nat,HT.sIx_none];simp[Nat.min_eq_left h]
def y4(xs:JS)(k:Nat)(h:k<=xs.length):i_ xs (some (k:Int)) none=xs.drop k:=by unfold i_;rw[HT.sIx_nat,HT.sIx_none];rw[Nat.min_eq_left h,List.take_of_length_le (by simp)]
def gp(p:Int->Bool)(f:Int->Int)(row:JK)(h:∀x∈row,∃e1,g (.int x) env=some e1/\mc e1=.ok (p x)/\(p x=true->me e1=.ok (.int (f x)))):dP g mc me env (iL row)=.ok (iL ((row.filter p).map f)):=by rw[show iL ((row.filter p).map f)=(row.filter p).map λx=>PV.int (f x) by simp[iL]];exact cN (a:=PV.int) (f:=λx=>.int (f x)) (p:=p) row λx hx=>let⟨e1,h1,h2,h3⟩:=h x hx;⟨e1,h1,h2,λz=>⟨h3 z,rfl,rfl⟩⟩
theorem oq{Fin:En->Prop}(P:Nat->En->Prop)(step:∀m e,P m e->(c e=.ok false/\Fin e)\/(c e=.ok true/\∃m' e',m'<m/\(b e=.next e'\/b e=.cont e')/\P m' e')) :
  ∀(k m:Nat) (env:En),m<k->P m env->∃e',whL c b k env=.next e'/\Fin e'
 |0,m,_,h,_=>absurd h (not_lt_zero m)
 |k+1,m,env,h,hP=>by
  unfold whL;rcases step m env hP with⟨h1,h2⟩ |⟨h1,m',e',h2,h3,h4⟩
  .rw[h1];exact⟨env,rfl,h2⟩
  .obtain⟨e2,h5,h6⟩:=oq P step k m' e' () h4;rw[h1];rcases h3 with h3|h3<;>rw[h3]<;>exact⟨e2,h5,h6⟩
section
variable{env:En}{r:Out}
def uO{c:MT}{b rest:MS}{Fin:En->Prop}(P:Nat->En->Prop)(m:Nat)(hm:m<100000)(h0:P m env)(step:∀m e,P m e->(c e=.ok false/\Fin e)\/(c e=.ok true/\∃m' e',m'<m/\(b e=.next e'\/b e=.cont e')/\P m' e'))(fin:∀e,Fin e->rest e=r):ar (jF c b) rest env=r:=by obtain⟨e',h1,h2⟩:=oq P step 100000 m env hm h0;exact ag h1 (fin e' h2)
def lP{Q:PV->Prop}{c:MT}{b rest:MS}{Fin:En->Prop}(P:Nat->En->Prop)(m:Nat)(hm:m<100000)(h0:P m env)(step:∀m e,P m e->(c e=.ok false/\Fin e)\/(c e=.ok true/\∃m' e',m'<m/\(b e=.next e'\/b e=.cont e')/\P m' e'))(fin:∀e,Fin e->jM (rest e) Q):jM (ar (jF c b) rest env) Q:=by obtain⟨e',h1,h2⟩:=oq P step 100000 m env hm h0;exact bY h1 (fin e' h2)
end
def kM(cs:JK)(k:Nat)(h:k<=cs.length):i_ (iL cs) (some (k:Int)) none=iL (cs.drop k):=by rw[y4 _ k (by rw[ba];exact h),nQ]
theorem kY:v∈cs.drop k↔∃i,k<=i/\i<cs.length/\gt cs i=v:=by
 constructor
 .intro h;obtain⟨i,hi,e⟩:=getElem_of_mem h;rw[List.length_drop]at hi;rw[List.getElem_drop]at e;exact⟨k+i,by omega,by omega,by rw[<- e];simp[gt,show k+i<cs.length by omega]⟩
 .rintro⟨i,h1,h2,e⟩;rw[List.mem_iff_getElem];refine⟨i-k,by rw[List.length_drop];omega,?_⟩;rw[List.getElem_drop,<- e];simp[gt,h2,show k+(i-k)=i by omega]
def lh(hl:l.length<=1000)(hb:∀x∈l,-1000000<=x/\x<=1000000):jZ (.lst f (iL l))=.ok (.int l.sum):=by
 have:d9 l=true:=by simp only[d9,all_eq_true,decide_eq_true_eq];exact hb
 simp[jZ,a6,hl,this]
@[simp] def jm(bs:List Bool):fg (bs.map .bl)=some bs:=by
 induction bs with
 |nil=>rfl
 |cons b bs ih=>simp[fg,ih]
end PR
namespace PR
def s0_{α:Type}{a b:α}{l:List α}:(a::l).set 0 b=b::l:=rfl
def s1_{α:Type}{a b:α}{l:List α}{n:Nat}:(a::l).set (n+1) b=a::l.set n b:=rfl
end PR
namespace G
open PySem L2 PR
section
def zL:MS:=
 (ar (mBr (aB (mOp pLt (ac 1) (aq (p1 cX) (ae (ac 0) ao))))
  (bw (mOp aK (ac 0) (ac 1)))
  a9)
 (bw (J5 0)))
def jz:=bh 2 zL
def jd:MS:=
 (ar (gK 0 0 (ac 1))
 (ar (gK 0 7 (ac 2))
 (gK 0 8 (ac 3))))
def gL:=jo 4 jd
def z7:MS:=
 (ar (mBr ((iS (aB (mOp pLt (ac 1) (J5 2))) (aB (mOp pGt (ac 1) (J5 20)))))
  (bH 2 (ae (mC (.str "the number of machines is out of bounds")) ao))
  a9)
 (ar (mBr (aB (mOp pLt (ac 2) (ac 1)))
  (bH 2 (ae (mC (.str "the span is less than the size")) ao))
  a9)
 (iB gL (ae (ac 1) (ae (ac 2) (ae (mC (.bl false)) ao))))))
def yN:=jo 3 z7
def zK:MS:=
 (ar (aW 2 (mOp cK (ac 0) (J5 998244353)))
 (ar (aW 3 (e_ ao))
 (ar (cU (bO (ae (ac 1) ao)) (tgN 4)
  (ar (aW 2 (mOp cK (mOp aP (mOp aP (mOp ck (ac 2) (mOp aP (mOp aP (ac 2) (mOp ck (J5 2) (ac 4))) (J5 40503))) (mOp ck (J5 12553) (ac 4))) (J5 1)) (J5 998244353)))
 (dU 3 (ac 2))))
 (dv 3))))
def my:=bh 5 zK
def zq:MS:=
 (ar (aW 2 (aq (aN my) (ae (ac 1) (ae (ac 0) ao))))
 (ar (aW 3 (e_ ao))
 (ar (cU (bO (ae (ac 0) ao)) (tgN 4)
  (j_ 3 (mOp cK (mOp aK (ac 2) (ac 4)) (mOp aP (ac 4) (J5 1))) (ac 4)))
 (ar (aW 5 (e_ ao))
 (ar (cU (nN (ae (J5 1) (ae (ac 0) ao))) (tgN 4)
  (dU 5 (jG (ae (mOp aK (ac 3) (ac 4)) (ae (mOp aK (ac 3) (mOp cK (mOp dC (mOp aK (ac 2) (ac 4)) (J5 16)) (ac 4))) ao)))))
 (ar (cU (bO (ae (ac 0) ao)) (tgN 4)
  (cU (bO (ae (ac 4) ao)) (tgN 6)
  (ar (aW 7 ((oW (mOp pEq (mOp cK (ac 1) (J5 7)) (J5 3)) ((iU (mOp pEq (mOp cK (mOp aP (mOp dC (mOp aK (ac 2) (ac 4)) (J5 512)) (ac 6)) (ac 0)) (J5 1)) (mOp pEq (mOp cK (mOp dC (mOp aK (ac 2) (ac 4)) (J5 8192)) (J5 3)) (J5 0)))))))
 (mBr ((iq (cO (ac 7)) (iq (aB (mOp iM (jG (ae (ac 6) (ae (ac 4) ao))) (ac 5))) (aB (mOp iM (jG (ae (ac 4) (ae (ac 6) ao))) (ac 5))))))
  (dU 5 (jG (ae (ac 6) (ae (ac 4) ao))))
  a9))))
 (dv 5)))))))
def nX:=bh 8 zq
def zG:MS:=
 (mBr ((iS (aB (mOp pLt (ac 0) (ac 1))) (aB (mOp pGt (ac 0) (J5 10)))))
  (bH 1 (ae (mC (.str "the number of machines is out of bounds")) ao))
  a9)
def yw:=bh 2 zG
def zX:MS:=
 (ar (aW 2 (e_ ao))
 (ar (cU (e9 (ac 1)) (tgN 3)
  (ar (aW 4 (jG (ae (aq (p1 (gI f_)) (ae (ac 3) ao)) (ae (aq (p1 (gI iA)) (ae (ac 3) ao)) ao))))
 (ar (mBr ((iS (aB (mOp pLt (mOp aK (ac 4) (J5 0)) (J5 0))) (aB (mOp pGe (mOp aK (ac 4) (J5 1)) (ac 0)))))
  (bH 1 (ae (mC (.str "a way has a number that is no machine")) ao))
  a9)
 (ar (mBr (aB (mOp pEq (mOp aK (ac 4) (J5 0)) (mOp aK (ac 4) (J5 1))))
  (bH 1 (ae (mC (.str "a way has twice the same machine")) ao))
  a9)
 (ar (mBr (aB (mOp pIn (ac 4) (ac 2)))
  (bH 1 (ae (mC (.str "a way is told twice")) ao))
  a9)
 (dU 2 (ac 4)))))))
 (bw (aq (p1 fD) (ae (ac 2) ao)))))
def yI:=bh 5 zX
def zy:MS:=
 (ar (aW 2 (aV [1] 1 (cm (ac 0)) (tgN 1) (aB (mOp pEq (mOp aK (ac 1) (J5 1)) (ac 0))) (mOp aK (ac 1) (J5 0))))
 (ar (aW 3 (aV [1] 1 (cm (ac 0)) (tgN 1) (aB (mOp pEq (mOp aK (ac 1) (J5 0)) (ac 0))) (mOp aK (ac 1) (J5 1))))
 (bw (aq (p1 fD) (ae (mOp aP (ac 2) (ac 3)) ao)))))
def ui:=bh 4 zy
def rp:MS:=
 (bw (aq (p1 dE) (ae (mOp aK (mUn (ap 2) (ac 0)) (ac 1)) ao)))
def uj:=bh 2 rp
def b5:Nat->Option (JS->JT)
 |8=>some uj
 |_=>none
def zk:MS:=
 (ar (aW 2 (aV [0] 1 (bO (ae (mUn (ap 0) (ac 0)) ao)) (tgN 1) bN (mUn (ap 0) (ac 0))))
 (ar (ig 2 (ac 1) (J5 0))
 (ar (cU (bO (ae (mUn (ap 0) (ac 0)) ao)) (tgN 3)
  (cU (bO (ae (mUn (ap 0) (ac 0)) ao)) (tgN 4)
  (mBr (aB (mOp pEq (mOp aK (ac 2) (ac 4)) (ac 3)))
  (cU (e9 (bM b5 (ac 0) (ae (ac 4) ao))) (tgN 5)
  (ig 2 (ac 5) (aq (fS min) (ae (mOp aK (ac 2) (ac 5)) (ae (mOp aP (ac 3) (J5 1)) ao)))))
  a9)))
 (dv 2))))
def uh:=bh 6 zk
def zo:MS:=
 (ar (iT (aq (aN yw) (ae (ac 1) (ae (J5 1) ao))))
 (ar (gK 0 0 (ac 1))
 (ar (gK 0 1 (aq (p1 eK) (ae (aq (aN yI) (ae (ac 1) (ae (ac 2) ao))) ao)))
 (ar (gK 0 2 (aq (p1 eK) (ae (aV [0] 1 (bO (ae (ac 1) ao)) (tgN 1) bN (aq (p1 eK) (ae (aq (aN ui) (ae (mUn (ap 1) (ac 0)) (ae (ac 1) ao))) ao))) ao)))
 (mBr (aB (mOp pEq (aq (p1 (gI iA)) (ae (aq (aN uh) (ae (ac 0) (ae (J5 0) ao))) ao)) (ac 1)))
  (bH 1 (ae (mC (.str "not every machine can be come to from machine 0")) ao))
  a9)))))
def nW:=jo 3 zo
def rq:MS:=
 (iB gL (ae (ac 1) (ae (ac 2) (ae (mC (.bl false)) ao))))
def mB:=jo 3 rq
def z_:MS:=
 (ar (jq 1) (ar (gK 0 4 (ac 1))
 (iB mB (ae (mUn (ap 0) (ac 1)) (ae (mUn (ap 0) (ac 1)) ao)))))
def yO:=jo 2 z_
def Fh:MS:=
 (ar (mBr (aB (mOp pGt (aq (p1 cX) (ae (ac 0) ao)) (J5 9)))
  (bH 2 (ae (mC (.str "there are more than nine parents")) ao))
  a9)
 (cU (vt (ac 0)) (tgT 2 (bf (tgN 1) (bf (tgN 2) dZ)))
  (mBr ((iS (aB (mOp pLt (ac 2) (J5 0))) (aB (mOp pGe (ac 2) (ac 1)))))
  (bH 2 (ae (mC (.str "a parent is no machine of a lower number than its kid")) ao))
  a9)))
def EH:=bh 3 Fh
def Fg:MS:=
 (ar (iT (aq (aN EH) (ae (ac 1) ao)))
 (ar (gK 0 11 (aq (p1 eK) (ae (ac 1) ao)))
 (iB mB (ae (mOp aP (aq (p1 cX) (ae (ac 1) ao)) (J5 1)) (ae (mOp aP (aq (p1 cX) (ae (ac 1) ao)) (J5 2)) ao)))))
def EG:=jo 2 Fg
def zE:MS:=
 (mBr ((iS (aB (mOp pLt (ac 0) (J5 1))) (aB (mOp pGt (ac 0) (J5 10)))))
  (bH 2 (ae (mC (.str "the stretch or the number of blocks is out of bounds")) ao))
  a9)
def uk:=bh 1 zE
def zY:MS:=
 (ar (mBr (aB (mOp pNe (aq (p1 cX) (ae (ac 1) ao)) (mUn (ap 0) (ac 0))))
  (bH 2 (ae (mC (.str "there are not as many starts as machines")) ao))
  a9)
 (cU (e9 (ac 1)) (tgN 3)
  (mBr ((iq (aB (mOp jw (ac 3) (mC .non))) ((iS (aB (mOp pLt (ac 3) (J5 0))) (aB (mOp pGe (ac 3) (ac 2)))))))
  (bH 2 (ae (mC (.str "a start is out of bounds")) ao))
  a9)))
def yJ:=bh 4 zY
def Fd:MS:=
 (ar (iT (aq (aN uk) (ae (ac 3) ao)))
 (ar (iT (aq (aN uk) (ae (ac 4) ao)))
 (ar (gK 0 3 (mOp ck (ac 3) (ac 4)))
 (ar (iT (aq (aN yJ) (ae (ac 1) (ae (ac 2) (ae (mUn (ap 3) (ac 0)) ao)))))
 (ar (jq 1) (ar (gK 0 4 (ac 1))
 (ar (gK 0 5 (aq (p1 eK) (ae (ac 2) ao)))
 (ar (gK 0 6 (ac 3))
 (iB gL (ae (mUn (ap 0) (ac 1)) (ae (mOp aP (mUn (ap 3) (ac 0)) (J5 1)) (ae (mC (.bl true)) ao))))))))))))
def vG:=jo 5 Fd
def zN:MS:=
 (ar (mBr ((iS (aB (mOp pLt (ac 2) (J5 0))) (aB (mOp pGe (ac 2) (mUn (ap 0) (ac 1))))))
  (bH 2 (ae (mC (.str "the root is no machine")) ao))
  a9)
 (ar (aW 3 (aV [2] 1 (bO (ae (mUn (ap 0) (ac 1)) ao)) (tgN 1) bN (sB (aB (mOp pEq (ac 1) (ac 0))) (J5 0) (mC .non))))
 (ar (jq 3) (ar (jq 1) (iB vG (ae (ac 1) (ae (ac 3) (ae (mUn (ap 0) (ac 1)) (ae (J5 1) ao)))))))))
def ul:=jo 4 zN
def zM:MS:=
 (ar (mBr (aB (mOp pNe (aq (p1 cX) (ae (ac 1) ao)) (mUn (ap 0) (ac 0))))
  (bH 2 (ae (mC (.str "there are not as many names as machines")) ao))
  a9)
 (ar (mBr (aB (mOp pNe (mUn jg (ac 1)) (aq (p1 cX) (ae (ac 1) ao))))
  (bH 2 (ae (mC (.str "two machines have the same name")) ao))
  a9)
 (cU (e9 (ac 1)) (tgN 2)
  (mBr ((iS (aB (mOp pLt (ac 2) (J5 0))) (aB (mOp pGt (ac 2) (J5 9)))))
  (bH 2 (ae (mC (.str "a name is out of bounds")) ao))
  a9))))
def yA:=bh 3 zM
def zZ:MS:=
 (ar (jq 1) (ar (iT (aq (aN yA) (ae (ac 1) (ae (ac 2) ao))))
 (ar (aW 3 (aV [1] 1 (cm (ac 2)) (tgN 1) bN (mOp ck (mOp iy (J5 9) (ac 1)) (mUn (ap 0) (ac 0)))))
 (ar (jq 3) (iB vG (ae (ac 1) (ae (ac 3) (ae (mUn (ap 0) (ac 1)) (ae (J5 10) ao)))))))))
def yK:=jo 4 zZ
def z6:MS:=
 (ar (jq 1) (ar (gK 0 9 (jH 5 ul (ae (ac 1) (ae (ac 2) ao))))
 (ar (gK 0 4 (ac 1))
 (ar (gK 0 10 (ac 2))
 (iB gL (ae (mUn (ap 0) (ac 1)) (ae (mOp ck (mOp aP (mUn (ap 0) (ac 1)) (J5 1)) (mOp aP (mUn (ap 0) (ac 1)) (J5 1))) (ae (mC (.bl true)) ao))))))))
def yM:=jo 3 z6
def k_:MS:=
 (ar (mBr (aB (mOp pEq (ac 0) (J5 0)))
  (bw (jH 9 yN (ae (mOp aP (ac 1) (J5 1)) (ae (mOp aP (mOp aP (ac 1) (J5 1)) (mOp lV (e_ (ae (mOp cK (ac 2) (J5 3)) (ae (mOp cK (ac 2) (mOp wZ (J5 10) (J5 59))) ao))) (mOp cK (mOp dC (ac 2) (J5 3)) (J5 2)))) ao))))
  a9)
 (ar (mBr (aB (mOp pEq (ac 0) (J5 1)))
  (bw (jH 2 yO (ae (jH 8 nW (ae (ac 1) (ae (aq (aN nX) (ae (ac 1) (ae (ac 3) ao))) ao))) ao)))
  a9)
 (ar (mBr (aB (mOp pEq (ac 0) (J5 2)))
  (bw (jH 3 EG (ae (aV [] 2 (qy (aq (aN my) (ae (ac 3) (ae (mOp iy (ac 1) (J5 1)) ao)))) (tgT 2 (bf (tgN 0) (bf (tgN 1) dZ))) bN (mOp cK (mOp dC (ac 1) (J5 4)) (mOp aP (ac 0) (J5 1)))) ao)))
  a9)
 (ar (mBr (aB (mOp pEq (ac 0) (J5 3)))
  (bw (jH 5 ul (ae (jH 8 nW (ae (ac 1) (ae (aq (aN nX) (ae (ac 1) (ae (ac 3) ao))) ao))) (ae (mOp cK (ac 2) (ac 1)) ao))))
  a9)
 (ar (mBr (aB (mOp pEq (ac 0) (J5 4)))
  (bw (jH 6 yK (ae (jH 8 nW (ae (ac 1) (ae (aq (aN nX) (ae (ac 1) (ae (ac 3) ao))) ao))) (ae (aV [2] 1 (bO (ae (ac 1) ao)) (tgN 1) bN (mOp cK (mOp aP (ac 0) (mOp ck (J5 3) (ac 1))) (J5 10))) ao))))
  a9)
 (bw (jH 7 yM (ae (jH 8 nW (ae (ac 1) (ae (aq (aN nX) (ae (ac 1) (ae (ac 3) ao))) ao))) (ae (mOp cK (ac 2) (ac 1)) ao)))))))))
def uf:=bh 4 k_
def zv:MS:=
 (ar (mBr (aB (mOp pNe (aq (p1 cX) (ae (ac 1) ao)) (mUn (ap 0) (ac 0))))
  (bH 3 (ae (mC (.str "there are not as many registers as machines")) ao))
  a9)
 (bw (aV [0] 1 (cm (ac 1)) (tgN 1) bN (mOp cK (ac 1) (mUn (ap 7) (ac 0))))))
def ir:=bh 2 zv
def aE:Nat->Option (JS->JT)
 |0|1|2|3|4|5|6|7|9=>some ir
 |_=>none
def zF:MS:=
 (ar (mBr ((iq (cO (mUn (ap 8) (ac 0))) (aB (mOp pGt (aq (p1 cX) (ae (ac 1) ao)) (J5 1)))))
  (bH 4 (ae (mC (.str "a rule that is alone gets one machine at a turn")) ao))
  a9)
 (ar (cU (e9 (ac 1)) (tgN 2)
  (mBr ((iS (aB (mOp pLt (ac 2) (J5 0))) (aB (mOp pGe (ac 2) (mUn (ap 0) (ac 0))))))
  (bH 4 (ae (mC (.str "a name is no machine")) ao))
  a9))
 (mBr (aB (mOp pNe (mUn jg (ac 1)) (aq (p1 cX) (ae (ac 1) ao))))
  (bH 4 (ae (mC (.str "a machine is named twice")) ao))
  a9)))
def yv:=bh 3 zF
def HL:MS:=
 (bw (mOp aK (ac 1) (ac 2)))
def yo:=bh 3 HL
def Ji:MS:=
 (bw (e_ ao))
def HG:=bh 2 Ji
def Fu:MS:=
 (bw (aV [1] 1 (cm (bM b5 (mUn (ap 4) (ac 0)) (ae (ac 1) ao))) (tgN 1) (aB (mOp pLt (ac 1) (ac 0))) (ac 1)))
def EQ:=bh 2 Fu
def Fw:MS:=
 (bw (aV [1] 2 (BC (mUn (ap 11) (ac 0))) (tgT 2 (bf (tgN 1) (bf (tgN 2) dZ))) (aB (mOp pEq (ac 2) (ac 0))) (ac 1)))
def ES:=bh 2 Fw
def aX:Nat->Option (JS->JT)
 |1=>some HG
 |2=>some EQ
 |3=>some ES
 |_=>none
def z5:MS:=
 (ar (aW 3 (aV [1] 1 (cm (bM aX (ac 0) (ae (ac 2) ao))) (tgN 1) bN (mOp aK (ac 0) (ac 1))))
 (ar (aW 4 (J5 0))
 (ar (jF (aB (mOp pIn (ac 4) (ac 3)))
  (aW 4 (mOp aP (ac 4) (J5 1))))
 (dv 4))))
def yL:=bh 5 z5
def zS:MS:=
 (bw (aq (fS min) (ae (mUn (ap 0) (ac 0)) (ae (mOp aP (J5 1) (aq (p1 jZ) (ae (aV [1] 1 (cm (bM aX (ac 0) (ae (ac 2) ao))) (tgN 1) bN (mOp aK (ac 0) (ac 1))) ao))) ao))))
def yE:=bh 3 zS
def Fx:MS:=
 (bw ((iU (mOp pNe (ac 1) (mUn (ap 3) (ac 0))) (mOp pNe (mOp cK (mOp aP (ac 1) (J5 1)) (mUn (ap 6) (ac 0))) (J5 0)))))
def vJ:=bh 2 Fx
def dI:Nat->Option (JS->JT)
 |4|5|6=>some vJ
 |_=>none
def z8:MS:=
 (ar (aW 3 (aV [1] 1 (cm (bM b5 (mUn (ap 4) (ac 0)) (ae (ac 2) ao))) (tgN 1) bN (mOp aK (ac 0) (ac 1))))
 (ar (aW 4 (aV [0] 1 (cm (ac 3)) (tgN 1) (cO (bM dI (ac 0) (ae (ac 1) ao))) (mOp aP (ac 1) (J5 1))))
 (ar (mBr (aB (mOp jw (mOp aK (mUn (ap 5) (ac 0)) (ac 2)) (mC .non)))
  (dU 4 (mOp aK (mUn (ap 5) (ac 0)) (ac 2)))
  a9)
 (bw (aq (p1 (gI f_)) (ae (mOp aP (ac 4) (e_ (ae (mUn (ap 3) (ac 0)) ao))) ao))))))
def nY:=bh 5 z8
def Fj:MS:=
 (bw (aV [0] 1 (cm (ac 1)) (tgN 1) bN (jG (ae (mOp dC (ac 1) (mOp aP (mUn (ap 0) (ac 0)) (J5 1))) (ae (mOp cK (ac 1) (mOp aP (mUn (ap 0) (ac 0)) (J5 1))) ao)))))
def EI:=bh 2 Fj
def fe:Nat->Option (JS->JT)
 |7=>some EI
 |_=>none
def zV:MS:=
 (bw (aV [] 1 (cm (bM fe (ac 0) (ae (ac 1) ao))) (tgN 0) bN (mOp aK (ac 0) (J5 0))))
def yG:=bh 2 zV
def dY:Nat->Option (JS->JT)
 |7=>some yG
 |_=>none
def kL:Nat->Option (JS->JT)
 |5=>some nY
 |_=>none
def Fp:MS:=
 (bw (aV [] 1 (cm (bM fe (ac 0) (ae (ac 1) ao))) (tgN 0) bN (mOp aK (ac 0) (J5 1))))
def EN:=bh 2 Fp
def c_:Nat->Option (JS->JT)
 |7=>some EN
 |_=>none
def Ff:MS:=
 (ar (mBr (aB (mOp pEq (ac 2) (mUn (ap 10) (ac 0))))
  (bw (mC .non))
  a9)
 (ar (aW 3 (aV [1,2] 1 (cm (bM b5 (mUn (ap 4) (ac 0)) (ae (ac 2) ao))) (tgN 2) (aB (mOp pEq (mOp aK (ac 0) (ac 2)) (mOp iy (mOp aK (ac 0) (ac 1)) (J5 1)))) (ac 2)))
 (bw (mUn nH (ac 3)))))
def EF:=bh 4 Ff
def i8:Nat->Option (JS->JT)
 |7=>some EF
 |_=>none
def Fo:MS:=
 (ar (aW 2 (bM dY (ac 0) (ae (ac 1) ao)))
 (bw (aV [0,2] 1 (bO (ae (mUn (ap 0) (ac 0)) ao)) (tgN 2) bN (bM i8 (ac 0) (ae (ac 1) (ae (ac 2) ao))))))
def EM:=bh 3 Fo
def ik:Nat->Option (JS->JT)
 |7=>some EM
 |_=>none
def Fv:MS:=
 (ar (aW 3 (aV [2] 2 (j9 (ae (bM c_ (ac 0) (ae (ac 1) ao)) (ae (bM ik (ac 0) (ae (ac 1) ao)) ao))) (tgT 2 (bf (tgN 1) (bf (tgN 2) dZ))) (aB (mOp pEq (ac 2) (ac 0))) (ac 1)))
 (bw (aq (fS min) (ae (mUn (ap 0) (ac 0)) (ae (mOp aP (J5 1) (aq (p1 jZ) (ae (ac 3) ao))) ao)))))
def ER:=bh 4 Fv
def de:Nat->Option (JS->JT)
 |7=>some ER
 |_=>none
def zQ:MS:=
 (ar (aW 3 (bM dY (ac 0) (ae (ac 1) ao)))
 (ar (aW 4 (bM kL (mUn (ap 9) (ac 0)) (ae (ac 3) (ae (ac 2) ao))))
 (ar (aW 5 (mOp aK (bM c_ (ac 0) (ae (ac 1) ao)) (ac 2)))
 (ar (mBr (aB (mOp pEq (ac 4) (mOp aK (ac 3) (ac 2))))
  (aW 5 (bM de (ac 0) (ae (ac 1) (ae (ac 2) ao))))
  a9)
 (bw (mOp aP (mOp ck (ac 4) (mOp aP (mUn (ap 0) (ac 0)) (J5 1))) (ac 5)))))))
def yC:=bh 6 zQ
def zP:MS:=
 (ar (mBr (aB (mOp pNe (ac 2) (J5 0)))
  (bw (mOp aK (ac 1) (mOp iy (ac 2) (J5 1))))
  a9)
 (ar (mBr (aB (mOp pEq (mOp aK (ac 1) (J5 0)) (mOp aK (ac 1) (mOp iy (mUn (ap 0) (ac 0)) (J5 1)))))
  (bw (mOp cK (mOp aP (mOp aK (ac 1) (J5 0)) (J5 1)) (mUn (ap 7) (ac 0))))
  a9)
 (bw (mOp aK (ac 1) (J5 0)))))
def yB:=bh 3 zP
def aI:Nat->Option (JS->JT)
 |0|1=>some yo
 |2=>some yL
 |3=>some yE
 |4|5|6=>some nY
 |7=>some yC
 |9=>some yB
 |_=>none
def zD:MS:=
 (ar (iT (aq (aN yv) (ae (ac 0) (ae (ac 2) ao))))
 (bw (aV [2,0,1] 1 (bO (ae (mUn (ap 0) (ac 0)) ao)) (tgN 3) bN (sB (aB (mOp pIn (ac 3) (ac 0))) (bM aI (ac 1) (ae (ac 2) (ae (ac 3) ao))) (mOp aK (ac 2) (ac 3))))))
def iu:=bh 3 zD
def aG:Nat->Option (JS->JT)
 |0|1|2|3|4|5|6|7|9=>some iu
 |_=>none
def zw:MS:=
 (ar (aW 3 (mUn (ap 0) (ac 0)))
 (ar (aW 4 (bM aE (ac 0) (ae (aq (aN my) (ae (ac 2) (ae (ac 3) ao))) ao)))
 (ar (mBr (aB (mOp pEq (mOp cK (ac 2) (J5 5)) (J5 4)))
  (dv 4)
  a9)
 (ar (mBr (aB (mOp pEq (ac 1) (J5 0)))
  (ar (aW 5 (mOp aP (J5 1) (mOp cK (mOp dC (ac 2) (J5 5)) (ac 3))))
 (bw (mOp aP (mOp oK (e_ (ae (mOp aK (ac 4) (J5 0)) ao)) (ac 5)) (mOp oK (e_ (ae (mOp aK (ac 4) (J5 1)) ao)) (mOp iy (ac 3) (ac 5))))))
  a9)
 (ar (cU (bO (ae (mOp ck (J5 2) (ac 3)) ao)) (tgN 6)
  (cU (bO (ae (ac 3) ao)) (tgN 7)
  (aW 4 (bM aG (ac 0) (ae (aq (p1 dE) (ae (ac 4) ao)) (ae (e_ (ae (ac 7) ao)) ao))))))
 (dv 4))))))
def yr:=bh 8 zw
def zJ:MS:=
 (bw (aV [0,1] 1 (bO (ae (mUn (ap 0) (ac 0)) ao)) (tgN 2) (aB (mOp pNe (bM aI (ac 0) (ae (ac 1) (ae (ac 2) ao))) (mOp aK (ac 1) (ac 2)))) (ac 2)))
def iw:=bh 2 zJ
def av:Nat->Option (JS->JT)
 |0|1|2|3|4|5|6|7|9=>some iw
 |_=>none
def zt:MS:=
 (bw (mOp pEq (aq (p1 cX) (ae (bM av (ac 0) (ae (ac 1) ao)) ao)) (J5 0)))
def i4:=bh 2 zt
def z9:MS:=
 (bw (mOp pEq (aq (p1 cX) (ae (bM av (ac 0) (ae (ac 1) ao)) ao)) (J5 1)))
def um:=bh 2 z9
def az:Nat->Option (JS->JT)
 |0|1|2|3|4|5|6|7=>some i4
 |9=>some um
 |_=>none
def zj:MS:=
 (ar (aW 2 (e_ (ae (mOp cK (ac 1) (mUn (ap 0) (ac 0))) ao)))
 (ar (mBr (jx (cO (mUn (ap 8) (ac 0))))
  (ar (aW 3 (mOp cK (mOp ck (mOp cK (mOp dC (ac 1) (J5 7)) (J5 1021)) (J5 271)) (J5 1021)))
 (aW 2 (mOp aP (ac 2) (aV [3,2] 1 (bO (ae (mUn (ap 0) (ac 0)) ao)) (tgN 2) ((iq (aB (mOp pEq (mOp cK (mOp Bc (ac 0) (ac 2)) (J5 2)) (J5 1))) (aB (mOp pNe (ac 2) (mOp aK (ac 1) (J5 0)))))) (ac 2)))))
  a9)
 (dv 2)))
def ug:=bh 4 zj
def zH:MS:=
 (ar (aW 2 (aq (p1 dE) (ae (ac 0) ao)))
 (ar (cU (e9 (ac 1)) (tgT 2 (bf (tgN 3) (bf (tgN 4) dZ)))
  (aW 2 (mOp aP (mOp aP (fq (ac 2) fE (gh (ac 3))) (e_ (ae (ac 4) ao))) (fq (ac 2) (gh (mOp aP (ac 3) (J5 1))) fE))))
 (dv 2)))
def yx:=bh 5 zH
def zA:MS:=
 (ar (aW 3 (bM aE (ac 0) (ae (aq (p1 dE) (ae (ac 1) ao)) ao)))
 (ar (aW 4 (mOp oK (e_ (ae (mC (.bl false)) ao)) (mUn (ap 0) (ac 0))))
 (ar (aW 5 (mC .non))
 (ar (mBr (cO (bM az (ac 0) (ae (aq (p1 dE) (ae (ac 3) ao)) ao)))
  (bw (jG (ae (e_ ao) (ae (J5 0) ao))))
  a9)
 (ar (cU (kZ (ac 2)) (tgT 2 (bf (tgN 6) (bf (tgN 7) dZ)))
  (mBr (aB (mOp iN (ac 5) (mC .non)))
  (ar (cU (e9 (bM av (ac 0) (ae (aq (p1 dE) (ae (ac 3) ao)) ao))) (tgN 8)
  (ig 4 (ac 8) ((oW (mOp aK (ac 4) (ac 8)) (mOp pIn (ac 8) (ac 7))))))
 (ar (aW 3 (bM aG (ac 0) (ae (aq (p1 dE) (ae (ac 3) ao)) (ae (aq (p1 dE) (ae (ac 7) ao)) ao))))
 (mBr (cO (bM az (ac 0) (ae (aq (p1 dE) (ae (ac 3) ao)) ao)))
  (aW 5 (mOp aP (ac 6) (J5 1)))
  a9)))
  a9))
 (bw (jG (ae (aV [4] 1 (bO (ae (mUn (ap 0) (ac 0)) ao)) (tgN 1) (cO (mOp aK (ac 0) (ac 1))) (ac 1)) (ae (ac 5) ao)))))))))
def yt:=bh 9 zA
def ze:MS:=
 (ar (aW 2 (aq (p1 dE) (ae (ac 0) ao)))
 (ar (cU (e9 (ac 1)) (tgT 2 (bf (tgN 3) (bf (tgN 4) dZ)))
  (ar (mBr ((iS (aB (mOp pLt (ac 3) (J5 0))) (aB (mOp pGe (ac 3) (aq (p1 cX) (ae (ac 2) ao))))))
  (bH 3 (ae (mC (.str "a fault is at a machine that is none")) ao))
  a9)
 (ig 2 (ac 3) (ac 4))))
 (dv 2)))
def ud:=bh 5 ze
def zx:MS:=
 (bw ((iU (pM (ac 0) "int") (qx (pM (ac 0) "bool")))))
def qM:=bh 1 zx
def zi:MS:=
 (bw ((iU (pM (ac 0) "list") (iU (aq (p1 (iO lg)) (ae (aV [] 1 (cm (ac 0)) (tgN 0) bN (aq (aN qM) (ae (ac 0) ao))) ao)) (mOp pEq (ac 0) (ac 1))))))
def ue:=bh 2 zi
def zg:MS:=
 (ar (aW 3 (bM aG (ac 0) (ae (ac 1) (ae (ac 2) ao))))
 (ar (aW 4 (aV [2] 1 (cm (bM av (ac 0) (ae (ac 1) ao))) (tgN 1) (aB (mOp pIn (ac 1) (ac 0))) (ac 1)))
 (oU 4 3)))
def qL:=bh 5 zg
def Aa:MS:=
 (ar (aW 3 (bM aE (ac 0) (ae (ac 1) ao)))
 (ar (aW 4 (e_ ao))
 (ar (jq 2) (ar (t5 (e9 (ac 2)) 4 3 5 (aq (aN qL) (ae (ac 0) (ae (ac 3) (ae (ac 5) ao)))))
 (dv 4)))))
def yP:=bh 6 Aa
def zh:MS:=
 (ar (aW 3 (mOp aP (e_ (ae (bM aE (ac 0) (ae (ac 1) ao)) ao)) (aV [] 1 (cm (ac 2)) (tgN 0) bN (mOp aK (ac 0) (J5 1)))))
 (ar (jq 3) (ar (cU (kZ (ac 3)) (tgT 2 (bf (tgN 4) (bf (tgN 5) dZ)))
  (mBr (cO (bM az (ac 0) (ae (ac 5) ao)))
  (dv 4)
  a9))
 (bw (mC .non)))))
def yn:=bh 6 zh
def zd:MS:=
 (ar (aW 4 (aq (aN ud) (ae (ac 1) (ae (ac 2) ao))))
 (ar (aW 5 (aq (aN yP) (ae (ac 0) (ae (ac 4) (ae (ac 3) ao)))))
 (ar (jq 5) (ar (aW 6 (aq (aN yn) (ae (ac 0) (ae (ac 4) (ae (ac 5) ao)))))
 (ar (aW 7 (sB (aB (mOp iN (ac 6) (mC .non))) (ac 5) (fq (ac 5) fE (gh (ac 6)))))
 (ar (aW 8 (aV [7] 1 (bO (ae (mUn (ap 0) (ac 0)) ao)) (tgN 1) (cO (aq (p1 (iO kQ)) (ae (aV [1] 1 (cm (ac 0)) (tgN 1) bN (mOp pIn (ac 0) (mOp aK (ac 1) (J5 0)))) ao))) (ac 1)))
 (oU 8 6)))))))
def ym:=bh 9 zd
def zm:MS:=
 (ar (mBr ((iS (jx (cO (pM (ac 0) "tuple"))) (iS (aB (mOp pNe (aq (p1 cX) (ae (ac 0) ao)) (J5 2))) (jx (cO (aq (aN ue) (ae (mOp aK (ac 0) (J5 0)) (ae (mOp aK (ac 1) (J5 0)) ao))))))))
  (bw (mC (.bl false)))
  a9)
 (ar (mBr (aB (mOp iN (mOp aK (ac 1) (J5 1)) (mC .non)))
  (bw (mOp iN (mOp aK (ac 0) (J5 1)) (mC .non)))
  a9)
 (bw ((iU (aq (aN qM) (ae (mOp aK (ac 0) (J5 1)) ao)) (mOp pEq (mOp aK (ac 0) (J5 1)) (mOp aK (ac 1) (J5 1))))))))
def yp:=bh 2 zm
def zz:MS:=
 (bw (aq j0 (ae (mUn (ap 0) (ac 0)) ao)))
def kh:=bh 2 zz
def Fy:MS:=
 (bw (aq (p1 (iO kQ)) (ae (aV [2] 1 (cm (bM aX (ac 0) (ae (ac 1) ao))) (tgN 1) bN (mOp aK (ac 0) (ac 1))) ao)))
def vK:=bh 3 Fy
def bP:Nat->Option (JS->JT)
 |1|2|3=>some vK
 |_=>none
def Fe:MS:=
 (ar (aW 2 (aV [1] 1 (bO (ae (mUn (ap 0) (ac 0)) ao)) (tgN 1) bN (mOp pIn (ac 1) (ac 0))))
 (ar (cU (bO (ae (mUn (ap 0) (ac 0)) ao)) (tgN 3)
  (aW 2 (aV [2,0] 1 (bO (ae (mUn (ap 0) (ac 0)) ao)) (tgN 2) bN ((oW (mOp aK (ac 0) (ac 2)) (bM bP (ac 1) (ae (ac 2) (ae (ac 0) ao))))))))
 (bw (aV [2] 1 (bO (ae (mUn (ap 0) (ac 0)) ao)) (tgN 1) (cO (mOp aK (ac 0) (ac 1))) (ac 1)))))
def vH:=bh 4 Fe
def aC:Nat->Option (JS->JT)
 |0=>some kh
 |1|2|3=>some vH
 |4|5|6|7|9=>some kh
 |_=>none
def HN:MS:=
 (bH 5 (ae (mC (.str "this rule has no measure")) ao))
def CG:=bh 2 HN
def HP:MS:=
 (bw (J5 0))
def CH:=bh 2 HP
def Fn:MS:=
 (bw (mOp iy (mOp iy (mUn (ap 0) (ac 0)) (J5 1)) (ac 1)))
def EL:=bh 2 Fn
def HK:MS:=
 (dv 1)
def EJ:=bh 2 HK
def dz:Nat->Option (JS->JT)
 |1=>some CH
 |2=>some EL
 |3=>some EJ
 |_=>none
def zf:MS:=
 (ar (aW 2 (J5 1))
 (ar (cU (bO (ae (ac 1) ao)) (tgN 3)
  (aW 2 (mOp ck (ac 2) (ac 0))))
 (dv 2)))
def k9:=bh 4 zf
def Fr:MS:=
 (bw (aq (p1 jZ) (ae (aV [0] 1 (cm (bM av (ac 0) (ae (ac 1) ao))) (tgN 1) bN (aq (aN k9) (ae (J5 2) (ae (bM dz (ac 0) (ae (ac 1) ao)) ao)))) ao)))
def yj:=bh 2 Fr
def Ft:MS:=
 (ar (aW 2 (aV [0,1] 1 (bO (ae (mUn (ap 0) (ac 0)) ao)) (tgN 2) bN (bM aI (ac 0) (ae (ac 1) (ae (ac 2) ao)))))
 (ar (aW 3 (mOp aP (mUn (ap 0) (ac 0)) (J5 1)))
 (ar (aW 4 (J5 0))
 (ar (cU (bO (ae (mUn (ap 3) (ac 0)) ao)) (tgN 5)
  (ar (aW 6 (aV [5] 2 (j9 (ae (ac 1) (ae (ac 2) ao))) (tgT 2 (bf (tgN 1) (bf (tgN 2) dZ))) ((iq (aB (mOp pEq (ac 1) (ac 0))) (aB (mOp pGt (ac 2) (ac 0))))) (ac 1)))
 (ar (aW 7 (aV [5] 2 (j9 (ae (ac 1) (ae (ac 2) ao))) (tgT 2 (bf (tgN 1) (bf (tgN 2) dZ))) ((iq (aB (mOp pGt (ac 1) (ac 0))) (aB (mOp pEq (ac 2) (ac 0))))) (ac 1)))
 (aW 4 (mOp aP (mOp ck (mOp aP (mOp ck (ac 4) (ac 3)) (aq (p1 cX) (ae (ac 6) ao))) (ac 3)) (aq (p1 cX) (ae (ac 7) ao)))))))
 (dv 4)))))
def sN:=bh 8 Ft
def zI:MS:=
 (ar (aW 2 (aV [0,1] 1 (bO (ae (aq (p1 cX) (ae (ac 0) ao)) ao)) (tgN 2) (aB (mOp w5 (jG (ae (mOp aK (ac 0) (ac 2)) (ae (ac 2) ao))) (jG (ae (mOp aK (ac 0) (ac 1)) (ae (ac 1) ao))))) (ac 2)))
 (bw (aq (p1 cX) (ae (ac 2) ao))))
def yz:=bh 3 zI
def gE:Nat->Option (JS->JT)
 |5=>some sN
 |_=>none
def Fq:MS:=
 (ar (aW 2 (bM dY (ac 0) (ae (ac 1) ao)))
 (ar (aW 3 (bM c_ (ac 0) (ae (ac 1) ao)))
 (ar (aW 4 (aV [3,0,1] 1 (bO (ae (mUn (ap 0) (ac 0)) ao)) (tgN 3) (aB (mOp pNe (mOp aK (ac 0) (ac 3)) (bM de (ac 1) (ae (ac 2) (ae (ac 3) ao))))) (ac 3)))
 (ar (aW 5 (aV [2] 1 (cm (ac 4)) (tgN 1) bN (aq (aN k9) (ae (J5 2) (ae (aq (aN yz) (ae (ac 0) (ae (ac 1) ao))) ao)))))
 (bw (mOp aP (mOp ck (bM gE (mUn (ap 9) (ac 0)) (ae (ac 2) ao)) (aq (aN k9) (ae (J5 2) (ae (mUn (ap 0) (ac 0)) ao)))) (aq (p1 jZ) (ae (ac 5) ao))))))))
def EO:=bh 6 Fq
def zr:MS:=
 (ar (aW 1 (J5 1))
 (ar (jF ((iq (aB (mOp pLt (ac 1) (aq (p1 cX) (ae (ac 0) ao)))) (aB (mOp pEq (mOp aK (ac 0) (ac 1)) (mOp aK (ac 0) (J5 0))))))
  (aW 1 (mOp aP (ac 1) (J5 1))))
 (dv 1)))
def yq:=bh 2 zr
def Fk:MS:=
 (ar (mBr (aB (mOp iM (mOp aK (ac 0) (J5 0)) (fq (ac 0) (gh (aq (aN yq) (ae (ac 0) ao))) fE)))
  (bw (J5 0))
  a9)
 (ar (aW 2 (J5 1))
 (ar (jF (aB (mOp pIn (mOp cK (mOp aP (mOp aK (ac 0) (J5 0)) (ac 2)) (ac 1)) (fq (ac 0) (gh (J5 1)) fE)))
  (aW 2 (mOp aP (ac 2) (J5 1))))
 (dv 2))))
def EK:=bh 3 Fk
def Fs:MS:=
 (ar (aW 2 (aV [0] 1 (cm (bM av (ac 0) (ae (ac 1) ao))) (tgN 1) (aB (mOp pNe (ac 1) (J5 0))) (mOp iy (mUn (ap 0) (ac 0)) (ac 1))))
 (bw (mOp aP (mOp ck (mUn (ap 0) (ac 0)) (aq (aN EK) (ae (ac 1) (ae (mUn (ap 7) (ac 0)) ao)))) (aq (p1 jZ) (ae (ac 2) ao)))))
def yk:=bh 3 Fs
def aF:Nat->Option (JS->JT)
 |0=>some CG
 |1|2|3=>some yj
 |4|5|6=>some sN
 |7=>some EO
 |9=>some yk
 |_=>none
def HM:MS:=
 (bH 5 (ae (mC (.str "this rule has no measure")) ao))
def CF:=bh 1 HM
def zT:MS:=
 (bw (mOp iy (aq (aN k9) (ae (J5 2) (ae (mUn (ap 0) (ac 0)) ao))) (J5 1)))
def qN:=bh 1 zT
def Fm:MS:=
 (bw (mOp iy (aq (aN k9) (ae (mOp aP (mUn (ap 0) (ac 0)) (J5 1)) (ae (mOp ck (J5 2) (mUn (ap 3) (ac 0))) ao))) (J5 1)))
def vI:=bh 1 Fm
def jI:Nat->Option (JS->JT)
 |5=>some vI
 |_=>none
def zR:MS:=
 (bw (mOp iy (mOp ck (mOp aP (bM jI (mUn (ap 9) (ac 0)) ao) (J5 1)) (aq (aN k9) (ae (J5 2) (ae (mUn (ap 0) (ac 0)) ao)))) (J5 1)))
def yD:=bh 1 zR
def zU:MS:=
 (bw (mOp dC (mOp ck (mOp ck (J5 3) (mUn (ap 0) (ac 0))) (mOp iy (mUn (ap 0) (ac 0)) (J5 1))) (J5 2)))
def yF:=bh 1 zU
def ay:Nat->Option (JS->JT)
 |0=>some CF
 |1|2|3=>some qN
 |4|5|6=>some vI
 |7=>some yD
 |9=>some yF
 |_=>none
def zu:MS:=
 (bw (bM ay (ac 0) ao))
def i5:=bh 2 zu
def zW:MS:=
 (bw (aq (fS min) (ae (bM ay (ac 0) ao) (ae (mOp aP (mOp ck (mOp aP (ac 1) (J5 2)) (mUn (ap 0) (ac 0))) (mOp ck (mOp aP (mOp ck (J5 2) (ac 1)) (J5 1)) (mOp iy (mUn (ap 0) (ac 0)) (J5 1)))) ao))))
def yH:=bh 2 zW
def aJ:Nat->Option (JS->JT)
 |0|1|2|3|4|5|6|7=>some i5
 |9=>some yH
 |_=>none
def zB:MS:=
 (ar (aW 4 (aV [] 2 (cm (ac 1)) (tgT 2 (bf (tgN 0) (bf (tgN 1) dZ))) bN (ac 0)))
 (ar (aW 5 (bM aC (ac 0) (ae (aq (p1 dE) (ae (ac 4) ao)) ao)))
 (ar (mBr ((iS (jx (cO (pM (ac 5) "list"))) (aB (mOp pNe (ac 5) (aV [5] 1 (bO (ae (mUn (ap 0) (ac 0)) ao)) (tgN 1) (aB (mOp pIn (ac 1) (ac 0))) (ac 1))))))
  (bw (mC (.bl false)))
  a9)
 (ar (mBr (jx (cO (aq (p1 (iO lg)) (ae (aV [5] 1 (cm (ac 3)) (tgN 1) bN (mOp pIn (ac 1) (ac 0))) ao))))
  (bw (mC (.bl false)))
  a9)
 (ar (aW 6 (bM aF (ac 0) (ae (bM aE (ac 0) (ae (aq (p1 dE) (ae (ac 2) ao)) ao)) ao)))
 (bw (kD (fU λi j=>.bl (decide (i<=j))) (fU λi j=>.bl (decide (i<=j))) (ac 6) (bM aJ (ac 0) (ae (aq (p1 cX) (ae (ac 1) ao)) ao)) (bM ay (ac 0) ao))))))))
def yu:=bh 7 zB
def Ab:MS:=
 (ar (aW 1 (aq (aN jz) (ae (ac 0) (ae (J5 0) ao))))
 (ar (aW 2 (mOp cK (ac 1) (J5 6)))
 (ar (aW 3 (aq (aN uf) (ae (ac 2) (ae (mOp aP (J5 1) (mOp cK (mOp dC (ac 1) (J5 6)) (J5 6))) (ae (mOp dC (ac 1) (J5 36)) (ae (aq (aN jz) (ae (ac 0) (ae (J5 1) ao))) ao))))))
 (ar (aW 4 (mUn (ap 0) (ac 3)))
 (ar (aW 5 (aq (aN yr) (ae (ac 3) (ae (ac 2) (ae (aq (aN jz) (ae (ac 0) (ae (J5 2) ao))) ao)))))
 (ar (aW 6 (bM az (ac 3) (ae (aq (p1 dE) (ae (ac 5) ao)) ao)))
 (ar (mBr ((iq (aB (mOp kU (ac 6) (mC (.bl true)))) (aB (mOp pNe (mOp cK (aq (aN jz) (ae (ac 0) (ae (J5 2) ao))) (J5 5)) (J5 4)))))
  (bw (mC (.bl false)))
  a9)
 (ar (aW 7 (e_ ao))
 (ar (cU (e9 (fq (ac 0) (gh (J5 3)) (gh (mOp aP (J5 3) (mOp cK (mOp dC (ac 1) (J5 216)) (J5 7)))))) (tgN 8)
  (dU 7 (jG (ae (mOp cK (mOp dC (ac 8) (J5 2)) (ac 4)) (ae (mOp ck (mOp cK (mOp dC (mOp dC (ac 8) (J5 2)) (ac 4)) (mOp wZ (J5 10) (J5 60))) (mOp lV (e_ (ae (J5 1) (ae (mUn Dw (J5 1)) ao))) (mOp cK (ac 8) (J5 2)))) ao)))))
 (ar (aW 9 (aV [3] 1 (cm (fq (ac 0) (gh (J5 3)) (gh (J5 203)))) (tgN 1) bN (aq (aN ug) (ae (ac 0) (ae (ac 1) ao)))))
 (ar (aW 10 (aq (aN yx) (ae (ac 5) (ae (ac 7) ao))))
 (ar (aW 11 (aq (aN yt) (ae (ac 3) (ae (ac 10) (ae (ac 9) ao)))))
 (ar (cU (bO (ae (J5 2) ao)) (tgN 12)
  (ar (aW 13 (e_ (ae (aq (p1 dE) (ae (ac 5) ao)) (ae (aq (p1 dE) (ae (ac 7) ao)) (ae (aV [] 1 (cm (ac 9)) (tgN 0) bN (aq (p1 dE) (ae (ac 0) ao))) ao)))))
 (ar (aW 14 (aq (aN ud) (ae (mOp aK (ac 13) (J5 0)) (ae (mOp aK (ac 13) (J5 1)) ao))))
 (ar (mBr (jx (cO (aq (aN ue) (ae (ac 14) (ae (ac 10) ao)))))
  (bw (mC (.bl false)))
  a9)
 (ar (dU 14 (J5 0))
 (ar (mBr (aB (mOp pNe (ac 13) (e_ (ae (ac 5) (ae (ac 7) (ae (ac 9) ao))))))
  (bw (mC (.bl false)))
  a9)
 (ar (mBr (jx (cO (aq (aN yp) (ae (aq (aN ym) (ae (ac 3) (ae (mOp aK (ac 13) (J5 0)) (ae (mOp aK (ac 13) (J5 1)) (ae (mOp aK (ac 13) (J5 2)) ao))))) (ae (ac 11) ao)))))
  (bw (mC (.bl false)))
  a9)
 (mBr (aB (mOp pNe (ac 13) (e_ (ae (ac 5) (ae (ac 7) (ae (ac 9) ao))))))
  (bw (mC (.bl false)))
  a9))))))))
 (bw ((oW (qx (ac 6)) (aq (aN yu) (ae (ac 3) (ae (ac 7) (ae (ac 10) (ae (mOp aK (ac 11) (J5 0)) ao)))))))))))))))))))))
def CI:=bh 15 Ab
end
section
def top(i:Nat):Stmt:=PySem.Challenge.pw_calmring_k43_mend.main.body.getD i (.Pass ⟨0,0,0,0⟩)
def tF(q:Str)(i k:Nat)(N:JN):FS:=⟨q,top i,k,N,none⟩
def tM(c:Nat)(q:Str)(i j k:Nat)(N:JN):FS:=⟨q,BM (top i) j,k,N,some c⟩
def mE(c:Nat)(n:Str)(i:Nat):Nat×Str×Nat:=(c,n,i)
noncomputable def pt:PT:={
 F:=[tF "_law_cell_at" 54 2 ["_law_script", "_law_k"],
  tM 0 "Rule.__init__" 18 0 4 ["self","size","span","alone"],
  tM 9 "PassRule.__init__" 50 0 3 ["self","size","span"],
  tF "_law_numbers" 57 2 ["_law_cell","_law_many","_law_number","_law_found","_law_k"],
  tF "_law_ways" 58 2 ["_law_size","_law_cell","_law_numbers_here","_law_order","_law_k","_law_ways_here","_law_j","_law_more"],
  tF "refuse_size" 44 2 ["size","least"],
  tF "ordered_pairs" 45 2 ["size","ways","pairs","way","pair"],
  tF "neighbours" 46 2 ["pairs","at","lower","higher"],
  tM 8 "Net.beside" 42 1 2 ["self","at"],
  tF "far_from" 43 2 ["net","root","far","steps","at","other"],
  tM 8 "Net.__init__" 42 0 3 ["self","size","ways"],
  tM 1 "DownRule.__init__" 22 0 3 ["self","size","span"],
  tM 2 "PaintRule.__init__" 23 0 2 ["self","net"],
  tF "refuse_parents" 25 1 ["parents","kid","parent"],
  tM 3 "CountRule.__init__" 24 0 2 ["self","parents"],
  tF "refuse_part" 33 1 ["part"],
  tF "refuse_starts" 34 3 ["net","starts","top","start"],
  tM 4 "LeastRule.__init__" 30 0 5 ["self","net","starts","stretch","blocks"],
  tM 5 "FarRule.__init__" 31 0 3 ["self","net","root","starts"],
  tF "refuse_names" 35 2 ["net","names","name"],
  tM 6 "LeadRule.__init__" 32 0 3 ["self","net","names","starts"],
  tM 7 "GrowRule.__init__" 37 0 3 ["self","net","root"],
  tF "_law_rule" 59 4 ["_law_kind","_law_size","_law_first","_law_cell"],
  tM 0 "Rule.read" 18 1 2 ["self","registers"],
  tF "refuse_turn" 19 2 ["rule","named","at"],
  tM 0 "Rule.due" 18 2 3 ["self","cells","at"],
  tM 1 "DownRule.hangs_on" 22 1 2 ["self","at"],
  tM 2 "PaintRule.hangs_on" 23 1 2 ["self","at"],
  tM 3 "CountRule.hangs_on" 24 1 2 ["self","at"],
  tM 2 "PaintRule.due" 23 3 3 ["self","cells","at","taken","colour"],
  tM 3 "CountRule.due" 24 3 3 ["self","cells","at"],
  tM 4 "LeastRule.has_offer" 30 2 2 ["self","cell"],
  tM 4 "LeastRule.due" 30 1 3 ["self","cells","at","near","offers"],
  tM 7 "GrowRule.parts" 37 1 2 ["self","cells"],
  tM 7 "GrowRule.fars" 37 6 2 ["self","cells"],
  tM 7 "GrowRule.counts" 37 7 2 ["self","cells"],
  tM 7 "GrowRule.elder" 37 8 3 ["self","fars","at","nearer"],
  tM 7 "GrowRule.elders" 37 2 2 ["self","cells","fars"],
  tM 7 "GrowRule.due_count" 37 9 3 ["self","cells","at","kids"],
  tM 7 "GrowRule.due" 37 3 3 ["self","cells","at","fars","due_far","count"],
  tM 9 "PassRule.due" 50 1 3 ["self","cells","at"],
  tM 0 "Rule.turned" 18 5 3 ["self","cells","named"],
  tF "_law_start" 60 3 ["_law_rule_here","_law_kind","_law_cell","_law_size","_law_cells","_law_cut","_law_k","_law_at"],
  tM 0 "Rule.movers" 18 3 2 ["self","cells"],
  tM 0 "Rule.calm" 18 4 2 ["self","cells"],
  tM 9 "PassRule.calm" 50 2 2 ["self","cells"],
  tF "_law_turn" 61 2 ["_law_rule_here","_law_cell","_law_named","_law_number"],
  tF "_law_written" 62 2 ["_law_cells","_law_faults","_law_found","_law_at","_law_number"],
  tF "_law_walked" 63 3 ["_law_rule_here","_law_registers","_law_turns","_law_cells","_law_touched","_law_behind","_law_k","_law_named","_law_at"],
  tF "spoil" 13 2 ["registers","faults","spoiled","at","number"],
  tF "_law_whole" 55 1 ["_law_found"],
  tF "_law_list" 56 2 ["_law_found","_law_due"],
  tF "row_of" 11 3 ["rule","cells","named","behind","done"],
  tF "run" 9 3 ["rule","registers","turns","cells","rows","named"],
  tF "calm_at" 10 3 ["rule","registers","rows","states","count","cells"],
  tF "mend" 14 4 ["rule","cells","faults","turns","spoiled","rows","behind","wild","touched"],
  tF "_law_told" 64 2 ["_law_found","_law_due"],
  tM 0 "Rule.reach" 18 9 2 ["self","spoiled"],
  tM 1 "DownRule.hangs_on_some" 22 6 3 ["self","at","reached"],
  tM 1 "DownRule.reach" 22 5 2 ["self","spoiled","reached","step"],
  tM 0 "Rule.measure" 18 6 2 ["self","cells"],
  tM 1 "DownRule.rank" 22 2 2 ["self","at"],
  tM 2 "PaintRule.rank" 23 2 2 ["self","at"],
  tM 3 "CountRule.rank" 24 2 2 ["self","at"],
  tF "power" 16 2 ["base","exponent","product","step"],
  tM 1 "DownRule.measure" 22 3 2 ["self","cells"],
  tM 4 "LeastRule.measure" 30 3 2 ["self","cells","dues","base","number","mark","rising","falling"],
  tF "rank_by_far" 38 2 ["fars","at","lower"],
  tM 7 "GrowRule.measure" 37 4 2 ["self","cells","fars","counts","wrong","weights"],
  tF "beginning" 52 1 ["cells","length"],
  tF "steps_to_fresh" 51 2 ["cells","span","steps"],
  tM 9 "PassRule.measure" 50 3 2 ["self","cells","weights"],
  tM 0 "Rule.most" 18 7 1 ["self"],
  tM 1 "DownRule.most" 22 4 1 ["self"],
  tM 4 "LeastRule.most" 30 4 1 ["self"],
  tM 7 "GrowRule.most" 37 5 1 ["self"],
  tM 9 "PassRule.most" 50 4 1 ["self"],
  tM 0 "Rule.soon" 18 8 2 ["self","count"],
  tM 9 "PassRule.soon" 50 5 2 ["self","count"],
  tF "_law_within" 65 4 ["_law_rule_here","_law_faults","_law_registers","_law_touched","_law_some","_law_reach","_law_measure"],
  tF "law" 66 1 ["_law_script","_law_first","_law_kind","_law_rule_here","_law_size","_law_cells","_law_calm","_law_faults","_law_cell","_law_turns","_law_registers","_law_due","_law_again","_law_handed","_law_found"]]
 C:=["Rule","DownRule","PaintRule","CountRule","LeastRule","FarRule","LeadRule","GrowRule","Net","PassRule"]
 X:=["CalmError","BadNet","BadRule","BadState","BadTurn","NoMeasure"]
 A:=["size","pairs","near","top","net","starts","stretch","span","alone","far_rule","root","parents"]
 M:=[mE 8 "beside" 8,mE 0 "read" 23,mE 1 "read" 23,mE 2 "read" 23,mE 3 "read" 23,mE 4 "read" 23,mE 5 "read" 23,mE 6 "read" 23,mE 7 "read" 23,mE 9 "read" 23,mE 1 "hangs_on" 26,mE 2 "hangs_on" 27,mE 3 "hangs_on" 28,mE 4 "has_offer" 31,mE 5 "has_offer" 31,mE 6 "has_offer" 31,mE 7 "parts" 33,mE 7 "fars" 34,mE 5 "due" 32,mE 7 "counts" 35,mE 7 "elder" 36,mE 7 "elders" 37,mE 7 "due_count" 38,mE 0 "due" 25,mE 1 "due" 25,mE 2 "due" 29,mE 3 "due" 30,mE 4 "due" 32,mE 6 "due" 32,mE 7 "due" 39,mE 9 "due" 40,mE 0 "turned" 41,mE 1 "turned" 41,mE 2 "turned" 41,mE 3 "turned" 41,mE 4 "turned" 41,mE 5 "turned" 41,mE 6 "turned" 41,mE 7 "turned" 41,mE 9 "turned" 41,mE 0 "movers" 43,mE 1 "movers" 43,mE 2 "movers" 43,mE 3 "movers" 43,mE 4 "movers" 43,mE 5 "movers" 43,mE 6 "movers" 43,mE 7 "movers" 43,mE 9 "movers" 43,mE 0 "calm" 44,mE 1 "calm" 44,mE 2 "calm" 44,mE 3 "calm" 44,mE 4 "calm" 44,mE 5 "calm" 44,mE 6 "calm" 44,mE 7 "calm" 44,mE 9 "calm" 45,mE 1 "hangs_on_some" 58,mE 2 "hangs_on_some" 58,mE 3 "hangs_on_some" 58,mE 0 "reach" 57,mE 1 "reach" 59,mE 2 "reach" 59,mE 3 "reach" 59,mE 4 "reach" 57,mE 5 "reach" 57,mE 6 "reach" 57,mE 7 "reach" 57,mE 9 "reach" 57,mE 1 "rank" 61,mE 2 "rank" 62,mE 3 "rank" 63,mE 5 "measure" 66,mE 0 "measure" 60,mE 1 "measure" 65,mE 2 "measure" 65,mE 3 "measure" 65,mE 4 "measure" 66,mE 6 "measure" 66,mE 7 "measure" 68,mE 9 "measure" 71,mE 5 "most" 74,mE 0 "most" 72,mE 1 "most" 73,mE 2 "most" 73,mE 3 "most" 73,mE 4 "most" 74,mE 6 "most" 74,mE 7 "most" 75,mE 9 "most" 76,mE 0 "soon" 77,mE 1 "soon" 77,mE 2 "soon" 77,mE 3 "soon" 77,mE 4 "soon" 77,mE 5 "soon" 77,mE 6 "soon" 77,mE 7 "soon" 77,mE 9 "soon" 78]
 Mk:=[(3,14),(5,18),(7,21),(6,20),(8,10),(2,12),(9,2)]
 U:=[(1,11),(4,17),(0,1)]
 B:=["len","range","max","min","sorted","tuple","list","enumerate","set","sum","zip","isinstance","bool","int","all","any"]
 I:=[("LEAST_RING",2),("GREATEST_RING",20),("GREATEST_NET",10),("LEAST_NET",1),("MOST_PARENTS",9),("GREATEST_PART",10),("GREATEST_NAME",9),("LEAD_BLOCKS",10)]
 KT:=[]
 HT:=[]}
theorem hA:pt.attOk:=⟨by decide +kernel,by decide +kernel⟩
abbrev T(K:PySem.W.Frag):Tb:=pt.T hA K
section
variable{P:Program}{w:World}{K:PySem.W.Frag}{mg:JG}{base:Heap}(t:Tx pt K mg)(hB:K.In base)
include t hB
theorem oP:OkF pt hA P w K mg base 1 0 jz:=okC 0 t λ_ _ _ _ _ _ cx nd=>
 (ah (bt (ge (sv 1) (cT cx.hK rfl (t.b 0) (sv 0))) (am (aH (bE cx (sv 0) (sv 1) (λ_ _=>rfl)))) aS)
 (am (aH (ak))))
theorem oO:OkI pt hA P w K mg base 1 1 gL:=okI 1 t λ_ _ _ _ _ _ cx nd=>
 (ah (sFld 0 t cx (sv 1))
 (ah (sFld 7 t cx (sv 2))
 (am (sFld 8 t cx (sv 3)))))
theorem Ec:OkI pt hA P w K mg base 3 2 yN:=okI 2 t λ_ _ _ _ _ _ cx nd=>
 (ah (bt (SW.st (gG (ge (sv 1) (et rfl (t.c 0))) (fh (kS (sv 1) (et rfl (t.c 1)))))) (am (cB 2 t cx hB cy (aa (cz) af))) aS)
 (ah (bt (ge (sv 2) (sv 1)) (am (cB 2 t cx hB cy (aa (cz) af))) aS)
 (am (pX 0 t (oO t hB) cx (aa (sv 1) (aa (sv 2) (aa (gg) af)))))))
theorem sj:OkF pt hA P w K mg base 1 3 my:=okC 3 t λ_ _ _ _ _ _ cx nd=>
 (ah (bJ nd (bI (sv 0) (ak)))
 (ah (bJ nd (gy af))
 (ah (b9 cx.po cx.calm (cJ rfl (t.b 1) (aa (sv 1) af)) (sgN nd) (ah (bJ nd (bI (aR (aR (cA (sv 2) (aR (aR (sv 2) (cA (ak) (sv 4))) (ak))) (cA (ak) (sv 4))) (ak)) (ak)))
 (am (rW cx (sv 2)))))
 (am (cQ rfl (Or.inl rfl))))))
theorem oN:OkF pt hA P w K mg base 2 4 nX:=okC 4 t λ_ _ _ _ _ _ cx nd=>
 (ah (bJ nd (bB t (sj t hB) cx (aa (sv 1) (aa (sv 0) af))))
 (ah (bJ nd (gy af))
 (ah (b9 cx.po cx.calm (cJ rfl (t.b 1) (aa (sv 0) af)) (sgN nd) (am (uJ cx.hK rfl (Or.inl rfl) (bI (bE cx (sv 2) (sv 4) (λ_ _=>rfl)) (aR (sv 4) (ak))) (sv 4))))
 (ah (bJ nd (gy af))
 (ah (b9 cx.po cx.calm (uN rfl (t.b 1) (aa (ak) (aa (sv 0) af))) (sgN nd) (am (rW cx (lL (aa (bE cx (sv 3) (sv 4) (λ_ _=>rfl)) (aa (bE cx (sv 3) (bI (dW (bE cx (sv 2) (sv 4) (λ_ _=>rfl)) (ak)) (sv 4)) (λ_ _=>rfl)) af))))))
 (ah (b9 cx.po cx.calm (cJ rfl (t.b 1) (aa (sv 0) af)) (sgN nd) (am (b9 cx.po cx.calm (cJ rfl (t.b 1) (aa (sv 4) af)) (sgN nd) (ah (bJ nd ((tq (lK cx.hK cx.hu (bI (sv 1) (ak)) (ak)) (gX ((kn (lK cx.hK cx.hu (bI (aR (dW (bE cx (sv 2) (sv 4) (λ_ _=>rfl)) (ak)) (sv 6)) (sv 0)) (ak)) (gX (lK cx.hK cx.hu (bI (dW (bE cx (sv 2) (sv 4) (λ_ _=>rfl)) (ak)) (ak)) (ak)))))))))
 (am (bt (SW.st (gT (cf cx.hK (sv 7)) (gT (lE cx.hK cx.hu2 (lL (aa (sv 6) (aa (sv 4) af))) (sv 5)) (gc (lE cx.hK cx.hu2 (lL (aa (sv 4) (aa (sv 6) af))) (sv 5)))))) (am (rW cx (lL (aa (sv 6) (aa (sv 4) af))))) aS))))))
 (am (cQ rfl (Or.inl rfl)))))))))
theorem DW:OkF pt hA P w K mg base 1 5 yw:=okC 5 t λ_ _ _ _ _ _ cx nd=>
 (am (bt (SW.st (gG (ge (sv 0) (sv 1)) (fh (kS (sv 0) (et rfl (t.c 2)))))) (am (cB 1 t cx hB cy (aa (cz) af))) aS))
theorem D8:OkF pt hA P w K mg base 1 6 yI:=okC 6 t λ_ _ _ _ _ _ cx nd=>
 (ah (bJ nd (gy af))
 (ah (b9 cx.po cx.calm (gw cx.hK (sv 1)) (sgN nd) (ah (bJ nd (lL (aa (tw cx.hK cx.calm rfl (t.b 3) (sv 3)) (aa (tz cx.hK cx.calm rfl (t.b 2) (sv 3)) af))))
 (ah (bt (SW.st (gG (ge (bE cx (sv 4) (ak) (λ_ _=>rfl)) (ak)) (fh (nq (bE cx (sv 4) (ak) (λ_ _=>rfl)) (sv 0))))) (am (cB 1 t cx hB cy (aa (cz) af))) aS)
 (ah (bt (dr cx.hK cx.hu (bE cx (sv 4) (ak) (λ_ _=>rfl)) (bE cx (sv 4) (ak) (λ_ _=>rfl))) (am (cB 1 t cx hB cy (aa (cz) af))) aS)
 (ah (bt (ni cx.hK cx.hu2 (sv 4) (sv 2)) (am (cB 1 t cx hB cy (aa (cz) af))) aS)
 (am (rW cx (sv 4))))))))
 (am (aH (nA cx.hK rfl (t.b 4) (sv 2))))))
theorem DR:OkF pt hA P w K mg base 1 7 ui:=okC 7 t λ_ _ _ _ _ _ cx nd=>
 (ah (dL ["pair"] cx nd (bK cx.hK (sv 0)) b6 (λ_ _ _ _ nd=>⟨(sgN nd),(cq (dr cx.comp.hK cx.comp.hu (bE cx.comp (sv 1) (ak) (λ_ _=>rfl)) (sv 0))),(bE cx.comp (sv 1) (ak) (λ_ _=>rfl))⟩))
 (ah (dL ["pair"] cx nd (bK cx.hK (sv 0)) b6 (λ_ _ _ _ nd=>⟨(sgN nd),(cq (dr cx.comp.hK cx.comp.hu (bE cx.comp (sv 1) (ak) (λ_ _=>rfl)) (sv 0))),(bE cx.comp (sv 1) (ak) (λ_ _=>rfl))⟩))
 (am (aH (nA cx.hK rfl (t.b 4) (aR (sv 2) (sv 3)))))))
theorem DS:OkF pt hA P w K mg base 1 8 uj:=okC 8 t λ_ _ _ _ _ _ cx nd=>
 (am (aH (cR cx.hK rfl (t.b 6) cu (bE cx (aL 2 t cx (sv 0)) (sv 1) (λ_ _=>rfl)))))
omit t hB in
theorem dS{X:Cx}(t:Tx pt X.K X.mg)(hB:X.K.In X.base):eG X (T X.K) 1 "beside" ["self","at"] [] b5:=λc _ hc e=>match c,hc,e with
 |8,_,e=>dm 0 t (DS t hB) e
 |0,_,e|1,_,e|2,_,e|3,_,e|4,_,e|5,_,e|6,_,e|7,_,e|9,_,e=>nomatch e
 |_+10,h,_=>dno (n:=10) h
theorem DM:OkF pt hA P w K mg base 2 9 uh:=okC 9 t λ_ _ _ _ _ _ cx nd=>
 (ah (dL ["at"] cx nd (bA rfl (t.b 1) (aa (aL 0 t cx (sv 0)) af)) b6 (λ_ _ _ _ nd=>⟨(sgN nd),bz,(aL 0 t cx.comp (sv 0))⟩))
 (ah (jO rfl (Or.inl rfl) (sv 1) (ak))
 (ah (b9 cx.po cx.calm (cJ rfl (t.b 1) (aa (aL 0 t cx (sv 0)) af)) (sgN nd) (am (b9 cx.po cx.calm (cJ rfl (t.b 1) (aa (aL 0 t cx (sv 0)) af)) (sgN nd) (am (bt (dr cx.hK cx.hu (bE cx (sv 2) (sv 4) (λ_ _=>rfl)) (sv 3)) (am (b9 cx.po cx.calm (gw cx.hK (cw t (dS t hB) cx (sv 0) (aa (sv 4) af))) (sgN nd) (am (jO rfl (Or.inl rfl) (sv 5) (lr cx.calm rfl (t.b 3) (aa (bE cx (sv 2) (sv 5) (λ_ _=>rfl)) (aa (aR (sv 3) (ak)) af))))))) aS)))))
 (am (cQ rfl (Or.inl rfl))))))
theorem oM:OkI pt hA P w K mg base 3 10 nW:=okI 10 t λ_ _ _ _ _ _ cx nd=>
 (ah (gW (bB t (DW t hB) cx (aa (sv 1) (aa (et rfl (t.c 3)) af))))
 (ah (sFld 0 t cx (sv 1))
 (ah (sFld 1 t cx (iF cx.hK rfl (t.b 5) gP (bB t (D8 t hB) cx (aa (sv 1) (aa (sv 2) af)))))
 (ah (sFld 2 t cx (iF cx.hK rfl (t.b 5) gP (cV ["at"] cx (bA rfl (t.b 1) (aa (sv 1) af)) b6 (λ_ _ _ _ nd=>⟨(sgN nd),bz,(iF cx.comp.hK rfl (t.b 5) gP (bB t (DR t hB) cx.comp (aa (aL 1 t cx.comp (sv 0)) (aa (sv 1) af))))⟩))))
 (am (bt (dr cx.hK cx.hu (tz cx.hK cx.calm rfl (t.b 2) (bB t (DM t hB) cx (aa (sv 0) (aa (ak) af)))) (sv 1)) (am (cB 1 t cx hB cy (aa (cz) af))) aS))))))
theorem xp:OkI pt hA P w K mg base 3 11 mB:=okI 11 t λ_ _ _ _ _ _ cx nd=>
 (am (pX 0 t (oO t hB) cx (aa (sv 1) (aa (sv 2) (aa (gg) af)))))
theorem Ef:OkI pt hA P w K mg base 5 12 yO:=okI 12 t λ_ _ _ _ _ _ cx nd=>
 (gv (i:=1) (ah (sFld 4 t cx (sv 1))
 (am (pX 1 t (xp t hB) cx (aa (aL 0 t cx (sv 1)) (aa (aL 0 t cx (sv 1)) af))))))
theorem GX:OkF pt hA P w K mg base 1 13 EH:=okC 13 t λ_ _ _ _ _ _ cx nd=>
 (ah (bt (kS (cT cx.hK rfl (t.b 0) (sv 0)) (et rfl (t.c 4))) (am (cB 2 t cx hB cy (aa (cz) af))) aS)
 (am (b9 cx.po cx.calm (Av cx.hK rfl (t.b 7) (sv 0)) (fN cx.hK cx.calm (bC nd rfl (Or.inl rfl) (bC nd rfl (Or.inl rfl) d_))) (am (bt (SW.st (gG (ge (sv 2) (ak)) (fh (nq (sv 2) (sv 1))))) (am (cB 2 t cx hB cy (aa (cz) af))) aS)))))
theorem GW:OkI pt hA P w K mg base 5 14 EG:=okI 14 t λ_ _ _ _ _ _ cx nd=>
 (ah (gW (bB t (GX t hB) cx (aa (sv 1) af)))
 (ah (sFld 11 t cx (iF cx.hK rfl (t.b 5) gP (sv 1)))
 (am (pX 1 t (xp t hB) cx (aa (aR (cT cx.hK rfl (t.b 0) (sv 1)) (ak)) (aa (aR (cT cx.hK rfl (t.b 0) (sv 1)) (ak)) af))))))
theorem xl:OkF pt hA P w K mg base 1 15 uk:=okC 15 t λ_ _ _ _ _ _ cx nd=>
 (am (bt (SW.st (gG (ge (sv 0) (ak)) (fh (kS (sv 0) (et rfl (t.c 5)))))) (am (cB 2 t cx hB cy (aa (cz) af))) aS))
theorem D9:OkF pt hA P w K mg base 1 16 yJ:=okC 16 t λ_ _ _ _ _ _ cx nd=>
 (ah (bt (fK cx.hK cx.hu (cT cx.hK rfl (t.b 0) (sv 1)) (aL 0 t cx (sv 0))) (am (cB 2 t cx hB cy (aa (cz) af))) aS)
 (am (b9 cx.po cx.calm (gw cx.hK (sv 1)) (sgN nd) (am (bt (SW.st (gT (tf (sv 3) (gx)) (gc (SW.st (gG (ge (sv 3) (ak)) (fh (nq (sv 3) (sv 2)))))))) (am (cB 2 t cx hB cy (aa (cz) af))) aS)))))
theorem Cq:OkI pt hA P w K mg base 3 17 vG:=okI 17 t λ_ _ _ _ _ _ cx nd=>
 (ah (gW (bB t (xl t hB) cx (aa (sv 3) af)))
 (ah (gW (bB t (xl t hB) cx (aa (sv 4) af)))
 (ah (sFld 3 t cx (cA (sv 3) (sv 4)))
 (ah (gW (bB t (D9 t hB) cx (aa (sv 1) (aa (sv 2) (aa (aL 3 t cx (sv 0)) af)))))
 (gv (i:=1) (ah (sFld 4 t cx (sv 1))
 (ah (sFld 5 t cx (iF cx.hK rfl (t.b 5) gP (sv 2)))
 (ah (sFld 6 t cx (sv 3))
 (am (pX 0 t (oO t hB) cx (aa (aL 0 t cx (sv 1)) (aa (aR (aL 3 t cx (sv 0)) (ak)) (aa (gg) af)))))))))))))
theorem xo:OkI pt hA P w K mg base 5 18 ul:=okI 18 t λ_ _ _ _ _ _ cx nd=>
 (ah (bt (SW.st (gG (ge (sv 2) (ak)) (fh (nq (sv 2) (aL 0 t cx (sv 1)))))) (am (cB 2 t cx hB cy (aa (cz) af))) aS)
 (ah (dL ["at"] cx nd (bA rfl (t.b 1) (aa (aL 0 t cx (sv 1)) af)) b6 (λ_ _ _ _ nd=>⟨(sgN nd),bz,(lJ (dr cx.comp.hK cx.comp.hu (sv 1) (sv 0)) (ak) (gx))⟩))
 (gv (i:=3) (gv (i:=1) (am (pX 4 t (Cq t hB) cx (aa (sv 1) (aa (sv 3) (aa (aL 0 t cx (sv 1)) (aa (ak) af))))))))))
theorem DZ:OkF pt hA P w K mg base 1 19 yA:=okC 19 t λ_ _ _ _ _ _ cx nd=>
 (ah (bt (fK cx.hK cx.hu (cT cx.hK rfl (t.b 0) (sv 1)) (aL 0 t cx (sv 0))) (am (cB 2 t cx hB cy (aa (cz) af))) aS)
 (ah (bt (fK cx.hK cx.hu (nB cx.hK cx.calm rfl (t.b 0) rfl (t.b 8) (sv 1)) (cT cx.hK rfl (t.b 0) (sv 1))) (am (cB 2 t cx hB cy (aa (cz) af))) aS)
 (am (b9 cx.po cx.calm (gw cx.hK (sv 1)) (sgN nd) (am (bt (SW.st (gG (ge (sv 2) (ak)) (fh (kS (sv 2) (et rfl (t.c 6)))))) (am (cB 2 t cx hB cy (aa (cz) af))) aS))))))
theorem D_:OkI pt hA P w K mg base 5 20 yK:=okI 20 t λ_ _ _ _ _ _ cx nd=>
 (gv (i:=1) (ah (gW (bB t (DZ t hB) cx (aa (sv 1) (aa (sv 2) af))))
 (ah (dL ["name"] cx nd (bK cx.hK (sv 2)) b6 (λ_ _ _ _ nd=>⟨(sgN nd),bz,(cA (ee (et rfl (t.c 6)) (sv 1)) (aL 0 t cx.comp (sv 0)))⟩))
 (gv (i:=3) (am (pX 4 t (Cq t hB) cx (aa (sv 1) (aa (sv 3) (aa (aL 0 t cx (sv 1)) (aa (et rfl (t.c 7)) af))))))))))
theorem Eb:OkI pt hA P w K mg base 7 21 yM:=okI 21 t λ_ _ _ _ _ _ cx nd=>
 (gv (i:=1) (ah (sFld 9 t cx (lM 5 t (xo t hB) cx (aa (sv 1) (aa (sv 2) af))))
 (ah (sFld 4 t cx (sv 1))
 (ah (sFld 10 t cx (sv 2))
 (am (pX 0 t (oO t hB) cx (aa (aL 0 t cx (sv 1)) (aa (cA (aR (aL 0 t cx (sv 1)) (ak)) (aR (aL 0 t cx (sv 1)) (ak))) (aa (gg) af)))))))))
theorem DJ:OkF pt hA P w K mg base 9 22 uf:=okC 22 t λ_ _ _ _ _ _ cx nd=>
 (ah (bt (dr cx.hK cx.hu (sv 0) (ak)) (am (aH (lM 9 t (Ec t hB) cx (aa (aR (sv 1) (ak)) (aa (aR (aR (sv 1) (ak)) (tD cx.hK (gy (aa (bI (sv 2) (ak)) (aa (bI (sv 2) (wn (ak) (ak))) af))) (bI (dW (sv 2) (ak)) (ak)) (λ_ _=>rfl))) af))))) aS)
 (ah (bt (dr cx.hK cx.hu (sv 0) (ak)) (am (aH (lM 2 t (Ef t hB) cx (aa (lM 8 t (oM t hB) cx (aa (sv 1) (aa (bB t (oN t hB) cx (aa (sv 1) (aa (sv 3) af))) af))) af)))) aS)
 (ah (bt (dr cx.hK cx.hu (sv 0) (ak)) (am (aH (lM 3 t (GW t hB) cx (aa (cV ["_law_k", "_law_number"] cx (uM cx.hK rfl (t.b 7) (bB t (sj t hB) cx (aa (sv 3) (aa (ee (sv 1) (ak)) af)))) (jf (cI b6 (cI b6 gF))) (λ_ _ _ _ nd=>⟨(fN cx.comp.hK cx.comp.calm (bC nd rfl (Or.inl rfl) (bC nd rfl (Or.inl rfl) d_))),bz,(bI (dW (sv 1) (ak)) (aR (sv 0) (ak)))⟩)) af)))) aS)
 (ah (bt (dr cx.hK cx.hu (sv 0) (ak)) (am (aH (lM 5 t (xo t hB) cx (aa (lM 8 t (oM t hB) cx (aa (sv 1) (aa (bB t (oN t hB) cx (aa (sv 1) (aa (sv 3) af))) af))) (aa (bI (sv 2) (sv 1)) af))))) aS)
 (ah (bt (dr cx.hK cx.hu (sv 0) (ak)) (am (aH (lM 6 t (D_ t hB) cx (aa (lM 8 t (oM t hB) cx (aa (sv 1) (aa (bB t (oN t hB) cx (aa (sv 1) (aa (sv 3) af))) af))) (aa (cV ["_law_k"] cx (bA rfl (t.b 1) (aa (sv 1) af)) b6 (λ_ _ _ _ nd=>⟨(sgN nd),bz,(bI (aR (sv 0) (cA (ak) (sv 1))) (ak))⟩)) af))))) aS)
 (am (aH (lM 7 t (Eb t hB) cx (aa (lM 8 t (oM t hB) cx (aa (sv 1) (aa (bB t (oN t hB) cx (aa (sv 1) (aa (sv 3) af))) af))) (aa (bI (sv 2) (sv 1)) af))))))))))
theorem g_:OkF pt hA P w K mg base 1 23 ir:=okC 23 t λ_ _ _ _ _ _ cx nd=>
 (ah (bt (fK cx.hK cx.hu (cT cx.hK rfl (t.b 0) (sv 1)) (aL 0 t cx (sv 0))) (am (cB 3 t cx hB cy (aa (cz) af))) aS)
 (am (aH (cV ["number"] cx (bK cx.hK (sv 1)) b6 (λ_ _ _ _ nd=>⟨(sgN nd),bz,(bI (sv 1) (aL 7 t cx.comp (sv 0)))⟩)))))
omit t hB in
theorem bj{X:Cx}(t:Tx pt X.K X.mg)(hB:X.K.In X.base):eG X (T X.K) 1 "read" ["self","registers"] [] aE:=λc _ hc e=>match c,hc,e with
 |0,_,e=>dm 1 t (g_ t hB) e
 |1,_,e=>dm 2 t (g_ t hB) e
 |2,_,e=>dm 3 t (g_ t hB) e
 |3,_,e=>dm 4 t (g_ t hB) e
 |4,_,e=>dm 5 t (g_ t hB) e
 |5,_,e=>dm 6 t (g_ t hB) e
 |6,_,e=>dm 7 t (g_ t hB) e
 |7,_,e=>dm 8 t (g_ t hB) e
 |9,_,e=>dm 9 t (g_ t hB) e
 |8,_,e=>nomatch e
 |_+10,h,_=>dno (n:=10) h
theorem DV:OkF pt hA P w K mg base 1 24 yv:=okC 24 t λ_ _ _ _ _ _ cx nd=>
 (ah (bt (SW.st (gT (cf cx.hK (aL 8 t cx (sv 0))) (gc (kS (cT cx.hK rfl (t.b 0) (sv 1)) (ak))))) (am (cB 4 t cx hB cy (aa (cz) af))) aS)
 (ah (b9 cx.po cx.calm (gw cx.hK (sv 1)) (sgN nd) (am (bt (SW.st (gG (ge (sv 2) (ak)) (fh (nq (sv 2) (aL 0 t cx (sv 0)))))) (am (cB 4 t cx hB cy (aa (cz) af))) aS)))
 (am (bt (fK cx.hK cx.hu (nB cx.hK cx.calm rfl (t.b 0) rfl (t.b 8) (sv 1)) (cT cx.hK rfl (t.b 0) (sv 1))) (am (cB 4 t cx hB cy (aa (cz) af))) aS))))
theorem xj:OkF pt hA P w K mg base 1 25 yo:=okC 25 t λ_ _ _ _ _ _ cx nd=>
 (am (aH (bE cx (sv 1) (sv 2) (λ_ _=>rfl))))
theorem G6:OkF pt hA P w K mg base 1 26 HG:=okC 26 t λ_ _ _ _ _ _ cx nd=>
 (am (aH (gy af)))
theorem G7:OkF pt hA P w K mg base 2 27 EQ:=okC 27 t λ_ _ _ _ _ _ cx nd=>
 (am (aH (cV ["other"] cx (bK cx.hK (cw t (dS t hB) cx (aL 4 t cx (sv 0)) (aa (sv 1) af))) b6 (λ_ _ _ _ nd=>⟨(sgN nd),(cq (ge (sv 1) (sv 0))),(sv 1)⟩))))
theorem G9:OkF pt hA P w K mg base 1 28 ES:=okC 28 t λ_ _ _ _ _ _ cx nd=>
 (am (aH (cV ["kid","parent"] cx (wg cx.hK rfl (t.b 7) (aL 11 t cx (sv 0))) (jf (cI b6 (cI b6 gF))) (λ_ _ _ _ nd=>⟨(fN cx.comp.hK cx.comp.calm (bC nd rfl (Or.inl rfl) (bC nd rfl (Or.inl rfl) d_))),(cq (dr cx.comp.hK cx.comp.hu (sv 2) (sv 0))),(sv 1)⟩))))
omit t hB in
theorem dh{X:Cx}(t:Tx pt X.K X.mg)(hB:X.K.In X.base):eG X (T X.K) 2 "hangs_on" ["self","at"] [] aX:=λc _ hc e=>match c,hc,e with
 |1,_,e=>dm 10 t (G6 t hB) e
 |2,_,e=>dm 11 t (G7 t hB) e
 |3,_,e=>dm 12 t (G9 t hB) e
 |0,_,e|4,_,e|5,_,e|6,_,e|7,_,e|8,_,e|9,_,e=>nomatch e
 |_+10,h,_=>dno (n:=10) h
theorem Ea:OkF pt hA P w K mg base 3 29 yL:=okC 29 t λ_ _ _ _ _ _ cx nd=>
 (ah (dL ["other"] cx nd (bK cx.hK (cw t (dh t hB) cx (sv 0) (aa (sv 2) af))) b6 (λ_ _ _ _ nd=>⟨(sgN nd),bz,(bE cx.comp (sv 0) (sv 1) (λ_ _=>rfl))⟩))
 (ah (bJ nd (ak))
 (ah (lF cx.po (ni cx.hK cx.hu2 (sv 4) (sv 3)) (am (bJ nd (aR (sv 4) (ak)))))
 (am (cQ rfl (Or.inl rfl))))))
theorem D4:OkF pt hA P w K mg base 3 30 yE:=okC 30 t λ_ _ _ _ _ _ cx nd=>
 (am (aH (lr cx.calm rfl (t.b 3) (aa (aL 0 t cx (sv 0)) (aa (aR (ak) (lH cx.hK cx.calm rfl (t.b 9) (cV ["kid"] cx (bK cx.hK (cw t (dh t hB) cx (sv 0) (aa (sv 2) af))) b6 (λ_ _ _ _ nd=>⟨(sgN nd),bz,(bE cx.comp (sv 0) (sv 1) (λ_ _=>rfl))⟩)))) af)))))
theorem xm:OkF pt hA P w K mg base 1 31 vJ:=okC 31 t λ_ _ _ _ _ _ cx nd=>
 (am (aH ((kn (Ck cx.hK cx.hu (sv 1) (aL 3 t cx (sv 0))) (gX (Ck cx.hK cx.hu (bI (aR (sv 1) (ak)) (aL 6 t cx (sv 0))) (ak)))))))
omit t hB in
theorem h_{X:Cx}(t:Tx pt X.K X.mg)(hB:X.K.In X.base):eG X (T X.K) 1 "has_offer" ["self","cell"] [] dI:=λc _ hc e=>match c,hc,e with
 |4,_,e=>dm 13 t (xm t hB) e
 |5,_,e=>dm 14 t (xm t hB) e
 |6,_,e=>dm 15 t (xm t hB) e
 |0,_,e|1,_,e|2,_,e|3,_,e|7,_,e|8,_,e|9,_,e=>nomatch e
 |_+10,h,_=>dno (n:=10) h
theorem oQ:OkF pt hA P w K mg base 2 32 nY:=okC 32 t λ_ _ _ _ _ _ cx nd=>
 (ah (dL ["other"] cx nd (bK cx.hK (cw t (dS t hB) cx (aL 4 t cx (sv 0)) (aa (sv 2) af))) b6 (λ_ _ _ _ nd=>⟨(sgN nd),bz,(bE cx.comp (sv 0) (sv 1) (λ_ _=>rfl))⟩))
 (ah (dL ["cell"] cx nd (bK cx.hK (sv 3)) b6 (λ_ _ _ _ nd=>⟨(sgN nd),(cq (cf cx.comp.hK (cw t (h_ t hB) cx.comp (sv 0) (aa (sv 1) af)))),(aR (sv 1) (ak))⟩))
 (ah (bt (tf (bE cx (aL 5 t cx (sv 0)) (sv 2) (λ_ _=>rfl)) (gx)) (am (rW cx (bE cx (aL 5 t cx (sv 0)) (sv 2) (λ_ _=>rfl)))) aS)
 (am (aH (tw cx.hK cx.calm rfl (t.b 3) (aR (sv 4) (gy (aa (aL 3 t cx (sv 0)) af)))))))))
theorem GY:OkF pt hA P w K mg base 1 33 EI:=okC 33 t λ_ _ _ _ _ _ cx nd=>
 (am (aH (cV ["cell"] cx (bK cx.hK (sv 1)) b6 (λ_ _ _ _ nd=>⟨(sgN nd),bz,(lL (aa (dW (sv 1) (aR (aL 0 t cx.comp (sv 0)) (ak))) (aa (bI (sv 1) (aR (aL 0 t cx.comp (sv 0)) (ak))) af)))⟩))))
omit t hB in
theorem iR{X:Cx}(t:Tx pt X.K X.mg)(hB:X.K.In X.base):eG X (T X.K) 1 "parts" ["self","cells"] [] fe:=λc _ hc e=>match c,hc,e with
 |7,_,e=>dm 16 t (GY t hB) e
 |0,_,e|1,_,e|2,_,e|3,_,e|4,_,e|5,_,e|6,_,e|8,_,e|9,_,e=>nomatch e
 |_+10,h,_=>dno (n:=10) h
theorem D6:OkF pt hA P w K mg base 2 34 yG:=okC 34 t λ_ _ _ _ _ _ cx nd=>
 (am (aH (cV ["part"] cx (bK cx.hK (cw t (iR t hB) cx (sv 0) (aa (sv 1) af))) b6 (λ_ _ _ _ nd=>⟨(sgN nd),bz,(bE cx.comp (sv 0) (ak) (λ_ _=>rfl))⟩))))
omit t hB in
theorem gA{X:Cx}(t:Tx pt X.K X.mg)(hB:X.K.In X.base):eG X (T X.K) 2 "fars" ["self","cells"] [] dY:=λc _ hc e=>match c,hc,e with
 |7,_,e=>dm 17 t (D6 t hB) e
 |0,_,e|1,_,e|2,_,e|3,_,e|4,_,e|5,_,e|6,_,e|8,_,e|9,_,e=>nomatch e
 |_+10,h,_=>dno (n:=10) h
omit t hB in
theorem oR{X:Cx}(t:Tx pt X.K X.mg)(hB:X.K.In X.base):eG X (T X.K) 2 "due" ["self","cells","at"] [] kL:=λc _ hc e=>match c,hc,e with
 |5,_,e=>dm 18 t (oQ t hB) e
 |0,_,e|1,_,e|2,_,e|3,_,e|4,_,e|6,_,e|7,_,e|8,_,e|9,_,e=>nomatch e
 |_+10,h,_=>dno (n:=10) h
theorem G3:OkF pt hA P w K mg base 2 35 EN:=okC 35 t λ_ _ _ _ _ _ cx nd=>
 (am (aH (cV ["part"] cx (bK cx.hK (cw t (iR t hB) cx (sv 0) (aa (sv 1) af))) b6 (λ_ _ _ _ nd=>⟨(sgN nd),bz,(bE cx.comp (sv 0) (ak) (λ_ _=>rfl))⟩))))
omit t hB in
theorem fj{X:Cx}(t:Tx pt X.K X.mg)(hB:X.K.In X.base):eG X (T X.K) 2 "counts" ["self","cells"] [] c_:=λc _ hc e=>match c,hc,e with
 |7,_,e=>dm 19 t (G3 t hB) e
 |0,_,e|1,_,e|2,_,e|3,_,e|4,_,e|5,_,e|6,_,e|8,_,e|9,_,e=>nomatch e
 |_+10,h,_=>dno (n:=10) h
theorem GV:OkF pt hA P w K mg base 2 36 EF:=okC 36 t λ_ _ _ _ _ _ cx nd=>
 (ah (bt (dr cx.hK cx.hu (sv 2) (aL 10 t cx (sv 0))) (am (aH (gx))) aS)
 (ah (dL ["other"] cx nd (bK cx.hK (cw t (dS t hB) cx (aL 4 t cx (sv 0)) (aa (sv 2) af))) b6 (λ_ _ _ _ nd=>⟨(sgN nd),(cq (dr cx.comp.hK cx.comp.hu (bE cx.comp (sv 0) (sv 2) (λ_ _=>rfl)) (ee (bE cx.comp (sv 0) (sv 1) (λ_ _=>rfl)) (ak)))),(sv 2)⟩))
 (am (aH (AA cx.hK cx.calm rfl (t.b 3) (sv 3))))))
omit t hB in
theorem lX{X:Cx}(t:Tx pt X.K X.mg)(hB:X.K.In X.base):eG X (T X.K) 2 "elder" ["self","fars","at"] [] i8:=λc _ hc e=>match c,hc,e with
 |7,_,e=>dm 20 t (GV t hB) e
 |0,_,e|1,_,e|2,_,e|3,_,e|4,_,e|5,_,e|6,_,e|8,_,e|9,_,e=>nomatch e
 |_+10,h,_=>dno (n:=10) h
theorem G2:OkF pt hA P w K mg base 3 37 EM:=okC 37 t λ_ _ _ _ _ _ cx nd=>
 (ah (bJ nd (cw t (gA t hB) cx (sv 0) (aa (sv 1) af)))
 (am (aH (cV ["at"] cx (bA rfl (t.b 1) (aa (aL 0 t cx (sv 0)) af)) b6 (λ_ _ _ _ nd=>⟨(sgN nd),bz,(cw t (lX t hB) cx.comp (sv 0) (aa (sv 1) (aa (sv 2) af)))⟩)))))
omit t hB in
theorem la{X:Cx}(t:Tx pt X.K X.mg)(hB:X.K.In X.base):eG X (T X.K) 3 "elders" ["self","cells"] [] ik:=λc _ hc e=>match c,hc,e with
 |7,_,e=>dm 21 t (G2 t hB) e
 |0,_,e|1,_,e|2,_,e|3,_,e|4,_,e|5,_,e|6,_,e|8,_,e|9,_,e=>nomatch e
 |_+10,h,_=>dno (n:=10) h
theorem G8:OkF pt hA P w K mg base 4 38 ER:=okC 38 t λ_ _ _ _ _ _ cx nd=>
 (ah (dL ["count", "elder"] cx nd (oz cx.hK rfl (t.b 10) (aa (cw t (fj t hB) cx (sv 0) (aa (sv 1) af)) (aa (cw t (la t hB) cx (sv 0) (aa (sv 1) af)) af))) (jf (cI b6 (cI b6 gF))) (λ_ _ _ _ nd=>⟨(fN cx.comp.hK cx.comp.calm (bC nd rfl (Or.inl rfl) (bC nd rfl (Or.inl rfl) d_))),(cq (dr cx.comp.hK cx.comp.hu (sv 2) (sv 0))),(sv 1)⟩))
 (am (aH (lr cx.calm rfl (t.b 3) (aa (aL 0 t cx (sv 0)) (aa (aR (ak) (lH cx.hK cx.calm rfl (t.b 9) (sv 3))) af))))))
omit t hB in
theorem fW{X:Cx}(t:Tx pt X.K X.mg)(hB:X.K.In X.base):eG X (T X.K) 4 "due_count" ["self","cells","at"] [] de:=λc _ hc e=>match c,hc,e with
 |7,_,e=>dm 22 t (G8 t hB) e
 |0,_,e|1,_,e|2,_,e|3,_,e|4,_,e|5,_,e|6,_,e|8,_,e|9,_,e=>nomatch e
 |_+10,h,_=>dno (n:=10) h
theorem D2:OkF pt hA P w K mg base 5 39 yC:=okC 39 t λ_ _ _ _ _ _ cx nd=>
 (ah (bJ nd (cw t (gA t hB) cx (sv 0) (aa (sv 1) af)))
 (ah (bJ nd (cw t (oR t hB) cx (aL 9 t cx (sv 0)) (aa (sv 3) (aa (sv 2) af))))
 (ah (bJ nd (bE cx (cw t (fj t hB) cx (sv 0) (aa (sv 1) af)) (sv 2) (λ_ _=>rfl)))
 (ah (bt (dr cx.hK cx.hu (sv 4) (bE cx (sv 3) (sv 2) (λ_ _=>rfl))) (am (bJ nd (cw t (fW t hB) cx (sv 0) (aa (sv 1) (aa (sv 2) af))))) aS)
 (am (aH (aR (cA (sv 4) (aR (aL 0 t cx (sv 0)) (ak))) (sv 5))))))))
theorem D0:OkF pt hA P w K mg base 1 40 yB:=okC 40 t λ_ _ _ _ _ _ cx nd=>
 (ah (bt (fK cx.hK cx.hu (sv 2) (ak)) (am (aH (bE cx (sv 1) (ee (sv 2) (ak)) (λ_ _=>rfl)))) aS)
 (ah (bt (dr cx.hK cx.hu (bE cx (sv 1) (ak) (λ_ _=>rfl)) (bE cx (sv 1) (ee (aL 0 t cx (sv 0)) (ak)) (λ_ _=>rfl))) (am (aH (bI (aR (bE cx (sv 1) (ak) (λ_ _=>rfl)) (ak)) (aL 7 t cx (sv 0))))) aS)
 (am (aH (bE cx (sv 1) (ak) (λ_ _=>rfl))))))
omit t hB in
theorem b_{X:Cx}(t:Tx pt X.K X.mg)(hB:X.K.In X.base):eG X (T X.K) 5 "due" ["self","cells","at"] [] aI:=λc _ hc e=>match c,hc,e with
 |0,_,e=>dm 23 t (xj t hB) e
 |1,_,e=>dm 24 t (xj t hB) e
 |2,_,e=>dm 25 t (Ea t hB) e
 |3,_,e=>dm 26 t (D4 t hB) e
 |4,_,e=>dm 27 t (oQ t hB) e
 |5,_,e=>dm 18 t (oQ t hB) e
 |6,_,e=>dm 28 t (oQ t hB) e
 |7,_,e=>dm 29 t (D2 t hB) e
 |9,_,e=>dm 30 t (D0 t hB) e
 |8,_,e=>nomatch e
 |_+10,h,_=>dno (n:=10) h
theorem hG:OkF pt hA P w K mg base 6 41 iu:=okC 41 t λ_ _ _ _ _ _ cx nd=>
 (ah (gW (bB t (DV t hB) cx (aa (sv 0) (aa (sv 2) af))))
 (am (aH (cV ["at"] cx (bA rfl (t.b 1) (aa (aL 0 t cx (sv 0)) af)) b6 (λ_ _ _ _ nd=>⟨(sgN nd),bz,(lJ (ni cx.comp.hK cx.comp.hu2 (sv 3) (sv 0)) (cw t (b_ t hB) cx.comp (sv 1) (aa (sv 2) (aa (sv 3) af))) (bE cx.comp (sv 2) (sv 3) (λ_ _=>rfl)))⟩)))))
omit t hB in
theorem bW{X:Cx}(t:Tx pt X.K X.mg)(hB:X.K.In X.base):eG X (T X.K) 6 "turned" ["self","cells","named"] [] aG:=λc _ hc e=>match c,hc,e with
 |0,_,e=>dm 31 t (hG t hB) e
 |1,_,e=>dm 32 t (hG t hB) e
 |2,_,e=>dm 33 t (hG t hB) e
 |3,_,e=>dm 34 t (hG t hB) e
 |4,_,e=>dm 35 t (hG t hB) e
 |5,_,e=>dm 36 t (hG t hB) e
 |6,_,e=>dm 37 t (hG t hB) e
 |7,_,e=>dm 38 t (hG t hB) e
 |9,_,e=>dm 39 t (hG t hB) e
 |8,_,e=>nomatch e
 |_+10,h,_=>dno (n:=10) h
theorem DQ:OkF pt hA P w K mg base 7 42 yr:=okC 42 t λ_ _ _ _ _ _ cx nd=>
 (ah (bJ nd (aL 0 t cx (sv 0)))
 (ah (bJ nd (cw t (bj t hB) cx (sv 0) (aa (bB t (sj t hB) cx (aa (sv 2) (aa (sv 3) af))) af)))
 (ah (bt (dr cx.hK cx.hu (bI (sv 2) (ak)) (ak)) (am (cQ rfl (Or.inl rfl))) aS)
 (ah (bt (dr cx.hK cx.hu (sv 1) (ak)) (ah (bJ nd (aR (ak) (bI (dW (sv 2) (ak)) (sv 3))))
 (am (aH (aR (rV (gy (aa (bE cx (sv 4) (ak) (λ_ _=>rfl)) af)) (sv 5)) (rV (gy (aa (bE cx (sv 4) (ak) (λ_ _=>rfl)) af)) (ee (sv 3) (sv 5))))))) aS)
 (ah (b9 cx.po cx.calm (cJ rfl (t.b 1) (aa (cA (ak) (sv 3)) af)) (sgN nd) (am (b9 cx.po cx.calm (cJ rfl (t.b 1) (aa (sv 3) af)) (sgN nd) (am (bJ nd (cw t (bW t hB) cx (sv 0) (aa (cR cx.hK rfl (t.b 6) cu (sv 4)) (aa (gy (aa (sv 7) af)) af))))))))
 (am (cQ rfl (Or.inl rfl))))))))
theorem hZ:OkF pt hA P w K mg base 6 43 iw:=okC 43 t λ_ _ _ _ _ _ cx nd=>
 (am (aH (cV ["at"] cx (bA rfl (t.b 1) (aa (aL 0 t cx (sv 0)) af)) b6 (λ_ _ _ _ nd=>⟨(sgN nd),(cq (fK cx.comp.hK cx.comp.hu (cw t (b_ t hB) cx.comp (sv 0) (aa (sv 1) (aa (sv 2) af))) (bE cx.comp (sv 1) (sv 2) (λ_ _=>rfl)))),(sv 2)⟩))))
omit t hB in
theorem aT{X:Cx}(t:Tx pt X.K X.mg)(hB:X.K.In X.base):eG X (T X.K) 6 "movers" ["self","cells"] [] av:=λc _ hc e=>match c,hc,e with
 |0,_,e=>dm 40 t (hZ t hB) e
 |1,_,e=>dm 41 t (hZ t hB) e
 |2,_,e=>dm 42 t (hZ t hB) e
 |3,_,e=>dm 43 t (hZ t hB) e
 |4,_,e=>dm 44 t (hZ t hB) e
 |5,_,e=>dm 45 t (hZ t hB) e
 |6,_,e=>dm 46 t (hZ t hB) e
 |7,_,e=>dm 47 t (hZ t hB) e
 |9,_,e=>dm 48 t (hZ t hB) e
 |8,_,e=>nomatch e
 |_+10,h,_=>dno (n:=10) h
theorem iP:OkF pt hA P w K mg base 7 44 i4:=okC 44 t λ_ _ _ _ _ _ cx nd=>
 (am (aH (lK cx.hK cx.hu (cT cx.hK rfl (t.b 0) (cw t (aT t hB) cx (sv 0) (aa (sv 1) af))) (ak))))
theorem Ee:OkF pt hA P w K mg base 7 45 um:=okC 45 t λ_ _ _ _ _ _ cx nd=>
 (am (aH (lK cx.hK cx.hu (cT cx.hK rfl (t.b 0) (cw t (aT t hB) cx (sv 0) (aa (sv 1) af))) (ak))))
omit t hB in
theorem bG{X:Cx}(t:Tx pt X.K X.mg)(hB:X.K.In X.base):eG X (T X.K) 7 "calm" ["self","cells"] [] az:=λc _ hc e=>match c,hc,e with
 |0,_,e=>dm 49 t (iP t hB) e
 |1,_,e=>dm 50 t (iP t hB) e
 |2,_,e=>dm 51 t (iP t hB) e
 |3,_,e=>dm 52 t (iP t hB) e
 |4,_,e=>dm 53 t (iP t hB) e
 |5,_,e=>dm 54 t (iP t hB) e
 |6,_,e=>dm 55 t (iP t hB) e
 |7,_,e=>dm 56 t (iP t hB) e
 |9,_,e=>dm 57 t (Ee t hB) e
 |8,_,e=>nomatch e
 |_+10,h,_=>dno (n:=10) h
theorem DK:OkF pt hA P w K mg base 1 46 ug:=okC 46 t λ_ _ _ _ _ _ cx nd=>
 (ah (bJ nd (gy (aa (bI (sv 1) (aL 0 t cx (sv 0))) af)))
 (ah (bt (jB (cf cx.hK (aL 8 t cx (sv 0)))) (ah (bJ nd (bI (cA (bI (dW (sv 1) (ak)) (ak)) (ak)) (ak)))
 (am (bJ nd (aR (sv 2) (cV ["_law_at"] cx (bA rfl (t.b 1) (aa (aL 0 t cx (sv 0)) af)) b6 (λ_ _ _ _ nd=>⟨(sgN nd),(cq (SW.st (gT (dr cx.comp.hK cx.comp.hu (bI (C3 (sv 0) (sv 2)) (ak)) (ak)) (gc (fK cx.comp.hK cx.comp.hu (sv 2) (bE cx.comp (sv 1) (ak) (λ_ _=>rfl))))))),(sv 2)⟩)))))) aS)
 (am (cQ rfl (Or.inr (Or.inl rfl))))))
theorem DX:OkF pt hA P w K mg base 1 47 yx:=okC 47 t λ_ _ _ _ _ _ cx nd=>
 (ah (bJ nd (cR cx.hK rfl (t.b 6) cu (sv 0)))
 (ah (b9 cx.po cx.calm (gw cx.hK (sv 1)) (fN cx.hK cx.calm (bC nd rfl (Or.inl rfl) (bC nd rfl (Or.inl rfl) d_))) (am (bJ nd (aR (aR (fO cx.hK (sv 2) jQ (fA (sv 3))) (gy (aa (sv 4) af))) (fO cx.hK (sv 2) (fA (aR (sv 3) (ak))) jQ)))))
 (am (cQ rfl (Or.inl rfl)))))
theorem DT:OkF pt hA P w K mg base 8 48 yt:=okC 48 t λ_ _ _ _ _ _ cx nd=>
 (ah (bJ nd (cw t (bj t hB) cx (sv 0) (aa (cR cx.hK rfl (t.b 6) cu (sv 1)) af)))
 (ah (bJ nd (rV (gy (aa (gg) af)) (aL 0 t cx (sv 0))))
 (ah (bJ nd (gx))
 (ah (bt (cf cx.hK (cw t (bG t hB) cx (sv 0) (aa (cR cx.hK rfl (t.b 6) cu (sv 3)) af))) (am (aH (lL (aa (gy af) (aa (ak) af))))) aS)
 (ah (b9 cx.po cx.calm (pU cx.hK rfl (t.b 7) (sv 2)) (fN cx.hK cx.calm (bC nd rfl (Or.inl rfl) (bC nd rfl (Or.inl rfl) d_))) (am (bt (rJ (sv 5) (gx)) (ah (b9 cx.po cx.calm (gw cx.hK (cw t (aT t hB) cx (sv 0) (aa (cR cx.hK rfl (t.b 6) cu (sv 3)) af))) (sgN nd) (am (jO rfl (Or.inr (Or.inl rfl)) (sv 8) ((tq (bE cx (sv 4) (sv 8) (λ_ _=>rfl)) (gX (tB cx.hK cx.hu2 (sv 8) (sv 7))))))))
 (ah (bJ nd (cw t (bW t hB) cx (sv 0) (aa (cR cx.hK rfl (t.b 6) cu (sv 3)) (aa (cR cx.hK rfl (t.b 6) cu (sv 7)) af))))
 (am (bt (cf cx.hK (cw t (bG t hB) cx (sv 0) (aa (cR cx.hK rfl (t.b 6) cu (sv 3)) af))) (am (bJ nd (aR (sv 6) (ak)))) aS)))) aS)))
 (am (aH (lL (aa (cV ["_law_at"] cx (bA rfl (t.b 1) (aa (aL 0 t cx (sv 0)) af)) b6 (λ_ _ _ _ nd=>⟨(sgN nd),(cq (cf cx.comp.hK (bE cx.comp (sv 0) (sv 1) (λ_ _=>rfl)))),(sv 1)⟩)) (aa (sv 5) af))))))))))
theorem xh:OkF pt hA P w K mg base 1 49 ud:=okC 49 t λ_ _ _ _ _ _ cx nd=>
 (ah (bJ nd (cR cx.hK rfl (t.b 6) cu (sv 0)))
 (ah (b9 cx.po cx.calm (gw cx.hK (sv 1)) (fN cx.hK cx.calm (bC nd rfl (Or.inl rfl) (bC nd rfl (Or.inl rfl) d_))) (ah (bt (SW.st (gG (ge (sv 3) (ak)) (fh (nq (sv 3) (cT cx.hK rfl (t.b 0) (sv 2)))))) (am (cB 3 t cx hB cy (aa (cz) af))) aS)
 (am (jO rfl (Or.inl rfl) (sv 3) (sv 4)))))
 (am (cQ rfl (Or.inl rfl)))))
theorem xk:OkF pt hA P w K mg base 1 50 qM:=okC 50 t λ_ _ _ _ _ _ cx nd=>
 (am (aH ((kn (lI cx.hK BH rfl (t.b 11) dQ rfl (t.b 13) E_ (sv 0)) (gX (wp (lI cx.hK xS rfl (t.b 11) dQ rfl (t.b 12) Cd (sv 0))))))))
theorem xi:OkF pt hA P w K mg base 2 51 ue:=okC 51 t λ_ _ _ _ _ _ cx nd=>
 (am (aH ((kn (lI cx.hK qE rfl (t.b 11) dQ rfl (t.b 6) cu (sv 0)) (kn (ww cx.hK cx.calm rfl (t.b 14) (cV ["_law_one"] cx (bK cx.hK (sv 0)) b6 (λ_ _ _ _ nd=>⟨(sgN nd),bz,(bB t (xk t hB) cx.comp (aa (sv 0) af))⟩))) (gX (lK cx.hK cx.hu (sv 0) (sv 1))))))))
theorem DH:OkF pt hA P w K mg base 7 52 qL:=okC 52 t λ_ _ _ _ _ _ cx nd=>
 (ah (bJ nd (cw t (bW t hB) cx (sv 0) (aa (sv 1) (aa (sv 2) af))))
 (ah (dL ["at"] cx nd (bK cx.hK (cw t (aT t hB) cx (sv 0) (aa (sv 1) af))) b6 (λ_ _ _ _ nd=>⟨(sgN nd),(cq (ni cx.comp.hK cx.comp.hu2 (sv 1) (sv 0))),(sv 1)⟩))
 (am (pR rfl (Or.inl rfl) rfl (Or.inl rfl)))))
theorem Eg:OkF pt hA P w K mg base 8 53 yP:=okC 53 t λ_ _ _ _ _ _ cx nd=>
 (ah (bJ nd (cw t (bj t hB) cx (sv 0) (aa (sv 1) af)))
 (ah (bJ nd (gy af))
 (gv (i:=2) (ah (As cx.po cx.calm cx.hK nd rfl (Or.inl rfl) rfl (Or.inl rfl) rfl (Or.inl rfl) (by decide) (by decide) (by decide) (by decide) (by decide) (by decide) (gw cx.hK (sv 2)) (bB t (DH t hB) cx (aa (sv 0) (aa (sv 3) (aa (sv 5) af)))))
 (am (cQ rfl (Or.inl rfl)))))))
theorem DI:OkF pt hA P w K mg base 8 54 yn:=okC 54 t λ_ _ _ _ _ _ cx nd=>
 (ah (bJ nd (aR (gy (aa (cw t (bj t hB) cx (sv 0) (aa (sv 1) af)) af)) (cV ["row"] cx (bK cx.hK (sv 2)) b6 (λ_ _ _ _ nd=>⟨(sgN nd),bz,(bE cx.comp (sv 0) (ak) (λ_ _=>rfl))⟩))))
 (gv (i:=3) (ah (b9 cx.po cx.calm (pU cx.hK rfl (t.b 7) (sv 3)) (fN cx.hK cx.calm (bC nd rfl (Or.inl rfl) (bC nd rfl (Or.inl rfl) d_))) (am (bt (cf cx.hK (cw t (bG t hB) cx (sv 0) (aa (sv 5) af))) (am (cQ rfl (Or.inl rfl))) aS)))
 (am (aH (gx))))))
theorem DG:OkF pt hA P w K mg base 9 55 ym:=okC 55 t λ_ _ _ _ _ _ cx nd=>
 (ah (bJ nd (bB t (xh t hB) cx (aa (sv 1) (aa (sv 2) af))))
 (ah (bJ nd (bB t (Eg t hB) cx (aa (sv 0) (aa (sv 4) (aa (sv 3) af)))))
 (gv (i:=5) (ah (bJ nd (bB t (DI t hB) cx (aa (sv 0) (aa (sv 4) (aa (sv 5) af)))))
 (ah (bJ nd (lJ (rJ (sv 6) (gx)) (sv 5) (fO cx.hK (sv 5) jQ (fA (sv 6)))))
 (ah (dL ["at"] cx nd (bA rfl (t.b 1) (aa (aL 0 t cx (sv 0)) af)) b6 (λ_ _ _ _ nd=>⟨(sgN nd),(cq (cf cx.comp.hK (wv cx.comp.hK cx.comp.calm rfl (t.b 15) (cV ["row"] cx.comp (bK cx.comp.hK (sv 0)) b6 (λ_ _ _ _ nd=>⟨(sgN nd),bz,(tB cx.comp.comp.hK cx.comp.comp.hu2 (sv 0) (bE cx.comp.comp (sv 1) (ak) (λ_ _=>rfl)))⟩))))),(sv 1)⟩))
 (am (pR rfl (Or.inl rfl) rfl (Or.inl rfl)))))))))
theorem DN:OkF pt hA P w K mg base 3 56 yp:=okC 56 t λ_ _ _ _ _ _ cx nd=>
 (ah (bt (SW.st (gG (jB (cf cx.hK (lI cx.hK vy rfl (t.b 11) dQ rfl (t.b 5) gP (sv 0)))) (gG (fK cx.hK cx.hu (cT cx.hK rfl (t.b 0) (sv 0)) (ak)) (fh (jB (cf cx.hK (bB t (xi t hB) cx (aa (bE cx (sv 0) (ak) (λ_ _=>rfl)) (aa (bE cx (sv 1) (ak) (λ_ _=>rfl)) af))))))))) (am (aH (gg))) aS)
 (ah (bt (rJ (bE cx (sv 1) (ak) (λ_ _=>rfl)) (gx)) (am (aH (C8 (bE cx (sv 0) (ak) (λ_ _=>rfl)) (gx)))) aS)
 (am (aH ((kn (bB t (xk t hB) cx (aa (bE cx (sv 0) (ak) (λ_ _=>rfl)) af)) (gX (lK cx.hK cx.hu (bE cx (sv 0) (ak) (λ_ _=>rfl)) (bE cx (sv 1) (ak) (λ_ _=>rfl))))))))))
theorem kz:OkF pt hA P w K mg base 1 57 kh:=okC 57 t λ_ _ _ _ _ _ cx nd=>
 (am (aH (uP cx.calm rfl (t.b 6) cu rfl (t.b 1) (aa (aL 0 t cx (sv 0)) af))))
theorem xq:OkF pt hA P w K mg base 3 58 vK:=okC 58 t λ_ _ _ _ _ _ cx nd=>
 (am (aH (wv cx.hK cx.calm rfl (t.b 15) (cV ["other"] cx (bK cx.hK (cw t (dh t hB) cx (sv 0) (aa (sv 1) af))) b6 (λ_ _ _ _ nd=>⟨(sgN nd),bz,(bE cx.comp (sv 0) (sv 1) (λ_ _=>rfl))⟩)))))
omit t hB in
theorem fV{X:Cx}(t:Tx pt X.K X.mg)(hB:X.K.In X.base):eG X (T X.K) 3 "hangs_on_some" ["self","at","reached"] [] bP:=λc _ hc e=>match c,hc,e with
 |1,_,e=>dm 58 t (xq t hB) e
 |2,_,e=>dm 59 t (xq t hB) e
 |3,_,e=>dm 60 t (xq t hB) e
 |0,_,e|4,_,e|5,_,e|6,_,e|7,_,e|8,_,e|9,_,e=>nomatch e
 |_+10,h,_=>dno (n:=10) h
theorem xb:OkF pt hA P w K mg base 4 59 vH:=okC 59 t λ_ _ _ _ _ _ cx nd=>
 (ah (bJ nd (cV ["at"] cx (bA rfl (t.b 1) (aa (aL 0 t cx (sv 0)) af)) b6 (λ_ _ _ _ nd=>⟨(sgN nd),bz,(tB cx.comp.hK cx.comp.hu2 (sv 1) (sv 0))⟩)))
 (ah (b9 cx.po cx.calm (cJ rfl (t.b 1) (aa (aL 0 t cx (sv 0)) af)) (sgN nd) (am (bJ nd (cV ["at"] cx (bA rfl (t.b 1) (aa (aL 0 t cx (sv 0)) af)) b6 (λ_ _ _ _ nd=>⟨(sgN nd),bz,((tq (bE cx.comp (sv 0) (sv 2) (λ_ _=>rfl)) (gX (cw t (fV t hB) cx.comp (sv 1) (aa (sv 2) (aa (sv 0) af))))))⟩)))))
 (am (aH (cV ["at"] cx (bA rfl (t.b 1) (aa (aL 0 t cx (sv 0)) af)) b6 (λ_ _ _ _ nd=>⟨(sgN nd),(cq (cf cx.comp.hK (bE cx.comp (sv 0) (sv 1) (λ_ _=>rfl)))),(sv 1)⟩))))))
omit t hB in
theorem eM{X:Cx}(t:Tx pt X.K X.mg)(hB:X.K.In X.base):eG X (T X.K) 4 "reach" ["self","spoiled"] [] aC:=λc _ hc e=>match c,hc,e with
 |0,_,e=>dm 61 t (kz t hB) e
 |1,_,e=>dm 62 t (xb t hB) e
 |2,_,e=>dm 63 t (xb t hB) e
 |3,_,e=>dm 64 t (xb t hB) e
 |4,_,e=>dm 65 t (kz t hB) e
 |5,_,e=>dm 66 t (kz t hB) e
 |6,_,e=>dm 67 t (kz t hB) e
 |7,_,e=>dm 68 t (kz t hB) e
 |9,_,e=>dm 69 t (kz t hB) e
 |8,_,e=>nomatch e
 |_+10,h,_=>dno (n:=10) h
theorem D1:OkF pt hA P w K mg base 1 60 CG:=okC 60 t λ_ _ _ _ _ _ cx nd=>
 (am (cB 5 t cx hB cy (aa (cz) af)))
theorem Ed:OkF pt hA P w K mg base 1 61 CH:=okC 61 t λ_ _ _ _ _ _ cx nd=>
 (am (aH (ak)))
theorem G1:OkF pt hA P w K mg base 1 62 EL:=okC 62 t λ_ _ _ _ _ _ cx nd=>
 (am (aH (ee (ee (aL 0 t cx (sv 0)) (ak)) (sv 1))))
theorem GZ:OkF pt hA P w K mg base 1 63 EJ:=okC 63 t λ_ _ _ _ _ _ cx nd=>
 (am (cQ rfl (Or.inl rfl)))
omit t hB in
theorem j5{X:Cx}(t:Tx pt X.K X.mg)(hB:X.K.In X.base):eG X (T X.K) 1 "rank" ["self","at"] [] dz:=λc _ hc e=>match c,hc,e with
 |1,_,e=>dm 70 t (Ed t hB) e
 |2,_,e=>dm 71 t (G1 t hB) e
 |3,_,e=>dm 72 t (GZ t hB) e
 |0,_,e|4,_,e|5,_,e|6,_,e|7,_,e|8,_,e|9,_,e=>nomatch e
 |_+10,h,_=>dno (n:=10) h
theorem ky:OkF pt hA P w K mg base 1 64 k9:=okC 64 t λ_ _ _ _ _ _ cx nd=>
 (ah (bJ nd (ak))
 (ah (b9 cx.po cx.calm (cJ rfl (t.b 1) (aa (sv 1) af)) (sgN nd) (am (bJ nd (cA (sv 2) (sv 0)))))
 (am (cQ rfl (Or.inl rfl)))))
theorem xc:OkF pt hA P w K mg base 7 65 yj:=okC 65 t λ_ _ _ _ _ _ cx nd=>
 (am (aH (lH cx.hK cx.calm rfl (t.b 9) (cV ["at"] cx (bK cx.hK (cw t (aT t hB) cx (sv 0) (aa (sv 1) af))) b6 (λ_ _ _ _ nd=>⟨(sgN nd),bz,(bB t (ky t hB) cx.comp (aa (ak) (aa (cw t (j5 t hB) cx.comp (sv 0) (aa (sv 1) af)) af)))⟩)))))
theorem tW:OkF pt hA P w K mg base 6 66 sN:=okC 66 t λ_ _ _ _ _ _ cx nd=>
 (ah (dL ["at"] cx nd (bA rfl (t.b 1) (aa (aL 0 t cx (sv 0)) af)) b6 (λ_ _ _ _ nd=>⟨(sgN nd),bz,(cw t (b_ t hB) cx.comp (sv 0) (aa (sv 1) (aa (sv 2) af)))⟩))
 (ah (bJ nd (aR (aL 0 t cx (sv 0)) (ak)))
 (ah (bJ nd (ak))
 (ah (b9 cx.po cx.calm (cJ rfl (t.b 1) (aa (aL 3 t cx (sv 0)) af)) (sgN nd) (ah (dL ["cell", "due"] cx nd (oz cx.hK rfl (t.b 10) (aa (sv 1) (aa (sv 2) af))) (jf (cI b6 (cI b6 gF))) (λ_ _ _ _ nd=>⟨(fN cx.comp.hK cx.comp.calm (bC nd rfl (Or.inl rfl) (bC nd rfl (Or.inl rfl) d_))),(cq (SW.st (gT (dr cx.comp.hK cx.comp.hu (sv 1) (sv 0)) (gc (kS (sv 2) (sv 0)))))),(sv 1)⟩))
 (ah (dL ["cell", "due"] cx nd (oz cx.hK rfl (t.b 10) (aa (sv 1) (aa (sv 2) af))) (jf (cI b6 (cI b6 gF))) (λ_ _ _ _ nd=>⟨(fN cx.comp.hK cx.comp.calm (bC nd rfl (Or.inl rfl) (bC nd rfl (Or.inl rfl) d_))),(cq (SW.st (gT (kS (sv 1) (sv 0)) (gc (dr cx.comp.hK cx.comp.hu (sv 2) (sv 0)))))),(sv 1)⟩))
 (am (bJ nd (aR (cA (aR (cA (sv 4) (sv 3)) (cT cx.hK rfl (t.b 0) (sv 6))) (sv 3)) (cT cx.hK rfl (t.b 0) (sv 7))))))))
 (am (cQ rfl (Or.inl rfl)))))))
theorem DY:OkF pt hA P w K mg base 1 67 yz:=okC 67 t λ_ _ _ _ _ _ cx nd=>
 (ah (dL ["other"] cx nd (bA rfl (t.b 1) (aa (cT cx.hK rfl (t.b 0) (sv 0)) af)) b6 (λ_ _ _ _ nd=>⟨(sgN nd),(cq (CV cx.comp.hK cx.comp.hu (lL (aa (bE cx.comp (sv 0) (sv 2) (λ_ _=>rfl)) (aa (sv 2) af))) (lL (aa (bE cx.comp (sv 0) (sv 1) (λ_ _=>rfl)) (aa (sv 1) af))))),(sv 2)⟩))
 (am (aH (cT cx.hK rfl (t.b 0) (sv 2)))))
omit t hB in
theorem kA{X:Cx}(t:Tx pt X.K X.mg)(hB:X.K.In X.base):eG X (T X.K) 6 "measure" ["self","cells"] [] gE:=λc _ hc e=>match c,hc,e with
 |5,_,e=>dm 73 t (tW t hB) e
 |0,_,e|1,_,e|2,_,e|3,_,e|4,_,e|6,_,e|7,_,e|8,_,e|9,_,e=>nomatch e
 |_+10,h,_=>dno (n:=10) h
theorem G4:OkF pt hA P w K mg base 7 68 EO:=okC 68 t λ_ _ _ _ _ _ cx nd=>
 (ah (bJ nd (cw t (gA t hB) cx (sv 0) (aa (sv 1) af)))
 (ah (bJ nd (cw t (fj t hB) cx (sv 0) (aa (sv 1) af)))
 (ah (dL ["at"] cx nd (bA rfl (t.b 1) (aa (aL 0 t cx (sv 0)) af)) b6 (λ_ _ _ _ nd=>⟨(sgN nd),(cq (fK cx.comp.hK cx.comp.hu (bE cx.comp (sv 0) (sv 3) (λ_ _=>rfl)) (cw t (fW t hB) cx.comp (sv 1) (aa (sv 2) (aa (sv 3) af))))),(sv 3)⟩))
 (ah (dL ["at"] cx nd (bK cx.hK (sv 4)) b6 (λ_ _ _ _ nd=>⟨(sgN nd),bz,(bB t (ky t hB) cx.comp (aa (ak) (aa (bB t (DY t hB) cx.comp (aa (sv 0) (aa (sv 1) af))) af)))⟩))
 (am (aH (aR (cA (cw t (kA t hB) cx (aL 9 t cx (sv 0)) (aa (sv 2) af)) (bB t (ky t hB) cx (aa (ak) (aa (aL 0 t cx (sv 0)) af)))) (lH cx.hK cx.calm rfl (t.b 9) (sv 5)))))))))
theorem DO:OkF pt hA P w K mg base 1 69 yq:=okC 69 t λ_ _ _ _ _ _ cx nd=>
 (ah (bJ nd (ak))
 (ah (lF cx.po (SW.st (gT (ge (sv 1) (cT cx.hK rfl (t.b 0) (sv 0))) (gc (dr cx.hK cx.hu (bE cx (sv 0) (sv 1) (λ_ _=>rfl)) (bE cx (sv 0) (ak) (λ_ _=>rfl)))))) (am (bJ nd (aR (sv 1) (ak)))))
 (am (cQ rfl (Or.inl rfl)))))
theorem G0:OkF pt hA P w K mg base 2 70 EK:=okC 70 t λ_ _ _ _ _ _ cx nd=>
 (ah (bt (lE cx.hK cx.hu2 (bE cx (sv 0) (ak) (λ_ _=>rfl)) (fO cx.hK (sv 0) (fA (bB t (DO t hB) cx (aa (sv 0) af))) jQ)) (am (aH (ak))) aS)
 (ah (bJ nd (ak))
 (ah (lF cx.po (ni cx.hK cx.hu2 (bI (aR (bE cx (sv 0) (ak) (λ_ _=>rfl)) (sv 2)) (sv 1)) (fO cx.hK (sv 0) (fA (ak)) jQ)) (am (bJ nd (aR (sv 2) (ak)))))
 (am (cQ rfl (Or.inl rfl))))))
theorem G5:OkF pt hA P w K mg base 7 71 yk:=okC 71 t λ_ _ _ _ _ _ cx nd=>
 (ah (dL ["at"] cx nd (bK cx.hK (cw t (aT t hB) cx (sv 0) (aa (sv 1) af))) b6 (λ_ _ _ _ nd=>⟨(sgN nd),(cq (fK cx.comp.hK cx.comp.hu (sv 1) (ak))),(ee (aL 0 t cx.comp (sv 0)) (sv 1))⟩))
 (am (aH (aR (cA (aL 0 t cx (sv 0)) (bB t (G0 t hB) cx (aa (sv 1) (aa (aL 7 t cx (sv 0)) af)))) (lH cx.hK cx.calm rfl (t.b 9) (sv 2))))))
omit t hB in
theorem eA{X:Cx}(t:Tx pt X.K X.mg)(hB:X.K.In X.base):eG X (T X.K) 7 "measure" ["self","cells"] [] aF:=λc _ hc e=>match c,hc,e with
 |0,_,e=>dm 74 t (D1 t hB) e
 |1,_,e=>dm 75 t (xc t hB) e
 |2,_,e=>dm 76 t (xc t hB) e
 |3,_,e=>dm 77 t (xc t hB) e
 |4,_,e=>dm 78 t (tW t hB) e
 |5,_,e=>dm 73 t (tW t hB) e
 |6,_,e=>dm 79 t (tW t hB) e
 |7,_,e=>dm 80 t (G4 t hB) e
 |9,_,e=>dm 81 t (G5 t hB) e
 |8,_,e=>nomatch e
 |_+10,h,_=>dno (n:=10) h
theorem DP:OkF pt hA P w K mg base 1 72 CF:=okC 72 t λ_ _ _ _ _ _ cx nd=>
 (am (cB 5 t cx hB cy (aa (cz) af)))
theorem sk:OkF pt hA P w K mg base 2 73 qN:=okC 73 t λ_ _ _ _ _ _ cx nd=>
 (am (aH (ee (bB t (ky t hB) cx (aa (ak) (aa (aL 0 t cx (sv 0)) af))) (ak))))
theorem tV:OkF pt hA P w K mg base 2 74 vI:=okC 74 t λ_ _ _ _ _ _ cx nd=>
 (am (aH (ee (bB t (ky t hB) cx (aa (aR (aL 0 t cx (sv 0)) (ak)) (aa (cA (ak) (aL 3 t cx (sv 0))) af))) (ak))))
omit t hB in
theorem mQ{X:Cx}(t:Tx pt X.K X.mg)(hB:X.K.In X.base):eG X (T X.K) 2 "most" ["self"] [] jI:=λc _ hc e=>match c,hc,e with
 |5,_,e=>dm 82 t (tV t hB) e
 |0,_,e|1,_,e|2,_,e|3,_,e|4,_,e|6,_,e|7,_,e|8,_,e|9,_,e=>nomatch e
 |_+10,h,_=>dno (n:=10) h
theorem D3:OkF pt hA P w K mg base 3 75 yD:=okC 75 t λ_ _ _ _ _ _ cx nd=>
 (am (aH (ee (cA (aR (tH t (mQ t hB) cx (aL 9 t cx (sv 0))) (ak)) (bB t (ky t hB) cx (aa (ak) (aa (aL 0 t cx (sv 0)) af)))) (ak))))
theorem D5:OkF pt hA P w K mg base 1 76 yF:=okC 76 t λ_ _ _ _ _ _ cx nd=>
 (am (aH (dW (cA (cA (ak) (aL 0 t cx (sv 0))) (ee (aL 0 t cx (sv 0)) (ak))) (ak))))
omit t hB in
theorem b7{X:Cx}(t:Tx pt X.K X.mg)(hB:X.K.In X.base):eG X (T X.K) 3 "most" ["self"] [] ay:=λc _ hc e=>match c,hc,e with
 |0,_,e=>dm 83 t (DP t hB) e
 |1,_,e=>dm 84 t (sk t hB) e
 |2,_,e=>dm 85 t (sk t hB) e
 |3,_,e=>dm 86 t (sk t hB) e
 |4,_,e=>dm 87 t (tV t hB) e
 |5,_,e=>dm 82 t (tV t hB) e
 |6,_,e=>dm 88 t (tV t hB) e
 |7,_,e=>dm 89 t (D3 t hB) e
 |9,_,e=>dm 90 t (D5 t hB) e
 |8,_,e=>nomatch e
 |_+10,h,_=>dno (n:=10) h
theorem iQ:OkF pt hA P w K mg base 4 77 i5:=okC 77 t λ_ _ _ _ _ _ cx nd=>
 (am (aH (tH t (b7 t hB) cx (sv 0))))
theorem D7:OkF pt hA P w K mg base 4 78 yH:=okC 78 t λ_ _ _ _ _ _ cx nd=>
 (am (aH (lr cx.calm rfl (t.b 3) (aa (tH t (b7 t hB) cx (sv 0)) (aa (aR (cA (aR (sv 1) (ak)) (aL 0 t cx (sv 0))) (cA (aR (cA (ak) (sv 1)) (ak)) (ee (aL 0 t cx (sv 0)) (ak)))) af)))))
omit t hB in
theorem eZ{X:Cx}(t:Tx pt X.K X.mg)(hB:X.K.In X.base):eG X (T X.K) 4 "soon" ["self","count"] [] aJ:=λc _ hc e=>match c,hc,e with
 |0,_,e=>dm 91 t (iQ t hB) e
 |1,_,e=>dm 92 t (iQ t hB) e
 |2,_,e=>dm 93 t (iQ t hB) e
 |3,_,e=>dm 94 t (iQ t hB) e
 |4,_,e=>dm 95 t (iQ t hB) e
 |5,_,e=>dm 96 t (iQ t hB) e
 |6,_,e=>dm 97 t (iQ t hB) e
 |7,_,e=>dm 98 t (iQ t hB) e
 |9,_,e=>dm 99 t (D7 t hB) e
 |8,_,e=>nomatch e
 |_+10,h,_=>dno (n:=10) h
theorem DU:OkF pt hA P w K mg base 8 79 yu:=okC 79 t λ_ _ _ _ _ _ cx nd=>
 (ah (dL ["_law_at", "_law_number"] cx nd (bK cx.hK (sv 1)) (jf (cI b6 (cI b6 gF))) (λ_ _ _ _ nd=>⟨(fN cx.comp.hK cx.comp.calm (bC nd rfl (Or.inl rfl) (bC nd rfl (Or.inl rfl) d_))),bz,(sv 0)⟩))
 (ah (bJ nd (cw t (eM t hB) cx (sv 0) (aa (cR cx.hK rfl (t.b 6) cu (sv 4)) af)))
 (ah (bt (SW.st (gG (jB (cf cx.hK (lI cx.hK qE rfl (t.b 11) dQ rfl (t.b 6) cu (sv 5)))) (fh (fK cx.hK cx.hu (sv 5) (cV ["_law_at"] cx (bA rfl (t.b 1) (aa (aL 0 t cx (sv 0)) af)) b6 (λ_ _ _ _ nd=>⟨(sgN nd),(cq (ni cx.comp.hK cx.comp.hu2 (sv 1) (sv 0))),(sv 1)⟩)))))) (am (aH (gg))) aS)
 (ah (bt (jB (cf cx.hK (ww cx.hK cx.calm rfl (t.b 14) (cV ["_law_at"] cx (bK cx.hK (sv 3)) b6 (λ_ _ _ _ nd=>⟨(sgN nd),bz,(tB cx.comp.hK cx.comp.hu2 (sv 1) (sv 0))⟩))))) (am (aH (gg))) aS)
 (ah (bJ nd (cw t (eA t hB) cx (sv 0) (aa (cw t (bj t hB) cx (sv 0) (aa (cR cx.hK rfl (t.b 6) cu (sv 2)) af)) af)))
 (am (aH (wt Cp Cp (sv 6) (cw t (eZ t hB) cx (sv 0) (aa (cT cx.hK rfl (t.b 0) (sv 1)) af)) (tH t (b7 t hB) cx (sv 0))))))))))
theorem Eh:OkF pt hA P w K mg base 10 80 CI:=okC 80 t λ_ _ _ _ _ _ cx nd=>
 (ah (bJ nd (bB t (oP t hB) cx (aa (sv 0) (aa (ak) af))))
 (ah (bJ nd (bI (sv 1) (ak)))
 (ah (bJ nd (bB t (DJ t hB) cx (aa (sv 2) (aa (aR (ak) (bI (dW (sv 1) (ak)) (ak))) (aa (dW (sv 1) (ak)) (aa (bB t (oP t hB) cx (aa (sv 0) (aa (ak) af))) af))))))
 (ah (bJ nd (aL 0 t cx (sv 3)))
 (ah (bJ nd (bB t (DQ t hB) cx (aa (sv 3) (aa (sv 2) (aa (bB t (oP t hB) cx (aa (sv 0) (aa (ak) af))) af)))))
 (ah (bJ nd (cw t (bG t hB) cx (sv 3) (aa (cR cx.hK rfl (t.b 6) cu (sv 5)) af)))
 (ah (bt (SW.st (gT (Aq (sv 6) (gg)) (gc (fK cx.hK cx.hu (bI (bB t (oP t hB) cx (aa (sv 0) (aa (ak) af))) (ak)) (ak))))) (am (aH (gg))) aS)
 (ah (bJ nd (gy af))
 (ah (b9 cx.po cx.calm (gw cx.hK (fO cx.hK (sv 0) (fA (ak)) (fA (aR (ak) (bI (dW (sv 1) (ak)) (ak)))))) (sgN nd) (am (rW cx (lL (aa (bI (dW (sv 8) (ak)) (sv 4)) (aa (cA (bI (dW (dW (sv 8) (ak)) (sv 4)) (wn (ak) (ak))) (tD cx.hK (gy (aa (ak) (aa (C5 (ak)) af))) (bI (sv 8) (ak)) (λ_ _=>rfl))) af))))))
 (ah (dL ["_law_cell"] cx nd (bK cx.hK (fO cx.hK (sv 0) (fA (ak)) (fA (ak)))) b6 (λ_ _ _ _ nd=>⟨(sgN nd),bz,(bB t (DK t hB) cx.comp (aa (sv 0) (aa (sv 1) af)))⟩))
 (ah (bJ nd (bB t (DX t hB) cx (aa (sv 5) (aa (sv 7) af))))
 (ah (bJ nd (bB t (DT t hB) cx (aa (sv 3) (aa (sv 10) (aa (sv 9) af)))))
 (ah (b9 cx.po cx.calm (cJ rfl (t.b 1) (aa (ak) af)) (sgN nd) (ah (bJ nd (gy (aa (cR cx.hK rfl (t.b 6) cu (sv 5)) (aa (cR cx.hK rfl (t.b 6) cu (sv 7)) (aa (cV ["_law_named"] cx (bK cx.hK (sv 9)) b6 (λ_ _ _ _ nd=>⟨(sgN nd),bz,(cR cx.comp.hK rfl (t.b 6) cu (sv 0))⟩)) af)))))
 (ah (bJ nd (bB t (xh t hB) cx (aa (bE cx (sv 13) (ak) (λ_ _=>rfl)) (aa (bE cx (sv 13) (ak) (λ_ _=>rfl)) af))))
 (ah (bt (jB (cf cx.hK (bB t (xi t hB) cx (aa (sv 14) (aa (sv 10) af))))) (am (aH (gg))) aS)
 (ah (rW cx (ak))
 (ah (bt (fK cx.hK cx.hu (sv 13) (gy (aa (sv 5) (aa (sv 7) (aa (sv 9) af))))) (am (aH (gg))) aS)
 (ah (bt (jB (cf cx.hK (bB t (DN t hB) cx (aa (bB t (DG t hB) cx (aa (sv 3) (aa (bE cx (sv 13) (ak) (λ_ _=>rfl)) (aa (bE cx (sv 13) (ak) (λ_ _=>rfl)) (aa (bE cx (sv 13) (ak) (λ_ _=>rfl)) af))))) (aa (sv 11) af))))) (am (aH (gg))) aS)
 (am (bt (fK cx.hK cx.hu (sv 13) (gy (aa (sv 5) (aa (sv 7) (aa (sv 9) af))))) (am (aH (gg))) aS)))))))))
 (am (aH ((tq (wp (sv 6)) (gX (bB t (DU t hB) cx (aa (sv 3) (aa (sv 7) (aa (sv 10) (aa (bE cx (sv 11) (ak) (λ_ _=>rfl)) af)))))))))))))))))))))))
end
end
section
theorem rZ(n k:Int)(h1:k<=n)(h2:n<=10):yw [.int n,.int k]=.ok .non:=by refine nD (e:=[some (.int n),some (.int k)]) ?_;show zG [some (.int n),some (.int k)]=_;unfold zG;exact bU (by simp;rw[if_neg (),decide_eq_false ()]) aD
theorem sg{fl:Fl}{n:Nat}{ws:JH}(g:FF n ws)(hf:fl.JU=fl)(hl:fl.JZ=false):yI [.int n,.lst fl (prL ws)]=.ok (.lst .own (prL (cP (ws.map mm)))):=by
 refine au (v:=.lst .own (prL (cP (ws.map mm)))) ?_;show zX [some (.int n),some (.lst fl (prL ws)),none,none,none]=_;unfold zX;refine ag (aw (v:=.lst .own []) (by simp)) ?_;simp only[s0_,s1_];refine fB (λk e=>∃c d,e=[some (.int n),some (.lst fl (prL ws)),some (.lst .own (prL ((ws.take k).map mm))),c,d]) (xs:=prL ws) (dJ (by simp[hf]) hl (by simp) (by simp)) ⟨_,_,rfl⟩ (λk x e hx hP=>?_) (λe hP=>?_)
 .obtain⟨c,d,rfl⟩:=hP;rw[prL_get]at hx;obtain⟨w,hw,rfl⟩:∃w,ws[k]?=some w/\x=prV w:=by
   cases e:ws[k]? with
   |none=>rw[e]at hx;cases hx
   |some w=>rw[e]at hx;cases hx;exact⟨w,rfl,rfl⟩
  have hk:k<ws.length:=(List.getElem?_eq_some_iff.mp hw).1;obtain⟨r1,r2,r3,r4,r5⟩:=g.rg w (List.mem_of_getElem? hw);have hn:((ws.take k).map mm).contains (mm w)=false:=by
   rw[Bool.eq_false_iff];intro z;have z':mm w ∈(ws.take k).map mm:=by simpa using z
   have nd:=g.nd;rw[<- List.take_append_drop k ws,map_append,nodup_append]at nd;refine nd.2.2 _ z' (mm w) (List.mem_map_of_mem ?_) rfl;rw[List.drop_eq_getElem_cons hk];obtain⟨_,e⟩:=List.getElem?_eq_some_iff.mp hw;rw[e];exact mem_cons_self
  have hn':mm w ∉(ws.map mm).take k:=by rw[<- List.map_take];simpa using hn
  have ht:(ws.take (k+1)).map mm=(ws.take k).map mm++[mm w]:=by rw[take_add_one,hw];simp
  have hz:=g.sz;refine⟨_,cS rfl,b8 (aw (v:=prV (mm w)) (by simp[p1,ou,mm])) ?_⟩;simp only[s0_,s1_];refine b8 (bU (by simp[mm];rw[if_neg (),decide_eq_false ()]) aD) ?_;refine b8 (bU (by simp[mm];omega) aD) ?_;refine b8 (bU (by simp only[jl,gj,dH];simp[hn']) aD) ?_;refine bu (eR (v:=prV (mm w)) (xs:=prL ((ws.take k).map mm)) (by simp) rfl (by simp) (by simp;omega)) ⟨some (prV w),some (prV (mm w)),?_⟩;simp only[s0_,s1_];rw[ht,<- A2];rfl
 .obtain⟨c,d,rfl⟩:=hP;refine a5 ?_ (by simp);have e:ws.take (prL ws).length=ws:=by rw[lv,take_length]
  simp only[e];simp[p1,rN (f:=.lnt) (ps:=ws.map mm) (by simpa using g.sz) g.nd]
theorem kR(a:Int):∀(ps:JH),(∀x∈ps,x.1≠x.2)->(ps.filter λx=>decide (x.2=a)).length+(ps.filter λx=>decide (x.1=a)).length<=ps.length
 | [],_=>Nat.le_refl _
 |x::ps,h=>by
  have:=kR a ps λy hy=>h y (mem_cons_of_mem _ hy);have hx:=h x mem_cons_self;rw[filter_cons,filter_cons];by_cases h1:x.2=a
  .have h2:x.1≠a:=λz=>hx (z.trans h1.symm);simp[h1,h2];omega
  .by_cases h2:x.1=a
   .simp[h1,h2];omega
   .simp[h1,h2];omega
theorem xy(ps:JH)(a:Int)(h:ps.length<64)(hne:∀x∈ps,x.1≠x.2):ui [.tup (prL ps),.int a]=.ok (.lst .own (iL (nbL ps a))):=by
 refine au (v:=.lst .own (iL (nbL ps a))) ?_;show zy [some (.tup (prL ps)),some (.int a),none,none]=_;unfold zy;refine ag (aw (v:=.lst .own (iL ((ps.filter λx=>decide (x.2=a)).map (·.1)))) ?_) ?_
 .refine aM (xs:=prL ps) (by simp) (by simp;omega) ?_;unfold iL prL;rw[map_map];exact cN (a:=prV) (f:=PV.int ∘ Prod.fst) (p:=λx=>decide (x.2=a)) ps λx _=>⟨[some (.int a),some (prV x)],by simp[tgN,aO,bQ],by simp,λ_=>⟨by simp,rfl,rfl⟩⟩
 simp only[s0_,s1_];refine ag (aw (v:=.lst .own (iL ((ps.filter λx=>decide (x.1=a)).map (·.2)))) ?_) ?_
 .refine aM (xs:=prL ps) (by simp) (by simp;omega) ?_;rw[show iL ((ps.filter λx=>decide (x.1=a)).map (·.2))=(ps.filter λx=>decide (x.1=a)).map (PV.int ∘ Prod.snd)from map_map ..];exact cN (a:=prV) (f:=PV.int ∘ Prod.snd) (p:=λx=>decide (x.1=a)) ps λx _=>⟨[some (.int a),some (prV x)],by simp[tgN,aO,bQ],by simp,λ_=>⟨by simp,rfl,rfl⟩⟩
 simp only[s0_,s1_];refine a5 ?_ (by simp);have h1:=kR a ps hne;simp only[eD,cr,gj,dH,c9];simp[p1];rw[eY (by decide) (by decide) (by simp;omega)];simp;rw[uL _ (by simp;omega)];rfl
abbrev net(fl:Fl)(n:Nat)(ps:JH):PV:=.obj fl 8 [0,1,2] [.int n,.tup (prL ps),.tup ((range n).map λk:Nat=>.tup (iL (nbL ps k)))]
@[simp] def Ie{n:Nat}{ps:JH}{p:Fl->Bool}:hasL p ((range n).map λk:Nat=>PV.tup (iL (nbL ps k)))=false:=by
 induction range n with
 |nil=>rfl
 |cons a l ih=>simp[hasL,PV.has,ih]
@[simp] def Id{n:Nat}{ps:JH}{g:Fl->Fl}:mapL g ((range n).map λk:Nat=>PV.tup (iL (nbL ps k)))=(range n).map λk:Nat=>PV.tup (iL (nbL ps k)):=by
 induction range n with
 |nil=>rfl
 |cons a l ih=>simp[mapL,PV.J2,ih]
def vU{n:Nat}{ps:JH}{k:Nat}(hk:k<n):uj [net .bor n ps,.int k]=.ok (.lst .own (iL (nbL ps k))):=by
 refine au (v:=.lst .own (iL (nbL ps k))) ?_;show rp [some (net .bor n ps),some (.int k)]=_;unfold rp;refine a5 ?_ (by simp);have e:aK (.tup ((range n).map λk:Nat=>PV.tup (iL (nbL ps k)))) (.int k)=.ok (.tup (iL (nbL ps k))):=by
  have hk':((range n).map λk:Nat=>PV.tup (iL (nbL ps k)))[k]?=some (.tup (iL (nbL ps k))):=by simp[hk]
  exact cY rfl hk' (by simp[PV.has])
 simp[ap,a_,p1,dE,e,a6]
def gQ(ps:JH)(i j:Nat):Prop:=((i:Int),(j:Int))∈ ps \/((j:Int),(i:Int))∈ ps
theorem yi{n r:Nat}{ps:JH}(hr:r<n)(hn:n<=10)(g:∀x∈ps,0<=x.1/\x.1<n/\0<=x.2/\x.2<n) :
  ∃far,uh [net .bor n ps,.int r]=.ok (.lst .own (iL far))/\pG n r (gQ ps) far:=by
 have a0:ap 0 (net .bor n ps)=.ok (.int n):=by simp[ap,a_]
 have end_:∀e:En,(∃far a b c,e=[some (net .bor n ps),some (.int r),some (.lst .own (iL far)),a,b,c]/\Far n r (gQ ps) n 0 (λ_=>False) far)->∃far,dv 2 e=.ret (.lst .own (iL far))/\pG n r (gQ ps) far:=λe ⟨far,a,b,c,he,F⟩=>⟨far,by subst he;exact dF rfl,F.dist⟩
 let P:Nat->En->Prop:=λs e=>∃far a b c,e=[some (net .bor n ps),some (.int r),some (.lst .own (iL far)),a,b,c]/\Far n r (gQ ps) s 0 (λ_=>False) far
 have loop:∃e2,cU (bO (ae (mUn (ap 0) (ac 0)) ao)) (tgN 3)
   (cU (bO (ae (mUn (ap 0) (ac 0)) ao)) (tgN 4)
   (mBr (aB (mOp pEq (mOp aK (ac 2) (ac 4)) (ac 3)))
   (cU (e9 (bM b5 (ac 0) (ae (ac 4) ao))) (tgN 5)
   (ig 2 (ac 5) (aq (fS min) (ae (mOp aK (ac 2) (ac 5)) (ae (mOp aP (ac 3) (J5 1)) ao)))))
   a9)) [some (net .bor n ps),some (.int r),some (.lst .own (iL (((range n).map λ_=>(n:Int)).set r 0))),none,none,none]=.next e2/\P (cG 0 n).length e2:=by
  refine jk P (bv (n:=n) (by simp[a0]) ()) ⟨_,_,_,_,rfl,Far.start hr (λi hi=>?_) (by simp)⟩ (λs x e hx hP=>?_)
  .rw[o6 _ (by simpa using hr)];simp[gt,hi]
  .obtain⟨far,a,b,c,rfl,F⟩:=hP;obtain⟨hs,rfl⟩:=da hx
   suffices ju _ _ by obtain⟨e2,h1,h2⟩:=this;exact⟨_,e2,cS rfl,h1,h2⟩
   refine ji (λk e=>∃far b c,e=[some (net .bor n ps),some (.int r),some (.lst .own (iL far)),some (.int (0+(s:Int))),b,c]/\Far n r (gQ ps) s k (λ_=>False) far) (bv (n:=n) (by simp[a0]) ()) ⟨_,_,_,rfl,F⟩ (λk x e hx hP=>?_) (λe hP=>?_)
   .obtain⟨far,b,c,rfl,F⟩:=hP;obtain⟨hk,rfl⟩:=da hx;have ix:∀ (f:Fl) (i:Nat),i < n->aK (.lst f (iL far)) (.int i)=.ok (.int (gt far i)):=λf i hi=>iZ _ () (by
     have:i<far.length:=by rw[F.len];exact hi
     simp[gt,this])
    refine⟨_,cS rfl,?_⟩;simp only[s0_,s1_];by_cases hv:gt far k=s
    .refine kJ (by simp[ix _ k hk,hv]) ?_;have nbs:∀o∈nbL ps k,∃j:Nat,o=j/\j<n/\gQ ps j k:=λo ho=>by
      rcases ib.mp ho with q|q
      .have:=g _ q;exact⟨o.toNat,by omega,by omega,.inl (by rw[show((o.toNat:Nat):Int)=o by omega];exact q)⟩
      .have:=g _ q;exact⟨o.toNat,by omega,by omega,.inr (by rw[show((o.toNat:Nat):Int)=o by omega];exact q)⟩
     refine ji (λq e=>∃far c,e=[some (net .bor n ps),some (.int r),some (.lst .own (iL far)),some (.int (0+(s:Int))),some (.int (0+(k:Int))),c]/\Far n r (gQ ps) s k (λj=>(j:Int)∈(nbL ps k).take q) far/\gt far k=s) (xs:=iL (nbL ps k)) ?_ ⟨far,_,rfl,F.none (by simp),hv⟩ (λq x e hx hP=>?_) (λe hP=>?_)
     .have bk:=vU (ps:=ps) hk;refine dJ (f:=.own) ?_ rfl (by simp) (by simp);simp[b5,bk,aA]
     .obtain⟨far,c,rfl,F,hv⟩:=hP;rw[xV]at hx;obtain⟨o,ho,rfl⟩:∃o,(nbL ps k)[q]?=some o/\x=.int o:=by
       cases e:(nbL ps k)[q]? with
       |none=>rw[e]at hx;cases hx
       |some w=>rw[e]at hx;cases hx;exact⟨w,rfl,rfl⟩
      obtain⟨j,rfl,hj,aj⟩:=nbs o (List.mem_of_getElem? ho);have ix:∀ (f:Fl) (i:Nat),i < n->aK (.lst f (iL far)) (.int i)=.ok (.int (gt far i)):=λf i hi=>iZ _ () (by
       have:i<far.length:=by rw[F.len];exact hi
       simp[gt,this])
      obtain⟨F',hv'⟩:=F.relax hk hv hj aj hs;refine⟨_,cS rfl,bu (jS (v:=.int (min (gt far j) ((s:Int)+1))) (xs:=iL far) (j:=j) (n:=j) (by simp[ix _ j hj,fS]) rfl (by simp) (ke (by rw[ba,F.len];exact hj)) (by simp)) ⟨_,some (.int j),?_,?_,hv'⟩⟩
      .rw[qF];rfl
      .have e:∀i:Nat,((i:Int)∈(nbL ps k).take (q+1))=((i:Int)∈(nbL ps k).take q\/i=j):=λi=>by rw[take_add_one,ho];simp;exact or_congr_right ⟨λh=>by omega,λh=>by omega⟩
       simp only[e];exact F'
     .obtain⟨far,c,rfl,F,hv⟩:=hP;refine⟨far,_,_,rfl,F.close λj hj a=>?_⟩;rw[ba,take_length];exact ib.mpr (a.elim .inr .inl)
    .refine nS (by simp[ix _ k hk,hv]) (bu aD ⟨far,_,_,rfl,F.skip hv⟩)
   .obtain⟨far,b,c,rfl,F⟩:=hP;rw[aZ]at F;exact⟨far,_,_,_,rfl,F.next⟩
 obtain⟨e2,h1,h2⟩:=loop;rw[aZ]at h2;obtain⟨far,h3,h4⟩:=end_ e2 h2;refine⟨far,au (v:=.lst .own (iL far)) ?_,h4⟩;show zk [some (net .bor n ps),some (.int r),none,none,none,none]=_;unfold zk;refine ag (aw (v:=.lst .own (iL ((range n).map λ_=>(n:Int)))) ?_) ?_
 .refine aM (xs:=cG 0 n) (bv (n:=n) (by simp[a0]) ()) (by rw[aZ];omega) ?_;rw[show iL ((range n).map λ_=>(n:Int))=(range n).map (λ_=>PV.int n)from by simp[iL]];exact bp (a:=λk:Nat=>PV.int (0+(k:Int))) (f:=λ_=>PV.int n) (range n) λk _=>⟨[some (net .bor n ps),some (.int (0+k))],by simp[tgN,aO,bQ,PV.JX],by simp[a0],rfl,rfl⟩
 simp only[s0_,s1_];refine ag (jS (v:=.int 0) (xs:=iL ((range n).map λ_=>(n:Int))) (j:=r) (n:=r) (by simp) rfl (by simp) (ke (by simpa using hr)) (by simp)) ?_;rw[qF];exact ag h1 h3
def Ep{far:JK}{b:Int}(h:far≠[])(hb:∀x∈far,x<b):iA far<b:=hb _ (j8 h).1
theorem BL{fl:Fl}{n:Nat}{ws:JH}(g:FF n ws)(h1:1<=n)(hn:n<=10)(hf:fl.JU.JV=.bor\/fl.JU.JV=.frz)(conn:∀S:Nat->Prop,S 0->(∀i<n,∀j<n,gQ (cP (ws.map mm)) i j->S i->S j)->∀i<n,S i) :
  nW [.obj .own 8 [] [],.int n,.lst fl (prL ws)]=.ok (net .own n (cP (ws.map mm))):=by
 have hfl:fl.JU.JV.JU=fl.JU.JV:=by rcases hf with e|e<;>rw[e]<;>rfl
 have hfi:fl.JU.JV.JZ=false:=by rcases hf with e|e<;>rw[e]<;>rfl
 have o1:=sg (fl:=fl.JU.JV) g hfl hfi;have rg:∀x∈cP (ws.map mm),0<=x.1/\x.1<n/\0<=x.2/\x.2<n/\x.1≠x.2:=λx hx=>by obtain⟨w,hw,rfl⟩:=mem_map.mp ((du _).mem_iff.mp hx);have:=g.rg w hw;simp only[mm];omega
 have sz:(cP (ws.map mm)).length<64:=by rw[(du _).length_eq,length_map];exact g.sz
 generalize hps:cP (ws.map mm)=ps at *;have nb:∀k:Nat,ui [.tup (prL ps),.int k]=.ok (.lst .own (iL (nbL ps k))):=λk=>xy ps k sz λx hx=>(rg x hx).2.2.2.2;obtain⟨far,e1,D⟩:=yi (n:=n) (r:=0) (ps:=ps) () hn λx hx=>⟨(rg x hx).1,(rg x hx).2.1,(rg x hx).2.2.1,(rg x hx).2.2.2.1⟩
 have hall:=D.all () conn;have hne:far≠[]:=λz=>by have:=D.len;rw[z]at this;simp at this;omega
 have hmx:iA far<n:=Ep hne λx hx=>by obtain⟨i,hi,rfl⟩:=getElem_of_mem hx;have:=hall i (by rw[<- D.len];exact hi);simpa[gt,hi]using this
 refine cW (e:=[some (net .own n ps),some (.int n),some (.lst fl (prL ws))]) ?_ rfl;show zo [some (.obj .own 8 [] []),some (.int n),some (.lst fl (prL ws))]=_;unfold zo;have rf:=rZ n 1 () ();refine ag (il (v:=.non) (by simp[rf,aA])) ?_;refine ag (bZ (v:=.int n) (ks:=[]) (vs:=[]) (by simp) rfl (by simp) rfl (by decide)) ?_;simp only[s0_,s1_];refine ag (bZ (v:=.tup (prL ps)) (ks:=[0]) (vs:=[.int n]) ?_ rfl (by simp) rfl (by decide)) ?_
 .simp[o1,aA,p1,eK,a6]
 simp only[s0_,s1_];refine ag (bZ (v:=.tup ((range n).map λk:Nat=>.tup (iL (nbL ps k)))) (ks:=[0,1]) (vs:=[.int n,.tup (prL ps)]) ?_ rfl (by simp) rfl (by decide)) ?_
 .simp only[eD,cr,c9];rw [aM (xs:=cG 0 n) (ys:=(range n).map λk:Nat=>.tup (iL (nbL ps k))) (bv (n:=n) (by simp) ()) (by rw [aZ];omega)
   (bp (a:=λk:Nat=>PV.int (0+(k:Int))) (f:=λk:Nat=>.tup (iL (nbL ps k))) (range n) λk _=>⟨[some (.obj .bor 8 [0,1] [.int n,.tup (prL ps)]),some (.int (0+k))],by simp[tgN,aO,bQ],by simp[ap,a_,nb,aA,p1,eK,a6],by simp[PV.has],by simp[PV.has]⟩)]
  simp[p1,eK,a6]
 simp only[s0_,s1_];refine bU ?_ aD;have hi:far.isEmpty=false:=by cases far with|nil=>exact absurd rfl hne|cons a l=>rfl
 have e2:uh [net .bor n ps,.int 0]=.ok (.lst .own (iL far)):=e1;simp[e2,aA,p1,gI,a6,hi];omega
def cell(ns:JK)(k:Nat):Int:=ns.getD k 0
theorem B7{fl:Fl}(ns:JK)(k:Nat)(h:Scr fl):jz [.lst fl (iL ns),.int k]=.ok (.int (cell ns k)):=by
 refine au ?_;show zL [some (.lst fl (iL ns)),some (.int k)]=_;unfold zL cell;by_cases hk:k<ns.length
 .refine dB (jb (by simp[h.JU,hk]) (a5 ?_));simp only[gj,dH];simp[h.JU];rw[iZ ns () (n:=ns.getD k 0) (by simp[hk])];simp[hk]
 .refine ag (bU (by simp[h.JU,hk]) aD) (a5 (by simp[List.getElem?_eq_none (Nat.le_of_not_lt hk)]))
def pL(n:Int):qM [.int n]=.ok (.bl true):=by refine au (v:=.bl true) ?_;show zx [some (.int n)]=_;unfold zx;exact a5 (by simp[kf]) (by simp)
theorem uv{n m r:Nat}{ws:JH}(Wh:gu n m ws)(hr:r<n)(S:Nat->Prop)(h0:S r)(hc:∀i<n,∀j<n,gQ (cP (ws.map mm)) i j->S i->S j):∀i<n,S i:=λi hi=>by
 have:=Wh.cn (λx=>S x.toNat) (λw hw=>?_) r i hr hi (by simpa using h0)
 .simpa using this
 .have rg:=Wh.rg w hw;have hm:mm w∈cP (ws.map mm):=(du _).mem_iff.mpr (List.mem_map_of_mem hw);have e1:((w.1.toNat:Nat):Int)=w.1:=by omega
  have e2:((w.2.toNat:Nat):Int)=w.2:=by omega
  have ad:gQ (cP (ws.map mm)) w.1.toNat w.2.toNat:=by
   unfold gQ;rw[e1,e2];rcases Int.le_total w.1 w.2 with h|h
   .left;rw[show(w.1,w.2)=mm w by simp only[mm,Prod.mk.injEq];omega];exact hm
   .right;rw[show(w.2,w.1)=mm w by simp only[mm,Prod.mk.injEq];omega];exact hm
  exact⟨hc _ () _ () ad,hc _ () _ () (ad.elim .inr .inl)⟩
def fnd(ws:JH)(a:Int):JK:=ws.flatMap λw=>(if w.1=a then [w.2]else [])++(if w.2=a then [w.1]else [])
theorem jE(c:Int)(m:Nat)(hm:m<=1000):∃l:JK,my [.int c,.int m]=.ok (.lst .own (iL l))/\l.length=m/\∀x∈l,0<=x/\x<998244353:=by
 suffices hh:jM (zK [some (.int c),some (.int m),none,none,none]) (λv=>∃l:JK,v=.lst .own (iL l)/\l.length=m/\∀x∈l,0<=x/\x<998244353) by obtain⟨v,h1,l,rfl,h2⟩:=hh;exact⟨l,au h1,h2⟩
 unfold zK;have c1:=emod_nonneg c (show(998244353:Int)≠ 0 by decide);have c2:=emod_lt_of_pos c (show(0:Int)<998244353 by decide);refine bY (aw (v:=.int (c%998244353)) (by simp[bF])) ?_;simp only[s0_,s1_];refine bY (aw (v:=.lst .own []) (by simp)) ?_;simp only[s0_,s1_];refine iG (λk e=>∃z l x4,e=[some (.int c),some (.int m),some (.int z),some (.lst .own (iL l)),x4]/\l.length=k/\k<=m/\(0<=z/\z<998244353)/\∀x∈l,0<=x/\x<998244353) (bv (n:=m) (by simp) ()) ⟨c%998244353,[],none,rfl,rfl,by omega,⟨c1,c2⟩,λ_ z=>nomatch z⟩ (λk x e hx hP=>?_) (λe hP=>?_)
 .obtain⟨z,l,x4,rfl,hk,_,⟨z1,z2⟩,hl⟩:=hP;obtain⟨hkm,rfl⟩:=da hx;have e1:ck (.int 2) (.int (k:Int))=.ok (.int (2*(k:Int))):=cH (.inl ⟨by decide,by decide⟩);have e2:ck (.int 12553) (.int (k:Int))=.ok (.int (12553*(k:Int))):=cH (.inl ⟨by decide,by decide⟩);have e3:ck (.int z) (.int (z+2*(k:Int)+40503))=.ok (.int (z*(z+2*(k:Int)+40503))):=cH (.inl ⟨by omega,by omega⟩);generalize hw:(z*(z+2*(k:Int)+40503)+12553*(k:Int)+1)%998244353=w;have w1:0<=w:=by rw[<- hw];exact emod_nonneg _ (by decide)
  have w2:w<998244353:=by rw[<- hw];exact emod_lt_of_pos _ (by decide)
  refine⟨_,cS rfl,?_⟩;simp only[s0_,s1_];refine b8 (aw (v:=.int w) (by simp[e1,e2,e3,bF,hw])) ?_;simp only[s0_,s1_];refine bu (eR (v:=.int w) (xs:=iL l) (by simp) rfl (by simp) (by rw[ba];omega)) ⟨w,l++[w],_,by simp[iL];rfl,by simp[hk],by omega,⟨w1,w2⟩,λx hx=>?_⟩;rcases mem_append.mp hx with hx|hx
  .exact hl x hx
  .simp at hx;subst hx;exact⟨w1,w2⟩
 .obtain⟨z,l,x4,rfl,hk,_,_,hl⟩:=hP;rw[aZ]at hk;exact dg (dF rfl) ⟨l,rfl,hk,hl⟩
def tri:Nat->Nat
 |0=>0
 |k+1=>tri k+k
def tL{α:Type}(y:α)(xs:List α):PR.db xs.length y xs=xs++[y]:=by simp[PR.db]
theorem Ai{n:Nat}(c:Int)(n1:1<=n)(n2:n<=10):∃ws:JH,nX [.int n,.int c]=.ok (.lst .own (prL ws))/\gu n 55 ws:=by
 obtain⟨l,hl1,hl2,hl3⟩:=jE c n ()
 suffices hh:jM (zq [some (.int n),some (.int c),none,none,none,none,none,none]) (λv=>∃ws:JH,v=.lst .own (prL ws)/\gu n 55 ws) by obtain⟨v,h1,ws,rfl,h2⟩:=hh;exact⟨ws,au h1,h2⟩
 unfold zq;have np:(0:Int)<n:=by omega
 have gl:∀(f:Fl) (k:Nat),k<n->aK (.lst f (iL l)) (.int (k:Int))=.ok (.int (gt l k)):=λf k hk=>by simpa using cZ (f:=f) (cs:=l) (i:=k) () ()
 refine bY (aw (v:=.lst .own (iL l)) (by simp[hl1,aA])) ?_;simp only[s0_,s1_];refine bY (aw (v:=.lst .own []) (by simp)) ?_;simp only[s0_,s1_];refine iG (λk e=>∃od a,e=[some (.int n),some (.int c),some (.lst .own (iL l)),some (.lst .own (iL od)),a,none,none,none]/\od.Perm ((range k).map λk:Nat=>(k:Int))) (bv (n:=n) (by simp) ()) ⟨[],_,rfl,.refl _⟩ (λk x e hx hP=>?_) (λe hP=>?_)
 .obtain⟨od,a,rfl,hp⟩:=hP;obtain⟨hk,rfl⟩:=da hx;have hlen:od.length=k:=by simpa using hp.length_eq
  have b1:=emod_nonneg (gt l k) (show(k:Int)+1≠0 by omega);have b2:=emod_lt_of_pos (gt l k) (show(0:Int) <(k:Int)+1 by omega);refine⟨_,cS rfl,bu (vC (v:=.int k) (xs:=iL od) (j:=gt l k%((k:Int)+1)) (n:=(gt l k%((k:Int)+1)).toNat) ?_ (by simp) rfl rfl rfl () (by rw[ba,hlen];omega) (by rw[ba];omega)) ⟨PR.db (gt l k%((k:Int)+1)).toNat (k:Int) od,some (.int (0+k)),?_,?_⟩⟩
  .simp[gl _ k hk,bF (show(0:Int) <(k:Int)+1 by omega)]
  .rw[Di];rfl
  .refine(iH _ _ _).trans ((hp.cons _).trans ?_);rw[range_succ,map_append];exact(List.perm_append_singleton _ _).symm
 obtain⟨od,a,rfl,hp⟩:=hP;rw[aZ]at hp;have hlen:od.length=n:=by simpa using hp.length_eq
 have hod:od.Nodup:=hp.symm.nodup (Pairwise.map _ (λa b h z=>h ()) nodup_range);have ix:∀ (f:Fl) (i:Nat),i < n->aK (.lst f (iL od)) (.int i)=.ok (.int (od.getD i 0)):=λf i hi=>iZ _ () (by
  have:i<od.length:=by rw[hlen];exact hi
  simp[this])
 refine bY (aw (v:=.lst .own []) (by simp)) ?_;simp only[s0_,s1_];refine iG (λq e=>∃ws a,e=[some (.int n),some (.int c),some (.lst .own (iL l)),some (.lst .own (iL od)),a,some (.lst .own (prL ws)),none,none]/\PR.Tree n od (q+1) ws) (xs:=cG 1 (n-1)) ?_ ⟨[],_,rfl,PR.Tree.start hlen n1⟩ (λq x e hx hP=>?_) (λe hP=>?_)
 .rw[AL (lo:=1) (hi:=n) (by simp) () ()];rw[show((n:Int)-1).toNat=n-1 by omega]
 .obtain⟨ws,a,rfl,T⟩:=hP;obtain⟨hq,rfl⟩:=da hx;have lt:=T.ln;have kp:(0:Int)<1+(q:Int):=by omega
  have g1:∀f:Fl,aK (.lst f (iL l)) (.int (1+(q:Int)))=.ok (.int (gt l (q+1))):=λf=>by
   have:=gl f (q+1) ()
   rwa [show((q+1:Nat):Int)=1+(q:Int) by omega]at this
  have d16:dC (.int (gt l (q+1))) (.int 16)=.ok (.int (gt l (q+1) / 16)):=eE (by decide) (by decide);generalize gt l (q+1) / 16=z at d16;have b1:=emod_nonneg z (show(1:Int)+q≠0 by omega);have b2:=emod_lt_of_pos z kp;have i1:∀f:Fl,aK (.lst f (iL od)) (.int (1+(q:Int)))=.ok (.int (od.getD (q+1) 0)):=λf=>by
   have:=ix f (q+1) ()
   rwa [show((q+1:Nat):Int)=1+(q:Int) by omega]at this
  have i2:∀f:Fl,aK (.lst f (iL od)) (.int (z%(1+(q:Int))))=.ok (.int (od.getD (z%(1+(q:Int))).toNat 0)):=λf=>by
   have:=ix f (z%(1+(q:Int))).toNat ()
   rwa [show(((z%(1+(q:Int))).toNat:Nat):Int)=z%(1+(q:Int)) by omega]at this
  refine⟨_,cS rfl,bu (eR (v:=prV (od.getD (q+1) 0,od.getD (z%(1+(q:Int))).toNat 0)) (xs:=prL ws) (by simp[i1,i2,g1,d16,bF kp,prV]) rfl (by simp) (by rw[lv];omega)) ⟨ws++[(od.getD (q+1) 0,od.getD (z%(1+(q:Int))).toNat 0)],some (.int (1+(q:Int))),by simp[prL],?_⟩⟩;rw[<- tL];exact T.more (j:=(z%(1+(q:Int))).toNat) hod () () (.inl rfl)
 obtain⟨ws,a,rfl,T⟩:=hP;rw[aZ,show n-1+1=n by omega]at T;have Wh:=T.whole hp;have t10:∀k,k<=10->tri k<=45:=by decide
 refine iG (λk e=>∃ws a b d,e=[some (.int n),some (.int c),some (.lst .own (iL l)),some (.lst .own (iL od)),a,some (.lst .own (prL ws)),b,d]/\gu n (10+tri k) ws) (bv (n:=n) (by simp) ()) ⟨ws,_,_,_,rfl,⟨Wh.rg,Wh.nd,Nat.le_trans Wh.ln n2,Wh.cn⟩⟩ (λk x e hx hP=>?_) (λe hP=>?_)
 .obtain⟨ws,a,b,d,rfl,Wh⟩:=hP;obtain⟨hk,rfl⟩:=da hx;refine⟨_,cS rfl,?_⟩;simp only[s0_,s1_,Int.zero_add];have tk:=t10 k ();refine ji (λj e=>∃ws b d,e=[some (.int n),some (.int c),some (.lst .own (iL l)),some (.lst .own (iL od)),some (.int k),some (.lst .own (prL ws)),b,d]/\gu n (10+tri k+j) ws) (bv (n:=k) (by simp) ()) ⟨ws,_,_,rfl,Wh⟩ (λj y e hy hP=>?_) (λe hP=>?_)
  .obtain⟨ws,b,d,rfl,Wh⟩:=hP;obtain⟨hj,rfl⟩:=da hy;have wl:=Wh.ln;have d512:dC (.int (gt l k)) (.int 512)=.ok (.int (gt l k / 512)):=eE (by decide) (by decide);have d8192:dC (.int (gt l k)) (.int 8192)=.ok (.int (gt l k / 8192)):=eE (by decide) (by decide);refine⟨_,cS rfl,?_⟩;simp only[s0_,s1_,Int.zero_add];obtain⟨m,hm⟩:∃m:Bool,oW (mOp pEq (mOp cK (ac 1) (J5 7)) (J5 3)) ((iU (mOp pEq (mOp cK (mOp aP (mOp dC (mOp aK (ac 2) (ac 4)) (J5 512)) (ac 6)) (ac 0)) (J5 1)) (mOp pEq (mOp cK (mOp dC (mOp aK (ac 2) (ac 4)) (J5 8192)) (J5 3)) (J5 0)))) [some (.int n),some (.int c),some (.lst .own (iL l)),some (.lst .own (iL od)),some (.int k),some (.lst .own (prL ws)),some (.int j),d]=.ok (.bl m):=by
    refine⟨decide (c%7=3) ||(decide ((gt l k / 512+(j:Int))%n=1)&&decide (gt l k / 8192%3=0)),?_⟩;by_cases h7:c%7=3
    .simp[bF,h7,pOr]
    .by_cases h8:(gt l k / 512+(j:Int))%n=1
     .simp[bF,bF np,h7,pOr,gl _ k hk,d512,d8192,h8,sf]
     .simp[bF,bF np,h7,pOr,gl _ k hk,d512,d8192,h8,sf]
   refine b8 (aw (v:=.bl m) hm) ?_;simp only[s0_,s1_];by_cases hc:m=true/\((j:Int),(k:Int))∉ ws/\((k:Int),(j:Int))∉ ws
   .obtain⟨c1,c2,c3⟩:=hc;refine kJ (by simp[ou,c1,c2,c3]) (bu (eR (v:=prV ((j:Int),(k:Int))) (xs:=prL ws) (by simp;rfl) rfl (by simp) (by rw[lv];omega)) ⟨ws++[((j:Int),(k:Int))],some (.int j),some (.bl m),by simp[prL],?_⟩);rw[<- tL];exact Wh.more ⟨by omega,by omega⟩ ⟨by omega,by omega⟩ () c2 c3
   .refine nS ?_ (bu aD ⟨ws,some (.int j),some (.bl m),rfl,Wh.keep⟩);by_cases c1:m=true
    .by_cases c2:((j:Int),(k:Int))∈ ws
     .simp[ou,c1,c2]
     .have c3:((k:Int),(j:Int))∈ ws:=by
       by_cases q:((k:Int),(j:Int))∈ ws
       .exact q
       .exact absurd ⟨c1,c2,q⟩ hc
      simp[ou,c1,c2,c3]
    .simp[c1]
  .obtain⟨ws,b,d,rfl,Wh⟩:=hP;rw[aZ]at Wh;exact⟨ws,_,_,_,rfl,by rw[show 10+tri (k+1)=10+tri k+k by simp[tri];omega];exact Wh⟩
 .obtain⟨ws,a,b,d,rfl,Wh⟩:=hP;rw[aZ]at Wh;have tn:=t10 n n2;exact dg (dF rfl) ⟨ws,rfl,⟨Wh.rg,Wh.nd,by have:=Wh.ln;omega,Wh.cn⟩⟩
def oV:JO->PV
 |none=>.non
 |some s=>.int s
def oL(os:List (JO)):JS:=os.map oV
@[simp] def IW(os:List (JO)):(oL os).length=os.length:=by simp[oL]
@[simp] def IX{p:Fl->Bool}{os:List (JO)}:hasL p (oL os)=false:=by
 induction os with
 |nil=>rfl
 |cons o os ih=>cases o<;>simpa[oL,oV,hasL,PV.has]using ih
@[simp] def IV{g:Fl->Fl}{os:List (JO)}:mapL g (oL os)=oL os:=by
 induction os with
 |nil=>rfl
 |cons o os ih=>cases o<;>simpa[oL,oV,mapL,PV.J2]using ih
@[simp] def IZ{os:List (JO)}:PyData.canLayAll0 (dataL (oL os))=true:=by
 induction os with
 |nil=>rfl
 |cons o os ih=>cases o <;>(simp only[oL,map_cons,oV,dataL,PV.data,PyData.canLayAll0]at ih ⊢;rw[ih];rfl)
@[simp] def IY{os:List (JO)}:PyData.depthAll (dataL (oL os))=0:=by
 induction os with
 |nil=>rfl
 |cons o os ih=>cases o <;>(simp only[oL,map_cons,oV,dataL,PV.data,PyData.depthAll]at ih ⊢;rw[ih];rfl)
def OkS(tp:Int)(os:List (JO)):Prop:=∀s,some s∈os->0<=s/\s<tp
def Fc(f:Fl):Prop:=f=.bor\/f=.frz
def Fc.le{f:Fl}(h:Fc f):f.JU=f:=by rcases h with rfl|rfl<;>rfl
def Fc.tb{f:Fl}(h:Fc f):f.JV=f:=by rcases h with rfl|rfl<;>rfl
def Fc.bo{f:Fl}(h:Fc f):f.JX=f:=by rcases h with rfl|rfl<;>rfl
def Fc.nl{f:Fl}(h:Fc f):f.JZ=false:=by rcases h with rfl|rfl<;>rfl
def Fc.of{f:Fl}(h:Fc f\/f=.own):Fc f.JX:=by
 rcases h with(rfl|rfl)|rfl
 .exact .inl rfl
 .exact .inr rfl
 .exact .inl rfl
def jL{n:Nat}{ps:JH}{k:Nat}(hk:k<n):uj [net .frz n ps,.int k]=.ok (.lst .own (iL (nbL ps k))):=by
 refine au (v:=.lst .own (iL (nbL ps k))) ?_;show rp [some (net .frz n ps),some (.int k)]=_;unfold rp;refine a5 ?_ (by simp);have e:aK (.tup ((range n).map λk:Nat=>PV.tup (iL (nbL ps k)))) (.int k)=.ok (.tup (iL (nbL ps k))):=by
  have hk':((range n).map λk:Nat=>PV.tup (iL (nbL ps k)))[k]?=some (.tup (iL (nbL ps k))):=by simp[hk]
  exact cY rfl hk' (by simp[PV.has])
 simp[ap,a_,p1,dE,e,a6]
abbrev pnt(fl:Fl)(n:Nat)(ps:JH):PV:=.obj fl 2 [4,0,7,8] [net .frz n ps,.int n,.int n,.bl false]
def uT{n:Nat}{ps:JH}:gL [.obj .own 2 [4] [net .frz n ps],.int n,.int n,.bl false]=.ok (pnt .own n ps):=by refine cW (e:=[some (pnt .own n ps),some (.int n),some (.int n),some (.bl false)]) ?_ rfl;show jd [some (.obj .own 2 [4] [net .frz n ps]),some (.int n),some (.int n),some (.bl false)]=_;unfold jd;refine ag (bZ (v:=.int n) (ks:=[4]) (vs:=[net .frz n ps]) (by simp) rfl (by simp) rfl (by decide)) ?_;refine ag (bZ (v:=.int n) (ks:=[4,0]) (vs:=[net .frz n ps,.int n]) (by simp) rfl (by simp) rfl (by decide)) ?_;exact bZ (v:=.bl false) (ks:=[4,0,7]) (vs:=[net .frz n ps,.int n,.int n]) (by simp) rfl (by simp) rfl (by decide)
def vP{n:Nat}{ps:JH}:mB [.obj .own 2 [4] [net .frz n ps],.int n,.int n]=.ok (pnt .own n ps):=by refine cW (e:=[some (pnt .own n ps),some (.int n),some (.int n)]) ?_ rfl;show rq [some (.obj .own 2 [4] [net .frz n ps]),some (.int n),some (.int n)]=_;unfold rq;exact gU (xs:=[.int n,.int n,.bl false]) rfl (by simp) (by simp) (by simpa using uT (n:=n) (ps:=ps)) (by simp[PV.has])
def u9{n:Nat}{ps:JH}:yO [.obj .own 2 [] [],net .own n ps]=.ok (pnt .own n ps):=by refine cW (e:=[some (pnt .own n ps),some (net .frz n ps)]) ?_ rfl;show z_ [some (.obj .own 2 [] []),some (net .own n ps)]=_;unfold z_;refine ag (gD (v:=net .own n ps) rfl) ?_;simp only[s0_,s1_];refine ag (bZ (v:=net .frz n ps) (ks:=[]) (vs:=[]) (by simp[PV.J2,Fl.JW]) rfl (by simp[PV.J1,PV.has]) rfl (by decide)) ?_;simp only[s0_,s1_];have:=gU (env:=[some (.obj .own 2 [4] [net .frz n ps]),some (net .frz n ps)]) (m:=mB) (ms:=ae (mUn (ap 0) (ac 1)) (ae (mUn (ap 0) (ac 1)) ao)) (xs:=[.int n,.int n]) rfl (by simp[ap,a_]) (by simp) (by simpa using vP (n:=n) (ps:=ps)) (by simp[PV.has]);simpa[PV.J2,Fl.JW]using this
def lc(ps:JH)(i:Nat):JK:=(nbL ps i).filter λx=>decide (x <(i:Int))
theorem qI{n:Nat}{ps:JH}{i:Nat}(hi:i<n)(hl:(nbL ps i).length<=1000):EQ [pnt .bor n ps,.int i]=.ok (.lst .own (iL (lc ps i))):=by
 refine au ?_;show Fu [some (pnt .bor n ps),some (.int i)]=_;unfold Fu lc;have be:=jL (ps:=ps) hi;refine a5 ?_ (by simp);have:=gp (env:=bQ [1] 1 [some (pnt .bor n ps),some (.int i)]) (g:=tgN 1) (mc:=aB (mOp pLt (ac 1) (ac 0))) (me:=ac 1) (λx=>decide (x <(i:Int))) (λx=>x) (nbL ps i) λx hx=>⟨[some (.int i),some (.int x)],by simp[tgN,aO,bQ],by simp,λ_=>by simp⟩
 rw[List.map_id']at this;exact aM (xs:=iL (nbL ps i)) (by simp[ap,a_,b5,be,aA]) (by rw[ba];omega) this
def kC(l:JK):Nat:=((range (l.length+1)).find? λj:Nat=>!l.contains (j:Int)).getD 0
theorem qw(l:JK):((kC l:Nat):Int)∉ l/\∀j,j<kC l->(j:Int)∈ l:=by
 have ex:∃j,j<l.length+1/\(j:Int)∉ l:=by
  apply Classical.byContradiction;intro no;have h:=nL (l:=(range (l.length+1)).map λk:Nat=>(k:Int)) (l':=l) (Pairwise.map _ (λa b h e=>h ()) nodup_range) λx hx=>by obtain⟨k,hk,rfl⟩:=mem_map.mp hx;exact Classical.byContradiction λz=>no ⟨k,mem_range.mp hk,z⟩
  simp at h;omega
 unfold kC;cases e:(range (l.length+1)).find? λj:Nat=>!l.contains (j:Int)with
 |none=>exfalso;obtain⟨j,h1,h2⟩:=ex;have:=List.find?_eq_none.mp e j (mem_range.mpr h1);simp at this;exact h2 this
 |some m=>simp only[getD_some];have h1:=List.find?_some e;refine⟨by simpa using h1,λj hj=>?_⟩;have h2:=(List.find?_range_eq_some.mp e).2.2 j hj;simpa using h2
def xK{l L':JK}(h:∀x∈l,x∈L'):kC l<=L'.length:=by
 have:=nL (l:=(range (kC l)).map λk:Nat=>(k:Int)) (l':=L') (Pairwise.map _ (λa b h e=>h ()) nodup_range) λx hx=>by obtain⟨k,hk,rfl⟩:=mem_map.mp hx;exact h _ ((qw l).2 k (mem_range.mp hk))
 simpa using this
def mF(ps:JH)(cs:JK)(i:Nat):Int:=kC ((lc ps i).map λo=>gt cs o.toNat)
def oX{ps:JH}{i:Nat}{n:Nat}(rg:∀x∈ps,0<=x.1/\x.1<n/\0<=x.2/\x.2<n/\x.1≠x.2){o:Int}(h:o∈lc ps i):0<=o/\o<n/\o<i/\((o,(i:Int))∈ ps \/((i:Int),o)∈ ps):=by
 obtain⟨h1,h2⟩:=mem_filter.mp h;have h3:=ib.mp h1;simp only[decide_eq_true_eq]at h2;rcases h3 with z|z
 .have:=rg _ z;exact⟨this.1,this.2.1,h2,.inl z⟩
 .have:=rg _ z;exact⟨this.2.2.1,this.2.2.2.1,h2,.inr z⟩
theorem BY{ps:JH}{cs:JK}{i n:Nat}(rg:∀x∈ps,0<=x.1/\x.1<n/\0<=x.2/\x.2<n/\x.1≠x.2)(hi:i<n):0<=mF ps cs i/\mF ps cs i<n:=by
 unfold mF;have:=xK (l:=(lc ps i).map λo=>gt cs o.toNat) (L':=(range i).map λk=>gt cs k) λx hx=>by obtain⟨o,ho,rfl⟩:=mem_map.mp hx;have:=oX rg ho;exact mem_map.mpr ⟨o.toNat,mem_range.mpr (),rfl⟩
 simp at this;omega
theorem Am{n:Nat}{ps:JH}{cs:JK}{i:Nat}(rg:∀x∈ps,0<=x.1/\x.1<n/\0<=x.2/\x.2<n/\x.1≠x.2){fc:Fl}(hfc:Fc fc)(hl:∀i,(nbL ps i).length<=1000)(hn:cs.length=n)(hi:i<n):yL [pnt .bor n ps,.lst fc (iL cs),.int i]=.ok (.int (mF ps cs i)):=by
 refine au ?_;show z5 [some (pnt .bor n ps),some (.lst fc (iL cs)),some (.int i),none,none]=_;unfold z5 mF;have ha:=qI (ps:=ps) hi (hl i);have ll:(lc ps i).length<=1000:=Nat.le_trans (length_filter_le _ _) (hl i);refine ag (aw (v:=.lst .own (iL ((lc ps i).map λo=>gt cs o.toNat))) ?_) ?_
 .refine aM (xs:=iL (lc ps i)) (by simp[aX,ha,aA]) (by rw[ba];omega) (f7 (λo=>gt cs o.toNat) (lc ps i) λo ho=>⟨[some (.lst fc (iL cs)),some (.int o)],by simp[tgN,aO,bQ,hfc.bo],?_⟩);have:=oX rg ho;simp[hfc.le,cZ (f:=fc) (cs:=cs) (i:=o) this.1 ()]
 simp only[s0_,s1_];have tkl:((lc ps i).map λo=>gt cs o.toNat).length<=1000:=by rw[length_map];exact ll
 generalize(lc ps i).map (λo=>gt cs o.toNat)=tk at *;obtain⟨m1,m2⟩:=qw tk;refine ag (aw (v:=.int 0) (by simp)) ?_;simp only[s0_,s1_];have mb:kC tk<100000:=by have:=xK (l:=tk) (L':=tk) λx hx=>hx;omega
 refine uO (Fin:=λe=>e=[some (pnt .bor n ps),some (.lst fc (iL cs)),some (.int i),some (.lst .own (iL tk)),some (.int (kC tk))]) (λm e=>∃c:Nat,e=[some (pnt .bor n ps),some (.lst fc (iL cs)),some (.int i),some (.lst .own (iL tk)),some (.int c)]/\m=kC tk-c/\c<=kC tk) (kC tk) mb ⟨0,rfl,by omega,by omega⟩ (λm e hP=>?_) λe hF=>?_
 .obtain⟨c,rfl,rfl,hc⟩:=hP;by_cases q:c=kC tk
  .subst q;exact .inl ⟨by simp;exact m1,rfl⟩
  .have:=m2 c ();exact .inr ⟨by simp;exact this,kC tk-(c+1),[some (pnt .bor n ps),some (.lst fc (iL cs)),some (.int i),some (.lst .own (iL tk)),some (.int (c+1:Nat))],by omega,.inl (aw (v:=.int ((c+1:Nat):Int)) (by simp)),c+1,rfl,rfl,by omega⟩
 .subst hF;exact dF rfl
abbrev lea(fl:Fl)(c:Nat)(n:Nat)(ps:JH)(os:List (JO))(st tp:Int):PV:=.obj fl c [3,4,5,6,0,7,8] [.int tp,net .frz n ps,.tup (oL os),.int st,.int n,.int (tp+1),.bl true]
theorem tU{x:Int}(h1:1<=x)(h2:x<=10):uk [.int x]=.ok .non:=by refine gH ⟨[some (.int x)],?_⟩;show zE [some (.int x)]=_;unfold zE;exact bU (by simp[show ¬x<1 by omega,show ¬10<x by omega]) aD
theorem rX{n:Nat}{ps:JH}{os:List (JO)}{tp:Int}{f gf:Fl}(hg:gf=.bor\/gf=.frz)(hf:f=.bor\/f=.frz)(hn:os.length=n)(ho:OkS tp os):yJ [net gf n ps,.lst f (oL os),.int tp]=.ok .non:=by
 have hf1:f.JU=f:=by rcases hf with rfl|rfl<;>rfl
 have hf2:f.JZ=false:=by rcases hf with rfl|rfl<;>rfl
 have hg1:gf.JU=gf:=by rcases hg with rfl|rfl<;>rfl
 refine gH ?_;show Ends (zY [some (net gf n ps),some (.lst f (oL os)),some (.int tp),none]);unfold zY;refine i6 (bU (by simp[hf1,hg1,p1,cX,a6,ap,a_,hn]) aD) ?_;refine lx (λ_ e=>∃x,e=[some (net gf n ps),some (.lst f (oL os)),some (.int tp),x]) (λr=>∃e,r=.next e) (xs:=oL os) (dJ (f:=f) (by simp[hf1]) hf2 (by simp) (by simp)) ⟨_,rfl⟩ (λk x e hx hP=>?_) (λe hP=>⟨e,rfl⟩);obtain⟨y,rfl⟩:=hP;simp only[oL,getElem?_map]at hx;obtain⟨o,ho1,rfl⟩:=map_eq_some_iff.mp hx;refine⟨_,cS rfl,.inl ⟨_,.inl (bU ?_ aD),_,rfl⟩⟩;cases o with
 |none=>simp[oV,jw,PV.isNon]
 |some s=>have:=ho s (List.mem_of_getElem? ho1);simp[oV,jw,PV.isNon,show ¬s<0 by omega,show ¬tp<=s by omega]
def uU{cc n:Nat}{ps:JH}{os:List (JO)}{st tp:Int}:gL [.obj .own cc [3,4,5,6] [.int tp,net .frz n ps,.tup (oL os),.int st],.int n,.int (tp+1),.bl true]=.ok (lea .own cc n ps os st tp):=by refine cW (e:=[some (lea .own cc n ps os st tp),some (.int n),some (.int (tp+1)),some (.bl true)]) ?_ rfl;show jd [some (.obj .own cc [3,4,5,6] [.int tp,net .frz n ps,.tup (oL os),.int st]),some (.int n),some (.int (tp+1)),some (.bl true)]=_;unfold jd;refine ag (bZ (v:=.int n) (ks:=[3,4,5,6]) (vs:=[.int tp,net .frz n ps,.tup (oL os),.int st]) (by simp) rfl (by simp) rfl (by decide)) ?_;refine ag (bZ (v:=.int (tp+1)) (ks:=[3,4,5,6,0]) (vs:=[.int tp,net .frz n ps,.tup (oL os),.int st,.int n]) (by simp) rfl (by simp) rfl (by decide)) ?_;exact bZ (v:=.bl true) (ks:=[3,4,5,6,0,7]) (vs:=[.int tp,net .frz n ps,.tup (oL os),.int st,.int n,.int (tp+1)]) (by simp) rfl (by simp) rfl (by decide)
theorem qB{cc n:Nat}{ps:JH}{os:List (JO)}{st bk:Int}{f:Fl}(hf:f.JU.JV=.bor\/f.JU.JV=.frz)(h1:1<=st)(h2:st<=10)(h3:1<=bk)(h4:bk<=10)(hn:os.length=n)(ho:OkS (st*bk) os):vG [.obj .own cc [] [],net .frz n ps,.lst f (oL os),.int st,.int bk]=.ok (lea .own cc n ps os st (st*bk)):=by refine cW (e:=[some (lea .own cc n ps os st (st*bk)),some (net .frz n ps),some (.lst f (oL os)),some (.int st),some (.int bk)]) ?_ rfl;show Fd [some (.obj .own cc [] []),some (net .frz n ps),some (.lst f (oL os)),some (.int st),some (.int bk)]=_;unfold Fd;have r1:=tU h1 h2;have r2:=tU h3 h4;have r3:=rX (ps:=ps) (gf:=.frz) (.inr rfl) hf hn ho;have mu:ck (.int st) (.int bk)=.ok (.int (st*bk)):=cH (.inl ⟨by omega,by omega⟩);generalize st*bk=tp at *;refine ag (il (v:=.non) (by simp[r1,aA])) ?_;refine ag (il (v:=.non) (by simp[r2,aA])) ?_;refine ag (bZ (v:=.int tp) (ks:=[]) (vs:=[]) (by simp[mu]) rfl (by simp) rfl (by decide)) ?_;simp only[s0_,s1_];refine ag (il (v:=.non) (by simp[ap,a_,r3,aA])) ?_;refine ag (gD (v:=net .frz n ps) rfl) ?_;simp only[s0_,s1_];refine ag (bZ (v:=net .frz n ps) (ks:=[3]) (vs:=[.int tp]) (by simp[PV.J2,Fl.JW]) rfl (by simp[PV.J1,PV.has]) rfl (by decide)) ?_;simp only[s0_,s1_];refine ag (bZ (v:=.tup (oL os)) (ks:=[3,4]) (vs:=[.int tp,net .frz n ps]) (by simp[p1,eK,a6]) rfl (by simp[PV.J1,PV.has]) rfl (by decide)) ?_;simp only[s0_,s1_];refine ag (bZ (v:=.int st) (ks:=[3,4,5]) (vs:=[.int tp,net .frz n ps,.tup (oL os)]) (by simp) rfl (by simp) rfl (by decide)) ?_;simp only[s0_,s1_];have:=gU (env:=[some (.obj .own cc [3,4,5,6] [.int tp,net .frz n ps,.tup (oL os),.int st]),some (net .frz n ps),some (.lst f (oL os)),some (.int st),some (.int bk)]) (m:=gL) (ms:=ae (mUn (ap 0) (ac 1)) (ae (mOp aP (mUn (ap 3) (ac 0)) (J5 1)) (ae (mC (.bl true)) ao))) (xs:=[.int n,.int (tp+1),.bl true]) rfl (by simp[ap,a_]) (by simp) (by simpa using uU (cc:=cc) (n:=n) (ps:=ps) (os:=os) (st:=st) (tp:=tp)) (by simp[PV.has]);simpa[PV.J2,Fl.JW]using this
def kX(st tp c:Int):Bool:=decide (c≠tp)&&decide ((c+1)%st≠0)
def iz(ps:JH)(st tp:Int)(cs:JK)(i:Nat):JK:=(((nbL ps i).map λo=>gt cs o.toNat).filter (kX st tp)).map (· + 1)
def dX(ps:JH)(os:List (JO))(st tp:Int)(cs:JK)(i:Nat):Int:=f_ (iz ps st tp cs i ++(os.getD i none).toList++[tp])
def tP{f:Fl}{l:JK}(h:l≠[]):gI f_ (.lst f (iL l))=.ok (.int (f_ l)):=by unfold gI;simp only[a6,jh];rw[if_neg (by simpa using h)]
def xr{cc n:Nat}{ps:JH}{os:List (JO)}{st tp c:Int}(hs:0<st):vJ [lea .bor cc n ps os st tp,.int c]=.ok (.bl (kX st tp c)):=by
 refine au ?_;show Fx [some (lea .bor cc n ps os st tp),some (.int c)]=_;unfold Fx kX;refine a5 ?_ (by simp);by_cases h:c=tp
 .simp[ap,a_,h]
 .simp[ap,a_,h,bF hs]
theorem qC{fc:Fl}(hfc:Fc fc){cc n:Nat}{ps:JH}{os:List (JO)}{st tp:Int}{cs:JK}{i:Nat}(hcc:dI cc=some vJ)(hnb:∀x∈nbL ps i,0<=x/\x<n)(hl:(nbL ps i).length<=1000)(hs:0<st)(hn:cs.length=n)(ho:os.length=n)(hi:i<n):nY [lea .bor cc n ps os st tp,.lst fc (iL cs),.int i]=.ok (.int (dX ps os st tp cs i)):=by
 refine au ?_;show z8 [some (lea .bor cc n ps os st tp),some (.lst fc (iL cs)),some (.int i),none,none]=_;unfold z8;have e3:=hfc.bo;have be:=jL (ps:=ps) hi;have l1:((nbL ps i).map λo=>gt cs o.toNat).length<=1000:=by simpa using hl
 refine ag (aw (v:=.lst .own (iL ((nbL ps i).map λo=>gt cs o.toNat))) ?_) ?_
 .refine aM (xs:=iL (nbL ps i)) (by simp[ap,a_,b5,be,aA]) (by rw[ba];omega) (f7 (λo=>gt cs o.toNat) _ λx hx=>⟨[some (.lst fc (iL cs)),some (.int x)],by simp[tgN,aO,bQ,e3],?_⟩);obtain⟨h1,h2⟩:=hnb x hx;simp[hfc.le,cZ (f:=fc) (cs:=cs) (i:=x) () ()]
 simp only[s0_,s1_];have l2:(iz ps st tp cs i).length<=1000:=by unfold iz;rw[length_map];exact Nat.le_trans (length_filter_le _ _) l1
 refine ag (aw (v:=.lst .own (iL (iz ps st tp cs i))) ?_) ?_
 .unfold iz;exact aM (xs:=iL ((nbL ps i).map λo=>gt cs o.toNat)) (by simp) (by rw[ba];omega) (gp (kX st tp) (· + 1) _ λx hx=>⟨[some (lea .bor cc n ps os st tp),some (.int x)],by simp[tgN,aO,bQ],by simp[hcc,xr hs,aA],λ_=>by simp⟩)
 simp only[s0_,s1_];have hio:i<os.length:=by omega
 have ix:aK (.tup (oL os)) (.int (i:Int))=.ok (oV os[i]):=cY rfl (by simp[oL,hio]) (by cases os[i]<;>rfl);have eg:os.getD i none=os[i]:=by simp[hio]
 unfold dX;rw[eg];generalize os[i]=o at *;generalize iz ps st tp cs i=of at *;cases o with
 |none=>
  refine ag (bU (by simp[ap,a_,ix,oV,jw,PV.isNon]) aD) (a5 ?_);have pl:aP (.lst .lnt (iL of)) (.lst .own [.int tp])=.ok (.lst .own (iL (of++[tp]))):=by rw[eY (by decide) (by decide) (by simp;omega)];simp[iL]
  simp[ap,a_,pl,p1,tP (l:=of++[tp]) (by simp)]
 |some s=>
  refine ag (jb (by simp[ap,a_,ix,oV,jw,PV.isNon]) (eR (v:=.int s) (xs:=iL of) (by simp[ap,a_,ix,oV]) rfl (by simp) (by rw[ba];omega))) ?_;simp only[s0_,s1_];rw[show iL of++[PV.int s]=iL (of++[s]) by simp[iL]];refine a5 ?_ (by simp);have pl:aP (.lst .lnt (iL (of++[s]))) (.lst .own [.int tp])=.ok (.lst .own (iL (of++[s]++ [tp]))):=by rw[eY (by decide) (by decide) (by simp;omega)];simp[iL]
  have pm:=tP (f:=.own) (l:=of++[s]++ [tp]) (by simp);show _=Res.ok (PV.int (f_ (of++[s]++ [tp])));generalize of++[s]=of2 at *;simp[ap,a_,pl,p1];exact pm
def fs(n r:Nat):List (JO):=(range n).map λi=>if i=r then some 0 else none
def HE{n r:Nat}:oL (fs n r)=(range n).map λi=>oV (if i=r then some 0 else none):=by simp[oL,fs]
theorem qK{f:Fl}{n r:Nat}{ps:JH}(hf:f=.frz\/f=.own)(n1:1<=n)(n10:n<=10)(hr:r<n):ul [.obj .own 5 [] [],net f n ps,.int r]=.ok (lea .own 5 n ps (fs n r) n n):=by
 refine cW (e:=[some (lea .own 5 n ps (fs n r) n n),some (net .frz n ps),some (.int r),some (.lst .frz (oL (fs n r)))]) ?_ rfl;show zN [some (.obj .own 5 [] []),some (net f n ps),some (.int r),none]=_;unfold zN;refine ag (bU (by simp[ap,a_,show ¬(r:Int)<0 by omega,show ¬(n:Int)<= r by omega]) aD) ?_;refine ag (aw (v:=.lst .own (oL (fs n r))) ?_ (by simp[PV.J1,PV.has]) rfl) ?_
 .refine aM (xs:=cG 0 n) (bv (n:=n) (by simp[ap,a_]) ()) (by rw[aZ];omega) ?_;rw[HE];refine bp (a:=λk:Nat=>PV.int (0+(k:Int))) (f:=λi=>oV (if i=r then some 0 else none)) (range n) λk hk=>⟨[some (.int r),some (.int (0+k))],by simp[tgN,aO,bQ],?_,?_,?_⟩
  .by_cases e:k=r
   .simp[e,oV]
   .simp[e,oV,show ¬(k:Int)=r by omega]
  .by_cases e:k=r<;>simp[e,oV,PV.has]
  .by_cases e:k=r<;>simp[e,oV,PV.has]
 simp only[s0_,s1_];refine ag (gD (v:=.lst .own (oL (fs n r))) rfl) ?_;simp only[s0_,s1_];refine ag (gD (v:=net f n ps) rfl) ?_;have efz:(net f n ps).J2 Fl.JW=net .frz n ps:=by rcases hf with rfl|rfl<;>simp[PV.J2,Fl.JW]
 simp only[s0_,s1_,efz];have li:=qB (cc:=5) (n:=n) (ps:=ps) (os:=fs n r) (st:=n) (bk:=1) (f:=.frz) (.inr rfl) () () (by decide) (by decide) (by simp [fs]) (λs hs=>by
  simp only[fs,mem_map,mem_range]at hs;obtain⟨i,_,e⟩:=hs;split at e
  .cases e;omega
  .cases e)
 rw[Int.mul_one]at li;have:=gU (env:=[some (.obj .own 5 [] []),some (net .frz n ps),some (.int r),some (.lst .frz (oL (fs n r)))]) (m:=vG) (ms:=ae (ac 1) (ae (ac 3) (ae (mUn (ap 0) (ac 1)) (ae (J5 1) ao)))) (xs:=[net .frz n ps,.lst .frz (oL (fs n r)),.int n,.int 1]) rfl (by simp[ap,a_,Fl.JU]) (by simp[PV.has]) (by simpa[Fl.JV]using li) (by simp[PV.has]);simpa[PV.J2,Fl.JW]using this
structure OkM(n:Nat)(ms:JK):Prop where
 ml:ms.length=n
 nd:ms.Nodup
 mr:∀x∈ms,0<=x/\x<=9
def ls(n:Nat)(ms:JK):List (JO):=ms.map λx=>some ((9-x)*n)
theorem xA{n:Nat}{ps:JH}{ms:JK}(N:OkM n ms)(n10:n<=10):yA [net .frz n ps,.lst .bor (iL ms)]=.ok .non:=by have lu:=N.ml;refine gH ?_;show Ends (zM [some (net .frz n ps),some (.lst .bor (iL ms)),none]);unfold zM;refine i6 (bU (by simp[p1,cX,a6,ap,a_,lu,Fl.JU]) aD) ?_;refine i6 (bU (by simp[p1,cX,a6,nO (show ms.length<=1000 by omega),qV N.nd,Fl.JU]) aD) ?_;refine lx (λ_ e=>∃x,e=[some (net .frz n ps),some (.lst .bor (iL ms)),x]) (λr=>∃e,r=.next e) (xs:=iL ms) (dJ (f:=.bor) (by simp[Fl.JU]) rfl (by simp) (by simp)) ⟨_,rfl⟩ (λk x e hx hP=>?_) (λe hP=>⟨e,rfl⟩);obtain⟨y,rfl⟩:=hP;obtain⟨z,hz,rfl⟩:=mf hx;have:=N.mr z (List.mem_of_getElem? hz);refine⟨_,cS rfl,.inl ⟨_,.inl (bU ?_ aD),_,rfl⟩⟩;simp[show ¬z<0 by omega,show ¬(9:Int)<z by omega]
theorem vx{n:Nat}{ps:JH}{ms:JK}{fm:Fl}(hf:fm=.bor\/fm=.own)(N:OkM n ms)(n1:1<=n)(n10:n<=10):yK [.obj .own 6 [] [],net .own n ps,.lst fm (iL ms)]=.ok (lea .own 6 n ps (ls n ms) n (10*n)):=by
 refine cW (e:=[some (lea .own 6 n ps (ls n ms) n (10*n)),some (net .frz n ps),some (.lst fm (iL ms)),some (.lst .frz (oL (ls n ms)))]) ?_ rfl;show zZ [some (.obj .own 6 [] []),some (net .own n ps),some (.lst fm (iL ms)),none]=_;unfold zZ;have e1:fm.JU.JV=.bor:=by rcases hf with rfl|rfl<;>rfl
 have rn:=xA (ps:=ps) N n10;refine ag (gD (v:=net .own n ps) rfl) ?_;have efz:(net .own n ps).J2 Fl.JW=net .frz n ps:=by simp[PV.J2,Fl.JW]
 simp only[s0_,s1_,efz];refine ag (il (v:=.non) (by simp[e1,rn,aA,PV.J2])) ?_;have eL:oL (ls n ms)=iL (ms.map λx=>(9-x)*n):=by simp[oL,ls,iL,oV]
 refine ag (aw (v:=.lst .own (oL (ls n ms))) ?_ (by simp[PV.J1,PV.has]) rfl) ?_
 .rw[eL];refine aM (xs:=iL ms) (by simp) (by rw[ba,N.ml];omega) (f7 (λx=>(9-x)*n) ms λx hx=>⟨[some (net .frz n ps),some (.int x)],by simp[tgN,aO,bQ,PV.JX,Fl.JX,PV.J2],?_⟩);have m:ck (.int (9-x)) (.int (n:Int))=.ok (.int ((9-x)*n)):=cH (.inr ⟨by omega,by omega⟩);simp[ap,a_,m]
 simp only[s0_,s1_];refine ag (gD (v:=.lst .own (oL (ls n ms))) rfl) ?_;simp only[s0_,s1_];have li:=qB (cc:=6) (n:=n) (ps:=ps) (os:=ls n ms) (st:=n) (bk:=10) (f:=.frz) (.inr rfl) () () (by decide) (by decide) (by simp [ls,N.ml]) (λs hs=>by
  simp only[ls,mem_map]at hs;obtain⟨x,hx,e⟩:=hs;have:=N.mr x hx;cases e;have h1:0 <=(9-x)*(n:Int):=Int.mul_nonneg () ();have h2:(9-x)*(n:Int)<= 9*n:=Int.mul_le_mul_of_nonneg_right () ();omega)
 rw[Int.mul_comm (n:Int) 10]at li;have:=gU (env:=[some (.obj .own 6 [] []),some (net .frz n ps),some (.lst fm (iL ms)),some (.lst .frz (oL (ls n ms)))]) (m:=vG) (ms:=ae (ac 1) (ae (ac 3) (ae (mUn (ap 0) (ac 1)) (ae (J5 10) ao)))) (xs:=[net .frz n ps,.lst .frz (oL (ls n ms)),.int n,.int 10]) rfl (by simp[ap,a_,Fl.JU]) (by simp[PV.has]) (by simpa[Fl.JV]using li) (by simp[PV.has]);simpa[PV.J2,Fl.JW]using this
abbrev gro(fl:Fl)(n:Nat)(ps:JH)(r:Nat):PV:=.obj fl 7 [9,4,10,0,7,8] [lea fl 5 n ps (fs n r) n n,net .frz n ps,.int r,.int n,.int (((n:Int)+1)*((n:Int)+1)),.bl true]
def uV{n:Nat}{ps:JH}{r:Nat}:gL [.obj .own 7 [9,4,10] [lea .own 5 n ps (fs n r) n n,net .frz n ps,.int r],.int n,.int (((n:Int)+1)*((n:Int)+1)),.bl true]=.ok (gro .own n ps r):=by refine cW (e:=[some (gro .own n ps r),some (.int n),some (.int (((n:Int)+1)*((n:Int)+1))),some (.bl true)]) ?_ rfl;show jd [some (.obj .own 7 [9,4,10] [lea .own 5 n ps (fs n r) n n,net .frz n ps,.int r]),some (.int n),some (.int (((n:Int)+1)*((n:Int)+1))),some (.bl true)]=_;unfold jd;refine ag (bZ (v:=.int n) (ks:=[9,4,10]) (vs:=[lea .own 5 n ps (fs n r) n n,net .frz n ps,.int r]) (by simp) rfl (by simp) rfl (by decide)) ?_;refine ag (bZ (v:=.int (((n:Int)+1)*((n:Int)+1))) (ks:=[9,4,10,0]) (vs:=[lea .own 5 n ps (fs n r) n n,net .frz n ps,.int r,.int n]) (by simp) rfl (by simp) rfl (by decide)) ?_;exact bZ (v:=.bl true) (ks:=[9,4,10,0,7]) (vs:=[lea .own 5 n ps (fs n r) n n,net .frz n ps,.int r,.int n,.int (((n:Int)+1)*((n:Int)+1))]) (by simp) rfl (by simp) rfl (by decide)
theorem yc{n:Nat}{ps:JH}{r:Nat}{f:Fl}(hf:f=.frz\/f=.own)(n1:1<=n)(n10:n<=10)(hr:r<n):yM [.obj .own 7 [] [],net f n ps,.int r]=.ok (gro .own n ps r):=by
 refine cW (e:=[some (gro .own n ps r),some (net .frz n ps),some (.int r)]) ?_ rfl;show z6 [some (.obj .own 7 [] []),some (net f n ps),some (.int r)]=_;unfold z6;have fi:=qK (f:=.frz) (ps:=ps) (.inl rfl) n1 n10 hr;have mu:ck (.int ((n:Int)+1)) (.int ((n:Int)+1))=.ok (.int (((n:Int)+1)*((n:Int)+1))):=cH (.inl ⟨by omega,by omega⟩);have ri:=uV (n:=n) (ps:=ps) (r:=r);generalize((n:Int)+1)*((n:Int)+1)=sq at mu ri;refine ag (gD (v:=net f n ps) rfl) ?_;have efz:(net f n ps).J2 Fl.JW=net .frz n ps:=by rcases hf with rfl|rfl<;>simp[PV.J2,Fl.JW]
 simp only[s0_,s1_,efz];refine ag (bZ (v:=lea .own 5 n ps (fs n r) n n) (ks:=[]) (vs:=[]) (by simp[fi,aA,PV.has,Fl.JU,Fl.JV]) rfl (by simp[PV.J1,PV.has]) rfl (by decide)) ?_;simp only[s0_,s1_];refine ag (bZ (v:=net .frz n ps) (ks:=[9]) (vs:=[lea .own 5 n ps (fs n r) n n]) (by simp[PV.J2,Fl.JU]) rfl (by simp[PV.J1,PV.has]) rfl (by decide)) ?_;simp only[s0_,s1_];refine ag (bZ (v:=.int r) (ks:=[9,4]) (vs:=[lea .own 5 n ps (fs n r) n n,net .frz n ps]) (by simp) rfl (by simp) rfl (by decide)) ?_;simp only[s0_,s1_];have:=gU (env:=[some (.obj .own 7 [9,4,10] [lea .own 5 n ps (fs n r) n n,net .frz n ps,.int r]),some (net .frz n ps),some (.int r)]) (m:=gL) (ms:=ae (mUn (ap 0) (ac 1)) (ae (mOp ck (mOp aP (mUn (ap 0) (ac 1)) (J5 1)) (mOp aP (mUn (ap 0) (ac 1)) (J5 1))) (ae (mC (.bl true)) ao))) (xs:=[.int n,.int sq,.bl true]) rfl (by simp[ap,a_,mu]) (by simp) (by simpa using ri) (by simp[PV.has]);simpa using this
def PT(n:Nat)(cs:JK):JH:=cs.map λc=>(c / ((n:Int)+1),c%((n:Int)+1))
def FA(n:Nat)(cs:JK):JK:=cs.map (· / ((n:Int)+1))
def CN(n:Nat)(cs:JK):JK:=cs.map (· % ((n:Int)+1))
@[simp] def Jt{n:Nat}{cs:JK}:(FA n cs).length=cs.length:=by simp[FA]
@[simp] def FH{n:Nat}{cs:JK}:(CN n cs).length=cs.length:=by simp[CN]
def nea(ps:JH)(fa:JK)(i:Nat):JK:=(nbL ps i).filter λo=>decide (gt fa o.toNat=gt fa i-1)
def eld(ps:JH)(r:Nat)(fa:JK)(i:Nat):JO:=if i=r then none else if(nea ps fa i).isEmpty then none else some (f_ (nea ps fa i))
def kF(n:Nat)(ps:JH)(r:Nat)(cs:JK)(i:Nat):JK:=((range n).filter λj=>decide (eld ps r (FA n cs) j=some (i:Int))).map (gt (CN n cs))
def dcn(n:Nat)(ps:JH)(r:Nat)(cs:JK)(i:Nat):Int:=min (n:Int) (1+(kF n ps r cs i).sum)
def kK(n:Nat)(ps:JH)(r:Nat)(cs:JK)(i:Nat):Int:=
 dX ps (fs n r) n n (FA n cs) i*((n:Int)+1)+(if dX ps (fs n r) n n (FA n cs) i=gt (FA n cs) i then dcn n ps r cs i else gt (CN n cs) i)
theorem qm{n:Nat}{ps:JH}{r:Nat}{cs:JK}{fc:Fl}(hfc:Fc fc)(n10:n<=10)(hn:cs.length=n):EI [gro .bor n ps r,.lst fc (iL cs)]=.ok (.lst .own (prL (PT n cs))):=by
 refine au ?_;show Fj [some (gro .bor n ps r),some (.lst fc (iL cs))]=_;unfold Fj;refine a5 ?_ (by simp[PV.J1,PV.has]);have e4:fc≠.mod:=by rcases hfc with rfl|rfl<;>decide
 rw[show prL (PT n cs)=cs.map λc=>prV (c / ((n:Int)+1),c%((n:Int)+1)) by simp[prL,PT]];refine aM (xs:=iL cs) (by rcases hfc with rfl|rfl<;>simp) (by rw[ba];omega) (bp (a:=PV.int) (f:=λc=>prV (c / ((n:Int)+1),c%((n:Int)+1))) cs λc _=>⟨[some (gro .bor n ps r),some (.int c)],by simp[tgN,aO,bQ,PV.J2,Fl.JX],?_,by simp,by simp⟩);have np:(0:Int) <(n:Int)+1:=by omega
 simp[ap,a_,bF np,eE np (show(n:Int)+1<1073741824 by omega),prV]
def o7{n:Nat}{ps:JH}{r:Nat}{cs:JK}{fc:Fl}(hfc:Fc fc)(n10:n<=10)(hn:cs.length=n):yG [gro .bor n ps r,.lst fc (iL cs)]=.ok (.lst .own (iL (FA n cs))):=by refine au ?_;show zV [some (gro .bor n ps r),some (.lst fc (iL cs))]=_;unfold zV;refine a5 ?_ (by simp);have pt:=qm (ps:=ps) (r:=r) hfc n10 hn;rw[show iL (FA n cs)=(PT n cs).map λx=>PV.int x.1 by simp[iL,FA,PT]];refine aM (xs:=prL (PT n cs)) (by rcases hfc with rfl|rfl<;>simp[fe,pt,aA,PV.has,Fl.JU,Fl.JV,PV.J2]) (by simp[PT];omega) (bp (a:=prV) (f:=λx=>PV.int x.1) (PT n cs) λx _=>⟨[some (prV x)],by simp[tgN,aO,bQ,dw],?_,by simp,by simp⟩);simp
def kN{n:Nat}{ps:JH}{r:Nat}{cs:JK}{fc:Fl}(hfc:Fc fc)(n10:n<=10)(hn:cs.length=n):EN [gro .bor n ps r,.lst fc (iL cs)]=.ok (.lst .own (iL (CN n cs))):=by refine au ?_;show Fp [some (gro .bor n ps r),some (.lst fc (iL cs))]=_;unfold Fp;refine a5 ?_ (by simp);have pt:=qm (ps:=ps) (r:=r) hfc n10 hn;rw[show iL (CN n cs)=(PT n cs).map λx=>PV.int x.2 by simp[iL,CN,PT]];refine aM (xs:=prL (PT n cs)) (by rcases hfc with rfl|rfl<;>simp[fe,pt,aA,PV.has,Fl.JU,Fl.JV,PV.J2]) (by simp[PT];omega) (bp (a:=prV) (f:=λx=>PV.int x.2) (PT n cs) λx _=>⟨[some (prV x)],by simp[tgN,aO,bQ,dw],?_,by simp,by simp⟩);simp
def By{f:Fl}{l:JK}:nH (.lst f (iL l))=.ok (if l.isEmpty then .non else .int (f_ l)):=by unfold nH;simp only[a6,jh]
theorem yV{n:Nat}{ps:JH}{r:Nat}{fa:JK}{i:Nat}(hnb:∀x∈nbL ps i,0<=x/\x<n)(hl:(nbL ps i).length<=1000)(hn:fa.length=n)(hi:i<n):EF [gro .bor n ps r,.lst .bor (iL fa),.int i]=.ok (oV (eld ps r fa i)):=by
 refine au ?_;show Ff [some (gro .bor n ps r),some (.lst .bor (iL fa)),some (.int i),none]=_;unfold Ff eld;by_cases q:i=r
 .rw[if_pos q];exact dB (jb (by simp[ap,a_,q]) (a5 (by simp[oV]) (by simp[oV])))
 rw[if_neg q];refine ag (bU (by simp[ap,a_,show ¬(i:Int)=r by omega]) aD) ?_;have be:=jL (ps:=ps) hi;refine ag (aw (v:=.lst .own (iL (nea ps fa i))) ?_) ?_
 .have hz:nea ps fa i=((nbL ps i).filter λo=>decide (gt fa o.toNat=gt fa i-1)).map id:=by simp[nea]
  rw[hz];refine aM (xs:=iL (nbL ps i)) (by simp[ap,a_,b5,be,aA]) (by rw[ba];omega) (gp (λo=>decide (gt fa o.toNat=gt fa i-1)) id _ λx hx=>⟨[some (.lst .bor (iL fa)),some (.int i),some (.int x)],by simp[tgN,aO,bQ,Fl.JX],?_,λ_=>by simp⟩);obtain⟨h1,h2⟩:=hnb x hx;simp[cZ (f:=.bor) (cs:=fa) (i:=x) () (),cZ (f:=.bor) (cs:=fa) (i:=i) () ()]
 simp only[s0_,s1_];generalize nea ps fa i=l;refine a5 ?_ (by cases l<;>simp[oV]);simp only[HH,dH,getElem?_cons_zero,getElem?_cons_succ,Bd,Res.J4,PV.J2,Fl.JU,nM];rw[By];cases l<;>simp[oV]
abbrev ELs(n:Nat)(ps:JH)(r:Nat)(fa:JK):List (JO):=(range n).map (eld ps r fa)
theorem vN{n:Nat}{ps:JH}{r:Nat}{cs:JK}{fc:Fl}(hfc:Fc fc)(n10:n<=10)(hnb:∀i:Nat,∀x∈nbL ps i,0<=x/\x<n)(hl:∀i:Nat,(nbL ps i).length<=1000)(hn:cs.length=n):EM [gro .bor n ps r,.lst fc (iL cs)]=.ok (.lst .own (oL (ELs n ps r (FA n cs)))):=by
 refine au ?_;show Fo [some (gro .bor n ps r),some (.lst fc (iL cs)),none]=_;unfold Fo;have fo:=o7 (ps:=ps) (r:=r) hfc n10 hn;refine ag (aw (v:=.lst .own (iL (FA n cs))) (by rcases hfc with rfl|rfl<;>simp[dY,fo,aA,PV.has,Fl.JU,Fl.JV,PV.J2])) ?_;simp only[s0_,s1_];refine a5 ?_ (by simp[PV.J1,PV.has]);rw[show oL (ELs n ps r (FA n cs))=(range n).map λi=>oV (eld ps r (FA n cs) i) by simp[oL]];refine aM (xs:=cG 0 n) (bv (n:=n) (by simp[ap,a_]) ()) (by rw[aZ];omega) (bp (a:=λk:Nat=>PV.int (0+(k:Int))) (f:=λi=>oV (eld ps r (FA n cs) i)) (range n) λk hk=>⟨[some (gro .bor n ps r),some (.lst .bor (iL (FA n cs))),some (.int (0+k))],by simp[tgN,aO,bQ,Fl.JX,PV.J2],?_,?_,?_⟩)
 .have el:=yV (r:=r) (hnb k) (hl k) (show(FA n cs).length=n by simpa using hn) (mem_range.mp hk);simp[i8,el,aA,PV.has,Fl.JU,Fl.JV,PV.J2];cases eld ps r (FA n cs) k<;>simp[oV,PV.has]
 .cases eld ps r (FA n cs) k<;>simp[oV,PV.has]
 .cases eld ps r (FA n cs) k<;>simp[oV,PV.has]
def pK(f:Nat->Int)(g:Nat->JO):∀l:List Nat,iD (iL (l.map f)) (oL (l.map g))=l.map λi=>PV.tup [.int (f i),oV (g i)]
 | []=>rfl
 |i::l=>by have:=pK f g l;simp only[iL,oL,map_cons,iD]at this ⊢;rw[this]
def eqO(o:JO)(i:Int):pEq (oV o) (.int i)=.ok (.bl (decide (o=some i))):=by
 cases o with
 |none=>simp[oV,pEq,PV.data];rfl
 |some s=>simp[oV]
def gtR(l:JK):(range l.length).map (gt l)=l:=by apply ext_getElem (by simp);intro i h1 h2;simp[gt,h2]
theorem sV{n:Nat}{cs:JK}(hn:cs.length=n):∀i,i<n->0<=gt (CN n cs) i/\gt (CN n cs) i<=n:=λi hi=>by have hm:=cD (far:=CN n cs) (i:=i) (by simpa using hn▸hi);obtain⟨c,_,e⟩:=mem_map.mp hm;rw[<- e];have:=emod_nonneg c (show(n:Int)+1≠0 by omega);have:=emod_lt_of_pos c (show(0:Int) <(n:Int)+1 by omega);omega
def l9{n:Nat}{ps:JH}{r:Nat}{cs:JK}{i:Nat}(hn:cs.length=n){x:Int}(hx:x∈kF n ps r cs i):0<=x/\x<=n:=by obtain⟨j,hj,rfl⟩:=mem_map.mp hx;exact sV hn j (mem_range.mp (mem_filter.mp hj).1)
def xT{n:Nat}{ps:JH}{r:Nat}{cs:JK}{i:Nat}:(kF n ps r cs i).length<=n:=by have:=length_filter_le (λj=>decide (eld ps r (FA n cs) j=some (i:Int))) (range n);simpa[kF]using this
theorem y0{n:Nat}{ps:JH}{r:Nat}{cs:JK}{i:Nat}{fc:Fl}(hfc:Fc fc)(n10:n<=10)(hnb:∀i:Nat,∀x∈nbL ps i,0<=x/\x<n)(hl:∀i:Nat,(nbL ps i).length<=1000)(hn:cs.length=n):ER [gro .bor n ps r,.lst fc (iL cs),.int i]=.ok (.int (dcn n ps r cs i)):=by
 refine au ?_;show Fv [some (gro .bor n ps r),some (.lst fc (iL cs)),some (.int i),none]=_;unfold Fv;have co:=kN (ps:=ps) (r:=r) hfc n10 hn;have eo:=vN (ps:=ps) (r:=r) hfc n10 hnb hl hn;have zp:iD (iL (CN n cs)) (oL (ELs n ps r (FA n cs)))=(range n).map λj=>PV.tup [.int (gt (CN n cs) j),oV (eld ps r (FA n cs) j)]:=by
  have:=pK (gt (CN n cs)) (eld ps r (FA n cs)) (range n)
  rwa [show(range n).map (gt (CN n cs))=CN n cs by have:=gtR (CN n cs);rw[FH,hn]at this;exact this]at this
 refine ag (aw (v:=.lst .own (iL (kF n ps r cs i))) ?_) ?_
 .rw[show iL (kF n ps r cs i)=((range n).filter λj=>decide (eld ps r (FA n cs) j=some (i:Int))).map λj=>PV.int (gt (CN n cs) j) by simp[iL,kF]];refine aM (xs:=(range n).map λj=>PV.tup [.int (gt (CN n cs) j),oV (eld ps r (FA n cs) j)]) ?_ (by simp;omega) (cN (a:=λj=>PV.tup [.int (gt (CN n cs) j),oV (eld ps r (FA n cs) j)]) (f:=λj=>.int (gt (CN n cs) j)) (p:=λj=>decide (eld ps r (FA n cs) j=some (i:Int))) (range n) λj hj=>⟨[some (.int i),some (.int (gt (CN n cs) j)),some (oV (eld ps r (FA n cs) j))],?_,?_,λ_=>⟨by simp,rfl,rfl⟩⟩)
  .unfold j9;rcases hfc with rfl|rfl<;>simp[c_,ik,co,eo,aA,PV.has,Fl.JU,Fl.JV,PV.J2,eO,zp]
  .cases eld ps r (FA n cs) j<;>rfl
  .have ob:∀o:JO,PV.J2 Fl.JU (oV o)=oV o:=λo=>by cases o<;>rfl
   simp[ob,eqO]
 simp only[s0_,s1_];have sm:jZ (.lst .lnt (iL (kF n ps r cs i)))=.ok (.int (kF n ps r cs i).sum):=lh (by have:=xT (n:=n) (ps:=ps) (r:=r) (cs:=cs) (i:=i);omega) λx hx=>by have:=l9 hn hx;omega
 refine a5 ?_ (by simp);simp[ap,a_,p1,sm,dcn,fS]
theorem B0{n:Nat}{ps:JH}{r:Nat}{cs:JK}{i:Nat}{fc:Fl}(hfc:Fc fc)(n1:1<=n)(n10:n<=10)(hnb:∀i:Nat,∀x∈nbL ps i,0<=x/\x<n)(hl:∀i:Nat,(nbL ps i).length<=1000)(hn:cs.length=n)(hi:i<n):yC [gro .bor n ps r,.lst fc (iL cs),.int i]=.ok (.int (kK n ps r cs i)):=by
 refine au ?_;show zQ [some (gro .bor n ps r),some (.lst fc (iL cs)),some (.int i),none,none,none]=_;unfold zQ;have fo:=o7 (ps:=ps) (r:=r) hfc n10 hn;have co:=kN (ps:=ps) (r:=r) hfc n10 hn;have dc:=y0 (ps:=ps) (r:=r) (i:=i) hfc n10 hnb hl hn;have fl:(FA n cs).length=n:=by simpa using hn
 have cl:(CN n cs).length=n:=by simpa using hn
 have ld:=qC (.inl rfl) (cc:=5) (os:=fs n r) (st:=n) (tp:=n) (cs:=FA n cs) rfl (hnb i) (hl i) () fl (by simp[fs]) hi;refine ag (aw (v:=.lst .own (iL (FA n cs))) (by rcases hfc with rfl|rfl<;>simp[dY,fo,aA,PV.has,Fl.JU,Fl.JV,PV.J2])) ?_;simp only[s0_,s1_];unfold kK;generalize dX ps (fs n r) n n (FA n cs) i=df at *;refine ag (aw (v:=.int df) (by simp[ap,a_,kL,ld,aA,PV.has,Fl.JU,Fl.JV,PV.J2])) ?_;simp only[s0_,s1_];have ic:∀f,aK (.lst f (iL (CN n cs))) (.int (i:Int))=.ok (.int (gt (CN n cs) i)):=λf=>by simpa using cZ (f:=f) (cs:=CN n cs) (i:=i) () ()
 have ia:∀f,aK (.lst f (iL (FA n cs))) (.int (i:Int))=.ok (.int (gt (FA n cs) i)):=λf=>by simpa using cZ (f:=f) (cs:=FA n cs) (i:=i) () ()
 refine ag (aw (v:=.int (gt (CN n cs) i)) (by rcases hfc with rfl|rfl<;>simp[c_,co,ic,aA,PV.has,Fl.JU,Fl.JV,PV.J2])) ?_;simp only[s0_,s1_];have mu:ck (.int df) (.int ((n:Int)+1))=.ok (.int (df*((n:Int)+1))):=cH (.inr ⟨by omega,by omega⟩);by_cases q:df=gt (FA n cs) i
 .rw[if_pos q];refine ag (jb (by simp[ia,q]) (aw (v:=.int (dcn n ps r cs i)) (by rcases hfc with rfl|rfl<;>simp[de,dc,aA,PV.has,Fl.JU,Fl.JV,PV.J2]))) ?_;simp only[s0_,s1_];exact a5 (by simp[ap,a_,mu]) (by simp)
 .rw[if_neg q];refine ag (bU (by simp[ia,q]) aD) ?_;exact a5 (by simp[ap,a_,mu]) (by simp)
def dN(at_:Int):Int->JK->JK
 |_,[]=>[]
 |k,p::ps=>if p=at_ then k::dN at_ (k+1) ps else dN at_ (k+1) ps
theorem iW{at_:Int}:∀{k:Int}{ps:JK}{x:Int},x∈dN at_ k ps->k<=x/\x<k+ps.length/\ps[(x-k).toNat]?=some at_
 |_,[],x,h=>by simp[dN]at h
 |k,p::ps,x,h=>by
  have key:x∈dN at_ (k+1) ps->k<=x/\x<k+(p::ps).length/\(p::ps)[(x-k).toNat]?=some at_:=λh=>by obtain⟨h1,h2,h3⟩:=iW h;refine⟨by omega,by simp only[length_cons];omega,?_⟩;rw[show(x-k).toNat=(x-(k+1)).toNat+1 by omega,getElem?_cons_succ];exact h3
  unfold dN at h;split at h
  .rename_i hp
   rcases mem_cons.mp h with rfl|h
   .refine⟨by omega,by simp only[length_cons];omega,by simp[hp]⟩
   .exact key h
  .exact key h
theorem l8{at_:Int}:∀{k:Int}{ps:JK},(dN at_ k ps).length<=ps.length
 |_,[]=>by simp[dN]
 |k,p::ps=>by have:=l8 (at_:=at_) (k:=k+1) (ps:=ps);unfold dN;split<;>simp<;>omega
def jv(cs l:JK):Int:=(l.map λk=>gt cs k.toNat).sum
def o9(n:Nat)(ps cs:JK)(i:Nat):Int:=min (n:Int) (1+jv cs (dN i 1 ps))
def pP{cs cs':JK}:∀{l:JK},(∀k∈l,gt cs k.toNat=gt cs' k.toNat)->jv cs l=jv cs' l
 | [],_=>rfl
 |k::l,h=>by have:=pP (cs:=cs) (cs':=cs') (l:=l) λx hx=>h x (mem_cons_of_mem _ hx);simp only[jv,map_cons,sum_cons]at this ⊢;rw[h k mem_cons_self,this]
theorem pO{cs:JK}:∀{l:JK},(∀k∈l,0<=gt cs k.toNat)->0<=jv cs l
 | [],_=>by simp[jv]
 |k::l,h=>by have:=pO (cs:=cs) (l:=l) λx hx=>h x (mem_cons_of_mem _ hx);have h2:=h k mem_cons_self;simp only[jv,map_cons,sum_cons]at this ⊢;omega
def x0(l:JK)(k:Nat)(h:k<l.length):gt l k=l[k]:=by simp[gt,h]
def Tree(ps:JK):Prop:=∀i (h:i<ps.length),0<=ps[i]/\ps[i]<= i
structure JD(ps hs:JK)(j:Nat):Prop where
 len:hs.length=ps.length+1
 eqn:∀i:Nat,i<=ps.length->gt hs i=1+jv hs (dN i (j+1) (ps.drop j))
 bnd:∀i:Nat,i<=ps.length->1<=gt hs i/\gt hs i<=ps.length+1
 sum:(hs.take (j+1)).sum=ps.length+1
structure JC(ps hs:JK):Prop where
 len:hs.length=ps.length+1
 eqn:∀i:Nat,i<=ps.length->gt hs i=1+jv hs (dN i 1 ps)
 bnd:∀i:Nat,i<=ps.length->1<=gt hs i/\gt hs i<=ps.length+1
abbrev cnt(fl:Fl)(ps:JK):PV:=.obj fl 3 [11,0,7,8] [.tup (iL ps),.int (ps.length+1),.int (ps.length+2),.bl false]
def uW{ps:JK}:gL [.obj .own 3 [11] [.tup (iL ps)],.int (ps.length+1),.int (ps.length+2),.bl false]=.ok (cnt .own ps):=by refine cW (e:=[some (cnt .own ps),some (.int (ps.length+1)),some (.int (ps.length+2)),some (.bl false)]) ?_ rfl;show jd [some (.obj .own 3 [11] [.tup (iL ps)]),some (.int (ps.length+1)),some (.int (ps.length+2)),some (.bl false)]=_;unfold jd;refine ag (bZ (v:=.int (ps.length+1)) (ks:=[11]) (vs:=[.tup (iL ps)]) (by simp) rfl (by simp) rfl (by decide)) ?_;refine ag (bZ (v:=.int (ps.length+2)) (ks:=[11,0]) (vs:=[.tup (iL ps),.int (ps.length+1)]) (by simp) rfl (by simp) rfl (by decide)) ?_;exact bZ (v:=.bl false) (ks:=[11,0,7]) (vs:=[.tup (iL ps),.int (ps.length+1),.int (ps.length+2)]) (by simp) rfl (by simp) rfl (by decide)
def vQ{ps:JK}:mB [.obj .own 3 [11] [.tup (iL ps)],.int (ps.length+1),.int (ps.length+2)]=.ok (cnt .own ps):=by refine cW (e:=[some (cnt .own ps),some (.int (ps.length+1)),some (.int (ps.length+2))]) ?_ rfl;show rq [some (.obj .own 3 [11] [.tup (iL ps)]),some (.int (ps.length+1)),some (.int (ps.length+2))]=_;unfold rq;exact gU (xs:=[.int (ps.length+1),.int (ps.length+2),.bl false]) rfl (by simp) (by simp) (by simpa using uW (ps:=ps)) (by simp[PV.has])
def EY{f:Fl}{m:ME}{env:En}{ps:JK}(h:m env=.ok (.lst f (iL ps)))(hf:f.JZ=false):vt m env=.ok (enP 1 (iL ps)):=by unfold vt;rw[h];simp[hf,eO]
theorem r6{f:Fl}{ps:JK}(T:Tree ps)(hl:ps.length<=9)(hf:f=.bor\/f=.frz):EH [.lst f (iL ps)]=.ok .non:=by
 have hf1:f.JU=f:=by rcases hf with rfl|rfl<;>rfl
 have hf2:f.JZ=false:=by rcases hf with rfl|rfl<;>rfl
 have key:∃e,Fh [some (.lst f (iL ps)),none,none]=.next e:=by
  unfold Fh;have s1:∀a:MS,mBr (aB (mOp pGt (aq (p1 cX) (ae (ac 0) ao)) (J5 9))) a a9 [some (.lst f (iL ps)),none,none]=.next [some (.lst f (iL ps)),none,none]:=λa=>bU (by simp[p1,cX,a6];omega) aD
  suffices hh:∃e,cU (vt (ac 0)) (tgT 2 (bf (tgN 1) (bf (tgN 2) dZ))) (mBr ((iS (aB (mOp pLt (ac 2) (J5 0))) (aB (mOp pGe (ac 2) (ac 1))))) (bH 2 (ae (mC (.str "a parent is no machine of a lower number than its kid")) ao)) a9) [some (.lst f (iL ps)),none,none]=.next e by obtain⟨e,h⟩:=hh;exact⟨e,ag (s1 _) h⟩
  refine lx (λ_ e=>∃a b,e=[some (.lst f (iL ps)),a,b]) (λr=>∃e,r=.next e) (xs:=enP 1 (iL ps)) (EY (f:=f) (by simp[hf1]) hf2) ⟨_,_,rfl⟩ (λk x e hx hP=>?_) (λe hP=>⟨e,rfl⟩);obtain⟨a,b,rfl⟩:=hP;rw[gn]at hx;obtain⟨y,hy,rfl⟩:=map_eq_some_iff.mp hx;obtain⟨v,hv,rfl⟩:=mf hy;obtain⟨hk,ev⟩:=List.getElem?_eq_some_iff.mp hv;have:=T k hk;rw[ev]at this;refine⟨[some (.lst f (iL ps)),some (.int (1+k)),some (.int v)],rfl,.inl ⟨_,.inl (bU ?_ aD),_,_,rfl⟩⟩;simp[show ¬v<0 by omega,show ¬1+(k:Int)<= v by omega]
 obtain⟨e,h⟩:=key;exact gH ⟨e,h⟩
def y8{f:Fl}{ps:JK}(T:Tree ps)(hl:ps.length<=9)(hf:f.JU.JV=.bor\/f.JU.JV=.frz):EG [.obj .own 3 [] [],.lst f (iL ps)]=.ok (cnt .own ps):=by refine cW (e:=[some (cnt .own ps),some (.lst f (iL ps))]) ?_ rfl;show Fg [some (.obj .own 3 [] []),some (.lst f (iL ps))]=_;unfold Fg;have rf:=r6 T hl hf;refine ag (il (v:=.non) (by simp[rf,aA])) ?_;refine ag (bZ (v:=.tup (iL ps)) (ks:=[]) (vs:=[]) (by simp[p1,eK,a6]) rfl (by simp[PV.J1,PV.has]) rfl (by decide)) ?_;have:=gU (env:=[some (.obj .own 3 [11] [.tup (iL ps)]),some (.lst f (iL ps))]) (m:=mB) (ms:=ae (mOp aP (aq (p1 cX) (ae (ac 1) ao)) (J5 1)) (ae (mOp aP (aq (p1 cX) (ae (ac 1) ao)) (J5 2)) ao)) (xs:=[.int (ps.length+1),.int (ps.length+2)]) rfl (by simp[p1,cX,a6]) (by simp) (by simpa using vQ (ps:=ps)) (by simp[PV.has]);exact this
def qY{env:En}{g:TgM}{mc:MT}{me:ME}{at_:Int}:∀(ps:JK) (k:Int),(∀j v:Int,v∈ps->∃e1,g (.tup [.int j,.int v]) env=some e1/\mc e1=.ok (decide (v=at_))/\me e1=.ok (.int j))->dP g mc me env (enP k (iL ps))=.ok (iL (dN at_ k ps))
 | [],_,_=>rfl
 |p::ps,k,h=>by
  obtain⟨e1,h1,h2,h3⟩:=h k p mem_cons_self;have ih:=qY (at_:=at_) ps (k+1) λj v hv=>h j v (mem_cons_of_mem _ hv);simp only[fI,enP,dP];have b:(PV.tup [.int k,.int p]).JX=.tup [.int k,.int p]:=by simp[PV.JX]
  rw[b,h1];simp only[h2,Res.J4];unfold dN;by_cases hc:p=at_
  .simp[hc,h3,ih]
  .simp[hc,ih]
theorem nR{ps:JK}{i:Int}(hl:ps.length<=1000):ES [cnt .bor ps,.int i]=.ok (.lst .own (iL (dN i 1 ps))):=by refine au ?_;show Fw [some (cnt .bor ps),some (.int i)]=_;unfold Fw;refine a5 (aM (xs:=enP 1 (iL ps)) ?_ (by rw[fF,ba];omega) (qY ps 1 λj v _=>⟨[some (.int i),some (.int j),some (.int v)],by simp[tgT,bf,tgN,dZ,aO,bQ],by simp,by simp⟩)) (by simp);unfold BC;simp[ap,a_,a6]
def Sm(cs:JK):Prop:=∀c∈cs,0<=c/\c<=1000
theorem B9{ps cs:JK}{i:Nat}{fc:Fl}(hfc:Fc fc)(hl:ps.length<=9)(hs:Sm cs)(hn:cs.length=ps.length+1):yE [cnt .bor ps,.lst fc (iL cs),.int i]=.ok (.int (o9 (ps.length+1) ps cs i)):=by
 refine au ?_;show zS [some (cnt .bor ps),some (.lst fc (iL cs)),some (.int i)]=_;unfold zS o9 jv;have ho:=nR (ps:=ps) (i:=(i:Int)) ();have kl:=l8 (at_:=(i:Int)) (k:=1) (ps:=ps);have hc:aV [1] 1 (cm (bM aX (ac 0) (ae (ac 2) ao))) (tgN 1) bN (mOp aK (ac 0) (ac 1)) [some (cnt .bor ps),some (.lst fc (iL cs)),some (.int i)]=.ok (.lst .own (iL ((dN i 1 ps).map λk=>gt cs k.toNat))):=by refine aM (xs:=iL (dN i 1 ps)) (by simp[aX,ho,aA]) (by rw[ba];omega) (f7 (λk=>gt cs k.toNat) _ λx hx=>⟨[some (.lst fc (iL cs)),some (.int x)],by simp[tgN,aO,bQ,hfc.bo],?_⟩);obtain⟨h1,h2,_⟩:=iW hx;simp[hfc.le,cZ (f:=fc) (cs:=cs) (i:=x) () ()]
 have sm:jZ (.lst .own (iL ((dN i 1 ps).map λk=>gt cs k.toNat)))=.ok (.int ((dN i 1 ps).map λk=>gt cs k.toNat).sum):=lh (by simp;omega) λx hx=>by obtain⟨k,hk,rfl⟩:=mem_map.mp hx;obtain⟨h1,h2,_⟩:=iW hk;have:=hs _ (cD (far:=cs) (i:=k.toNat) ());omega
 refine a5 ?_ (by simp);simp only[eD,cr,c9,gj,hc];simp[ap,a_,p1,sm,fS]
def InS(sp:Int)(cs:JK):Prop:=∀c∈cs,0<=c/\c<sp
structure Rl(o:PV)(n:Nat)(sp:Int)(al ip:Bool)(D:JK->Nat->Int):Prop where
 le:o.J2 Fl.JU=o
 tb:o.J2 Fl.JV=o
 bo:o.J2 Fl.JX=o
 a0:ap 0 o=.ok (.int n)
 a7:ap 7 o=.ok (.int sp)
 a8:ap 8 o=.ok (.bl al)
 s0:0<sp
 n1:1<=n
 n20:n<=20
 due:∀fc cs k,Fc fc->cs.length=n->InS sp cs->k<n->dG aI (.ok [.lst fc (iL cs),.int k]) o=.ok (.int (D cs k))/\0<=D cs k/\D cs k<sp
 rd:∀r,dG aE r o=r.bind λxs=>aN ir (o::xs)
 mv:∀r,dG av r o=r.bind λxs=>aN iw (o::xs)
 tu:∀r,dG aG r o=r.bind λxs=>aN iu (o::xs)
 ca:∀r,dG az r o=r.bind λxs=>aN (if ip then um else i4) (o::xs)
def mvR(n:Nat)(D:JK->Nat->Int)(cs:JK):JK:=((range n).filter λi=>decide (D cs i≠gt cs i)).map λi:Nat=>(i:Int)
def stR(n:Nat)(D:JK->Nat->Int)(cs nm:JK):JK:=(range n).map λi:Nat=>if nm.contains (i:Int)then D cs i else gt cs i
def gR(n:Nat)(al:Bool)(nm:JK):Prop:=nm.Nodup/\(∀x∈nm,0<=x/\x<n)/\(al=true->nm.length<=1)/\nm.length<=1000
def caR(n:Nat)(ip:Bool)(D:JK->Nat->Int)(cs:JK):Bool:=decide ((mvR n D cs).length=if ip then 1 else 0)
section
variable{o:PV}{n:Nat}{sp:Int}{al ip:Bool}{D:JK->Nat->Int}{cs nm:JK}{f fn:Fl}
theorem rK(r:Rl o n sp al ip D)(hn:cs.length=n)(hc:InS sp cs)(nm:JK):(stR n D cs nm).length=n/\InS sp (stR n D cs nm):=by
 refine⟨by simp[stR],λc hc'=>?_⟩;unfold stR at hc';obtain⟨i,hi,rfl⟩:=mem_map.mp hc';have hi:=mem_range.mp hi;split
 .exact(r.due .bor cs i (.inl rfl) hn hc hi).2
 .exact hc _ (cD ())
def j6:(mvR n D cs).length<=n:=by
 unfold mvR;rw[length_map];have:=length_filter_le (λi=>decide (D cs i≠gt cs i)) (range n)
 rwa [length_range]at this
theorem gJ(r:Rl o n sp al ip D)(hf:Fc f\/f=.own)(hn:cs.length=n)(hc:InS sp cs):iw [o,.lst f (iL cs)]=.ok (.lst .own (iL (mvR n D cs))):=by
 have n20:=r.n20;have fb:=Fc.of hf;refine au ?_;show zJ [some o,some (.lst f (iL cs))]=_;unfold zJ mvR;refine a5 ?_ (by simp);refine aM (xs:=cG 0 n) (bv (n:=n) (by simp[r.le,r.a0]) ()) (by rw[aZ];omega) (dA (λk=>decide (D cs k≠gt cs k)) (λk=>(k:Int)) n λk hk=>⟨[some o,some (.lst f.JX (iL cs)),some (.int (0+k))],by simp[tgN,aO,bQ,PV.JX,r.bo],?_,λ_=>by simp⟩);generalize f.JX=fc at *;have gk:aK (.lst fc (iL cs)) (.int (k:Int))=.ok (.int (gt cs k)):=by simpa using cZ (f:=fc) (cs:=cs) (i:=k) () ()
 simp[r.le,fb.le,(r.due fc cs k fb hn hc hk).1,gk]
theorem ly(r:Rl o n sp al ip D)(hf:Fc f\/f=.own)(hn:cs.length=n)(hc:InS sp cs):dG az (.ok [.lst f (iL cs)]) o=.ok (.bl (caR n ip D cs)):=by
 have e:∀f',Fc f'\/f'=.own->(if ip then um else i4) [o,.lst f' (iL cs)]=.ok (.bl (caR n ip D cs)):=λf' hf=>by
  have fb:Fc f'.JU.JV:=by
   rcases hf with(rfl|rfl)|rfl
   .exact .inl rfl
   .exact .inr rfl
   .exact .inl rfl
  have mo:=gJ r (.inl fb) hn hc;cases ip with
  |false=>refine au ?_;show zt [some o,some (.lst f' (iL cs))]=_;unfold zt caR;exact a5 (by simp[r.le,r.tb,r.mv,mo,aA]) (by simp)
  |true=>
   refine au ?_;show z9 [some o,some (.lst f' (iL cs))]=_;unfold z9 caR;have e1:((mvR n D cs).length:Int)=1 ↔(mvR n D cs).length=1:=by omega
   exact a5 (by simp[r.le,r.tb,r.mv,mo,aA,e1]) (by simp)
 have hf2:Fc f.JV\/f.JV=.own:=by
  rcases hf with(rfl|rfl)|rfl
  .exact .inl (.inl rfl)
  .exact .inl (.inr rfl)
  .exact .inr rfl
 simp[r.ca,r.tb,e _ hf2,aA]
theorem uY(r:Rl o n sp al ip D)(hf:Fc fn)(hg:gR n al nm):yv [o,.lst fn (iL nm)]=.ok .non:=by
 obtain⟨hd,hr,ha,hl⟩:=hg;refine gH ?_;show Ends (zF [some o,some (.lst fn (iL nm)),none]);unfold zF;refine i6 (bU ?_ aD) ?_
 .cases al with
  |false=>simp[r.le,r.a8]
  |true=>have:=ha rfl;simp[r.le,r.a8];omega
 refine yU (λ_ e=>∃x,e=[some o,some (.lst fn (iL nm)),x]) (xs:=iL nm) (dJ (f:=fn) (by simp[hf.le]) hf.nl (by simp) (by simp)) ⟨_,rfl⟩ (λk x e hx hP=>?_) (λe hP=>?_)
 .obtain⟨y,rfl⟩:=hP;obtain⟨m,hm,rfl⟩:=mf hx;obtain⟨h1,h2⟩:=hr m (List.mem_of_getElem? hm);refine⟨_,cS rfl,bu (bU ?_ aD) ⟨_,rfl⟩⟩;simp[r.le,r.a0,show ¬m<0 by omega,show ¬(n:Int)<= m by omega]
 .obtain⟨y,rfl⟩:=hP;exact vM (bU (by simp[nO hl,qV hd]) aD)
def Fc.call{f:Fl}(h:Fc f\/f=.own):Fc f.JU.JV:=by
 rcases h with(rfl|rfl)|rfl
 .exact .inl rfl
 .exact .inr rfl
 .exact .inl rfl
def km(r:Rl o n sp al ip D)(hf:Fc f\/f=.own)(hfn:Fc fn\/fn=.own)(hn:cs.length=n)(hc:InS sp cs)(hg:gR n al nm):iu [o,.lst f (iL cs),.lst fn (iL nm)]=.ok (.lst .own (iL (stR n D cs nm))):=by
 have n20:=r.n20;have fb:=Fc.of hf;refine au ?_;show zD [some o,some (.lst f (iL cs)),some (.lst fn (iL nm))]=_;unfold zD stR;refine ag (il (v:=.non) (by simp[r.le,r.tb,uY r (Fc.call hfn) hg,aA])) (a5 ?_);refine aM (xs:=cG 0 n) (bv (n:=n) (by simp[r.le,r.a0]) ()) (by rw[aZ];omega) (kO 0 (λi:Nat=>if nm.contains (i:Int)then D cs i else gt cs i) n λk hk=>⟨[some (.lst fn.JX (iL nm)),some o,some (.lst f.JX (iL cs)),some (.int (0+k))],by simp[tgN,aO,bQ,PV.JX,r.bo],?_⟩);generalize f.JX=fc at *;have gk:∀f,aK (.lst f (iL cs)) (.int (k:Int))=.ok (.int (gt cs k)):=λf=>by simpa using cZ (f:=f) (cs:=cs) (i:=k) () ()
 have dk:=(r.due fc cs k fb hn hc hk).1;by_cases q:nm.contains (k:Int)=true
 .simp only[q,if_true];simp at q;simp[q,r.le,fb.le,dk,aA]
 .simp only[q];simp at q;simp[q,gk]
def dnR(n:Nat)(D:JK->Nat->Int)(cs nm:JK):JK:=(mvR n D cs).filter λa=>nm.contains a
theorem uR(r:Rl o n sp al ip D)(hf:Fc f)(hfn:Fc fn)(hn:cs.length=n)(hc:InS sp cs)(hg:gR n al nm):qL [o,.lst f (iL cs),.lst fn (iL nm)]=.ok (.tup [.lst .own (iL (dnR n D cs nm)),.lst .own (iL (stR n D cs nm))]):=by
 have n20:=r.n20;have ml:=j6 (n:=n) (D:=D) (cs:=cs);refine au ?_;show zg [some o,some (.lst f (iL cs)),some (.lst fn (iL nm)),none,none]=_;unfold zg;refine ag (aw (v:=.lst .own (iL (stR n D cs nm))) (by simp[r.le,r.tb,r.tu,hf.le,hf.tb,hfn.le,hfn.tb,km r (.inl hf) (.inl hfn) hn hc hg,aA])) ?_;simp only[s0_,s1_];refine ag (aw (v:=.lst .own (iL (dnR n D cs nm))) ?_) ?_
 .refine aM (xs:=iL (mvR n D cs)) (by simp[r.le,r.tb,r.mv,hf.le,hf.tb,gJ r (.inl hf) hn hc,aA]) (by simp;omega) ?_;have:=gp (env:=bQ [2] 1 [some o,some (.lst f (iL cs)),some (.lst fn (iL nm)),some (.lst .own (iL (stR n D cs nm))),none]) (g:=tgN 1) (mc:=aB (mOp pIn (ac 1) (ac 0))) (me:=ac 1) (λa=>nm.contains a) (λa=>a) (mvR n D cs) λx hx=>⟨[some (.lst fn (iL nm)),some (.int x)],by simp[tgN,aO,bQ,PV.JX,hfn.bo],by simp,λ_=>by simp⟩
  unfold dnR;rw[List.map_id']at this;exact this
 .simp only[s0_,s1_];rfl
def cj(f:Fl)(p:JK×JK):PV:=.tup [.lst f (iL p.1),.lst f (iL p.2)]
def bD(n:Nat)(D:JK->Nat->Int):JK->List (JK)->List (JK×JK)
 |_,[]=>[]
 |cs,nm::tns=>(dnR n D cs nm,stR n D cs nm)::bD n D (stR n D cs nm) tns
def pY:∀(tns:List (JK)) (cs:JK),(bD n D cs tns).length=tns.length
 | [],_=>rfl
 |nm::tns,cs=>by simp[bD,pY tns]
def tK(r:Rl o n sp al ip D):∀(tns:List (JK)) (cs:JK),cs.length=n->InS sp cs->∀p∈bD n D cs tns,p.2.length=n/\InS sp p.2/\p.1.length<=n
 | [],_,_,_,p,h=>nomatch h
 |nm::tns,cs,hn,hc,p,h=>by
  obtain⟨h1,h2⟩:=rK r hn hc nm;rcases mem_cons.mp h with rfl|h
  .exact⟨h1,h2,Nat.le_trans (length_filter_le _ _) j6⟩
  .exact tK r tns _ h1 h2 p h
def lN{p:Fl->Bool}(h:p f=false)(ps:List (JK×JK)):hasL p (ps.map (cj f))=false:=by
 induction ps with
 |nil=>simp
 |cons a l ih=>simp[ih,cj,h]
@[simp] def Gv{g:Fl->Fl}(ps:List (JK×JK)):mapL g (ps.map (cj f))=ps.map (cj (g f)):=by
 induction ps with
 |nil=>simp
 |cons a l ih=>simp[ih,cj]
theorem jW{rs:JK}(r:Rl o n sp al ip D)(hn:rs.length=n):ir [o,.lst f (iL rs)]=.ok (.lst .own (iL (rs.map (· % sp)))):=by have n20:=r.n20;refine au ?_;show zv [some o,some (.lst f (iL rs))]=_;unfold zv;refine ag (bU (by simp[r.le,r.a0,hn]) aD) (a5 ?_);refine aM (xs:=iL rs) (by simp) (by simp;omega) ?_;exact f7 (· % sp) rs λx hx=>⟨[some o,some (.int x)],by simp[tgN,aO,bQ,PV.JX,r.bo],by simp[r.le,r.a7,bF r.s0]⟩
def lZ{rs:JK}(r:Rl o n sp al ip D):InS sp (rs.map (· % sp)):=λc hc=>by obtain⟨x,_,rfl⟩:=mem_map.mp hc;have:=r.s0;exact⟨emod_nonneg _ (),emod_lt_of_pos _ r.s0⟩
theorem tJ(r:Rl o n sp al ip D)(hfn:Fc fn){x1 x2:Option PV}:∀(tns:List (JK)) (cs:JK) (rows:JS) (x5:Option PV),cs.length=n->InS sp cs->(∀nm∈tns,gR n al nm)->rows.length+tns.length<=1000 ->
  ∃y5,oB (aq (aN qL) (ae (ac 0) (ae (ac 3) (ae (ac 5) ao)))) 4 3 5 (llL fn tns) rows (.lst .bor (iL cs)) [some o,x1,x2,none,some (.lst .own rows),x5]=.next [some o,x1,x2,none,some (.lst .own (rows ++(bD n D cs tns).map (cj .own))),y5]
 | [],cs,rows,x5,_,_,_,_=>⟨x5,by simp[bD,oB]⟩
 |nm::tns,cs,rows,x5,hn,hc,hg,hl=>by
  obtain⟨h1,h2⟩:=rK r hn hc nm;rw[length_cons]at hl;obtain⟨y5,ih⟩:=tJ r hfn (x1:=x1) (x2:=x2) tns (stR n D cs nm) (rows++[cj .own (dnR n D cs nm,stR n D cs nm)]) (some (.lst fn (iL nm))) h1 h2 (λm hm=>hg m (mem_cons_of_mem _ hm)) (by simp;omega);refine⟨y5,?_⟩;rw[iV];unfold oB;have ro:=uR r (f:=.bor) (.inl rfl) hfn hn hc (hg nm mem_cons_self);simp only[s0_,s1_];have em:aq (aN qL) (ae (ac 0) (ae (ac 3) (ae (ac 5) ao))) [some o,x1,x2,some (.lst .bor (iL cs)),none,some (.lst fn (iL nm))]=.ok (.tup [.lst .own (iL (dnR n D cs nm)),.lst .own (iL (stR n D cs nm))]):=by simp[r.le,r.tb,hfn.le,hfn.tb,ro,aA]
  rw[em];dsimp only;rw[if_neg (by simp;omega)];have eb:(PV.lst .own (iL (stR n D cs nm))).JX=.lst .bor (iL (stR n D cs nm)):=by simp
  rw[eb];have ih':=ih;unfold cj at ih';rw[ih'];simp[bD,cj]
def C_{rs:JK}{tns:List (JK)}{ft fi:Fl}(r:Rl o n sp al ip D)(ht:Fc ft.JW)(hi:Fc fi.JW)(hn:rs.length=n)(hg:∀nm∈tns,gR n al nm)(hl:tns.length<=1000):yP [o,.lst f (iL rs),.lst ft (llL fi tns)]=.ok (.lst .own ((bD n D (rs.map (· % sp)) tns).map (cj .own))):=by
 refine au ?_;show Aa [some o,some (.lst f (iL rs)),some (.lst ft (llL fi tns)),none,none,none]=_;unfold Aa;refine ag (aw (v:=.lst .own (iL (rs.map (· % sp)))) (by simp[r.le,r.tb,r.rd,jW r hn,aA])) ?_;simp only[s0_,s1_];refine ag (aw (v:=.lst .own []) (by simp)) ?_;simp only[s0_,s1_];refine ag (gD (v:=.lst ft (llL fi tns)) rfl) ?_;have efz:(PV.lst ft (llL fi tns)).J2 Fl.JW=.lst ft.JW (llL fi.JW tns):=by simp
 simp only[s0_,s1_,efz];generalize ft.JW=gt' at *;generalize fi.JW=gi at *;obtain⟨y5,e⟩:=tJ r hi (x1:=some (.lst f (iL rs))) (x2:=some (.lst gt' (llL gi tns))) tns (rs.map (· % sp)) [] none (by simpa using hn) (lZ r) hg (by simpa using hl);rw[List.nil_append]at e;have h1:Fl.JY gi=false:=by rcases hi with rfl|rfl<;>rfl
 have it:e9 (ac 2) [some o,some (.lst f (iL rs)),some (.lst gt' (llL gi tns)),some (.lst .own (iL (rs.map (· % sp)))),some (.lst .own []),none]=.ok (llL gi tns):=dJ (f:=gt') (by simp[ht.le,hi.le]) ht.nl (dO _ _ _ h1) (dO _ _ _ hi.nl);refine ag (e:=[some o,some (.lst f (iL rs)),some (.lst gt' (llL gi tns)),none,some (.lst .own ((bD n D (rs.map (· % sp)) tns).map (cj .own))),y5]) ?_ (dF rfl);unfold t5;rw[it];have eb:(PV.lst .own (iL (rs.map (· % sp)))).JX=.lst .bor (iL (rs.map (· % sp))):=by simp
 dsimp only[getElem?_cons_zero,getElem?_cons_succ,s0_,s1_];rw[eb];exact e
end
abbrev gY(f:Fl)(size span:Int):PV:=.obj f 9 [0,7,8] [.int size,.int span,.bl false]
theorem wN{size span:Int}(h1:2<=size)(h2:size<=20)(h3:size<=span):yN [.obj .own 9 [] [],.int size,.int span]=.ok (gY .own size span):=by
 refine cW (e:=[some (gY .own size span),some (.int size),some (.int span)]) ?_ rfl;show z7 [some (.obj .own 9 [] []),some (.int size),some (.int span)]=_;unfold z7;refine ag (bU (by simp[show ¬size<2 by omega,show ¬20<size by omega]) aD) ?_;refine ag (bU (by simp[show ¬span<size by omega]) aD) ?_;have ri:gL [.obj .own 9 [] [],.int size,.int span,.bl false]=.ok (gY .own size span):=by refine cW (e:=[some (gY .own size span),some (.int size),some (.int span),some (.bl false)]) ?_ rfl;show jd [some (.obj .own 9 [] []),some (.int size),some (.int span),some (.bl false)]=_;unfold jd;refine ag (bZ (v:=.int size) (ks:=[]) (vs:=[]) (by simp) rfl (by simp) rfl (by decide)) ?_;refine ag (bZ (v:=.int span) (ks:=[0]) (vs:=[.int size]) (by simp) rfl (by simp) rfl (by decide)) ?_;exact bZ (v:=.bl false) (ks:=[0,7]) (vs:=[.int size,.int span]) (by simp) rfl (by simp) rfl (by decide)
 have:=gU (env:=[some (.obj .own 9 [] []),some (.int size),some (.int span)]) (m:=gL) (ms:=ae (ac 1) (ae (ac 2) (ae (mC (.bl false)) ao))) (xs:=[.int size,.int span,.bl false]) rfl (by simp) (by simp) (by simpa using ri) (by simp[PV.has]);simpa using this
def fu(sp:Int)(cs:JK)(i:Nat):Int:=if i=0 then(if gt cs 0=gt cs (cs.length-1)then(gt cs 0+1)%sp else gt cs 0)else gt cs (i-1)
theorem Ba{n:Nat}{sp:Int}{cs:JK}{i:Nat}{fc:Fl}(hfc:Fc fc)(hn:cs.length=n)(hi:i<n)(hs:0<sp):yB [gY .bor n sp,.lst fc (iL cs),.int i]=.ok (.int (fu sp cs i)):=by
 refine au ?_;show zP [some (gY .bor n sp),some (.lst fc (iL cs)),some (.int i)]=_;unfold zP fu;by_cases h0:i=0
 .subst h0;rw[if_pos rfl];have g0:aK (.lst fc (iL cs)) (.int 0)=.ok (.int (gt cs 0)):=cZ () ();have gl:aK (.lst fc (iL cs)) (.int ((n:Int)-1))=.ok (.int (gt cs (cs.length-1))):=by rw[cZ () ()];congr 3;omega
  refine ag (bU (by simp) aD) ?_;by_cases hc:gt cs 0=gt cs (cs.length-1)
  .rw[if_pos hc];exact dB (jb (by simp[ap,a_,hfc.le,g0,gl,<- hc]) (a5 (by simp[ap,a_,hfc.le,g0,bF hs])))
  .rw[if_neg hc];exact ag (bU (by simp[ap,a_,hfc.le,g0,gl,hc]) aD) (a5 (by simp[hfc.le,g0]))
 .rw[if_neg h0];have gl:aK (.lst fc (iL cs)) (.int ((i:Int)-1))=.ok (.int (gt cs (i-1))):=by rw[cZ () ()];congr 3;omega
  exact dB (jb (by simp;omega) (a5 (by simp[hfc.le,gl])))
theorem BZ{n:Nat}{sp:Int}{cs:JK}{i:Nat}(hn:cs.length=n)(hc:InS sp cs)(hi:i<n)(hs:0<sp):0<=fu sp cs i/\fu sp cs i<sp:=by
 unfold fu;split
 .split
  .exact⟨emod_nonneg _ (),emod_lt_of_pos _ hs⟩
  .exact hc _ (cD ())
 .exact hc _ (cD ())
def oE{n:Nat}{sp:Int}(h1:1<=n)(h20:n<=20)(hs:0<sp):Rl (gY .bor n sp) n sp false true (fu sp) where
 le:=by simp
 tb:=by simp
 bo:=by simp
 a0:=by simp[ap,a_]
 a7:=by simp[ap,a_]
 a8:=by simp[ap,a_]
 s0:=hs
 n1:=h1
 n20:=h20
 due:=λfc cs k hfc hn hc hk=>⟨by simp[aI,hfc.tb,Ba hfc hn hk hs,aA],BZ hn hc hk hs⟩
 rd:=λr=>by simp[aE]
 mv:=λr=>by simp[av]
 tu:=λr=>by simp[aG]
 ca:=λr=>by simp[az]
theorem pZ{n:Nat}{ps:JH}(h1:1<=n)(h20:n<=20)(rg:∀x∈ps,0<=x.1/\x.1<n/\0<=x.2/\x.2<n/\x.1≠x.2)(hl:∀i,(nbL ps i).length<=1000):Rl (pnt .bor n ps) n n false false (mF ps) where
 le:=by simp
 tb:=by simp
 bo:=by simp
 a0:=by simp[ap,a_]
 a7:=by simp[ap,a_]
 a8:=by simp[ap,a_]
 s0:=by omega
 n1:=h1
 n20:=h20
 due:=λfc cs k hfc hn hc hk=>⟨by simp[aI,hfc.tb,Am rg hfc hl hn hk,aA],BY rg hk⟩
 rd:=λr=>by simp[aE]
 mv:=λr=>by simp[av]
 tu:=λr=>by simp[aG]
 ca:=λr=>by simp[az]
theorem p_{ps:JK}(hl:ps.length<=9):Rl (cnt .bor ps) (ps.length+1) ((ps.length:Int)+2) false false (o9 (ps.length+1) ps) where
 le:=by simp
 tb:=by simp
 bo:=by simp
 a0:=by simp[ap,a_]
 a7:=by simp[ap,a_]
 a8:=by simp[ap,a_]
 s0:=by omega
 n1:=by omega
 n20:=by omega
 due:=λfc cs k hfc hn hc hk=>by
  have sm:Sm cs:=λc hc'=>by have:=hc c hc';omega
  refine⟨by simp[aI,hfc.tb,B9 (i:=k) hfc hl sm hn,aA],?_⟩;have nn:=pO (cs:=cs) (l:=dN k 1 ps) λj hj=>by obtain⟨h1,h2,_⟩:=iW hj;exact(hc _ (cD (far:=cs) (i:=j.toNat) ())).1
  unfold o9;omega
 rd:=λr=>by simp[aE]
 mv:=λr=>by simp[av]
 tu:=λr=>by simp[aG]
 ca:=λr=>by simp[az]
theorem uq{n:Nat}{ps:JH}{os:List (JO)}{st tp:Int}{cs:JK}{i:Nat}(ht:0<=tp)(ho:OkS tp os)(hn:cs.length=n)(hnb:∀x∈nbL ps i,0<=x/\x<n)(hc:∀c∈cs,0<=c):0<=dX ps os st tp cs i/\dX ps os st tp cs i<=tp:=by
 unfold dX;obtain⟨m1,m2⟩:=fX (l:=iz ps st tp cs i ++(os.getD i none).toList++[tp]) (by simp);have h2:=m2 tp (by simp);generalize f_ (iz ps st tp cs i ++(os.getD i none).toList++[tp])=M at *;refine⟨?_,h2⟩;rcases mem_append.mp m1 with q|q
 .rcases mem_append.mp q with q|q
  .unfold iz at q;obtain⟨c,hc1,rfl⟩:=mem_map.mp q;obtain⟨o,ho1,rfl⟩:=mem_map.mp (mem_filter.mp hc1).1;have:=hnb o ho1;have:=hc _ (cD (far:=cs) (i:=o.toNat) ());omega
  .have e:os.getD i none=some M:=by
    cases eo:os.getD i none with
    |none=>rw[eo]at q;cases q
    |some s=>rw[eo]at q;exact congrArg some (List.mem_singleton.mp q).symm
   have hm:some M∈os:=by
    rw[getD_eq_getElem?_getD]at e;cases e2:os[i]? with
    |none=>rw[e2]at e;cases e
    |some x=>rw[e2]at e;rw[<- show x=some M from e];exact List.mem_of_getElem? e2
   exact(ho M hm).1
 .have:=List.mem_singleton.mp q;omega
theorem lO{cc n:Nat}{ps:JH}{os:List (JO)}{st tp:Int}(hcc:cc=5\/cc=6)(h1:1<=n)(h20:n<=20)(hst:0<st)(ht:0<=tp)(ho:OkS tp os)(hol:os.length=n)(hnb:∀i:Nat,∀x∈nbL ps i,0<=x/\x<n)(hl:∀i,(nbL ps i).length<=1000):Rl (lea .bor cc n ps os st tp) n (tp+1) true false (dX ps os st tp) where
 le:=by simp
 tb:=by simp
 bo:=by simp
 a0:=by simp[ap,a_]
 a7:=by simp[ap,a_]
 a8:=by simp[ap,a_]
 s0:=by omega
 n1:=h1
 n20:=h20
 due:=λfc cs k hfc hn hc hk=>by have d:=qC (cc:=cc) (ps:=ps) (os:=os) (st:=st) (tp:=tp) (cs:=cs) (i:=k) hfc (by rcases hcc with rfl|rfl<;>rfl) (hnb k) (hl k) hst hn hol hk;have b:=uq (st:=st) (i:=k) ht ho hn (hnb k) λc hc'=>(hc c hc').1;refine⟨?_,b.1,by omega⟩;rcases hcc with rfl|rfl<;>simp[aI,hfc.tb,d,aA]
 rd:=λr=>by rcases hcc with rfl|rfl<;>simp[aE]
 mv:=λr=>by rcases hcc with rfl|rfl<;>simp[av]
 tu:=λr=>by rcases hcc with rfl|rfl<;>simp[aG]
 ca:=λr=>by rcases hcc with rfl|rfl<;>simp[az]
theorem sK{n r:Nat}(h:1<=n):OkS n (fs n r):=λs hs=>by
 simp only[fs,mem_map,mem_range]at hs;obtain⟨i,_,e⟩:=hs;split at e
 .cases e;omega
 .cases e
theorem B1{n r:Nat}{ps:JH}{cs:JK}{i:Nat}(h1:1<=n)(hn:cs.length=n)(hi:i<n)(hnb:∀i:Nat,∀x∈nbL ps i,0<=x/\x<n)(hc:InS (((n:Int)+1)*((n:Int)+1)) cs):0<=kK n ps r cs i/\kK n ps r cs i <((n:Int)+1)*((n:Int)+1):=by
 have hfa:∀c∈FA n cs,0<=c:=λc hc'=>by obtain⟨x,hx,rfl⟩:=mem_map.mp hc';exact Int.ediv_nonneg (hc x hx).1 ()
 obtain⟨b1,b2⟩:=uq (ps:=ps) (os:=fs n r) (st:=n) (tp:=n) (cs:=FA n cs) (i:=i) () (sK h1) (show(FA n cs).length=n by simpa using hn) (hnb i) hfa;have c1:=sV hn i hi;have sn:0 <=(kF n ps r cs i).sum:=by
  have:∀l:JK,(∀x∈l,0<=x)->0<=l.sum:=λl=>by
   induction l with
   |nil=>simp
   |cons a l ih=>intro h;have:=ih λx hx=>h x (mem_cons_of_mem _ hx);have:=h a mem_cons_self;simp;omega
  exact this _ λx hx=>(l9 hn hx).1
 unfold kK dcn;generalize dX ps (fs n r) n n (FA n cs) i=d at *;have m1:0<=d*((n:Int)+1):=Int.mul_nonneg b1 ();have m2:d*((n:Int)+1)<= n*((n:Int)+1):=Int.mul_le_mul_of_nonneg_right b2 ();have m3:((n:Int)+1)*((n:Int)+1)=n*((n:Int)+1)+((n:Int)+1):=by rw[Int.add_mul,Int.one_mul]
 split<;>omega
theorem AO{n r:Nat}{ps:JH}(h1:1<=n)(h10:n<=10)(hnb:∀i:Nat,∀x∈nbL ps i,0<=x/\x<n)(hl:∀i:Nat,(nbL ps i).length<=1000):Rl (gro .bor n ps r) n (((n:Int)+1)*((n:Int)+1)) true false (kK n ps r) where
 le:=by simp
 tb:=by simp
 bo:=by simp
 a0:=by simp[ap,a_]
 a7:=by simp[ap,a_]
 a8:=by simp[ap,a_]
 s0:=Int.mul_pos () ()
 n1:=h1
 n20:=by omega
 due:=λfc cs k hfc hn hc hk=>⟨by simp[aI,hfc.tb,B0 (r:=r) hfc h1 h10 hnb hl hn hk,aA],B1 h1 hn hk hnb hc⟩
 rd:=λr=>by simp[aE]
 mv:=λr=>by simp[av]
 tu:=λr=>by simp[aG]
 ca:=λr=>by simp[az]
def Fc.tb2{f:Fl}(h:Fc f\/f=.own):Fc f.JV\/f.JV=.own:=by
 rcases h with(rfl|rfl)|rfl
 .exact .inl (.inl rfl)
 .exact .inl (.inr rfl)
 .exact .inr rfl
theorem fH{e:Nat}{b:Int}(h1:0<b)(h2:b<=1000)(he:e<=1000):k9 [.int b,.int e]=.ok (.int (b ^ e)):=by
 refine au ?_;show zf [some (.int b),some (.int e),none,none]=_;unfold zf;refine ag (aw (v:=.int 1) (by simp)) ?_;simp only[s0_,s1_];refine fB (λk en=>∃x,en=[some (.int b),some (.int e),some (.int (b ^ k)),x]) (bv (n:=e) (by simp) ()) ⟨none,by simp⟩ (λk x en hx hP=>?_) (λen hP=>?_)
 .obtain⟨y,rfl⟩:=hP;obtain⟨hk,rfl⟩:=da hx;have m1:ck (.int (b ^ k)) (.int b)=.ok (.int (b ^ k*b)):=cH (.inr ⟨by omega,by omega⟩);exact⟨_,cS rfl,bu (aw (v:=.int (b ^ (k+1))) (by simp[m1,Int.pow_succ])) ⟨_,rfl⟩⟩
 .obtain⟨y,rfl⟩:=hP;rw[aZ];exact dF rfl
theorem rD{n:Nat}(h:n<=10):(0:Int)<2 ^ n/\(2:Int) ^ n<=1024:=by
 refine⟨Int.pow_pos (by decide),?_⟩;rcases Nat.lt_or_ge n 10 with q|q
 .exact Int.le_of_lt (Int.pow_lt_pow_of_lt (c:=10) (by decide) q)
 .rw[show n=10 by omega];decide
section
variable{n:Nat}{D:JK->Nat->Int}{cs nm:JK}{i:Nat}
def Wl(rk:Nat->Nat)(n:Nat)(p:Nat->Bool):Int:=(((range n).filter p).map λi=>(2:Int) ^ rk i).sum
variable{rk:Nat->Nat}{p p':Nat->Bool}
theorem v5{f:Fl}(n10:n<=10)(hr:∀i,i<n->rk i<n):jZ (.lst f (iL (((range n).filter p).map λi=>(2:Int) ^ rk i)))=.ok (.int (Wl rk n p)):=by
 refine lh ?_ λx hx=>?_
 .rw[length_map];exact Nat.le_trans (length_filter_le _ _) (by simp;omega)
 .obtain⟨i,hi,rfl⟩:=mem_map.mp hx;have:=hr i (mem_range.mp (mem_filter.mp hi).1);have:=rD (n:=rk i) ();omega
abbrev mvB(D:JK->Nat->Int)(cs:JK)(i:Nat):Bool:=decide (D cs i≠gt cs i)
theorem qU{o:PV}{sp:Int}{al ip:Bool}{f:Fl}(r:Rl o n sp al ip D)(n10:n<=10)(hr:∀i:Nat,i<n->dG dz (.ok [.int i]) o=.ok (.int (rk i))/\rk i<n)(hf:Fc f\/f=.own)(hn:cs.length=n)(hc:InS sp cs):yj [o,.lst f (iL cs)]=.ok (.int (Wl rk n (mvB D cs))):=by
 refine au ?_;show Fr [some o,some (.lst f (iL cs))]=_;unfold Fr;have mo:=gJ r (.inl (Fc.call hf)) hn hc;have ml:=j6 (n:=n) (D:=D) (cs:=cs);refine a5 ?_ (by simp);simp only[eD,cr,c9];rw[aM (xs:=iL (mvR n D cs)) (ys:=iL (((range n).filter (mvB D cs)).map λi=>(2:Int) ^ rk i)) (by simp[r.le,r.tb,r.mv,mo,aA]) (by rw[ba];omega) ?_]
 .simp[p1,v5 n10 λi hi=>(hr i hi).2]
 .unfold mvR;rw[show ∀l:List Nat,iL (l.map λi:Nat=>(i:Int))=l.map λi:Nat=>PV.int i from λl=>by simp[iL],show ∀l:List Nat,iL (l.map λi=>(2:Int) ^ rk i)=l.map λi=>PV.int (2 ^ rk i)from λl=>by simp[iL]];refine bp (a:=λi:Nat=>PV.int i) (f:=λi=>PV.int (2 ^ rk i)) _ λx hx=>⟨[some o,some (.int x)],by simp[tgN,aO,bQ,r.bo],?_,by simp,by simp⟩
  have hx:=hr x (mem_range.mp (mem_filter.mp hx).1);have pw:=fH (e:=rk x) (b:=2) (by decide) (by decide) ();simp[r.le,hx.1,pw,aA]
end
def num(b:Int)(r f:Nat->Nat):Nat->Int
 |0=>0
 |m+1=>(num b r f m*b+r m)*b+f m
def uS(n:Nat)(A x:Nat->Int)(m:Nat):Nat:=((range n).filter λi=>decide (x i=m)&&decide ((m:Int)<A i)).length
def vF(n:Nat)(A x:Nat->Int)(m:Nat):Nat:=((range n).filter λi=>decide ((m:Int)<x i)&&decide (A i=m)).length
def sM{n:Nat}{p:Nat->Bool}:((range n).filter p).length<=n:=by
 have:=length_filter_le p (range n)
 rwa [length_range]at this
def mL(n T:Nat)(A x:Nat->Int):Int:=num ((n:Int)+1) (uS n A x) (vF n A x) T
def pH(f g:Nat->Int):∀l:List Nat,iD (iL (l.map f)) (iL (l.map g))=l.map λi=>prV (f i,g i)
 | []=>rfl
 |i::l=>by have:=pH f g l;simp only[iL,map_cons,iD]at this ⊢;rw[this];rfl
theorem qA{cc n:Nat}{ps:JH}{os:List (JO)}{st:Int}{T:Nat}{D:Nat->Int}{cs:JK}{fc:Fl}(hf:Fc fc\/fc=.own)(hd:∀f k,Fc f->k<n->dG aI (.ok [.lst f (iL cs),.int k]) (lea .bor cc n ps os st T)=.ok (.int (D k)))(hn:cs.length=n)(n10:n<=10)(hT:T<=1000) :
  sN [lea .bor cc n ps os st T,.lst fc (iL cs)]=.ok (.int (mL n T D (gt cs))):=by
 have fb:=Fc.of hf;refine au ?_;show Ft [some (lea .bor cc n ps os st T),some (.lst fc (iL cs)),none,none,none,none,none,none]=_;unfold Ft mL;refine ag (aw (v:=.lst .own (iL ((range n).map D))) ?_) ?_
 .refine aM (xs:=cG 0 n) (bv (n:=n) (by simp[ap,a_]) ()) (by rw[aZ];omega) (kO 0 D n λk hk=>⟨[some (lea .bor cc n ps os st T),some (.lst fc.JX (iL cs)),some (.int (0+k))],by simp[tgN,aO,bQ],?_⟩);have:=hd _ k fb hk;simp[fb.le,this]
 simp only[s0_,s1_];refine ag (aw (v:=.int ((n:Int)+1)) (by simp[ap,a_])) ?_;simp only[s0_,s1_];refine ag (aw (v:=.int 0) (by simp)) ?_;simp only[s0_,s1_];have zp:iD (iL cs) (iL ((range n).map D))=(range n).map λi=>prV (gt cs i,D i):=by have:=pH (gt cs) D (range n);rw[<- hn,gtR]at this;rw[<- hn];exact this
 refine fB (λk e=>∃x5 x6 x7,e=[some (lea .bor cc n ps os st T),some (.lst fc (iL cs)),some (.lst .own (iL ((range n).map D))),some (.int ((n:Int)+1)),some (.int (num ((n:Int)+1) (uS n D (gt cs)) (vF n D (gt cs)) k)),x5,x6,x7]) (bv (n:=T) (by simp[ap,a_]) ()) ⟨_,_,_,rfl⟩ (λk x e hx hP=>?_) (λe hP=>?_)
 .obtain⟨x5,x6,x7,rfl⟩:=hP;obtain⟨hk,rfl⟩:=da hx;generalize hN:num ((n:Int)+1) (uS n D (gt cs)) (vF n D (gt cs)) k=N;have mz:∀x6 x7,j9 (ae (ac 1) (ae (ac 2) ao)) [some (lea .bor cc n ps os st T),some (.lst fc (iL cs)),some (.lst .own (iL ((range n).map D))),some (.int ((n:Int)+1)),some (.int N),some (.int k),x6,x7]=.ok ((range n).map λi=>prV (gt cs i,D i)):=λx6 x7=>by unfold j9;simp only[cr,dH,c9,getElem?_cons_zero,getElem?_cons_succ,Bd];simp[eO,zp]
  have row:∀(p:Nat->Bool) (mc:MT) (x6 x7:Option PV),(∀i,mc [some (.int k),some (.int (gt cs i)),some (.int (D i))]=.ok (p i))->aV [5] 2 (j9 (ae (ac 1) (ae (ac 2) ao))) (tgT 2 (bf (tgN 1) (bf (tgN 2) dZ))) mc (ac 1) [some (lea .bor cc n ps os st T),some (.lst fc (iL cs)),some (.lst .own (iL ((range n).map D))),some (.int ((n:Int)+1)),some (.int N),some (.int k),x6,x7]=.ok (.lst .own (iL (((range n).filter p).map (gt cs)))):=λp mc x6 x7 hp=>by rw[show iL (((range n).filter p).map (gt cs))=((range n).filter p).map λi=>PV.int (gt cs i) by simp[iL]];exact aM (mz _ _) (by simp;omega) (cN (a:=λi=>prV (gt cs i,D i)) (f:=λi=>.int (gt cs i)) (p:=p) (range n) λi hi=>⟨[some (.int k),some (.int (gt cs i)),some (.int (D i))],rfl,hp i,λ_=>⟨by simp,rfl,rfl⟩⟩)
  refine⟨_,cS rfl,?_⟩;simp only[s0_,s1_,Int.zero_add];refine b8 (aw (v:=.lst .own (iL (((range n).filter λi=>decide (gt cs i=k)&&decide ((k:Int)<D i)).map (gt cs)))) (row _ _ _ _ λi=>by by_cases q:gt cs i=k<;>simp[q])) ?_;simp only[s0_,s1_];refine b8 (aw (v:=.lst .own (iL (((range n).filter λi=>decide ((k:Int)<gt cs i)&&decide (D i=k)).map (gt cs)))) (row _ _ _ _ λi=>by by_cases q:(k:Int)<gt cs i<;>simp[q])) ?_;simp only[s0_,s1_];have m1:∀x:Int,ck (.int x) (.int ((n:Int)+1))=.ok (.int (x*((n:Int)+1))):=λx=>cH (.inr ⟨by omega,by omega⟩);exact bu (aw (v:=.int ((N*((n:Int)+1)+uS n D (gt cs) k)*((n:Int)+1)+vF n D (gt cs) k)) (by simp[m1,p1,cX,a6,uS,vF])) ⟨_,_,_,by subst hN;rfl⟩
 .obtain⟨x5,x6,x7,rfl⟩:=hP;rw[aZ];exact dF rfl
abbrev mT(n:Nat)(ps:JH)(os:List (JO))(st:Int)(T:Nat)(cs:JK):Int:=mL n T (dX ps os st T cs) (gt cs)
theorem i3{p q:Nat->Bool}:∀(l:List Nat) (i:Nat),i∈l->(∀j∈l,q j=true->p j=true)->p i=true->q i=false->(l.filter q).length <(l.filter p).length
 | [],_,h,_,_,_=>nomatch h
 |a::l,i,h,hs,hp,hq=>by
  have le:∀l:List Nat,(∀j∈l,q j=true->p j=true)->(l.filter q).length <=(l.filter p).length:=λl hl=>by
   induction l with
   |nil=>simp
   |cons b l ih=>have:=ih λj hj=>hl j (mem_cons_of_mem _ hj);have hb:=hl b mem_cons_self;rw[filter_cons,filter_cons];cases e1:q b<;>cases e2:p b<;>simp_all<;>omega
  rw[filter_cons,filter_cons];rcases mem_cons.mp h with rfl|h
  .have:=le l λj hj=>hs j (mem_cons_of_mem _ hj);rw[hp,hq];simp;omega
  .have ih:=i3 l i h (λj hj=>hs j (mem_cons_of_mem _ hj)) hp hq;have ha:=hs a mem_cons_self;cases e1:q a<;>cases e2:p a<;>simp_all<;>omega
def ltF(fa:JK)(j i:Nat):Bool:=decide (gt fa j<gt fa i) ||(decide (gt fa j=gt fa i)&&decide (j<i))
def rnk(n:Nat)(fa:JK)(i:Nat):Nat:=((range n).filter λj=>ltF fa j i).length
section
variable{n:Nat}{ps:JH}{r:Nat}{cs fa:JK}{i j:Nat}{fc:Fl}
theorem AT(hn:fa.length=n)(n10:n<=10)(hi:i<n):yz [.lst .bor (iL fa),.int i]=.ok (.int (rnk n fa i)):=by
 refine au ?_;show zI [some (.lst .bor (iL fa)),some (.int i),none]=_;unfold zI;refine ag (aw (v:=.lst .own (iL (((range n).filter λj=>ltF fa j i).map λj:Nat=>(j:Int)))) ?_) ?_
 .refine aM (xs:=cG 0 n) (bv (n:=n) (by simp[p1,cX,a6,hn]) ()) (by rw[aZ];omega) (dA (λj=>ltF fa j i) (λj:Nat=>(j:Int)) n λk hk=>⟨[some (.lst .bor (iL fa)),some (.int i),some (.int (0+k))],by simp[tgN,aO,bQ,Fl.JX],?_,λ_=>by simp⟩);have a1:∀(f:Fl) (k:Nat),k<n->aK (.lst f (iL fa)) (.int (k:Int))=.ok (.int (gt fa k)):=λf k hk=>by simpa using cZ (f:=f) (cs:=fa) (i:=k) () ()
  have e:HT.lexLt [gt fa k,(k:Int)] [gt fa i,(i:Int)]=ltF fa k i:=by
   simp only[HT.lexLt,ltF];by_cases h:gt fa k=gt fa i
   .rw[if_pos h];by_cases h2:k=i
    .subst h2;simp
    .rw[if_neg ()];simp[h]
   .rw[if_neg h];simp[h]
  rw[<- e];simp[a1 _ k hk,a1 _ i hi,w5,bX]
 simp only[s0_,s1_];exact a5 (by simp[p1,cX,a6,rnk]) (by simp)
def oC(hi:i<n):rnk n fa i<n:=by
 have:=i3 (p:=λ_=>true) (q:=λj=>ltF fa j i) (range n) i (mem_range.mpr hi) (λ_ _ _=>rfl) rfl (by simp[ltF])
 rwa [List.filter_eq_self.mpr (λ_ _=>rfl),length_range]at this
abbrev wrg(n:Nat)(ps:JH)(r:Nat)(cs:JK)(i:Nat):Bool:=decide (gt (CN n cs) i≠dcn n ps r cs i)
theorem yb{M:Int}(hf:Fc fc\/fc=.own)(n10:n<=10)(hnb:∀i:Nat,∀x∈nbL ps i,0<=x/\x<n)(hl:∀i:Nat,(nbL ps i).length<=1000)(hn:cs.length=n)
  (hM:sN [lea .bor 5 n ps (fs n r) n n,.lst .bor (iL (FA n cs))]=.ok (.int M)):EO [gro .bor n ps r,.lst fc (iL cs)]=.ok (.int (M*2 ^ n+Wl (rnk n (FA n cs)) n (wrg n ps r cs))):=by
 refine au ?_;show Fq [some (gro .bor n ps r),some (.lst fc (iL cs)),none,none,none,none]=_;unfold Fq;have fo:=o7 (ps:=ps) (r:=r) (Fc.call hf) n10 hn;have co:=kN (ps:=ps) (r:=r) (Fc.call hf) n10 hn;have fb:=Fc.of hf;have fl:(FA n cs).length=n:=by simpa using hn
 refine ag (aw (v:=.lst .own (iL (FA n cs))) (by simp[dY,fo,aA])) ?_;simp only[s0_,s1_];refine ag (aw (v:=.lst .own (iL (CN n cs))) (by simp[c_,co,aA])) ?_;simp only[s0_,s1_];refine ag (aw (v:=.lst .own (iL (((range n).filter (wrg n ps r cs)).map λj:Nat=>(j:Int)))) ?_) ?_
 .refine aM (xs:=cG 0 n) (bv (n:=n) (by simp[ap,a_]) ()) (by rw[aZ];omega) (dA (wrg n ps r cs) (λj:Nat=>(j:Int)) n λk hk=>⟨[some (.lst .bor (iL (CN n cs))),some (gro .bor n ps r),some (.lst fc.JX (iL cs)),some (.int (0+k))],by simp[tgN,aO,bQ,Fl.JX],?_,λ_=>by simp⟩);have a1:∀f,aK (.lst f (iL (CN n cs))) (.int (k:Int))=.ok (.int (gt (CN n cs) k)):=λf=>by simpa using cZ (f:=f) (cs:=CN n cs) (i:=k) () (by simp;omega)
  have dc:=y0 (ps:=ps) (r:=r) (i:=k) fb n10 hnb hl hn;generalize fc.JX=g at fb dc ⊢;simp[a1,de,fb.le,fb.tb,dc,aA]
 simp only[s0_,s1_];refine ag (aw (v:=.lst .own (iL (((range n).filter (wrg n ps r cs)).map λi=>(2:Int) ^ rnk n (FA n cs) i))) ?_) ?_
 .rw[show ∀l:List Nat,iL (l.map λi=>(2:Int) ^ rnk n (FA n cs) i)=l.map λi=>PV.int (2 ^ rnk n (FA n cs) i)from λl=>by simp[iL]];have hx:∀l:List Nat,iL (l.map λj:Nat=>(j:Int))=l.map λj:Nat=>PV.int (j:Int):=λl=>by simp[iL]
  refine aM (xs:=((range n).filter (wrg n ps r cs)).map λj:Nat=>PV.int (j:Int)) (by rw[<- hx];simp) (by have:=sM (n:=n) (p:=wrg n ps r cs);rw[length_map];omega) (bp (a:=λj:Nat=>PV.int (j:Int)) (f:=λi=>PV.int ((2:Int) ^ rnk n (FA n cs) i)) _ λk hk=>⟨[some (.lst .bor (iL (FA n cs))),some (.int k)],by simp[tgN,aO,bQ,Fl.JX],?_,by simp,by simp⟩);have hk:=mem_range.mp (mem_filter.mp hk).1;have rl:=oC (fa:=FA n cs) hk;have pw:=fH (e:=rnk n (FA n cs) k) (b:=2) (by decide) (by decide) ();simp[AT fl n10 hk,pw,aA,Fl.JU,Fl.JV]
 simp only[s0_,s1_];have pn:=fH (e:=n) (b:=2) (by decide) (by decide) ();have p2:=rD n10;have mu:ck (.int M) (.int (2 ^ n))=.ok (.int (M*2 ^ n)):=cH (.inr ⟨by omega,by omega⟩);have sm:=λf=>v5 (f:=f) (p:=wrg n ps r cs) n10 λi hi=>oC (fa:=FA n cs) hi;generalize((range n).filter (wrg n ps r cs)).map (λi=>(2:Int) ^ rnk n (FA n cs) i)=WS at *;generalize(2:Int) ^ n=PN at *;exact a5 (by simp[ap,a_,gE,hM,pn,mu,p1,sm,aA]) (by simp)
end
def oj(cs:JK):Prop:=∃j i,j<i/\i<cs.length/\gt cs j≠gt cs 0/\gt cs i=gt cs 0
def IsJ(sp:Int)(cs:JK)(J:Nat):Prop:=(¬oj cs/\J=0)\/(oj cs/\1<=J/\J<cs.length/\(gt cs 0+J)%sp∉cs.drop 1/\∀s:Nat,1<=s->s<J->(gt cs 0+s)%sp∈cs.drop 1)
theorem qR{c sp:Int}{a b:Nat}(h:(c+a)%sp=(c+b)%sp)(ha:(a:Int)<sp)(hb:(b:Int)<sp):a=b:=by
 have h1:((c+a)-(c+b))%sp=0:=Int.emod_eq_emod_iff_emod_sub_eq_zero.mp h;rw[show(c+(a:Int))-(c+b)=(a:Int)-b by omega]at h1;obtain⟨k,hk⟩:=Int.dvd_of_emod_eq_zero h1;rcases Int.lt_trichotomy k 0 with q|q|q
 .have:sp*k<=sp*(-1):=Int.mul_le_mul_of_nonneg_left () ();omega
 .subst q;omega
 .have:sp*1<=sp*k:=Int.mul_le_mul_of_nonneg_left () ();omega
section
variable{sp:Int}{cs nm:JK}{n:Nat}
theorem yf(hs:(cs.length:Int)<= sp)(hc:0<=gt cs 0/\gt cs 0<sp)(h:oj cs):∃s:Nat,1<=s/\s<cs.length/\(gt cs 0+s)%sp∉cs.drop 1:=by
 apply Classical.byContradiction;intro no;obtain⟨j,i,h1,h2,h3,e⟩:=h;have nd:((range cs.length).map λs:Nat=>(gt cs 0+s)%sp).Nodup:=by rw[Nodup,List.pairwise_map];refine Pairwise.imp_of_mem (λ{a b} ha hb hab z=>?_) (nodup_range (n:=cs.length));have ha':=mem_range.mp ha;have hb':=mem_range.mp hb;exact hab (qR z () ())
 have le:=nL (l':=cs.drop 1) nd λx hx=>by
  obtain⟨s,hs',rfl⟩:=mem_map.mp hx;have hs2:=mem_range.mp hs';by_cases q:s=0
  .subst q;refine kY.mpr ⟨i,by omega,h2,?_⟩;rw[e,show gt cs 0+((0:Nat):Int)=gt cs 0 by omega,emod_eq_of_lt hc.1 hc.2]
  .exact Classical.byContradiction λz=>no ⟨s,by omega,hs2,z⟩
 simp at le;omega
theorem wc{fc:Fl}(hfc:Fc fc)(h1:1<=cs.length)(h2:cs.length<=1000)(hs:(cs.length:Int)<= sp)(hc:0<=gt cs 0/\gt cs 0<sp):∃J:Nat,EK [.lst fc (iL cs),.int sp]=.ok (.int J)/\IsJ sp cs J:=by
 have g0:aK (.lst fc (iL cs)) (.int 0)=.ok (.int (gt cs 0)):=cZ () ();have bg:∃b:Nat,yq [.lst fc (iL cs)]=.ok (.int b)/\b<=cs.length/\(gt cs 0∈cs.drop b↔oj cs):=by
  suffices hh:jM (zr [some (.lst fc (iL cs)),none]) (λv=>∃b:Nat,v=.int b/\b<=cs.length/\(gt cs 0∈cs.drop b↔oj cs)) by obtain⟨v,h3,b,rfl,h4⟩:=hh;exact⟨b,au h3,h4⟩
  unfold zr;refine bY (aw (v:=.int 1) (by simp)) ?_;simp only[s0_,s1_];refine lP (Fin:=λe=>∃b:Nat,e=[some (.lst fc (iL cs)),some (.int b)]/\b<=cs.length/\(∀i,i<b->gt cs i=gt cs 0)/\(b<cs.length->gt cs b≠gt cs 0)) (λm e=>∃b:Nat,e=[some (.lst fc (iL cs)),some (.int b)]/\m=cs.length-b/\b<=cs.length/\∀i,i<b->gt cs i=gt cs 0) (cs.length-1) () ⟨1,rfl,rfl,h1,λi hi=>by rw[show i=0 by omega]⟩ (λm e hP=>?_) λe hF=>?_
  .obtain⟨b,rfl,rfl,b2,al⟩:=hP;by_cases q:b<cs.length
   .have gb:aK (.lst fc (iL cs)) (.int (b:Int))=.ok (.int (gt cs b)):=by simpa using cZ (f:=fc) (cs:=cs) (i:=b) () ()
    by_cases q2:gt cs b=gt cs 0
    .refine .inr ⟨by simp[p1,cX,a6,hfc.le,g0,gb,q2];omega,cs.length-(b+1),[some (.lst fc (iL cs)),some (.int (b+1:Nat))],by omega,.inl (aw (v:=.int ((b+1:Nat):Int)) (by simp)),b+1,rfl,rfl,by omega,λi hi=>?_⟩;by_cases z:i=b
     .rw[z];exact q2
     .exact al i ()
    .exact .inl ⟨by simp[p1,cX,a6,hfc.le,g0,gb,q2],b,rfl,b2,al,λ_=>q2⟩
   .exact .inl ⟨by simp[p1,cX,a6];omega,b,rfl,b2,al,λz=>absurd z q⟩
  .obtain⟨b,rfl,hb,al,nx⟩:=hF;refine dg (dF rfl) ⟨b,rfl,hb,?_⟩;rw[kY];constructor
   .rintro⟨i,h1,h2,e⟩;have hb:=nx ();refine⟨b,i,?_,h2,hb,e⟩;rcases Nat.lt_or_eq_of_le h1 with q|q
    .exact q
    .subst q;exact absurd e hb
   .rintro⟨j,i,h1,h2,h3,e⟩;have:¬j<b:=λz=>h3 (al j z);exact⟨i,by omega,h2,e⟩
 obtain⟨b,e1,bl,B⟩:=bg
 suffices hh:jM (Fk [some (.lst fc (iL cs)),some (.int sp),none]) (λv=>∃J:Nat,v=.int J/\IsJ sp cs J) by obtain⟨v,h3,J,rfl,h4⟩:=hh;exact⟨J,au h3,h4⟩
 unfold Fk;have cb:i_ (iL cs) (some (b:Int)) none=iL (cs.drop b):=kM cs b bl;have c1:i_ (iL cs) (some 1) none=iL (cs.drop 1):=kM cs 1 h1;have sp0:0<sp:=by omega
 by_cases st:oj cs
 .have hm:=B.mpr st;refine bY (bU (by simp only[jl,gj,f6,ij,gM,dH,qO,eD,cr,c9];simp[hfc.le,hfc.tb,g0,e1,aA,cb];exact hm) aD) ?_;refine bY (aw (v:=.int 1) (by simp)) ?_;simp only[s0_,s1_];obtain⟨s0,f1,f2,f3⟩:=yf hs hc st;refine lP (Fin:=λe=>∃J:Nat,e=[some (.lst fc (iL cs)),some (.int sp),some (.int J)]/\IsJ sp cs J) (λm e=>∃s:Nat,e=[some (.lst fc (iL cs)),some (.int sp),some (.int s)]/\m=s0-s/\1<=s/\s<=s0/\∀t:Nat,1<=t->t<s->(gt cs 0+t)%sp∈cs.drop 1) (s0-1) () ⟨1,rfl,rfl,by omega,f1,λt a b=>by omega⟩ (λm e hP=>?_) λe hF=>?_
  .obtain⟨s,rfl,rfl,b1,b2,al⟩:=hP;have tst:aB (mOp pIn (mOp cK (mOp aP (mOp aK (ac 0) (J5 0)) (ac 2)) (ac 1)) (fq (ac 0) (gh (J5 1)) fE)) [some (.lst fc (iL cs)),some (.int sp),some (.int s)]=.ok (decide ((gt cs 0+s)%sp∈cs.drop 1)):=by simp only[jl,gj,f6,ij,gM,dH,qO];simp[hfc.le,g0,c1,bF sp0]
   by_cases q:(gt cs 0+s)%sp∈cs.drop 1
   .have ns:s≠s0:=λz=>f3 (by rw[<- z];exact q);refine .inr ⟨by rw[tst,decide_eq_true q],s0-(s+1),[some (.lst fc (iL cs)),some (.int sp),some (.int (s+1:Nat))],by omega,.inl (aw (v:=.int ((s+1:Nat):Int)) (by simp)),s+1,rfl,rfl,by omega,by omega,λt t1 t2=>?_⟩;by_cases z:t=s
    .rw[z];exact q
    .exact al t t1 ()
   .exact .inl ⟨by rw[tst,decide_eq_false q],s,rfl,.inr ⟨st,b1,by omega,q,al⟩⟩
  .obtain⟨J,rfl,hJ⟩:=hF;exact dg (dF rfl) ⟨J,rfl,hJ⟩
 .have hm:gt cs 0∉cs.drop b:=λz=>st (B.mp z);exact lQ (by simp only[jl,gj,f6,ij,gM,dH,qO,eD,cr,c9];simp[hfc.le,hfc.tb,g0,e1,aA,cb];exact hm) (dg (v:=.int ((0:Nat):Int)) (a5 (by simp)) ⟨0,rfl,.inl ⟨st,rfl⟩⟩)
def FE{J J':Nat}(h:IsJ sp cs J)(h':IsJ sp cs J'):J=J':=by
 rcases h with⟨s,rfl⟩ |⟨s,a1,a2,a3,a4⟩<;>rcases h' with⟨s',rfl⟩ |⟨s',b1,b2,b3,b4⟩
 .rfl
 .exact absurd s' s
 .exact absurd s s'
 .rcases Nat.lt_trichotomy J J' with q|q|q
  .exact absurd (b4 J a1 q) a3
  .exact q
  .exact absurd (a4 J' b1 q) b3
end
section
variable{n:Nat}{rk:Nat->Nat}{p:Nat->Bool}
theorem oG:∀(n:Nat) (l:List Nat),l.Nodup->(∀x∈l,x<n)->(l.map λx=>2 ^ x).sum<2 ^ n
 |0,l,_,h=>by
  cases l with
  |nil=>decide
  |cons x l=>exact absurd (h x mem_cons_self) ()
 |n+1,l,nd,h=>by
  rw[Nat.pow_succ];by_cases q:n∈l
  .have p:=List.perm_cons_erase q;rw[(p.map λx=>2 ^ x).sum_nat,map_cons,sum_cons];have nd':=nodup_cons.mp (p.nodup_iff.mp nd);have:=oG n (l.erase n) nd'.2 λx hx=>by have h1:=h x (List.mem_of_mem_erase hx);have h2:x≠n:=λe=>nd'.1 (e▸hx);omega
   omega
  .have:=oG n l nd λx hx=>by have h1:=h x hx;have h2:x≠n:=λe=>q (e▸hx);omega
   omega
theorem m_:∀l:List Nat,((l.sum:Nat):Int)=(l.map λx:Nat=>(x:Int)).sum
 | []=>by simp
 |x::l=>by have:=m_ l;simp only[map_cons,sum_cons];omega
theorem v6{K:Nat}(inj:∀i j,i<n->j<n->rk i=rk j->i=j)(hk:∀i,i<n->p i=true->rk i<K):0<=Wl rk n p/\Wl rk n p<2 ^ K:=by
 have mm:∀i ∈(range n).filter p,i<n/\p i=true:=λi hi=>⟨mem_range.mp (mem_filter.mp hi).1,(mem_filter.mp hi).2⟩
 have nd:(((range n).filter p).map rk).Nodup:=by rw[Nodup,List.pairwise_map];exact Pairwise.imp_of_mem (λ{a b} ha hb hab e=>hab (inj a b (mm a ha).1 (mm b hb).1 e)) (nodup_range.filter _)
 have b:=oG K (((range n).filter p).map rk) nd λx hx=>by obtain⟨i,hi,rfl⟩:=mem_map.mp hx;exact hk i (mm i hi).1 (mm i hi).2
 have e:Wl rk n p=(((((range n).filter p).map rk).map λx=>2 ^ x).sum:Nat):=by rw[m_];unfold Wl;congr 1;simp[map_map,Function.comp_def]
 rw[e];exact⟨by omega,by exact_mod_cast b⟩
end
theorem sH{b x' x r' r:Int}(hb:0<b)(h:x'<x)(h1:r'<b)(h2:0<=r):x'*b+r'<x*b+r:=by have:(x'+1)*b<=x*b:=Int.mul_le_mul_of_nonneg_right () ();rw[Int.add_mul,Int.one_mul]at this;omega
def qT{o:PV}{n:Nat}(le:o.J2 Fl.JU=o)(a0:ap 0 o=.ok (.int n))(n10:n<=10):qN [o]=.ok (.int (2 ^ n-1)):=by have pn:=fH (e:=n) (b:=2) (by decide) (by decide) ();refine au ?_;show zT [some o]=_;unfold zT;exact a5 (by simp[le,a0,pn,aA]) (by simp)
theorem xu{b:Int}{r f:Nat->Nat}(hb:0<b)(hr:∀m,(r m:Int)<b)(hf:∀m,(f m:Int)<b):∀t,0<=num b r f t/\num b r f t<b ^ (2*t)
 |0=>by simp[num]
 |t+1=>by
  obtain⟨h1,h2⟩:=xu hb hr hf t;have e:b ^ (2*(t+1))=b ^ (2*t)*b*b:=by rw[show 2*(t+1)=2*t+1+1 by omega,Int.pow_succ,Int.pow_succ]
  have a:=sH (b:=b) (r:=0) hb h2 (hr t) ();have c:=sH (b:=b) (r:=0) hb a (hf t) ();have p1:=Int.mul_nonneg h1 (show 0<=b by omega);have p2:=Int.mul_nonneg (show 0<=num b r f t*b+r t by omega) (show 0<=b by omega);simp only[num];rw[e];simp only[Int.add_zero]at a c;exact⟨by omega,c⟩
theorem Cu{n T:Nat}{A x:Nat->Int}:0<=mL n T A x/\mL n T A x <((n:Int)+1) ^ (2*T):=xu () (λm=>by have:=sM (n:=n) (p:=λi=>decide (x i=m)&&decide ((m:Int)<A i));unfold uS;omega) (λm=>by have:=sM (n:=n) (p:=λi=>decide ((m:Int)<x i)&&decide (A i=m));unfold vF;omega) T
theorem qz{cc n T:Nat}{ps:JH}{os:List (JO)}{st:Int}{f:Fl}(hf:Fc f)(n10:n<=10)(hT:T<=100):vI [lea f cc n ps os st T]=.ok (.int (((n:Int)+1) ^ (2*T)-1)):=by have pn:=fH (e:=2*T) (b:=(n:Int)+1) () () ();rw[show((2*T:Nat):Int)=2*(T:Int) by omega]at pn;have mu:ck (.int 2) (.int (T:Int))=.ok (.int (2*(T:Int))):=cH (.inl ⟨by decide,by decide⟩);refine au ?_;show Fm [some (lea f cc n ps os st T)]=_;unfold Fm;exact a5 (by simp[ap,a_,pn,mu,aA]) (by simp)
section
variable{n:Nat}{sp:Int}{cs nm:JK}
def bc(cs:JK):Nat->Int
 |0=>0
 |j+1=>bc cs j+if gt cs j=gt cs (j+1)then 0 else 1
def bS(cs:JK):Nat->Int
 |0=>0
 |m+1=>bS cs m+bc cs m
theorem sW{c:Int}:∀m,((((range (m+1)).filter λi=>decide (fu sp cs i≠gt cs i)).filter λi=>decide (i≠0)).map λi:Nat=>c-i).sum=bS cs (m+1)+(c-1-m)*bc cs m
 |0=>by simp only[List.filter_filter];simp[bS,bc,range_succ]
 |m+1=>by
  have ih:=sW (c:=c) m;have d:fu sp cs (m+1)=gt cs m:=rfl;rw[range_succ,List.filter_append,List.filter_append,map_append,sum_append,ih];have e:c-1-(m:Int)=(c-1-((m+1:Nat):Int))+1:=by omega
  simp only[bS,bc];generalize bc cs m=x;by_cases q:gt cs m=gt cs (m+1)
  .simp[d,q,e,Int.add_mul];omega
  .simp[d,q,e,Int.add_mul,Int.mul_add];omega
theorem CL:∀m,(0<=bc cs m/\bc cs m<=m)/\0<=bS cs m/\2*bS cs m<=m*((m:Int)-1)
 |0=>by simp[bc,bS]
 |m+1=>by
  obtain⟨⟨h1,h2⟩,h3,h4⟩:=CL m;have e:((m+1:Nat):Int)*(((m+1:Nat):Int)-1)=m*((m:Int)-1)+2*m:=by rw[show((m+1:Nat):Int)-1=m by omega,show((m+1:Nat):Int)=m+1 by omega,Int.add_mul,Int.mul_sub];omega
  simp only[bc,bS];refine⟨by split<;>omega,by omega,?_⟩;rw[e];omega
theorem qj(n20:n<=20):yF [gY .bor n sp]=.ok (.int (3*n*((n:Int)-1) / 2)):=by refine au ?_;show zU [some (gY .bor n sp)]=_;unfold zU;have m1:ck (.int 3) (.int (n:Int))=.ok (.int (3*n)):=cH (.inl ⟨by decide,by decide⟩);have m2:ck (.int (3*(n:Int))) (.int ((n:Int)-1))=.ok (.int (3*n*((n:Int)-1))):=cH (.inl ⟨by omega,by omega⟩);have d2:dC (.int (3*(n:Int)*((n:Int)-1))) (.int 2)=.ok (.int (3*n*((n:Int)-1) / 2)):=eE (by decide) (by decide);exact a5 (by simp[ap,a_,m1,m2,d2]) (by simp)
theorem Ap{b sp:Int}(h:0<=b/\b<sp)(h2:2<=sp):(b+1)%sp≠b/\0 <=(b+1)%sp/\(b+1)%sp<sp:=by
 refine⟨?_,emod_nonneg _ (),emod_lt_of_pos _ ()⟩;by_cases q:b+1<sp
 .rw[emod_eq_of_lt () q];omega
 .rw[show b+1=sp by omega,Int.emod_self];omega
structure Cs(n:Nat)(sp:Int)(cs:JK)(p:Nat)(a b:Int):Prop where
 len:cs.length=n
 pn:p<n
 lo:∀i,i<p->gt cs i=a
 hi:∀i,p<=i->i<n->gt cs i=b
 ra:0<=a/\a<sp
 rb:0<=b/\b<sp
 ne:p≠0->a≠b
theorem Cs.due{n:Nat}{sp:Int}{cs:JK}{p:Nat}{a b:Int}(h:Cs n sp cs p a b)(h2:2<=sp):∀i<n,(fu sp cs i≠gt cs i↔i=p):=λi hi=>by
 have hl:=h.len;have hp:=h.pn;unfold fu;by_cases h0:i=0
 .subst h0;rw[if_pos rfl];by_cases p0:p=0
  .subst p0;have g0:=h.hi 0 () ();have gl:=h.hi (cs.length-1) () ();rw[if_pos (g0.trans gl.symm),g0];simp[(Ap h.rb h2).1]
  .have g0:=h.lo 0 ();have gl:=h.hi (cs.length-1) () ();have:=h.ne p0;rw[if_neg (by rw[g0,gl];exact this)];simp;omega
 .rw[if_neg h0];rcases Nat.lt_trichotomy i p with q|q|q
  .rw[h.lo i q,h.lo (i-1) ()];simp;omega
  .subst q;rw[h.lo (i-1) (),h.hi i () hi];simp[h.ne h0]
  .rw[h.hi i () hi,h.hi (i-1) () ()];simp;omega
def sL{n p:Nat}{f:Nat->Bool}(hp:p<n)(h:∀i<n,(f i=true↔i=p)):(range n).filter f=[p]:=by
 have e:(range n).filter f=(range n).filter λi=>i==p:=List.filter_congr λi hi=>by have:=h i (mem_range.mp hi);rw[Bool.eq_iff_iff,this];simp
 rw[e];have hd:(range n).Nodup:=nodup_range;have hm:p∈range n:=mem_range.mpr hp;have:(range n).filter (λi=>i==p)=replicate ((range n).count p) p:=by rw[List.filter_beq]
 rw[this,Nodup.count hd,if_pos hm];rfl
theorem HJ(hn:cs.length=n)(n2:2<=n)(hc:InS sp cs)(h:caR n true (fu sp) cs=true):∃p a b,Cs n sp cs p a b:=by
 simp only[caR,mvR,length_map,if_true,decide_eq_true_eq]at h;obtain⟨p,hp⟩:=List.length_eq_one_iff.mp h;have hm:∀i,i<n->(fu sp cs i≠gt cs i↔i=p):=λi hi=>by
  have:i ∈(range n).filter (λi=>decide (fu sp cs i≠gt cs i))↔ i=p:=by rw[hp];simp
  rw[<- this,mem_filter];simp[hi]
 have pn:p<n:=by
  have:p ∈(range n).filter (λi=>decide (fu sp cs i≠gt cs i)):=by rw[hp];simp
  exact mem_range.mp (mem_filter.mp this).1
 have sm:∀i,i+1<n->i+1≠p->gt cs (i+1)=gt cs i:=λi hi hne=>by exact Classical.byContradiction λz=>hne ((hm (i+1) hi).mp λe=>z (e.symm.trans rfl))
 have lo:∀i,i<p->gt cs i=gt cs 0:=λi=>by
  induction i with
  |zero=>intro _;rfl
  |succ i ih=>intro hi;rw[sm i () ()];exact ih ()
 have hi:∀i,p<=i->i<n->gt cs i=gt cs p:=λi=>by
  induction i with
  |zero=>intro h1 _;rw[show p=0 by omega]
  |succ i ih=>
   intro h1 h2;by_cases e:i+1=p
   .rw[e]
   .rw[sm i h2 e];exact ih () ()
 refine⟨p,gt cs 0,gt cs p,hn,pn,lo,hi,hc _ (cD ()),hc _ (cD ()),λp0 e=>?_⟩;have:=(hm p pn).mpr rfl;obtain⟨q,rfl⟩:∃q,p=q+1:=⟨p-1,by omega⟩
 refine this ?_;rw[show fu sp cs (q+1)=gt cs q from rfl,lo q (),e]
def pd{p:Nat}{a b:Int}(h:Cs n sp cs p a b)(s2:2<=sp):caR n true (fu sp) cs=true:=by simp only[caR,mvR,length_map,if_true,decide_eq_true_eq];rw[sL h.pn λi hi=>by simpa using h.due s2 i hi];rfl
end
section
variable{n:Nat}{fa:JK}{i j:Nat}
theorem wy(hi:i<n)(h:ltF fa i j=true):rnk n fa i<rnk n fa j:=
 i3 (range n) i (mem_range.mpr hi) (λk _ q=>by
  simp only[ltF,or_eq_true,and_eq_true,decide_eq_true_eq]at *;omega) h (by simp[ltF])
theorem AI(hi:i<n)(hj:j<n)(e:rnk n fa i=rnk n fa j):i=j:=by
 apply Classical.byContradiction;intro h;have:ltF fa i j=true\/ltF fa j i=true:=by simp only[ltF,or_eq_true,and_eq_true,decide_eq_true_eq];omega
 rcases this with q|q
 .have:=wy hi q;omega
 .have:=wy hj q;omega
end
def ye{n r i:Nat}(hi:i<n):(fs n r).getD i none=if i=r then some 0 else none:=by simp[fs,hi]
def In(n:Nat)(cs:JK):Prop:=∀c∈cs,0<=c/\c<=n
abbrev DF(ps:JH)(n r:Nat)(cs:JK)(i:Nat):Int:=dX ps (fs n r) n n cs i
theorem nK{n:Nat}{c:Int}(h0:0<=c)(h1:c<=n)(hn:1<=n):kX n n c=true↔c+1<n:=by
 simp only[kX,and_eq_true,decide_eq_true_eq];constructor
 .rintro⟨h2,h3⟩;apply Classical.byContradiction;intro z;have:c+1=n:=by omega
  rw[this,Int.emod_self]at h3;exact h3 rfl
 .intro h;refine⟨by omega,?_⟩;rw[emod_eq_of_lt () h];omega
theorem lY{n:Nat}{ps:JH}{cs:JK}{i:Nat}{x:Int}(n1:1<=n)(hc:In n cs)(hn:cs.length=n)(hnb:∀x∈nbL ps i,0<=x/\x<n):x∈iz ps n n cs i↔∃j∈nbL ps i,gt cs j.toNat+1=x/\x<n:=by
 simp only[iz,mem_map,mem_filter];constructor
 .rintro⟨c,⟨⟨j,hj,rfl⟩,h⟩,rfl⟩;obtain⟨h1,h2⟩:=hnb j hj;have hm:=hc _ (cD (far:=cs) (i:=j.toNat) ());exact⟨j,hj,rfl,(nK hm.1 hm.2 n1).mp h⟩
 .rintro⟨j,hj,rfl,h⟩;obtain⟨h1,h2⟩:=hnb j hj;have hm:=hc _ (cD (far:=cs) (i:=j.toNat) ());exact⟨gt cs j.toNat,⟨⟨j,hj,rfl⟩,(nK hm.1 hm.2 n1).mpr h⟩,rfl⟩
theorem vO{n r:Nat}{ps:JH}{cs:JK}(n1:1<=n)(hr:r<n)(hc:In n cs)(hn:cs.length=n)(hnb:∀x∈nbL ps r,0<=x/\x<n):DF ps n r cs r=0:=by
 unfold DF dX;rw[ye hr,if_pos rfl];obtain⟨a1,a2⟩:=fX (l:=iz ps n n cs r ++(some (0:Int)).toList++[(n:Int)]) (by simp);have h1:=a2 0 (by simp);have h2:∀x∈iz ps n n cs r ++(some (0:Int)).toList++[(n:Int)],0<=x:=λx hx=>by
  simp only[mem_append,toList,mem_cons,not_mem_nil,or_false]at hx;rcases hx with(hx|hx)|hx
  .obtain⟨j,hj,h3,h4⟩:=(lY n1 hc hn hnb).mp hx;obtain⟨h5,h6⟩:=hnb j hj;have:=(hc _ (cD (far:=cs) (i:=j.toNat) ())).1;omega
  .omega
  .omega
 have:=h2 _ a1;omega
def yX{n r i:Nat}{ps:JH}{cs:JK}(n1:1<=n)(hi:i<n)(hir:i≠r)(hc:In n cs)(hn:cs.length=n)(hnb:∀x∈nbL ps i,0<=x/\x<n):(DF ps n r cs i=n\/∃j∈nbL ps i,gt cs j.toNat+1=DF ps n r cs i/\DF ps n r cs i<n)/\∀j∈nbL ps i,gt cs j.toNat+1<n->DF ps n r cs i<=gt cs j.toNat+1:=by
 unfold DF dX;rw[ye hi,if_neg hir];obtain⟨a1,a2⟩:=fX (l:=iz ps n n cs i ++(none:JO).toList++[(n:Int)]) (by simp);refine⟨?_,λj hj hlt=>a2 _ ?_⟩
 .simp only[mem_append,toList,mem_cons,not_mem_nil,or_false]at a1;rcases a1 with hx|hx
  .exact .inr ((lY n1 hc hn hnb).mp hx)
  .exact .inl hx
 .rw[mem_append,mem_append];exact .inl (.inl ((lY n1 hc hn hnb).mpr ⟨j,hj,rfl,hlt⟩))
def Lv(F:JK)(k:Int)(v:Int)(i:Nat):Prop:=min (gt F i) k<=v/\(gt F i<k->v<=gt F i)
theorem Lv.less{F:JK}{k v:Int}{i:Nat}(h:Lv F (k+1) v i):Lv F k v i:=⟨by have:=h.1;omega,λz=>h.2 ()⟩
structure eF(n r:Nat)(ps:JH)(F:JK):Prop where
 n1:1<=n
 n10:n<=10
 hr:r<n
 D:pG n r (gQ ps) F
 all:∀i<n,gt F i<n
 rg:∀x∈ps,0<=x.1/\x.1<n/\0<=x.2/\x.2<n
section
variable{n r:Nat}{ps:JH}{F:JK}
theorem eF.nb(N:eF n r ps F)(i:Nat):∀x∈nbL ps i,0<=x/\x<n:=λx hx=>by
 rcases ib.mp hx with hx|hx
 .have:=N.rg _ hx;omega
 .have:=N.rg _ hx;omega
theorem eF.adj(N:eF n r ps F){i:Nat}{x:Int}(hx:x∈nbL ps i):gQ ps i x.toNat:=by have:=N.nb i x hx;unfold gQ;rw[show((x.toNat:Nat):Int)=x by omega];exact(ib.mp hx).elim .inr .inl
def Ae{i j:Nat}(h:gQ ps i j):(j:Int)∈ nbL ps i:=ib.mpr (h.elim .inr .inl)
theorem eF.step(N:eF n r ps F){cs:JK}{k:Int}(hc:In n cs)(hn:cs.length=n)(h:∀j,j<n->Lv F k (gt cs j) j){i:Nat}(hi:i<n):Lv F (k+1) (DF ps n r cs i) i/\0<=DF ps n r cs i/\DF ps n r cs i<=n:=by
 have n1:=N.n1;by_cases hir:i=r
 .subst hir;rw[vO n1 hi hc hn (N.nb i)];have:=N.D.rt;refine⟨⟨by omega,λ_=>by omega⟩,by omega,by omega⟩
 .obtain⟨m1,m2⟩:=yX n1 hi hir hc hn (N.nb i);have ai:=N.all i hi;have di:=N.D.rng i hi;refine⟨⟨?_,λhlt=>?_⟩,?_⟩
  .rcases m1 with e |⟨j,hj,e,_⟩
   .omega
   .have hb:=N.nb i j hj;have l:=(h j.toNat ()).1;have ad:gQ ps j.toNat i:=(N.adj hj).elim .inr .inl;have u:=N.D.up j.toNat () i hi ad;omega
  .obtain⟨h1,j,hj,ad,ej⟩:=N.D.dn i hi hir ai;have hm:=Ae ad;have l:=(h j hj).2 ();have:=m2 _ hm (by simp;omega);simp at this;omega
  .rcases m1 with e |⟨j,hj,e,e2⟩
   .omega
   .have hb:=N.nb i j hj;have:=(hc _ (cD (far:=cs) (i:=j.toNat) ())).1;omega
theorem eF.zero(N:eF n r ps F){cs:JK}(hc:In n cs)(hn:cs.length=n):∀j,j<n->Lv F 0 (gt cs j) j:=λj hj=>by have:=(hc _ (cD (far:=cs) (i:=j) ())).1;have:=N.D.rng j hj;exact⟨by omega,λz=>by omega⟩
theorem eF.last(N:eF n r ps F){cs:JK}(hn:cs.length=n)(h:∀j,j<n->Lv F n (gt cs j) j):cs=F:=by
 apply ext_getElem (by rw[hn,N.D.len]);intro i h1 h2;have a:=N.all i ();obtain⟨l1,l2⟩:=h i ();have:=l2 a;have e:gt cs i=gt F i:=by omega
 simpa[gt,h1,h2]using e
def eF.inF(N:eF n r ps F):In n F:=λc hc=>by
 obtain⟨i,hi,rfl⟩:=List.mem_iff_getElem.mp hc;have hi':i<n:=by rw[<- N.D.len];exact hi
 have:=N.D.rng i hi';simp only[gt,getD_eq_getElem?_getD,getElem?_eq_getElem hi,getD_some]at this;exact this
theorem eF.rest(N:eF n r ps F):∀i,i<F.length->DF ps n r F i=gt F i:=λi hi=>by
 have hi':i<n:=by rw[<- N.D.len];exact hi
 have:=(N.step (k:=n) N.inF N.D.len (λj hj=>⟨by omega,λ_=>by omega⟩) hi').1;have a:=N.all i hi';obtain⟨l1,l2⟩:=this;have:=l2 ();omega
end
section
abbrev DL(ps:JH)(n:Nat)(ms:JK)(cs:JK)(i:Nat):Int:=dX ps (ls n ms) n ((n:Int)*10) cs i
theorem AQ{n:Nat}{c:Int}(n1:1<=n)(h:(c+1)%(n:Int)≠ 0):(c+1)%(n:Int)=c%n+1:=by
 have h1:=emod_nonneg c (show(n:Int)≠ 0 by omega);have h2:=emod_lt_of_pos c (show(0:Int)<n by omega);have e:c+1=c%n+1+n*(c / n):=by have:=Int.emod_add_mul_ediv c n;omega
 rw[e,Int.add_mul_emod_self_left]at h ⊢;by_cases q:c%n+1=n
 .rw[q,Int.emod_self]at h;exact absurd rfl h
 .exact emod_eq_of_lt () ()
structure jt(n r:Nat)(ps:JH)(ms F:JK)(M:Int):Prop where
 n1:1<=n
 n10:n<=10
 hr:r<n
 D:pG n r (gQ ps) F
 all:∀i<n,gt F i<n
 rg:∀x∈ps,0<=x.1/\x.1<n/\0<=x.2/\x.2<n
 ml:ms.length=n
 m0:0<=M
 m9:M<=9
 nr:gt ms r=M
 nl:∀i<n,i≠r->gt ms i<M
 mx:iA ms=M
 mr:∀x∈ms,0<=x/\x<=9
variable{n r:Nat}{ps:JH}{ms F:JK}{M:Int}
def jt.nb(N:jt n r ps ms F M)(i:Nat):∀x∈nbL ps i,0<=x/\x<n:=λx hx=>by
 rcases ib.mp hx with hx|hx
 .have:=N.rg _ hx;omega
 .have:=N.rg _ hx;omega
def jt.adj(N:jt n r ps ms F M){i:Nat}{x:Int}(hx:x∈nbL ps i):gQ ps i x.toNat:=by have:=N.nb i x hx;unfold gQ;rw[show((x.toNat:Nat):Int)=x by omega];exact(ib.mp hx).elim .inr .inl
def jt.due(N:jt n r ps ms F M){cs:JK}{i:Nat}(hi:i<n):(DL ps n ms cs i=(n:Int)*10\/DL ps n ms cs i=(9-gt ms i)*n\/∃j∈nbL ps i,gt cs j.toNat+1=DL ps n ms cs i/\(gt cs j.toNat+1)%(n:Int)≠ 0)/\DL ps n ms cs i <=(9-gt ms i)*n/\∀j∈nbL ps i,gt cs j.toNat ≠(n:Int)*10->(gt cs j.toNat+1)%(n:Int)≠ 0->DL ps n ms cs i<=gt cs j.toNat+1:=by
 have hm:i<ms.length:=by rw[N.ml];exact hi
 have es:(ls n ms).getD i none=some ((9-gt ms i)*n):=by simp[ls,gt,hm]
 unfold DL dX;rw[es];obtain⟨a1,a2⟩:=fX (l:=iz ps n ((n:Int)*10) cs i ++(some ((9-gt ms i)*(n:Int))).toList++[(n:Int)*10]) (by simp);refine⟨?_,a2 _ (by simp),λj hj h1 h2=>a2 _ ?_⟩
 .generalize f_ (iz ps n ((n:Int)*10) cs i ++(some ((9-gt ms i)*(n:Int))).toList++[(n:Int)*10])=d at a1;simp only[mem_append,toList,mem_cons,not_mem_nil,or_false]at a1;rcases a1 with(hx|hx)|hx
  .simp only[iz,mem_map,mem_filter]at hx;obtain⟨c,⟨⟨j,hj,rfl⟩,h⟩,rfl⟩:=hx;simp only[kX,and_eq_true,decide_eq_true_eq]at h;exact .inr (.inr ⟨j,hj,rfl,h.2⟩)
  .exact .inr (.inl hx)
  .exact .inl hx
 .rw[mem_append,mem_append];refine .inl (.inl ?_);simp only[iz,mem_map,mem_filter];exact⟨gt cs j.toNat,⟨⟨j,hj,rfl⟩,by simp[kX,h1,h2]⟩,rfl⟩
abbrev Q(n:Nat)(M:Int):Int:=(9-M)*n
theorem jt.starts(N:jt n r ps ms F M){i:Nat}(hi:i<n):(i=r->(9-gt ms i)*(n:Int)=Q n M)/\(i≠r->Q n M+n <=(9-gt ms i)*(n:Int))/\Q n M <=(9-gt ms i)*(n:Int):=by
 have h1:i≠r->Q n M+n <=(9-gt ms i)*(n:Int):=λh=>by
  have:=N.nl i hi h;have e:(9-gt ms i)*(n:Int)=Q n M+n+(M-gt ms i-1)*n:=by unfold Q;rw[show(9-gt ms i)=(9-M)+1+(M-gt ms i-1) by omega,Int.add_mul,Int.add_mul,Int.one_mul]
  have:0 <=(M-gt ms i-1)*(n:Int):=Int.mul_nonneg () ();omega
 have h0:i=r->(9-gt ms i)*(n:Int)=Q n M:=λh=>by rw[h,N.nr]
 refine⟨h0,h1,?_⟩;by_cases h:i=r
 .rw[h0 h];omega
 .have:=h1 h;omega
theorem jt.top(N:jt n r ps ms F M):Q n M+n <=(n:Int)*10/\0<=Q n M:=by
 have h1:(n:Int)*10=Q n M+n+M*n:=by unfold Q;rw[Int.sub_mul];omega
 have h2:0<=M*(n:Int):=Int.mul_nonneg N.m0 ();have h3:0 <=(9-M)*(n:Int):=Int.mul_nonneg (by have:=N.m9;omega) ();exact⟨by omega,h3⟩
def Iv(n:Nat)(F:JK)(M:Int)(t:Nat)(v:Int)(i:Nat):Prop:=(v<Q n M->(t:Int)<= v%n)/\(n<=t->Lv F ((t:Int)-n) (v-Q n M) i)
theorem Iv.less{t:Nat}{v:Int}{i:Nat}(h:Iv n F M (t+1) v i):Iv n F M t v i:=
 ⟨λz=>by have:=h.1 z;omega,λz=>by
  have:=h.2 ();rw[show((t+1:Nat):Int)-n=(t:Int)-n+1 by omega]at this;exact this.less⟩
theorem jt.step(N:jt n r ps ms F M){cs:JK}{t:Nat}(h:∀j,j<n->Iv n F M t (gt cs j) j){i:Nat}(hi:i<n):Iv n F M (t+1) (DL ps n ms cs i) i:=by
 have n1:=N.n1;obtain⟨d1,d2,d3⟩:=N.due (cs:=cs) hi;obtain⟨s1,s2,s3⟩:=N.starts hi;obtain⟨t1,t2⟩:=N.top;have p1:DL ps n ms cs i<Q n M->((t+1:Nat):Int)<= DL ps n ms cs i%n:=λz=>by
  rcases d1 with e|e |⟨j,hj,e,e2⟩
  .omega
  .omega
  .have hb:=N.nb i j hj;have l:=(h j.toNat ()).1 ();rw[<- e,AQ n1 e2];omega
 refine⟨p1,λht=>?_⟩;have ai:=N.all i hi;have di:=N.D.rng i hi;have dl:n<=t+1->Q n M<=DL ps n ms cs i:=λht=>by apply Classical.byContradiction;intro z;have:=p1 ();have:=emod_lt_of_pos (DL ps n ms cs i) (show(0:Int)<n by omega);omega
 have dl:=dl ht;by_cases q:n<=t
 .rw[show((t+1:Nat):Int)-n=(t:Int)-n+1 by omega];by_cases hir:i=r
  .have:=s1 hir;have f0:=N.D.rt;rw[<- hir]at f0;refine⟨by omega,λ_=>by omega⟩
  .have s2:=s2 hir;refine⟨?_,λhlt=>?_⟩
   .rcases d1 with e|e |⟨j,hj,e,_⟩
    .omega
    .omega
    .have hb:=N.nb i j hj;have l:=((h j.toNat ()).2 q).1;have ad:gQ ps j.toNat i:=(N.adj hj).elim .inr .inl;have u:=N.D.up j.toNat () i hi ad;omega
   .obtain⟨h1,j,hj,ad,ej⟩:=N.D.dn i hi hir ai;have hm:=Ae ad;obtain⟨l1,l2⟩:=(h j hj).2 q;have l2:=l2 ();have ec:gt cs j+1=gt F i+Q n M:=by omega
    have:=d3 _ hm (by simp;omega) (by
     simp;rw[ec,Int.add_mul_emod_self_right,emod_eq_of_lt () ai];omega)
    simp at this;omega
 .rw[show((t+1:Nat):Int)-n=0 by omega];exact⟨by omega,λz=>by omega⟩
theorem jt.zero(N:jt n r ps ms F M){cs:JK}:∀j,j<n->Iv n F M 0 (gt cs j) j:=λj hj=>by have n1:=N.n1;exact⟨λ_=>emod_nonneg _ (),λz=>by omega⟩
abbrev TT(n:Nat)(M:Int)(F:JK):JK:=F.map (· + Q n M)
end
theorem rG{f g:Nat->Int}:∀(l:List Nat),(∀j∈l,f j<=g j)->(l.map f).sum <=(l.map g).sum
 | [],_=>by simp
 |x::l,h=>by have:=rG l λj hj=>h j (mem_cons_of_mem _ hj);have:=h x mem_cons_self;simp only[map_cons,sum_cons];omega
theorem lq{f g:Nat->Int}:∀(l:List Nat),(l.map λj=>f j+g j).sum=(l.map f).sum+(l.map g).sum
 | []=>by simp
 |x::l=>by have:=lq (f:=f) (g:=g) l;simp only[map_cons,sum_cons];omega
theorem rH{a:Int}{i:Nat}:∀n:Nat,((range n).map λj=>if j=i then a else 0).sum=if i<n then a else 0
 |0=>by simp
 |n+1=>by
  rw[range_succ,map_append,sum_append,rH n];simp only[map_cons,map_nil,sum_cons,List.sum_nil];by_cases h:n=i
  .subst h;simp
  .rw[if_neg h];by_cases h2:i<n
   .rw[if_pos h2,if_pos ()];simp
   .rw[if_neg h2,if_neg ()];simp
def lD{p:Nat->Bool}{f:Nat->Int}:∀l:List Nat,((l.filter p).map f).sum=(l.map λj=>if p j then f j else 0).sum
 | []=>by simp
 |x::l=>by
  have:=lD (p:=p) (f:=f) l;by_cases h:p x=true
  .simp[h,this]
  .simp[h,this]
section
variable{n:Nat}{ps:JH}{r:Nat}{cs:JK}{fa:JK}
def qS{i:Nat}{e:Int}(h:eld ps r fa i=some e):i≠r/\e∈nbL ps i/\gt fa e.toNat=gt fa i-1/\∀x∈nbL ps i,gt fa x.toNat=gt fa i-1->e<=x:=by
 unfold eld at h;by_cases q:i=r
 .rw[if_pos q]at h;cases h
 rw[if_neg q]at h;by_cases q2:(nea ps fa i).isEmpty=true
 .rw[if_pos q2]at h;cases h
 rw[if_neg q2]at h;cases h;obtain⟨a1,a2⟩:=fX (l:=nea ps fa i) (by simpa using q2);obtain⟨b1,b2⟩:=mem_filter.mp a1;exact⟨q,b1,by simpa using b2,λx hx hy=>a2 x (mem_filter.mpr ⟨hx,by simpa using hy⟩)⟩
def InG(n:Nat)(cs:JK):Prop:=∀c∈cs,0<=c/\c <((n:Int)+1)*((n:Int)+1)
theorem InG.far(hc:InG n cs):∀c∈FA n cs,0<=c/\c <=(n:Int):=λc hx=>by obtain⟨x,hm,rfl⟩:=mem_map.mp hx;obtain⟨h1,h2⟩:=hc x hm;have a:=Int.ediv_nonneg h1 (show 0 <=(n:Int)+1 by omega);have b:=Int.ediv_lt_of_lt_mul (show 0 <(n:Int)+1 by omega) h2;exact⟨a,by omega⟩
def x9{i:Nat}(hi:i<cs.length):gt (FA n cs) i=gt cs i / ((n:Int)+1):=by simp[FA,gt,hi]
def HC{i:Nat}(hi:i<cs.length):gt (CN n cs) i=gt cs i%((n:Int)+1):=by simp[CN,gt,hi]
theorem B3(hn:cs.length=n){i:Nat}:0<=dcn n ps r cs i/\dcn n ps r cs i<=n:=by
 have:0 <=(kF n ps r cs i).sum:=by
  have h:∀l:JK,(∀x∈l,0<=x)->0<=l.sum:=λl=>by
   induction l with
   |nil=>intro _;simp
   |cons x l ih=>intro h;have:=ih λy hy=>h y (mem_cons_of_mem _ hy);have:=h x mem_cons_self;simp only[sum_cons];omega
  exact h _ λx hx=>(l9 hn hx).1
 unfold dcn;omega
theorem rM{a b m:Int}(hb:0<=b/\b<=m):(a*(m+1)+b) / (m+1)=a/\(a*(m+1)+b)%(m+1)=b:=by
 have hm:m+1≠0:=by omega
 constructor
 .rw[Int.add_comm,Int.add_mul_ediv_right _ _ hm,Int.ediv_eq_zero_of_lt hb.1 ()];omega
 .rw[Int.add_comm,Int.add_mul_emod_self_right];exact emod_eq_of_lt hb.1 ()
def pcn(n:Nat)(ps:JH)(r:Nat)(cs:JK)(i:Nat):Int:=if dX ps (fs n r) n n (FA n cs) i=gt (FA n cs) i then dcn n ps r cs i else gt (CN n cs) i
def Bb(hn:cs.length=n){i:Nat}(hi:i<n):0<=pcn n ps r cs i/\pcn n ps r cs i<=n:=by
 unfold pcn;split
 .exact B3 hn
 .exact sV hn i hi
def yW(hn:cs.length=n){i:Nat}(hi:i<n):kK n ps r cs i / ((n:Int)+1)=dX ps (fs n r) n n (FA n cs) i/\kK n ps r cs i%((n:Int)+1)=pcn n ps r cs i:=rM (Bb hn hi)
def B8{a b m:Int}(hm:0<m):a=b↔a / m=b / m/\a%m=b%m:=by
 constructor
 .intro h;rw[h];exact⟨rfl,rfl⟩
 .intro⟨h1,h2⟩;rw[<- Int.mul_ediv_add_emod a m,<- Int.mul_ediv_add_emod b m,h1,h2]
end
section
variable{n r:Nat}{ps:JH}{F:JK}
def pN{f:Nat->Nat->Int}(m:List Nat):∀l:List Nat,(l.map λj=>(m.map λc=>f j c).sum).sum=(m.map λc=>(l.map λj=>f j c).sum).sum
 | []=>by
  have:∀m:List Nat,(m.map λ_=>(0:Int)).sum=0:=λm=>by induction m<;>simp_all
  simp[this m]
 |j::l=>by have:=pN (f:=f) m l;simp only[map_cons,sum_cons];rw[this,<- lq]
def lC:∀l:List Nat,(l.map λ_=>(0:Int)).sum=0
 | []=>rfl
 |x::l=>by simp[lC l]
def upE(ps:JH)(r:Nat)(F:JK)(j:Nat):Nat->JO
 |0=>some (j:Int)
 |m+1=>match upE ps r F j m with
  |some c=>eld ps r F c.toNat
  |none=>none
def cnu(ps:JH)(r:Nat)(F:JK)(j:Nat):Nat->Nat->Int
 |0,_=>0
 |k+1,i=>cnu ps r F j k i+(if upE ps r F j k=some (i:Int)then 1 else 0)
def hdn(n:Nat)(ps:JH)(r:Nat)(F:JK)(i:Nat):Int:=((range n).map λj=>cnu ps r F j n i).sum
theorem ot(N:eF n r ps F){j:Nat}(hj:j<n):∀(m:Nat) (c:Int),upE ps r F j m=some c->0<=c/\c<n/\gt F c.toNat=gt F j-m
 |0,c,h=>by simp only[upE,Option.some.injEq]at h;subst h;simp;omega
 |m+1,c,h=>by
  simp only[upE]at h;cases e:upE ps r F j m with
  |none=>rw[e]at h;cases h
  |some c'=>rw[e]at h;obtain⟨h1,h2,h3⟩:=ot N hj m c' e;obtain⟨_,g1,g2,_⟩:=qS h;have:=N.nb _ _ g1;refine⟨this.1,this.2,?_⟩;rw[g2,h3];omega
theorem uw(N:eF n r ps F){j:Nat}(hj:j<n):∀(k i:Nat),cnu ps r F j (k+1) i=(if j=i then 1 else 0)+((range n).map λc=>if eld ps r F c=some (i:Int)then cnu ps r F j k c else 0).sum
  |0,i=>by
    have:((range n).map λc=>if eld ps r F c=some (i:Int)then cnu ps r F j 0 c else 0).sum=0:=by rw[show(λc=>if eld ps r F c=some (i:Int)then cnu ps r F j 0 c else 0)=λ_=>(0:Int) by funext c;simp[cnu]];exact lC _
    rw[this];show 0+(if upE ps r F j 0=some (i:Int)then 1 else 0)=_;by_cases e:j=i
    . rw[if_pos e,if_pos (by rw[e];rfl)];rfl
    . rw [if_neg e,if_neg (show ¬ upE ps r F j 0=some (i:Int) from λz=>by
        have z':some (j:Int)=some (i:Int):=z;simp at z';omega)]
  |k+1,i=>by
    have ih:=uw N hj k i;have e1:cnu ps r F j (k+1+1) i=cnu ps r F j (k+1) i+(if upE ps r F j (k+1)=some (i:Int)then 1 else 0):=rfl;rw[e1,ih];have e2:(λc=>if eld ps r F c=some (i:Int)then cnu ps r F j (k+1) c else 0)=λc=>(if eld ps r F c=some (i:Int)then cnu ps r F j k c else 0)+(if eld ps r F c=some (i:Int)then(if upE ps r F j k=some (c:Int)then(1:Int)else 0)else 0):=by
      funext c;by_cases q:eld ps r F c=some (i:Int)
      . simp only[q,if_true];rfl
      . simp[q]
    rw[e2,lq];have e3:((range n).map λc=>if eld ps r F c=some (i:Int)then(if upE ps r F j k=some (c:Int)then(1:Int)else 0)else 0).sum=if upE ps r F j (k+1)=some (i:Int)then 1 else 0:=by
      have hh:∀x,upE ps r F j k=x->((range n).map λc=>if eld ps r F c=some (i:Int)then(if upE ps r F j k=some (c:Int)then(1:Int)else 0)else 0).sum=if upE ps r F j (k+1)=some (i:Int)then 1 else 0:=λx e=>by
       cases x with
       |none=>
        have u1:upE ps r F j (k+1)=none:=by simp only[upE,e]
        rw[show(λc:Nat=>if eld ps r F c=some (i:Int)then(if upE ps r F j k=some (c:Int)then(1:Int)else 0)else 0)=λ_=>(0:Int) by funext c;simp[e],u1];simpa using lC (range n)
       |some c'=>
        obtain⟨h1,h2,_⟩:=ot N hj k c' e;have u1:upE ps r F j (k+1)=eld ps r F c'.toNat:=by simp only[upE,e]
        rw [u1,show (λc:Nat=>if eld ps r F c=some (i:Int) then (if upE ps r F j k=some (c:Int) then (1:Int) else 0) else 0)=λc:Nat=>if c=c'.toNat then (if eld ps r F c'.toNat=some (i:Int) then 1 else 0) else 0 by
          funext c;rw[e];by_cases q:c=c'.toNat
          . subst q;rw[if_pos rfl,if_pos (show some c'=some ((c'.toNat:Nat):Int) by congr 1;omega)]
          . rw[if_neg q,if_neg (show ¬some c'=some (c:Int) by intro z;cases z;omega)];simp]
        rw[rH,if_pos ()]
      exact hh _ rfl
    rw[e3];omega
theorem Ak(N:eF n r ps F){j:Nat}(hj:j<n):upE ps r F j n=none:=by
 cases e:upE ps r F j n with
 |none=>rfl
 |some c=>obtain⟨h1,h2,h3⟩:=ot N hj n c e;have:=N.all j hj;have:=(N.D.rng c.toNat ()).1;omega
def B6(N:eF n r ps F){j:Nat}(hj:j<n)(i:Nat):cnu ps r F j n i=(if j=i then 1 else 0)+((range n).map λc=>if eld ps r F c=some (i:Int)then cnu ps r F j n c else 0).sum:=by have h:=uw N hj n i;have e:cnu ps r F j (n+1) i=cnu ps r F j n i+(if upE ps r F j n=some (i:Int)then 1 else 0):=rfl;rw[Ak N hj]at e;rw[<- h,e];simp
def BO(N:eF n r ps F){i:Nat}(hi:i<n):hdn n ps r F i=1+(((range n).filter λc=>decide (eld ps r F c=some (i:Int))).map (hdn n ps r F)).sum:=by
 have e1:hdn n ps r F i=((range n).map λj=>(if j=i then(1:Int)else 0)+((range n).map λc=>if eld ps r F c=some (i:Int)then cnu ps r F j n c else 0).sum).sum:=by unfold hdn;congr 1;exact map_congr_left λj hj=>B6 N (mem_range.mp hj) i
 rw[e1,lq,rH,if_pos hi,pN,lD];congr 2;refine map_congr_left λc _=>?_;by_cases q:eld ps r F c=some (i:Int)
 .simp only[q,if_true,decide_true];rfl
 .simp only[q,if_false,decide_false];simpa using lC (range n)
theorem sO(N:eF n r ps F){j:Nat}(hj:j<n):∀(k i:Nat),0<=cnu ps r F j k i/\cnu ps r F j k i<=if gt F j-gt F i<k then 1 else 0
 |0,i=>by simp only[cnu];split<;>omega
 |k+1,i=>by
  obtain⟨h1,h2⟩:=sO N hj k i;simp only[cnu];by_cases q:upE ps r F j k=some (i:Int)
  .rw[if_pos q];have:=(ot N hj k _ q).2.2;rw[toNat_natCast]at this;rw[if_neg ()]at h2;rw[if_pos ()];omega
  .rw[if_neg q];by_cases q2:gt F j-gt F i<k
   .rw[if_pos q2]at h2;rw[if_pos ()];omega
   .rw[if_neg q2]at h2;split<;>omega
def s_:∀n:Nat,((range n).map λ_=>(1:Int)).sum=n
 |0=>rfl
 |n+1=>by rw[range_succ,map_append,sum_append,s_ n];simp
theorem BN(N:eF n r ps F)(i:Nat):0<=hdn n ps r F i/\hdn n ps r F i<=n:=by
 unfold hdn;constructor
 .have:=rG (f:=λ_=>(0:Int)) (g:=λj=>cnu ps r F j n i) (range n) λj hj=>(sO N (mem_range.mp hj) n i).1
  rwa [lC]at this
 .have:=rG (f:=λj=>cnu ps r F j n i) (g:=λ_=>(1:Int)) (range n) λj hj=>by have:=(sO N (mem_range.mp hj) n i).2;split at this<;>omega
  rwa [s_]at this
theorem B4(N:eF n r ps F){cs:JK}(hf:FA n cs=F){i:Nat}(hi:i<n)(hk:∀c,c<n->eld ps r F c=some (i:Int)->gt (CN n cs) c=hdn n ps r F c):dcn n ps r cs i=hdn n ps r F i:=by
 have h:=BO N hi;have b:=(BN N i).2;have e:kF n ps r cs i=((range n).filter λc=>decide (eld ps r F c=some (i:Int))).map (hdn n ps r F):=by unfold kF;rw[hf];refine map_congr_left λc hc=>?_;obtain⟨h1,h2⟩:=mem_filter.mp hc;exact hk c (mem_range.mp h1) (by simpa using h2)
 unfold dcn;rw[e,<- h];omega
def Pg(n:Nat)(ps:JH)(r:Nat)(F:JK)(k:Nat)(c:Int)(i:Nat):Prop:=Lv F ((min k n:Nat):Int) (c / ((n:Int)+1)) i/\(n<=k->2*(n:Int)-k<=gt F i->c%((n:Int)+1)=hdn n ps r F i)
theorem Pg.less{k:Nat}{c:Int}{i:Nat}(h:Pg n ps r F (k+1) c i):Pg n ps r F k c i:=by
 refine⟨?_,λh1 h2=>h.2 () ()⟩;have h1:=h.1;by_cases q:k<n
 .rw[Nat.min_eq_left ()]at h1;rw[Nat.min_eq_left ()];exact Lv.less (by simpa using h1)
 .rw[Nat.min_eq_right ()]at h1;rw[Nat.min_eq_right ()];exact h1
theorem Pg.zero(N:eF n r ps F){cs:JK}(hc:InG n cs)(hn:cs.length=n):∀j,j<n->Pg n ps r F 0 (gt cs j) j:=λj hj=>by have n1:=N.n1;refine⟨?_,λh=>absurd h ()⟩;have:=N.zero (cs:=FA n cs) hc.far (by simpa using hn) j hj;rw[x9 ()]at this;simpa using this
theorem HV(N:eF n r ps F){cs:JK}(hn:cs.length=n){k:Nat}(hk:n<=k)(h:∀j,j<n->Pg n ps r F k (gt cs j) j):FA n cs=F:=by
 refine N.last (by simpa using hn) λj hj=>?_;have:=(h j hj).1;rw[Nat.min_eq_right hk]at this
 rwa [x9 ()]
theorem Pg.step(N:eF n r ps F){cs:JK}(hc:InG n cs)(hn:cs.length=n){k:Nat}(h:∀j,j<n->Pg n ps r F k (gt cs j) j){i:Nat}(hi:i<n):Pg n ps r F (k+1) (kK n ps r cs i) i:=by
 obtain⟨e1,e2⟩:=yW (ps:=ps) (r:=r) hn hi;have fl:(FA n cs).length=n:=by simpa using hn
 refine⟨?_,λh1 h2=>?_⟩
 .rw[e1];have:=(N.step (k:=((min k n:Nat):Int)) (cs:=FA n cs) hc.far fl (λj hj=>by rw[x9 ()];exact(h j hj).1) hi).1;by_cases q:k<n
  .rw[Nat.min_eq_left ()]at this;rw[Nat.min_eq_left ()];simpa using this
  .rw[Nat.min_eq_right ()]at this;rw[Nat.min_eq_right ()];exact this.less
 .have ai:=N.all i hi;have hk:n<=k:=by omega
  have hf:=HV N hn hk h;rw[e2];have rs:=N.rest i (by rw[N.D.len];exact hi);unfold DF at rs;unfold pcn;rw[hf,if_pos rs];refine B4 N hf hi λc hcn he=>?_;have:=(qS he).2.2.1;rw[toNat_natCast]at this;rw[HC ()];exact(h c hcn).2 hk ()
structure JE(n:Nat)(ps:JH)(r:Nat)(F cs:JK):Prop where
 fa:FA n cs=F
 cn:∀i,i<n->gt (CN n cs) i=hdn n ps r F i
end
def sw1(n:Nat)(D:JK->Nat->Int):Nat->JK->JK
 |0,cs=>cs
 |m+1,cs=>stR n D (sw1 n D m cs) [(m:Int)]
def swK(n:Nat)(D:JK->Nat->Int):Nat->JK->JK
 |0,cs=>cs
 |k+1,cs=>sw1 n D n (swK n D k cs)
theorem ow{n:Nat}{D:JK->Nat->Int}{cs:JK}{m i:Nat}(hi:i<n):gt (stR n D cs [(m:Int)]) i=if i=m then D cs i else gt cs i:=by
 have:gt (stR n D cs [(m:Int)]) i=if [(m:Int)].contains (i:Int)then D cs i else gt cs i:=by simp[stR,gt,hi]
 rw[this];by_cases q:i=m
 .simp[q]
 .rw[if_neg q,if_neg (by simp;omega)]
structure Sp(n:Nat)(sp:Int)(D:JK->Nat->Int):Prop where
 d:∀cs k,cs.length=n->InS sp cs->k<n->0<=D cs k/\D cs k<sp
section
variable{n:Nat}{sp:Int}{D:JK->Nat->Int}{cs:JK}
def Sp.st(S:Sp n sp D)(hn:cs.length=n)(hc:InS sp cs)(nm:JK):(stR n D cs nm).length=n/\InS sp (stR n D cs nm):=by
 refine⟨by simp[stR],λc hc'=>?_⟩;unfold stR at hc';obtain⟨i,hi,rfl⟩:=mem_map.mp hc';have hi:=mem_range.mp hi;split
 .exact S.d cs i hn hc hi
 .exact hc _ (cD ())
def Sp.sw1(S:Sp n sp D)(hn:cs.length=n)(hc:InS sp cs):∀m,(sw1 n D m cs).length=n/\InS sp (sw1 n D m cs)
 |0=>⟨hn,hc⟩
 |m+1=>let⟨h1,h2⟩:=S.sw1 hn hc m;S.st h1 h2 _
def Sp.swK(S:Sp n sp D)(hn:cs.length=n)(hc:InS sp cs):∀m,(swK n D m cs).length=n/\InS sp (swK n D m cs)
 |0=>⟨hn,hc⟩
 |m+1=>let⟨h1,h2⟩:=S.swK hn hc m;S.sw1 h1 h2 _
def uy(h:∀i,i<n->D cs i=gt cs i):caR n false D cs=true:=by
 have:mvR n D cs=[]:=by unfold mvR;rw[List.filter_eq_nil_iff.mpr λi hi=>by simp[h i (mem_range.mp hi)]];rfl
 simp[caR,this]
def B_(h:caR n false D cs=true):∀i,i<n->D cs i=gt cs i:=λi hi=>Classical.byContradiction λz=>by have:(i:Int)∈ mvR n D cs:=mem_map.mpr ⟨i,mem_filter.mpr ⟨mem_range.mpr hi,by simpa using z⟩,rfl⟩;simp[caR]at h;rw[h]at this;cases this
structure Lev(n:Nat)(sp:Int)(D:JK->Nat->Int)(P:Nat->Int->Nat->Prop):Prop where
 S:Sp n sp D
 z:∀cs,cs.length=n->InS sp cs->∀i,i<n->P 0 (gt cs i) i
 le:∀k v i,P (k+1) v i->P k v i
 st:∀cs k,cs.length=n->InS sp cs->(∀j,j<n->P k (gt cs j) j)->∀i,i<n->P (k+1) (D cs i) i
 un:∀v v' i,i<n->P (2*n) v i->P (2*n) v' i->v=v'
theorem Lev.conv{P:Nat->Int->Nat->Prop}(L:Lev n sp D P)(hn:cs.length=n)(hc:InS sp cs):caR n false D (swK n D (2*n) cs)=true:=by
 have one:∀(k m:Nat) (cs:JK),m<=n->cs.length=n->InS sp cs->(∀j,j<n->P k (gt cs j) j)->∀j,j<n->P k (gt (sw1 n D m cs) j) j/\(j<m->P (k+1) (gt (sw1 n D m cs) j) j):=λk m cs hm hn hc h=>by
  induction m with
  |zero=>exact λj hj=>⟨h j hj,λz=>by omega⟩
  |succ m ih=>
   have ih:=ih ();obtain⟨h1,h2⟩:=L.S.sw1 hn hc m;intro j hj;have e:gt (sw1 n D (m+1) cs) j=if j=m then D (sw1 n D m cs) j else gt (sw1 n D m cs) j:=ow hj
   rw[e];split
   .have:=L.st _ k h1 h2 (λi hi=>(ih i hi).1) j hj;exact⟨L.le _ _ _ this,λ_=>this⟩
   .exact⟨(ih j hj).1,λz=>(ih j hj).2 ()⟩
 have all:∀k,∀j,j<n->P k (gt (swK n D k cs) j) j:=λk=>by
  induction k with
  |zero=>exact L.z cs hn hc
  |succ k ih=>obtain⟨h1,h2⟩:=L.S.swK hn hc k;exact λj hj=>(one k n _ (Nat.le_refl _) h1 h2 ih j hj).2 hj
 obtain⟨h1,h2⟩:=L.S.swK hn hc (2*n);exact uy λi hi=>L.un _ _ i hi (L.le _ _ _ (L.st _ _ h1 h2 (all _) i hi)) (all _ i hi)
structure m5(n:Nat)(hg:Nat->JK)(rk:Nat->Nat)(D:JK->Nat->Int):Prop where
 up:∀i,i<n->∀j∈hg i,0<=j/\j<n/\rk i<rk j.toNat
 rl:∀i,i<n->rk i<n
 loc:∀cs cs' i,i<n->(∀j∈hg i,gt cs j.toNat=gt cs' j.toNat)->D cs i=D cs' i
variable{hg:Nat->JK}{rk:Nat->Nat}
theorem m5.conv(H:m5 n hg rk D):caR n false D (swK n D (2*n) cs)=true:=by
 have keep:∀(k:Nat) (m:Nat) (cs:JK),m<n->(∀i,i<n->n-k<=rk i->D cs i=gt cs i)->(∀i,i<n->n-k<=rk i->D (stR n D cs [(m:Int)]) i=gt (stR n D cs [(m:Int)]) i)/\(∀i,i<n->n-(k+1)<= rk i->(i=m\/D cs i=gt cs i)->D (stR n D cs [(m:Int)]) i=gt (stR n D cs [(m:Int)]) i):=λk m cs hm h=>by
  have key:∀i,i<n->n-(k+1)<= rk i->D (stR n D cs [(m:Int)]) i=D cs i:=λi hi hr=>H.loc _ _ i hi λj hj=>by
   obtain⟨h1,h2,h3⟩:=H.up i hi j hj;rw[ow ()];split
   .exact h _ () ()
   .rfl
  refine⟨λi hi hr=>?_,λi hi hr ho=>?_⟩
  .rw[key i hi (),ow hi];split
   .rfl
   .exact h i hi hr
  .rw[key i hi hr,ow hi];split
   .rfl
   .exact ho.resolve_left ‹_›
 have one:∀(k m:Nat) (cs:JK),m<=n->(∀i,i<n->n-k<=rk i->D cs i=gt cs i)->(∀i,i<n->n-k<=rk i->D (sw1 n D m cs) i=gt (sw1 n D m cs) i)/\∀i,i<m->n-(k+1)<= rk i->D (sw1 n D m cs) i=gt (sw1 n D m cs) i:=λk m cs hm h=>by
  induction m with
  |zero=>exact⟨h,λi hi=>by omega⟩
  |succ m ih=>
   obtain⟨a,b⟩:=ih ();obtain⟨c,d⟩:=keep k m (sw1 n D m cs) () a;refine⟨c,λi hi hr=>d i () hr ?_⟩;by_cases q:i=m
   .exact .inl q
   .exact .inr (b i () hr)
 have all:∀k,∀i,i<n->n-k<=rk i->D (swK n D k cs) i=gt (swK n D k cs) i:=λk=>by
  induction k with
  |zero=>exact λi hi hr=>by have:=H.rl i hi;omega
  |succ k ih=>exact λi hi hr=>(one k n _ (Nat.le_refl _) ih).2 i hi hr
 exact uy λi hi=>all (2*n) i hi ()
def rch(hg:Nat->JK)(sp:Nat->Bool):Nat->Nat->Bool
 |0,i=>sp i
 |t+1,i=>rch hg sp t i ||(hg i).any λj=>rch hg sp t j.toNat
def wD{sp:Nat->Bool}{i:Nat}:∀{t t':Nat},t<=t'->rch hg sp t i=true->rch hg sp t' i=true:=by
 intro t t' hle h
 induction hle with
 |refl=>exact h
 |step _ ih=>simp[rch,ih]
theorem wC{sp:Nat->Bool}(H:m5 n hg rk D):∀d i t,i<n->n-rk i=d->d<=t->rch hg sp (t+1) i=true->rch hg sp t i=true:=by
 intro d
 induction d using Nat.strongRecOn with
 |_ d ih=>
  intro i t hi hd ht h;have h0:=H.rl i hi;obtain⟨u,rfl⟩:∃u,t=u+1:=⟨t-1,by omega⟩
  rw[rch,or_eq_true,any_eq_true]at h;rcases h with h |⟨j,hj,h⟩
  .exact h
  .obtain⟨h1,h2,h3⟩:=H.up i hi j hj;have hl:=H.rl j.toNat ();have:=ih (n-rk j.toNat) () j.toNat u () rfl () h;rw[rch,or_eq_true,any_eq_true];exact .inr ⟨j,hj,this⟩
theorem Dc{sp:Nat->Bool}(H:m5 n hg rk D){i:Nat}(hi:i<n){j:Int}(hj:j∈hg i)(h:rch hg sp n j.toNat=true):rch hg sp n i=true:=
 wC H (n-rk i) i n hi rfl () (by rw[rch,or_eq_true,any_eq_true];exact .inr ⟨j,hj,h⟩)
theorem m5.quiet(H:m5 n hg rk D){sp:Nat->Bool}{c0:JK}(h0:caR n false D c0=true)(h:∀i,i<n->rch hg sp n i=false->gt cs i=gt c0 i){i:Nat}(hi:i<n)(hd:D cs i≠gt cs i):rch hg sp n i=true:=Classical.byContradiction λz=>by
 have z':rch hg sp n i=false:=by simpa using z
 refine hd ?_;rw[h i hi z',<- B_ h0 i hi];refine H.loc _ _ i hi λj hj=>h _ (by have:=H.up i hi j hj;omega) ?_;exact Classical.byContradiction λw=>z (Dc H hi hj (by simpa using w))
end
def Sp.of{o:PV}{n:Nat}{sp:Int}{al ip:Bool}{D:JK->Nat->Int}(r:Rl o n sp al ip D):Sp n sp D:=⟨λcs k hn hc hk=>(r.due .bor cs k (.inl rfl) hn hc hk).2⟩
inductive Spo(n:Nat)(sp:Int)(c0:JK):JK->Nat->Prop
 |zero:Spo n sp c0 c0 0
 |more {cs:JK}{c p:Nat}{v:Int}:Spo n sp c0 cs c->p<n->0<=v->v<sp->Spo n sp c0 (cs.set p v) (c+1)
def Spo.in_{n:Nat}{sp:Int}{c0 cs:JK}{c:Nat}(h:Spo n sp c0 cs c)(hn:c0.length=n)(hc:InS sp c0):cs.length=n/\InS sp cs:=by
 induction h with
 |zero=>exact⟨hn,hc⟩
 |more _ hp h1 h2 ih=>
  refine⟨by simpa using ih.1,λx hx=>?_⟩;rcases List.mem_or_eq_of_mem_set hx with hx|rfl
  .exact ih.2 x hx
  .exact⟨h1,h2⟩
def pick(n:Nat)(R:Nat->Bool):JK:=((range n).filter R).map λi:Nat=>(i:Int)
structure Kx(o:PV)(n:Nat)(sp:Int)(ip:Bool)(D:JK->Nat->Int):Prop where
 cv:ip=false->∀cs:JK,cs.length=n->InS sp cs->caR n false D (swK n D (2*n) cs)=true
 ms:∃(M:JK->Int) (mo:Int) (so:Nat->Int),(∀f cs,Fc f\/f=.own->cs.length=n->InS sp cs->dG aF (.ok [.lst f (iL cs)]) o=.ok (.int (M cs)))/\dG ay (.ok []) o=.ok (.int mo)/\
  (∀c:Nat,c<=1000->dG aJ (.ok [.int c]) o=.ok (.int (so c))/\so c<=mo)/\∀c0 cs c,c0.length=n->InS sp c0->caR n ip D c0=true->Spo n sp c0 cs c->M cs<=so c
 rc:∀sl:JK,∃R:Nat->Bool,(∀f,Fc f\/f=.own->dG aC (.ok [.lst f (iL sl)]) o=.ok (.lst .own (iL (pick n R))))/\(∀i:Nat,sl.contains (i:Int)=true->R i=true)/\
  ∀c0 cs:JK,caR n ip D c0=true->(∀i,i<n->R i=false->gt cs i=gt c0 i)->∀i,i<n->D cs i≠gt cs i->R i=true
section
variable{o:PV}{n:Nat}{sp:Int}{al ip:Bool}{D:JK->Nat->Int}
theorem r8(r:Rl o n sp al ip D)(h:∀x,dG aC x o=x.bind λxs=>aN kh (o::xs))(sl:JK):∃R:Nat->Bool,(∀f,Fc f\/f=.own->dG aC (.ok [.lst f (iL sl)]) o=.ok (.lst .own (iL (pick n R))))/\(∀i:Nat,sl.contains (i:Int)=true->R i=true)/\
  ∀c0 cs:JK,caR n ip D c0=true->(∀i,i<n->R i=false->gt cs i=gt c0 i)->∀i,i<n->D cs i≠gt cs i->R i=true:=by
 have n20:=r.n20;refine⟨λ_=>true,λf hf=>?_,λ_ _=>rfl,λ_ _ _ _ _ _ _=>rfl⟩;have e1:cG 0 n=iL (pick n λ_=>true):=by unfold pick;rw[List.filter_eq_self.mpr (λ_ _=>rfl)];simp[cG,iL]
 have e2:j0 [.int (n:Int)]=.ok (.lst .own (iL (pick n λ_=>true))):=by simp[j0,show(n:Int)<= 1000000 by omega,e1]
 have e3:∀x,kh [o,x]=.ok (.lst .own (iL (pick n λ_=>true))):=λx=>by refine au ?_;show zz [some o,some x]=_;unfold zz;exact a5 (by simp[r.le,r.a0,e2]) (by simp)
 rw[h];simp[r.tb,e3,aA]
def tm(r:Rl o n sp al ip D)(h:∀x,dG aJ x o=x.bind λxs=>aN i5 (o::xs)){M:JK->Int}{mo:Int}(me:∀f cs,Fc f\/f=.own->cs.length=n->InS sp cs->dG aF (.ok [.lst f (iL cs)]) o=.ok (.int (M cs)))(mq:dG ay (.ok []) o=.ok (.int mo))(bd:∀cs,cs.length=n->InS sp cs->M cs<=mo) :
  ∃(M:JK->Int) (mo:Int) (so:Nat->Int),(∀f cs,Fc f\/f=.own->cs.length=n->InS sp cs->dG aF (.ok [.lst f (iL cs)]) o=.ok (.int (M cs)))/\dG ay (.ok []) o=.ok (.int mo)/\
  (∀c:Nat,c<=1000->dG aJ (.ok [.int c]) o=.ok (.int (so c))/\so c<=mo)/\∀c0 cs c,c0.length=n->InS sp c0->caR n ip D c0=true->Spo n sp c0 cs c->M cs<=so c:=by
 refine⟨M,mo,λ_=>mo,me,mq,λc _=>⟨?_,Int.le_refl _⟩,λc0 cs c hn hc _ h=>bd _ (h.in_ hn hc).1 (h.in_ hn hc).2⟩;have e3:i5 [o,.int c]=.ok (.int mo):=by refine au ?_;show zu [some o,some (.int c)]=_;unfold zu;exact a5 (by simp[r.le,mq]) (by simp)
 rw[h];simp[r.tb,e3,aA]
end
section
variable{n r:Nat}{ps:JH}{ms F:JK}{M:Int}
theorem BD{o:PV}{al ip:Bool}(N:eF n r ps F)(R:Rl o n ((n:Int)+1) al ip (dX ps (fs n r) n n)):Lev n ((n:Int)+1) (dX ps (fs n r) n n) (λk v i=>Lv F k v i) where
 S:=.of R
 z:=λcs hn hc=>N.zero (λc h=>by have:=hc c h;omega) hn
 le:=λk v i h=>Lv.less (by simpa using h)
 st:=λcs k hn hc h i hi=>by have:=(N.step (λc h=>by have:=hc c h;omega) hn h hi).1;simpa using this
 un:=λv v' i hi h h'=>by have a:=N.all i hi;obtain⟨h1,h2⟩:=h;obtain⟨h3,h4⟩:=h';have:=h2 ();have:=h4 ();omega
theorem xM{o:PV}{al ip:Bool}(N:jt n r ps ms F M)(R:Rl o n (10*(n:Int)+1) al ip (dX ps (ls n ms) n (10*n))):Lev n (10*(n:Int)+1) (dX ps (ls n ms) n (10*n)) (λk v i=>Iv n F M k v i) where
 S:=.of R
 z:=λcs hn hc=>N.zero
 le:=λk v i h=>h.less
 st:=λcs k hn hc h i hi=>by
  have:=N.step h hi;unfold DL at this
  rwa [show(n:Int)*10=10*n from Int.mul_comm _ _]at this
 un:=λv v' i hi h h'=>by have a:=N.all i hi;obtain⟨h1,h2⟩:=h.2 ();obtain⟨h3,h4⟩:=h'.2 ();have:=h2 ();have:=h4 ();omega
theorem xN{o:PV}{al ip:Bool}(N:eF n r ps F)(R:Rl o n (((n:Int)+1)*((n:Int)+1)) al ip (kK n ps r)):Lev n (((n:Int)+1)*((n:Int)+1)) (kK n ps r) (λk v i=>Pg n ps r F k v i) where
 S:=.of R
 z:=λcs hn hc=>Pg.zero N hc hn
 le:=λk v i h=>h.less
 st:=λcs k hn hc h i hi=>Pg.step N hc hn h hi
 un:=λv v' i hi h h'=>by have a:=N.all i hi;have d:=N.D.rng i hi;rw[B8 (show(0:Int) <(n:Int)+1 by omega)];have e1:=h.2 () ();have e2:=h'.2 () ();obtain⟨h1,h2⟩:=h.1;obtain⟨h3,h4⟩:=h'.1;rw[Nat.min_eq_right ()]at h1 h2 h3 h4;have:=h2 ();have:=h4 ();exact⟨by omega,by rw[e1,e2]⟩
end
section
variable{n r:Nat}{ps:JH}{os:List (JO)}{st:Int}
theorem qD{cc T:Nat}(hcc:cc=5\/cc=6)(n10:n<=10)(hT:T<=100)(R:Rl (lea .bor cc n ps os st T) n ((T:Int)+1) true false (dX ps os st T))(cv:∀cs:JK,cs.length=n->InS ((T:Int)+1) cs->caR n false (dX ps os st T) (swK n (dX ps os st T) (2*n) cs)=true):Kx (lea .bor cc n ps os st T) n ((T:Int)+1) false (dX ps os st T) where
 cv:=λ_=>cv
 ms:=tm R (λx=>by rcases hcc with rfl|rfl<;>simp[aJ]) (M:=λcs=>mT n ps os st T cs) (mo:=((n:Int)+1) ^ (2*T)-1)
  (λf cs hf hn hc=>by
   have:=qA (fc:=f.JV) (cc:=cc) (ps:=ps) (os:=os) (st:=st) (T:=T) (D:=dX ps os st T cs) (Fc.tb2 hf) (λf k hf hk=>(R.due f cs k hf hn hc hk).1) hn n10 ();rcases hcc with rfl|rfl<;>simp[aF,this,aA])
  (by rcases hcc with rfl|rfl<;>simp[ay,qz (f:=.bor) (.inl rfl) n10 hT,aA])
  (λcs hn hc=>Int.le_sub_one_of_lt (Cu (n:=n) (T:=T) (A:=dX ps os st T cs) (x:=gt cs)).2)
 rc:=r8 R (λx=>by rcases hcc with rfl|rfl<;>simp[aC])
theorem BG{F:JK}(N:eF n r ps F)(R:Rl (gro .bor n ps r) n (((n:Int)+1)*((n:Int)+1)) true false (kK n ps r))(hnb:∀i:Nat,∀x∈nbL ps i,0<=x/\x<n)(hl:∀i:Int,(nbL ps i).length<=1000):Kx (gro .bor n ps r) n (((n:Int)+1)*((n:Int)+1)) false (kK n ps r) where
 cv:=λ_ cs hn hc=>(xN N R).conv hn hc
 ms:=by
  have n1:=N.n1;have h10:=N.n10;have lm:=λf hf=>qz (cc:=5) (n:=n) (T:=n) (ps:=ps) (os:=fs n r) (st:=n) (f:=f) hf h10 ();have pn:=fH (e:=n) (b:=2) (by decide) (by decide) ();have p2:=rD h10;have mu:∀B:Int,ck (.int B) (.int (2 ^ n))=.ok (.int (B*2 ^ n)):=λB=>cH (.inr ⟨by omega,by omega⟩);have gm:yD [gro .bor n ps r]=.ok (.int (((n:Int)+1) ^ (2*n)*2 ^ n-1)):=by refine au ?_;show zR [some (gro .bor n ps r)]=_;unfold zR;refine a5 ?_ (by simp);generalize hB:((n:Int)+1) ^ (2*n)=B at lm ⊢;generalize(2:Int) ^ n=PN at *;simp[ap,a_,jI,lm .bor (.inl rfl),pn,mu,aA,Int.sub_add_cancel]
  have rf:=lO (cc:=5) (n:=n) (ps:=ps) (os:=fs n r) (st:=n) (tp:=n) (.inl rfl) n1 () () () (sK n1) (by simp[fs]) hnb hl;refine tm R (λx=>by simp[aJ]) (M:=λcs=>mT n ps (fs n r) n n (FA n cs)*2 ^ n+Wl (rnk n (FA n cs)) n (wrg n ps r cs)) (mo:=((n:Int)+1) ^ (2*n)*2 ^ n-1) (λf cs hf hn hc=>?_) (by simp[ay,gm,aA]) (λcs hn hc=>?_)
  .have fl:(FA n cs).length=n:=by simpa using hn
   have hi:InS ((n:Int)+1) (FA n cs):=λc hc'=>by have:=InG.far hc c hc';omega
   have hM:=qA (fc:=.bor) (cc:=5) (ps:=ps) (os:=fs n r) (st:=n) (T:=n) (cs:=FA n cs) (D:=dX ps (fs n r) n n (FA n cs)) (.inl (.inl rfl)) (λf k hf hk=>(rf.due f _ k hf fl hi hk).1) fl h10 ();have:=yb (fc:=f.JV) (r:=r) (cs:=cs) (Fc.tb2 hf) h10 hnb (λi=>hl i) hn hM;simp[aF,this,aA]
  .obtain⟨a1,a2⟩:=Cu (n:=n) (T:=n) (A:=dX ps (fs n r) n n (FA n cs)) (x:=gt (FA n cs));obtain⟨b1,b2⟩:=v6 (n:=n) (K:=n) (rk:=rnk n (FA n cs)) (p:=wrg n ps r cs) (λi j h1 h2 e=>AI h1 h2 e) (λi hi _=>oC hi);show mL n n _ _*_+_<=_;generalize((n:Int)+1) ^ (2*n)=B at *;generalize(2:Int) ^ n=PN at *;have c:=sH (b:=PN) (r:=0) p2.1 a2 b2 ();omega
 rc:=r8 R (λx=>by simp[aC])
end
def bL(bs:List Bool):JS:=bs.map .bl
def rL(hg:Nat->JK)(sp:Nat->Bool)(n t:Nat):List Bool:=(range n).map (rch hg sp t)
@[simp] def Jm{p:Fl->Bool}{bs:List Bool}:hasL p (bL bs)=false:=by
 induction bs with
 |nil=>rfl
 |cons b bs ih=>simpa[bL,hasL,PV.has]using ih
@[simp] def Jl{g:Fl->Fl}{bs:List Bool}:mapL g (bL bs)=bL bs:=by
 induction bs with
 |nil=>rfl
 |cons b bs ih=>simpa[bL,mapL,PV.J2]using ih
section
variable{o:PV}{n:Nat}{sp:Int}{al ip:Bool}{D:JK->Nat->Int}{hg:Nat->JK}{rk:Nat->Nat}
def r9{s:Nat->Bool}{t k:Nat}{f:Fl}(hk:k<n):aK (.lst f (bL (rL hg s n t))) (.int k)=.ok (.bl (rch hg s t k)):=cY rfl (by simp[bL,rL,hk]) rfl
theorem xY(r:Rl o n sp al ip D)(H:m5 n hg rk D)(ho:∀k:Nat,k<n->dG aX (.ok [.int k]) o=.ok (.lst .own (iL (hg k)))/\(hg k).length<=1000){s:Nat->Bool}{t k:Nat}(hk:k<n):vK [o,.int k,.lst .bor (bL (rL hg s n t))]=.ok (.bl ((hg k).any λj=>rch hg s t j.toNat)):=by
 have hl:=(ho k hk).2;refine au ?_;show Fy [some o,some (.int k),some (.lst .bor (bL (rL hg s n t)))]=_;unfold Fy;refine a5 ?_ (by simp);simp only[eD,cr,c9];rw[aM (xs:=iL (hg k)) (ys:=((hg k).map λj=>rch hg s t j.toNat).map .bl) (by simp[r.le,(ho k hk).1]) (by rw[ba];omega) ?_]
 .have hb:iO kQ (.lst .own (((hg k).map λj=>rch hg s t j.toNat).map .bl))=.ok (.bl ((hg k).any λj=>rch hg s t j.toNat)):=by
   unfold iO;dsimp only;rw[jm];simp[kQ,List.any_map]
   try rfl
  simp only[p1,Res.J4,hb]
 .rw[map_map];refine bp (a:=PV.int) (f:=PV.bl ∘ λj=>rch hg s t j.toNat) (hg k) λj hj=>⟨[some (.lst .bor (bL (rL hg s n t))),some (.int j)],by simp[tgN,aO,bQ],?_,by simp,by simp⟩
  obtain⟨h1,h2,_⟩:=H.up k hk j hj;have:=r9 (hg:=hg) (s:=s) (t:=t) (k:=j.toNat) (f:=.bor) (n:=n) ();rw[show((j.toNat:Nat):Int)=j by omega]at this;simp[this]
theorem wB(r:Rl o n sp al false D)(H:m5 n hg rk D)(ho:∀k:Nat,k<n->dG aX (.ok [.int k]) o=.ok (.lst .own (iL (hg k)))/\(hg k).length<=1000)(hs:∀x,dG bP x o=x.bind λxs=>aN vK (o::xs))(hr:∀x,dG aC x o=x.bind λxs=>aN vH (o::xs))(sl:JK) :
  ∃R:Nat->Bool,(∀f,Fc f\/f=.own->dG aC (.ok [.lst f (iL sl)]) o=.ok (.lst .own (iL (pick n R))))/\(∀i:Nat,sl.contains (i:Int)=true->R i=true)/\
  ∀c0 cs:JK,caR n false D c0=true->(∀i,i<n->R i=false->gt cs i=gt c0 i)->∀i,i<n->D cs i≠gt cs i->R i=true:=by
 have n20:=r.n20;refine⟨rch hg (λi=>sl.contains (i:Int)) n,λf hf=>?_,λi h=>wD (t:=0) () h,λc0 cs h0 h i hi hd=>H.quiet h0 h hi hd⟩;generalize hsp:(λi:Nat=>sl.contains (i:Int))=s;have key:∀f,vH [o,.lst f (iL sl)]=.ok (.lst .own (iL (pick n (rch hg s n)))):=λf=>by
  refine au ?_;show Fe [some o,some (.lst f (iL sl)),none,none]=_;unfold Fe;refine ag (aw (v:=.lst .own (bL (rL hg s n 0))) ?_ (by simp[PV.J1,PV.has]) rfl) ?_
  .refine aM (xs:=cG 0 n) (bv (n:=n) (by simp[r.le,r.a0]) ()) (by rw[aZ];omega) ?_;rw[show bL (rL hg s n 0)=(range n).map (PV.bl ∘ s) by simp[bL,rL,rch]];exact bp (a:=λk:Nat=>PV.int (0+(k:Int))) (f:=PV.bl ∘ s) (range n) λk hk=>⟨[some (.lst f.JX (iL sl)),some (.int (0+k))],by simp[tgN,aO,bQ],by rw[<- hsp];simp,by simp,by simp⟩
  simp only[s0_,s1_];refine fB (λt e=>∃x3,e=[some o,some (.lst f (iL sl)),some (.lst .own (bL (rL hg s n t))),x3]) (bv (n:=n) (by simp[r.le,r.a0]) ()) ⟨_,rfl⟩ (λt x e hx hP=>?_) (λe hP=>?_)
  .obtain⟨x3,rfl⟩:=hP;refine⟨_,cS rfl,bu (aw (v:=.lst .own (bL (rL hg s n (t+1)))) ?_ (by simp[PV.J1,PV.has]) rfl) ⟨_,rfl⟩⟩;simp only[s0_,s1_];refine aM (xs:=cG 0 n) (bv (n:=n) (by simp[r.le,r.a0]) ()) (by rw[aZ];omega) ?_;rw[show bL (rL hg s n (t+1))=(range n).map (PV.bl ∘ rch hg s (t+1)) by simp[bL,rL]];refine bp (a:=λk:Nat=>PV.int (0+(k:Int))) (f:=PV.bl ∘ rch hg s (t+1)) (range n) λk hk=>⟨[some (.lst .bor (bL (rL hg s n t))),some o,some (.int (0+k))],by simp[tgN,aO,bQ,PV.JX,r.bo],?_,by simp,by simp⟩
   have hk':=mem_range.mp hk;have i1:=r9 (hg:=hg) (s:=s) (t:=t) (f:=.bor) hk';have so:=xY r H ho (s:=s) (t:=t) hk';by_cases q:rch hg s t k=true
   .simp[i1,q,rch,pOr]
   .simp[i1,q,rch,pOr,r.le,r.tb,hs,so,aA]
  .obtain⟨x3,rfl⟩:=hP;rw[aZ];refine a5 (aM (xs:=cG 0 n) (bv (n:=n) (by simp[r.le,r.a0]) ()) (by rw[aZ];omega) (dA (rch hg s n) (λk=>(k:Int)) n λk hk=>⟨[some (.lst .bor (bL (rL hg s n n))),some (.int (0+k))],by simp[tgN,aO,bQ],?_,λ_=>by simp⟩)) (by simp);have i1:=r9 (hg:=hg) (s:=s) (t:=n) (f:=.bor) hk;simp[i1]
 rw[hr];simp[r.tb,key,aA]
end
theorem xQ{n:Nat}{ps:JH}(h1:1<=n)(n10:n<=10)(rg:∀x∈ps,0<=x.1/\x.1<n/\0<=x.2/\x.2<n/\x.1≠x.2)(hl:∀i,(nbL ps i).length<=1000):Kx (pnt .bor n ps) n n false (mF ps):=by
 have r:=pZ h1 () rg hl;have H:m5 n (lc ps) (λi=>n - 1 - i) (mF ps):=⟨λi hi j hj=>by have:=oX rg hj;omega,λi hi=>by omega,λcs cs' i hi h=>by
  unfold mF;rw[map_congr_left h]⟩
 have rk:∀i:Nat,i<n->EL [pnt .bor n ps,.int i]=.ok (.int ((n-1-i:Nat):Int)):=λi hi=>by refine au ?_;show Fn [some (pnt .bor n ps),some (.int i)]=_;unfold Fn;exact a5 (by simp[ap,a_];omega) (by simp)
 refine⟨λ_ cs _ _=>H.conv,tm r (λx=>by simp[aJ]) (M:=λcs=>Wl (λi=>n-1-i) n (mvB (mF ps) cs)) (mo:=2 ^ n-1) (λf cs hf hn hc=>?_) (by simp[ay,qT (o:=pnt .bor n ps) (n:=n) (by simp) (by simp[ap,a_]) n10,aA]) (λcs hn hc=>?_),wB r H (λk hk=>⟨by simp[aX,qI hk (hl k),aA],Nat.le_trans (length_filter_le _ _) (hl k)⟩) (λx=>by simp[bP]) (λx=>by simp[aC])⟩
 .have:=qU (rk:=λi=>n-1-i) r n10 (λi hi=>⟨by simp[dz,rk i hi,aA],by omega⟩) (Fc.tb2 hf) hn hc;simp[aF,this,aA]
 .exact Int.le_sub_one_of_lt (v6 (n:=n) (K:=n) (rk:=λi=>n-1-i) (p:=mvB (mF ps) cs) (λi j h1 h2 e=>by omega) (λi hi _=>by omega)).2
theorem xR{ps:JK}(T:Tree ps)(hl:ps.length<=9):Kx (cnt .bor ps) (ps.length+1) ((ps.length:Int)+2) false (o9 (ps.length+1) ps):=by
 have r:=p_ hl;have H:m5 (ps.length+1) (λi=>dN i 1 ps) id (o9 (ps.length+1) ps):=⟨λi hi j hj=>by
  obtain⟨h1,h2,h3⟩:=iW hj;obtain⟨k4,k5⟩:=List.getElem?_eq_some_iff.mp h3;have:=T _ k4;simp only[id];omega,λi hi=>hi,λcs cs' i hi h=>by
  unfold o9;rw[pP h]⟩
 have rk:∀i:Nat,EJ [cnt .bor ps,.int i]=.ok (.int i):=λi=>by refine au ?_;show HK [some (cnt .bor ps),some (.int i)]=_;exact dF rfl
 refine⟨λ_ cs _ _=>H.conv,tm r (λx=>by simp[aJ]) (M:=λcs=>Wl id (ps.length+1) (mvB (o9 (ps.length+1) ps) cs)) (mo:=2 ^ (ps.length+1)-1) (λf cs hf hn hc=>?_) (by simp[ay,qT (o:=cnt .bor ps) (n:=ps.length+1) (by simp) (by simp[ap,a_]) (),aA]) (λcs hn hc=>?_),wB r H (λk hk=>⟨by simp[aX,nR (ps:=ps) (i:=k) (),aA],Nat.le_trans l8 ()⟩) (λx=>by simp[bP]) (λx=>by simp[aC])⟩
 .have:=qU (rk:=id) r () (λi hi=>⟨by simp[dz,rk i,aA],hi⟩) (Fc.tb2 hf) hn hc;simp[aF,this,aA]
 .exact Int.le_sub_one_of_lt (v6 (n:=ps.length+1) (K:=ps.length+1) (rk:=id) (p:=mvB (o9 (ps.length+1) ps) cs) (λi j h1 h2 e=>e) (λi hi _=>hi)).2
section
variable{n:Nat}{sp:Int}{cs:JK}
theorem wL(n2:2<=n)(n20:n<=20)(hs:(n:Int)<= sp)(hn:cs.length=n)(hc:InS sp cs):∃J:Nat,IsJ sp cs J/\∀f,Fc f\/f=.own->yk [gY .bor n sp,.lst f (iL cs)]=.ok (.int (n*J+bS cs n)):=by
 have r:=oE (n:=n) (sp:=sp) () n20 ();have hc0:=hc _ (cD (far:=cs) (i:=0) ());have so:=λf hf=>wc (fc:=f) hf (cs:=cs) () () () hc0;obtain⟨J,_,hJ⟩:=so .bor (.inl rfl);refine⟨J,hJ,λf hf=>au ?_⟩;obtain⟨J',e1,hJ'⟩:=so _ (Fc.call hf);rw[FE hJ' hJ]at e1;show Fs [some (gY .bor n sp),some (.lst f (iL cs)),none]=_;unfold Fs;have mo:=gJ r (.inl (Fc.call hf)) hn hc;have ml:=j6 (n:=n) (D:=fu sp) (cs:=cs);have ws:((((range n).filter λi=>decide (fu sp cs i≠gt cs i)).filter λi=>decide (i≠0)).map λi:Nat=>(n:Int)-i).sum=bS cs n:=by
  obtain⟨m,rfl⟩:∃m,n=m+1:=⟨n-1,by omega⟩
  have:=sW (sp:=sp) (cs:=cs) (c:=((m+1:Nat):Int)) m;rw[show((m+1:Nat):Int)-1-m=0 by omega,Int.zero_mul,Int.add_zero]at this;exact this
 have sm:∀g:Fl,jZ (.lst g (iL ((((range n).filter λi=>decide (fu sp cs i≠gt cs i)).filter λi=>decide (i≠0)).map λi:Nat=>(n:Int)-i)))=.ok (.int (bS cs n)):=λg=>by
  rw[<- ws];refine lh ?_ λx hx=>?_
  .rw[length_map];refine Nat.le_trans (length_filter_le _ _) (Nat.le_trans (length_filter_le _ _) (by simp;omega))
  .obtain⟨i,hi,rfl⟩:=mem_map.mp hx;have:=mem_range.mp (mem_filter.mp (mem_filter.mp hi).1).1;omega
 refine ag (aw (v:=.lst .own (iL ((((range n).filter λi=>decide (fu sp cs i≠gt cs i)).filter λi=>decide (i≠0)).map λi:Nat=>(n:Int)-i))) ?_) ?_
 .refine aM (xs:=iL (mvR n (fu sp) cs)) (by simp[r.mv,mo,aA]) (by rw[ba];omega) ?_;unfold mvR;rw[show ∀l:List Nat,iL (l.map λi:Nat=>(i:Int))=l.map λi:Nat=>PV.int i from λl=>by simp[iL],show ∀l:List Nat,iL (l.map λi:Nat=>(n:Int)-i)=l.map λi:Nat=>PV.int ((n:Int)-i)from λl=>by simp[iL]];exact cN (a:=λi:Nat=>PV.int i) (f:=λi:Nat=>PV.int ((n:Int)-i)) (p:=λi=>decide (i≠0)) _ λx _=>⟨[some (gY .bor n sp),some (.int x)],by simp[tgN,aO,bQ],by simp,λ_=>by simp[ap,a_]⟩
 simp only[s0_,s1_];have mu:ck (.int (n:Int)) (.int (J:Int))=.ok (.int (n*J)):=cH (.inl ⟨by omega,by omega⟩);generalize List.map (λi:Nat=>(n:Int)-i) _=WS at *;exact a5 (by simp[ap,a_,e1,aA,mu,p1,sm]) (by simp)
theorem Cc:∀m,bc cs m<=bc cs (m+1):=λm=>by simp only[bc];split<;>omega
theorem HQ(m:Nat):bS cs (m+1)<= m*bc cs m:=by
 induction m with
 |zero=>simp[bS,bc]
 |succ m ih=>
  have h:=Cc (cs:=cs) m;have e:bS cs (m+1+1)=bS cs (m+1)+bc cs (m+1):=rfl;have m1:(m:Int)*bc cs m<=m*bc cs (m+1):=Int.mul_le_mul_of_nonneg_left h ();have e2:((m+1:Nat):Int)*bc cs (m+1)=m*bc cs (m+1)+bc cs (m+1):=by rw[show((m+1:Nat):Int)=m+1 by omega,Int.add_mul,Int.one_mul]
  omega
theorem E5{p:Nat}{v:Int}(hp:p<cs.length)(m:Nat):bc (cs.set p v) m<=bc cs m+(if p<m then 1 else 0)+(if p<=m/\0<p then 1 else 0):=by
 induction m with
 |zero=>simp only[bc];split<;>split<;>omega
 |succ m ih=>
  have b:∀(P:Prop) [Decidable P],0 <=(if P then(0:Int)else 1)/\(if P then(0:Int)else 1)<= 1:=λP _=>by split<;>omega
  simp only[bc];by_cases q1:m=p
  .have b1:=b (gt (cs.set p v) m=gt (cs.set p v) (m+1));have b2:=b (gt cs m=gt cs (m+1));rw[if_neg (show ¬p<m by omega)]at ih;rw[if_pos (show p<m+1 by omega)];have:(if p<=m/\0<p then(1:Int)else 0)<= if p<=m+1/\0<p then 1 else 0:=by split<;>split<;>omega
   omega
  .by_cases q2:m+1=p
   .have b1:=b (gt (cs.set p v) m=gt (cs.set p v) (m+1));have b2:=b (gt cs m=gt cs (m+1));rw[if_neg (show ¬p<m by omega),if_neg (show ¬(p<=m/\0<p) by omega)]at ih;rw[if_neg (show ¬p<m+1 by omega),if_pos (show p<=m+1/\0<p by omega)];omega
   .rw[o6 v hp,o6 v hp,if_neg q1,if_neg q2];have:(if p<=m/\0<p then(1:Int)else 0)<= if p<=m+1/\0<p then 1 else 0:=by split<;>split<;>omega
    have:(if p<m then(1:Int)else 0)<= if p<m+1 then 1 else 0:=by split<;>split<;>omega
    omega
structure Flt(n:Nat)(sp:Int)(cs:JK)(c:Nat):Prop where
 len:cs.length=n
 rg:InS sp cs
 vs:∃vs:JK,vs.length<=c+2/\∀x∈cs,x∈vs
 bs:bc cs (n-1)<= 2*c+1
theorem Flt.more{c p:Nat}{v:Int}(h:Flt n sp cs c)(hp:p<n)(hv:0<=v/\v<sp):Flt n sp (cs.set p v) (c+1):=by
 obtain⟨vs,v1,v2⟩:=h.vs;refine⟨by rw[length_set];exact h.len,λx hx=>?_,⟨v::vs,by simp;omega,λx hx=>?_⟩,?_⟩
 .rcases List.mem_or_eq_of_mem_set hx with hx|hx
  .exact h.rg x hx
  .rw[hx];exact hv
 .rcases List.mem_or_eq_of_mem_set hx with hx|hx
  .exact mem_cons_of_mem _ (v2 x hx)
  .rw[hx];exact mem_cons_self
 .have:=E5 (cs:=cs) (p:=p) (v:=v) (by rw[h.len];exact hp) (n-1);have:=h.bs;have b:∀(P:Prop) [Decidable P],(if P then(1:Int)else 0)<= 1:=λP _=>by split<;>omega
  have b1:=b (p<n-1);have b2:=b (p<=n-1/\0<p);omega
theorem Cs.flt{p:Nat}{a b:Int}(h:Cs n sp cs p a b)(hc:InS sp cs):Flt n sp cs 0:=by
 have hl:=h.len;refine⟨hl,hc,⟨[a,b],by simp,λx hx=>?_⟩,?_⟩
 .obtain⟨i,hi,e⟩:=getElem_of_mem hx;have eg:gt cs i=x:=by rw[<- e];simp[gt,hi]
  rw[<- eg];by_cases q:i<p
  .simp[h.lo i q]
  .simp[h.hi i () ()]
 .have:∀m,m<n->bc cs m<=if p<=m then 1 else 0:=λm=>by
   induction m with
   |zero=>intro _;simp only[bc];split<;>omega
   |succ m ih=>
    intro hm;have ih:=ih ();simp only[bc];by_cases q:m+1=p
    .rw[if_neg ()]at ih;rw[if_pos (show p<=m+1 by omega)];split<;>omega
    .have e:gt cs m=gt cs (m+1):=by
      by_cases q2:m+1<p
      .rw[h.lo m (),h.lo (m+1) q2]
      .rw[h.hi m () (),h.hi (m+1) () hm]
     rw[if_pos e];split at ih<;>split<;>omega
  have pn:=h.pn;have:=this (n-1) ();split at this<;>omega
theorem Js{vs:JK}{J:Nat}(hs:(cs.length:Int)<= sp)(hc:InS sp cs)(hv:∀c∈cs,c∈vs)(h1:1<=cs.length)(hJ:IsJ sp cs J):J<=vs.length:=by
 rcases hJ with⟨_,rfl⟩ |⟨st,j1,j2,j3,j4⟩
 .omega
 .have nd:((range J).map λs:Nat=>(gt cs 0+s)%sp).Nodup:=by rw[Nodup,List.pairwise_map];refine Pairwise.imp_of_mem (λ{a b} ha hb hab z=>?_) (nodup_range (n:=J));have ha':=mem_range.mp ha;have hb':=mem_range.mp hb;exact hab (qR z () ())
  have le:=nL (l':=vs) nd λx hx=>by
   obtain⟨s,hs',rfl⟩:=mem_map.mp hx;have hs2:=mem_range.mp hs';by_cases q:s=0
   .subst q;have h0:=hc _ (cD (far:=cs) (i:=0) ());rw[show gt cs 0+((0:Nat):Int)=gt cs 0 by omega,emod_eq_of_lt h0.1 h0.2];exact hv _ (cD ())
   .exact hv _ (List.mem_of_mem_drop (j4 s () hs2))
  simpa using le
def pT(n:Nat)(c:Nat):Int:=min (3*(n:Int)*(n-1) / 2) (((c:Int)+2)*n+(2*c+1)*(n-1))
theorem BF(n2:2<=n)(n20:n<=20)(hs:(n:Int)<= sp):Kx (gY .bor n sp) n sp true (fu sp):=by
 have r:=oE (n:=n) (sp:=sp) () n20 ();obtain⟨J,hJ⟩:∃J:JK->Nat,∀cs:JK,cs.length=n->InS sp cs->IsJ sp cs (J cs)/\∀f,Fc f\/f=.own->yk [gY .bor n sp,.lst f (iL cs)]=.ok (.int (n*(J cs)+bS cs n)):=⟨λcs=>Classical.epsilon λJ=>IsJ sp cs J/\∀f,Fc f\/f=.own->yk [gY .bor n sp,.lst f (iL cs)]=.ok (.int (n*J+bS cs n)),λcs hn hc=>Classical.epsilon_spec (wL n2 n20 hs hn hc)⟩
 refine⟨λz=>(nomatch z),⟨λcs=>n*J cs+bS cs n,3*n*((n:Int)-1) / 2,pT n,λf cs hf hn hc=>by simp[aF,(hJ cs hn hc).2 _ (Fc.tb2 hf),aA],by simp[ay,qj n20,aA],λc hc=>⟨?_,by unfold pT;omega⟩,λc0 cs c hn hc h0 h=>?_⟩,r8 r (λx=>by simp[aC])⟩
 .have so:yH [gY .bor n sp,.int c]=.ok (.int (pT n c)):=by refine au ?_;show zW [some (gY .bor n sp),some (.int c)]=_;unfold zW pT;have mo:=qj (sp:=sp) n20;have m1:ck (.int ((c:Int)+2)) (.int (n:Int))=.ok (.int (((c:Int)+2)*n)):=cH (.inr ⟨by omega,by omega⟩);have m2:ck (.int 2) (.int (c:Int))=.ok (.int (2*c)):=cH (.inl ⟨by decide,by decide⟩);have m3:ck (.int (2*(c:Int)+1)) (.int ((n:Int)-1))=.ok (.int ((2*c+1)*(n-1))):=cH (.inr ⟨by omega,by omega⟩);exact a5 (by simp[ap,a_,ay,mo,aA,m1,m2,m3,fS]) (by simp)
  simp[aJ,so,aA]
 .obtain⟨p,a,b,C⟩:=HJ hn n2 hc h0;have fl:Flt n sp cs c:=by
   induction h with
   |zero=>exact C.flt hc
   |more _ hp h1 h2 ih=>exact ih.more hp ⟨h1,h2⟩
  obtain⟨hJ,_⟩:=hJ cs fl.len fl.rg;obtain⟨vs,v1,v2⟩:=fl.vs;have hl:=fl.len;have j:=Js () fl.rg v2 () hJ;obtain⟨q,hq⟩:∃q,n=q+1:=⟨n-1,by omega⟩
  have w:=HQ (cs:=cs) q;have bb:=fl.bs;obtain⟨_,b1,b2⟩:=CL (cs:=cs) n;rw[hq]at bb;simp only[Nat.add_sub_cancel]at bb;have m1:(n:Int)*J cs<=n*(c+2):=Int.mul_le_mul_of_nonneg_left () ();have m2:(q:Int)*bc cs q<=q*(2*c+1):=Int.mul_le_mul_of_nonneg_left bb ();have jn:J cs<=n-1:=by rcases hJ with⟨_,e⟩ |⟨_,_,e,_⟩<;>omega
  have m4:(n:Int)*J cs<=n*((n:Int)-1):=Int.mul_le_mul_of_nonneg_left () ();rw[<- hq]at w;unfold pT;rw[Int.mul_comm ((c:Int)+2) n,Int.mul_comm (2*(c:Int)+1) _,show(n:Int)-1=q by omega,Int.mul_assoc 3];rw[show(n:Int)-1=q by omega]at m4 b2;show(n:Int)*J cs+bS cs n<=_;omega
end
structure KR(O o:PV)(n:Nat)(sp:Int)(al ip:Bool)(D:JK->Nat->Int):Prop where
 own:O.has Fl.J0=false
 nl:O.J1=true
 lb:(O.J2 Fl.JU).J2 Fl.JV=o
 bb:O.J2 Fl.JX=o
 la0:ap 0 (O.J2 Fl.JU)=.ok (.int n)
 la8:ap 8 (O.J2 Fl.JU)=.ok (.bl al)
 r:Rl o n sp al ip D
def nmL(u:Int)(n:Nat):JK:=(range n).map λa:Nat=>(u+3*(a:Int))%10
theorem Ej(u:Int){n:Nat}(n10:n<=10):OkM n (nmL u n):=by
 refine⟨by simp[nmL],?_,λx hx=>?_⟩
 .unfold nmL;rw[Nodup,List.pairwise_iff_getElem];intro i j hi hj hij;have hj':j<n:=by simpa using hj
  simp;omega
 .obtain⟨a,_,rfl⟩:=mem_map.mp hx;omega
def iJ(k:Nat):JK->JK
 | []=>[]
 |x::xs=>(x / 4%((k:Int)+1))::iJ (k+1) xs
def qo:∀(l:JK) (k:Nat),(iJ k l).length=l.length
 | [],_=>rfl
 |x::l,k=>by simp[iJ,qo l]
theorem qp:∀(l:JK) (k i:Nat) (h:i <(iJ k l).length),0 <=(iJ k l)[i]/\(iJ k l)[i]<= k+i
 | [],_,i,h=>by simp[iJ]at h
 |x::l,k,0,_=>by simp only[iJ,List.getElem_cons_zero];have:=emod_nonneg (x / 4) (show(k:Int)+1≠0 by omega);have:=emod_lt_of_pos (x / 4) (show(0:Int) <(k:Int)+1 by omega);omega
 |x::l,k,i+1,h=>by have:=qp l (k+1) i (by simpa[iJ]using h);simp only[iJ,List.getElem_cons_succ];omega
theorem n6{env:En}{g:TgM}{me:ME}:∀(l:JK) (k:Nat),(∀(j:Nat) (x:Int),x∈l->∃e1,g (.tup [.int j,.int x]) env=some e1/\me e1=.ok (.int (x / 4%((j:Int)+1))))->dP g bN me env (enP k (iL l))=.ok (iL (iJ k l))
 | [],_,_=>rfl
 |x::l,k,h=>by
  obtain⟨e1,h1,h2⟩:=h k x mem_cons_self;have ih:=n6 l (k+1) λj v hv=>h j v (mem_cons_of_mem _ hv);simp only[fI,enP,dP];have b:(PV.tup [.int k,.int x]).JX=.tup [.int k,.int x]:=by simp[PV.JX]
  rw[b,h1];rw[show((k+1:Nat):Int)=(k:Int)+1 by omega]at ih;simp[h2,ih,iJ]
theorem AH{kd m:Nat}(fr cell:Int)(hk:kd<6)(m1:1<=m)(m10:m<=10):∃O o n sp al ip D,uf [.int kd,.int m,.int fr,.int cell]=.ok O/\KR O o n sp al ip D/\Kx o n sp ip D/\n<=11/\(kd≠0->n=m)/\(kd=0->n=m+1)/\ip=decide (kd=0)/\(kd=0->2<=sp/\D=fu sp):=by
 obtain⟨ws,hw,Wh⟩:=Ai (n:=m) cell m1 m10;have Gd:=Wh.good ();have hin:=BL (fl:=.own) Gd m1 m10 (.inl rfl) λS h0 hc=>uv Wh () S h0 hc;have rg:∀x∈cP (ws.map mm),0<=x.1/\x.1<m/\0<=x.2/\x.2<m/\x.1≠x.2:=λx hx=>by obtain⟨w,hw,rfl⟩:=mem_map.mp ((du _).mem_iff.mp hx);have:=Gd.rg w hw;simp only[mm];omega
 have hl:∀i,(nbL (cP (ws.map mm)) i).length<=1000:=λi=>by
  unfold nbL;rw[(fM _).length_eq,length_append,length_map,length_map];have h1:=length_filter_le (λx:Int×Int=>decide (x.2=(i:Int))) (cP (ws.map mm));have h2:=length_filter_le (λx:Int×Int=>decide (x.1=(i:Int))) (cP (ws.map mm));have h3:(cP (ws.map mm)).length<64:=by rw[(du _).length_eq,length_map];exact Gd.sz
  omega
 have net:∀q,q<m->∃F,eF m q (cP (ws.map mm)) F:=λq hq=>by
  have rg':∀x∈cP (ws.map mm),0<=x.1/\x.1<m/\0<=x.2/\x.2<m:=λx hx=>by have:=rg x hx;omega
  obtain⟨F,_,Df⟩:=yi (n:=m) (r:=q) (ps:=cP (ws.map mm)) hq m10 rg';exact⟨F,m1,m10,hq,Df,Df.all hq λS h0 hc=>uv Wh hq S h0 hc,rg'⟩
 generalize cP (ws.map mm)=ps at *;have hnb:∀i:Nat,∀x∈nbL ps i,0<=x/\x<m:=λi x hx=>by
  rcases ib.mp hx with q|q
  .have:=rg _ q;omega
  .have:=rg _ q;omega
 have np:(0:Int)<m:=by omega
 obtain⟨r,hr0⟩:∃r:Nat,fr%(m:Int)=r:=⟨(fr%(m:Int)).toNat,by have:=emod_nonneg fr (show(m:Int)≠ 0 by omega);omega⟩
 have hr:r<m:=by have:=emod_lt_of_pos fr np;omega
 have run:∀O,k_ [some (.int kd),some (.int m),some (.int fr),some (.int cell)]=.ret O->uf [.int kd,.int m,.int fr,.int cell]=.ok O:=λO h=>au h;have:kd=0\/kd=1\/kd=2\/kd=3\/kd=4\/kd=5:=by omega
 rcases this with rfl|rfl|rfl|rfl|rfl|rfl
 .have d3:dC (.int fr) (.int 3)=.ok (.int (fr / 3)):=eE (by decide) (by decide);have p59:wZ (.int 10) (.int 59)=.ok (.int 100000000000000000000000000000000000000000000000000000000000):=by rfl
  have m59:cK (.int fr) (.int 100000000000000000000000000000000000000000000000000000000000)=.ok (.int (fr%100000000000000000000000000000000000000000000000000000000000)):=bF (by decide);have b59:=emod_nonneg fr (show(100000000000000000000000000000000000000000000000000000000000:Int)≠ 0 by decide);generalize fr%100000000000000000000000000000000000000000000000000000000000=w at m59 b59;obtain⟨u,hu,hu0⟩:∃u:Int,lV (.lst .own [.int (fr%3),.int w]) (.int (fr / 3%2))=.ok (.int u)/\0<=u:=by
   have:fr / 3%2=0\/fr / 3%2=1:=by omega
   rcases this with e|e
   .exact⟨fr%3,by rw[e];rfl,by omega⟩
   .exact⟨w,by rw[e];rfl,b59⟩
  have pi:=wN (size:=(m:Int)+1) (span:=(m:Int)+1+u) () () ();refine⟨gY .own ((m+1:Nat):Int) ((m:Int)+1+u),gY .bor ((m+1:Nat):Int) ((m:Int)+1+u),m+1,_,_,_,_,run _ ?_,⟨by simp[PV.has],by simp[PV.J1,PV.has],by simp[Fl.JU,Fl.JV],by simp[Fl.JX],by simp[ap,a_],by simp[ap,a_],oE () () ()⟩,BF () () (),by omega,λz=>absurd rfl z,λ_=>rfl,rfl,λ_=>⟨by omega,rfl⟩⟩;unfold k_;exact dB (jb (by simp) (a5 (by simp[d3,p59,m59,bF,hu,pi,aA,PV.has]) (by simp[PV.J1,PV.has])))
 .have pi:=u9 (n:=m) (ps:=ps);refine⟨pnt .own m ps,pnt .bor m ps,m,_,_,_,_,run _ ?_,⟨by simp[PV.has],by simp[PV.J1,PV.has],by simp[Fl.JU,Fl.JV],by simp[Fl.JX],by simp[ap,a_],by simp[ap,a_],pZ m1 () rg hl⟩,xQ m1 m10 rg hl,by omega,λ_=>rfl,λz=>absurd z (by decide),rfl,λz=>absurd z (by decide)⟩;unfold k_;exact ag (bU (by simp) aD) (dB (jb (by simp) (a5 (by simp[hw,hin,pi,aA,PV.has]) (by simp[PV.J1,PV.has]))))
 .obtain⟨l,hl1,hl2,hl3⟩:=jE cell (m-1) ();have hT:Tree (iJ 0 l):=λi h=>by have:=qp l 0 i h;omega
  have hp:(iJ 0 l).length=m-1:=by rw[qo,hl2]
  have hci:=y8 (f:=.own) hT () (.inl rfl);have rc:=p_ (ps:=iJ 0 l) ();have hc:aV [] 2 (qy (aq (aN my) (ae (ac 3) (ae (mOp iy (ac 1) (J5 1)) ao)))) (tgT 2 (bf (tgN 0) (bf (tgN 1) dZ))) bN (mOp cK (mOp dC (ac 1) (J5 4)) (mOp aP (ac 0) (J5 1))) [some (.int (2:Nat)),some (.int m),some (.int fr),some (.int cell)]=.ok (.lst .own (iL (iJ 0 l))):=by
   have cp:=n6 (env:=bQ [] 2 [some (.int (2:Nat)),some (.int m),some (.int fr),some (.int cell)]) (g:=tgT 2 (bf (tgN 0) (bf (tgN 1) dZ))) (me:=mOp cK (mOp dC (ac 1) (J5 4)) (mOp aP (ac 0) (J5 1))) l 0 λj x hx=>⟨[some (.int j),some (.int x)],by simp[tgT,bf,tgN,dZ,aO,bQ,dw],by simp[eE (i:=x) (show(0:Int)<4 by decide) (by decide),bF (i:=x / 4) (show(0:Int) <(j:Int)+1 by omega)]⟩
   refine aM (xs:=enP 0 (iL l)) ?_ (by rw[fF,ba];omega) cp;have nb:my [.int cell,.int ((m:Int)-1)]=.ok (.lst .own (iL l)):=by rw[show(m:Int)-1=((m-1:Nat):Int) by omega];exact hl1
   unfold qy;simp[nb,aA,a6]
  have hT':=hT;generalize iJ 0 l=qs at *;have e1:qs.length+1=m:=by omega
  refine⟨cnt .own qs,cnt .bor qs,qs.length+1,_,_,_,_,run _ ?_,⟨by simp[PV.has],by simp[PV.J1,PV.has],by simp[Fl.JU,Fl.JV],by simp[Fl.JX],by simp[ap,a_],by simp[ap,a_],rc⟩,xR hT' (),by omega,λ_=>e1,λz=>absurd z (by decide),rfl,λz=>absurd z (by decide)⟩;unfold k_;refine ag (bU (by simp) aD) (ag (bU (by simp) aD) (dB (jb (by simp) (a5 ?_ (by simp[PV.J1,PV.has])))));simp only[yQ,cr,c9,hc];simp[hci,aA,PV.has]
 .have pi:=qK (f:=.own) (ps:=ps) (.inr rfl) m1 m10 hr;obtain⟨F,N⟩:=net r hr;have R:=lO (cc:=5) (ps:=ps) (.inl rfl) m1 () np () (sK (r:=r) m1) (by simp[fs]) hnb hl;refine⟨lea .own 5 m ps (fs m r) m m,lea .bor 5 m ps (fs m r) m m,m,_,_,_,_,run _ ?_,⟨by simp[PV.has],by simp[PV.J1,PV.has],by simp[Fl.JU,Fl.JV],by simp[Fl.JX],by simp[ap,a_],by simp[ap,a_],R⟩,qD (.inl rfl) m10 () R (λcs hn hc=>(BD N R).conv hn hc),by omega,λ_=>rfl,λz=>absurd z (by decide),rfl,λz=>absurd z (by decide)⟩;unfold k_;exact ag (bU (by simp) aD) (ag (bU (by simp) aD) (ag (bU (by simp) aD) (dB (jb (by simp) (a5 (by simp[hw,hin,bF np,hr0,pi,aA,PV.has]) (by simp[PV.J1,PV.has]))))))
 .have N:=Ej fr m10;have pi:=vx (ps:=ps) (fm:=.own) (.inr rfl) N m1 m10;have os:OkS (10*(m:Int)) (ls m (nmL fr m)):=λs hs=>by simp only[ls,mem_map]at hs;obtain⟨x,hx,e⟩:=hs;have:=N.mr x hx;cases e;have h1:0 <=(9-x)*(m:Int):=Int.mul_nonneg () ();have h2:(9-x)*(m:Int)<= 9*m:=Int.mul_le_mul_of_nonneg_right () ();omega
  have hc:aV [2] 1 (bO (ae (ac 1) ao)) (tgN 1) bN (mOp cK (mOp aP (ac 0) (mOp ck (J5 3) (ac 1))) (J5 10)) [some (.int (4:Nat)),some (.int m),some (.int fr),some (.int cell)]=.ok (.lst .own (iL (nmL fr m))):=
   aM (xs:=cG 0 m) (bv (n:=m) (by simp) ()) (by rw [aZ];omega) (kO 0 (λa:Nat=>(fr+3 * (a:Int)) % 10) m λk hk=>⟨[some (.int fr),some (.int (0+k))],by simp [tgN,aO,bQ],by
    have m3:ck (.int 3) (.int (k:Int))=.ok (.int (3*(k:Int))):=cH (.inl ⟨by decide,by decide⟩);simp[m3,bF]⟩)
  have R:=lO (cc:=6) (ps:=ps) (.inr rfl) m1 () np () os (by simp[ls,nmL]) hnb hl;have hme:nmL fr m≠[]:=λz=>by have:=N.ml;rw[z]at this;simp at this;omega
  obtain⟨mx1,mx2⟩:=j8 hme;obtain⟨q,hq0,hq1⟩:=getElem_of_mem mx1;have hq:q<m:=by have:=N.ml;omega
  obtain⟨F,NF⟩:=net q hq;have gq:gt (nmL fr m) q=iA (nmL fr m):=by rw[x0 _ _ hq0];exact hq1
  have L:jt m q ps (nmL fr m) F (iA (nmL fr m)):=⟨NF.n1,NF.n10,hq,NF.D,NF.all,NF.rg,N.ml,(N.mr _ mx1).1,(N.mr _ mx1).2,gq,λi hi hir=>by
   have hi':i <(nmL fr m).length:=by have:=N.ml;omega
   have le:=mx2 (nmL fr m)[i] (getElem_mem hi');have ne:(nmL fr m)[i]≠ iA (nmL fr m):=λz=>hir ((getElem_inj N.nd).mp (z.trans hq1.symm));rw[x0 _ _ hi'];omega,rfl,N.mr⟩
  have kx:Kx (lea .bor 6 m ps (ls m (nmL fr m)) m (10*m)) m (10*(m:Int)+1) false (dX ps (ls m (nmL fr m)) m (10*m)):=by
   have e:((10*m:Nat):Int)=10*(m:Int):=by omega
   have:=qD (T:=10*m) (ps:=ps) (os:=ls m (nmL fr m)) (st:=m) (.inr rfl) m10 ();rw[e]at this;exact this R λcs hn hc=>(xM L R).conv hn hc
  refine⟨lea .own 6 m ps (ls m (nmL fr m)) m (10*m),lea .bor 6 m ps (ls m (nmL fr m)) m (10*m),m,_,_,_,_,run _ ?_,⟨by simp[PV.has],by simp[PV.J1,PV.has],by simp[Fl.JU,Fl.JV],by simp[Fl.JX],by simp[ap,a_],by simp[ap,a_],R⟩,kx,by omega,λ_=>rfl,λz=>absurd z (by decide),rfl,λz=>absurd z (by decide)⟩;unfold k_;refine ag (bU (by simp) aD) (ag (bU (by simp) aD) (ag (bU (by simp) aD) (ag (bU (by simp) aD) (dB (jb (by simp) (a5 ?_ (by simp[PV.J1,PV.has])))))));simp only[yQ,cr,c9,hc];simp[hw,hin,pi,aA,PV.has]
 .have pi:=yc (f:=.own) (ps:=ps) (.inr rfl) m1 m10 hr;obtain⟨F,N⟩:=net r hr;have R:=AO (ps:=ps) (r:=r) m1 m10 hnb λi=>hl i;refine⟨gro .own m ps r,gro .bor m ps r,m,_,_,_,_,run _ ?_,⟨by simp[PV.has],by simp[PV.J1,PV.has],by simp[Fl.JU,Fl.JV],by simp[Fl.JX],by simp[ap,a_],by simp[ap,a_],R⟩,BG N R hnb hl,by omega,λ_=>rfl,λz=>absurd z (by decide),rfl,λz=>absurd z (by decide)⟩;unfold k_;exact ag (bU (by simp) aD) (ag (bU (by simp) aD) (ag (bU (by simp) aD) (ag (bU (by simp) aD) (ag (bU (by simp) aD) (a5 (by simp[hw,hin,bF np,hr0,pi,aA,PV.has]) (by simp[PV.J1,PV.has]))))))
section
variable{o:PV}{n:Nat}{sp:Int}{al ip:Bool}{D:JK->Nat->Int}{cs:JK}
def Db(k:Nat)(a:Int):qb k [PV.int a]=iL (replicate k a):=by
 unfold qb iL
 induction k with
 |zero=>rfl
 |succ k ih=>simpa[replicate_succ]using ih
theorem vd{a b:Int}{c:Nat}(n2:2<=n)(s2:2<=sp)(ha:0<=a/\a<sp)(hb:0<=b/\b<sp)(c1:1<=c)(cn:c<=n):caR n true (fu sp) (replicate c a++replicate (n-c) b)=true:=by
 have gl:∀i,i<n->gt (replicate c a++replicate (n-c) b) i=if i<c then a else b:=λi hi=>by
  unfold gt;by_cases q:i<c
  .simp[q,getElem?_append_left]
  .rw[if_neg q,getD_eq_getElem?_getD,getElem?_append_right (by simp;omega)];simp[getElem?_replicate,show i-c<n-c by omega]
 have hl:(replicate c a++replicate (n-c) b).length=n:=by simp;omega
 by_cases q:a=b
 .subst q;exact pd (p:=0) (a:=a) (b:=a) ⟨hl,by omega,λi hi=>by omega,λi _ hi=>by rw[gl i hi,ite_self],ha,ha,λz=>absurd rfl z⟩ s2
 .by_cases q2:c=n
  .exact pd (p:=0) (a:=b) (b:=a) ⟨hl,by omega,λi hi=>by omega,λi _ hi=>by rw[gl i hi,if_pos ()],hb,ha,λz=>absurd rfl z⟩ s2
  .exact pd (p:=c) (a:=a) (b:=b) ⟨hl,by omega,λi hi=>by rw[gl i (),if_pos hi],λi h1 hi=>by rw[gl i hi,if_neg ()],ha,hb,λ_=>q⟩ s2
theorem wd{kd:Nat}(z:Int)(r:Rl o n sp al ip D)(X:Kx o n sp ip D)(h0:kd=0->ip=true/\2<=n/\2<=sp/\D=fu sp)(h1:kd≠0->ip=false):∃c0:JK,yr [o,.int kd,.int z]=.ok (.lst .own (iL c0))/\c0.length=n/\InS sp c0/\(z%5≠4->caR n ip D c0=true):=by
 have n1:=r.n1;have n20:=r.n20;have np:(0:Int)<n:=by omega
 obtain⟨l,hl1,hl2,hl3⟩:=jE z n ();have rd:=jW (f:=.own) r hl2;have li:=lZ (rs:=l) r;have ll:(l.map (· % sp)).length=n:=by simpa using hl2
 suffices hh:jM (zw [some o,some (.int kd),some (.int z),none,none,none,none,none]) (λv=>∃c0:JK,v=.lst .own (iL c0)/\c0.length=n/\InS sp c0/\(z%5≠4->caR n ip D c0=true)) by obtain⟨v,h1,l,rfl,h2⟩:=hh;exact⟨l,au h1,h2⟩
 unfold zw;refine bY (aw (v:=.int n) (by simp[r.le,r.a0])) ?_;simp only[s0_,s1_];refine bY (aw (v:=.lst .own (iL (l.map (· % sp)))) (by simp[r.le,r.tb,r.rd,hl1,rd,aA])) ?_;simp only[s0_,s1_];generalize l.map (· % sp)=cs at *;by_cases q:z%5=4
 .exact lQ (by simp[bF,q]) (dg (dF rfl) ⟨cs,rfl,ll,li,λw=>absurd q w⟩)
 refine bY (bU (by simp[bF,q]) aD) ?_;by_cases k0:kd=0
 .obtain⟨rfl,n2,s2,rfl⟩:=h0 k0;have a1:=emod_nonneg (z / 5) (show(n:Int)≠ 0 by omega);have a2:=emod_lt_of_pos (z / 5) np;obtain⟨c,hc⟩:∃c:Nat,1+z / 5%(n:Int)=c:=⟨(1+z / 5%(n:Int)).toNat,by omega⟩
  have d5:dC (.int z) (.int 5)=.ok (.int (z / 5)):=eE (by decide) (by decide);have i0:∀f,aK (.lst f (iL cs)) (.int 0)=.ok (.int (gt cs 0)):=λf=>cZ () ();have i1:∀f,aK (.lst f (iL cs)) (.int 1)=.ok (.int (gt cs 1)):=λf=>cZ () ();have p1':∀(k:Nat) (a:Int),k<=1000->oK (.lst .own [.int a]) (.int (k:Int))=.ok (.lst .own (iL (replicate k a))):=λk a hk=>by rw[<- Db];simp[oK,eO,PV.has,hasL,show(k:Int)<= 1000000 by omega,show k<=10000000 by omega]
  have g0:=li _ (cD (far:=cs) (i:=0) ());have g1:=li _ (cD (far:=cs) (i:=1) ());refine lQ (by simp[k0]) (bY (aw (v:=.int c) (by simp[d5,bF np,hc])) (dg (v:=.lst .own (iL (replicate c (gt cs 0)++ replicate (n-c) (gt cs 1)))) (a5 ?_) ⟨_,rfl,by simp;omega,λx hx=>?_,λ_=>vd n2 s2 g0 g1 () ()⟩))
  .simp only[s0_,s1_];simp only[gj,o8,cr,c9,dH,qO];simp only[getElem?_cons_zero,getElem?_cons_succ,nG,Res.J4,PV.J2,nM,i0,i1];have e:iy (.int (n:Int)) (.int (c:Int))=.ok (.int ((n-c:Nat):Int)):=by
    have:(n:Int)-c=((n-c:Nat):Int):=by omega
    simp[this]
   simp only[e,Res.J4,p1' c _ (),p1' (n-c) _ ()];rw[eY (by decide) (by decide) (by simp;omega)];simp[iL]
  .rcases mem_append.mp hx with hx|hx
   .rw[List.eq_of_mem_replicate hx];exact g0
   .rw[List.eq_of_mem_replicate hx];exact g1
 .have hip:=h1 k0;subst hip;have S:=Sp.of r;refine bY (bU (by simp;omega) aD) ?_;have m2:ck (.int 2) (.int (n:Int))=.ok (.int ((2*n:Nat):Int)):=by rw[show((2*n:Nat):Int)=2*n by omega];exact cH (.inl ⟨by decide,by decide⟩)
  refine iG (λk e=>∃x6 x7,e=[some o,some (.int kd),some (.int z),some (.int n),some (.lst .own (iL (swK n D k cs))),none,x6,x7]) (bv (n:=2*n) (by simp[m2]) ()) ⟨_,_,rfl⟩ (λk x e hx hP=>?_) (λe hP=>?_)
  .obtain⟨x6,x7,rfl⟩:=hP;obtain⟨hk,rfl⟩:=da hx;obtain⟨s1,s2⟩:=S.swK ll li k;refine⟨_,cS rfl,?_⟩;simp only[s0_,s1_];refine ji (λm e=>∃x7,e=[some o,some (.int kd),some (.int z),some (.int n),some (.lst .own (iL (sw1 n D m (swK n D k cs)))),none,some (.int (0+(k:Int))),x7]) (bv (n:=n) (by simp) ()) ⟨_,rfl⟩ (λm x e hx hP=>?_) (λe hP=>?_)
   .obtain⟨x7,rfl⟩:=hP;obtain⟨hm,rfl⟩:=da hx;obtain⟨t1,t2⟩:=S.sw1 s1 s2 m;have gd:gR n al [(m:Int)]:=⟨by simp,λx hx=>by simp at hx;omega,λ_=>by simp,by simp⟩
    have tu:=km (f:=.own) (fn:=.own) r (.inr rfl) (.inr rfl) t1 t2 gd;have e1:iL [(m:Int)]=[.int (m:Int)]:=rfl;rw[e1]at tu;refine⟨_,cS rfl,bu (aw (v:=.lst .own (iL (sw1 n D (m+1) (swK n D k cs)))) ?_) ⟨_,rfl⟩⟩;simp only[s0_,s1_];simp[r.le,r.tb,r.tu,tu,aA,sw1]
   .obtain⟨x7,rfl⟩:=hP;rw[aZ];exact⟨_,_,rfl⟩
  .obtain⟨x6,x7,rfl⟩:=hP;rw[aZ];obtain⟨s1,s2⟩:=S.swK ll li (2*n);exact dg (dF rfl) ⟨_,rfl,s1,s2,λ_=>X.cv rfl cs ll li⟩
theorem sY(r:Rl o n sp al ip D)(z:Int):∃nm:JK,ug [o,.int z]=.ok (.lst .own (iL nm))/\gR n al nm:=by
 have n1:=r.n1;have n20:=r.n20;have np:(0:Int)<n:=by omega
 suffices hh:jM (zj [some o,some (.int z),none,none]) (λv=>∃nm:JK,v=.lst .own (iL nm)/\gR n al nm) by obtain⟨v,h1,l,rfl,h2⟩:=hh;exact⟨l,au h1,h2⟩
 unfold zj;have a1:=emod_nonneg z (show(n:Int)≠ 0 by omega);have a2:=emod_lt_of_pos z np;generalize hc:z%(n:Int)=c at a1 a2;refine bY (aw (v:=.lst .own (iL [c])) (by simp[r.le,r.a0,bF np,hc,iL])) ?_;simp only[s0_,s1_];have g1:gR n al [c]:=⟨by simp,λx hx=>by simp at hx;omega,λ_=>by simp,by simp⟩
 cases al with
 |true=>exact bY (bU (by simp[r.le,r.a8]) aD) (dg (dF rfl) ⟨_,rfl,g1⟩)
 |false=>
  have d7:dC (.int z) (.int 7)=.ok (.int (z / 7)):=eE (by decide) (by decide);have mu:ck (.int (z / 7%1021)) (.int 271)=.ok (.int (z / 7%1021*271)):=cH (.inr ⟨by decide,by decide⟩);generalize hw:z / 7%1021*271%1021=w;obtain⟨row,hrow⟩:∃row:JK,row=((range n).filter λk:Nat=>decide (w / 2 ^ k%2=1/\(k:Int)≠ c)).map λk:Nat=>(k:Int):=⟨_,rfl⟩
  have rln:row.length<=n:=by rw[hrow,length_map];exact Nat.le_trans (length_filter_le _ _) (by simp)
  have rm:∀x∈row,(0<=x/\x<n)/\x≠c:=λx hx=>by rw[hrow]at hx;obtain⟨k,hk,rfl⟩:=mem_map.mp hx;have h1:=mem_range.mp (mem_filter.mp hk).1;have h2:=(mem_filter.mp hk).2;simp at h2;exact⟨by omega,h2.2⟩
  have rnd:row.Nodup:=by rw[hrow];exact Pairwise.map _ (λa b h e=>h ()) (nodup_range.filter _)
  refine bY (e:=[some o,some (.int z),some (.lst .own (iL ([c]++ row))),some (.int w)]) (jb (by simp[r.le,r.a8]) (ag (aw (v:=.int w) (by simp[d7,bF,mu,hw])) ?_)) (dg (dF rfl) ⟨_,rfl,?_⟩)
  .simp only[s0_,s1_];refine aw (i:=2) (v:=.lst .own (iL ([c]++ row))) ?_ (by simp) rfl;simp only[gj,dH];rw [aM (xs:=cG 0 n) (ys:=iL row) (bv (n:=n) (by simp [r.le,r.a0]) ()) (by rw [aZ];omega) (by
    rw[hrow];refine dA (λk:Nat=>decide (w / 2 ^ k%2=1/\(k:Int)≠ c)) (λk=>(k:Int)) n λk hk=>⟨[some (.int w),some (.lst .bor (iL [c])),some (.int (0+k))],by simp[tgN,aO,bQ,PV.JX],?_,λ_=>by simp⟩
    have ic:aK (.lst .bor [.int c]) (.int 0)=.ok (.int c):=rfl;have sh:Bc (.int w) (.int (k:Int))=.ok (.int (w / 2 ^ k)):=by simp[Bc,fT]
    by_cases q:w / 2 ^ k%2=1<;>simp[sh,bF,ic,q])]
   simp;rw[eY (by decide) (by decide) (by simp;omega)];simp
  .refine⟨?_,λx hx=>?_,λz=>by simp at z,by simp;omega⟩
   .simp;exact⟨λz=>(rm c z).2 rfl,rnd⟩
   .rcases mem_append.mp hx with hx|hx
    .simp at hx;omega
    .exact(rm x hx).1
def wr(c0:JK)(fs:JH):JK:=fs.foldl (λcs p=>cs.set p.1.toNat p.2) c0
def lA(fs:JH):∀c0,(wr c0 fs).length=c0.length:=by
 induction fs with
 |nil=>exact λ_=>rfl
 |cons p fs ih=>exact λc0=>by rw[wr,foldl_cons,<- wr,ih];simp
def on{c0:JK}{fs:JH}{k:Nat}{p:Int×Int}(h:fs[k]?=some p):wr c0 (fs.take (k+1))=(wr c0 (fs.take k)).set p.1.toNat p.2:=by rw[List.take_succ,h];simp[wr]
def Ay{l:JK}{i:Nat}{v:Int}(hi:i<l.length):l.take i++[v]++ l.drop (i+1)=l.set i v:=by rw[List.set_eq_take_append_cons_drop,if_pos hi];simp
def prL_get{fs:JH}{k:Nat}{x:PV}(h:(prL fs)[k]?=some x):∃p,fs[k]?=some p/\x=.tup [.int p.1,.int p.2]:=by unfold prL at h;rw[getElem?_map]at h;obtain⟨p,h1,h2⟩:=map_eq_some_iff.mp h;exact⟨p,h1,h2.symm⟩
theorem rB{c0:JK}{fs:JH}{f g:Fl}(hg:Fc g)(hl:c0.length<=1000)(hf:∀p∈fs,0<=p.1/\p.1<c0.length):yx [.lst f (iL c0),.lst g (prL fs)]=.ok (.lst .own (iL (wr c0 fs))):=by
 refine au ?_;show zH [some (.lst f (iL c0)),some (.lst g (prL fs)),none,none,none]=_;unfold zH;refine ag (aw (v:=.lst .own (iL c0)) (by simp)) ?_;simp only[s0_,s1_];refine fB (λk e=>∃x3 x4,e=[some (.lst f (iL c0)),some (.lst g (prL fs)),some (.lst .own (iL (wr c0 (fs.take k)))),x3,x4]) (xs:=prL fs) (dJ (f:=g) (by simp[hg.le]) hg.nl (by simp) (by simp)) ⟨_,_,rfl⟩ (λk x e hx hP=>?_) (λe hP=>?_)
 .obtain⟨x3,x4,rfl⟩:=hP;obtain⟨p,hp,rfl⟩:=prL_get hx;obtain⟨p0,p1⟩:=hf p (List.mem_of_getElem? hp);have wl:=lA (fs.take k) c0;refine⟨[some (.lst f (iL c0)),some (.lst g (prL fs)),some (.lst .own (iL (wr c0 (fs.take k)))),some (.int p.1),some (.int p.2)],rfl,bu (aw (v:=.lst .own (iL (wr c0 (fs.take (k+1))))) ?_) ⟨_,_,rfl⟩⟩;rw[on hp,<- Ay ()];generalize wr c0 (fs.take k)=l at *;obtain⟨i,hi⟩:∃i:Nat,p.1=i:=⟨p.1.toNat,by omega⟩
  have k1:i_ (iL l) none (some p.1)=iL (l.take i):=by rw[hi,y2 _ i (by simp;omega)];simp[iL,List.map_take]
  have k2:i_ (iL l) (some (p.1+1)) none=iL (l.drop (i+1)):=by rw[hi,show(i:Int)+1=((i+1:Nat):Int) by omega,kM _ (i+1) ()]
  simp only[gj,f6,gM,ij,dH,o8,cr,c9,qO];simp[k1,k2];rw[eY (by decide) (by decide) (by simp;omega)];simp only[Res.J4];rw[eY (by decide) (by decide) (by simp;omega)];rw[hi];simp[iL]
 .obtain⟨x3,x4,rfl⟩:=hP;rw[show(prL fs).length=fs.length by simp[prL],take_length];exact dF rfl
theorem pS{c0:JK}{fs:JH}{f g:Fl}(hg:Fc g)(hl:c0.length<=1000)(hf:∀p∈fs,0<=p.1/\p.1<c0.length):ud [.lst f (iL c0),.lst g (prL fs)]=.ok (.lst .own (iL (wr c0 fs))):=by
 refine au ?_;show ze [some (.lst f (iL c0)),some (.lst g (prL fs)),none,none,none]=_;unfold ze;refine ag (aw (v:=.lst .own (iL c0)) (by simp)) ?_;simp only[s0_,s1_];refine fB (λk e=>∃x3 x4,e=[some (.lst f (iL c0)),some (.lst g (prL fs)),some (.lst .own (iL (wr c0 (fs.take k)))),x3,x4]) (xs:=prL fs) (dJ (f:=g) (by simp[hg.le]) hg.nl (by simp) (by simp)) ⟨_,_,rfl⟩ (λk x e hx hP=>?_) (λe hP=>?_)
 .obtain⟨x3,x4,rfl⟩:=hP;obtain⟨p,hp,rfl⟩:=prL_get hx;obtain⟨p0,p1⟩:=hf p (List.mem_of_getElem? hp);have wl:=lA (fs.take k) c0;obtain⟨i,hi⟩:∃i:Nat,p.1=i:=⟨p.1.toNat,by omega⟩
  have e2:¬((wr c0 (fs.take k)).length:Int)<= p.1:=by omega
  refine⟨[some (.lst f (iL c0)),some (.lst g (prL fs)),some (.lst .own (iL (wr c0 (fs.take k)))),some (.int p.1),some (.int p.2)],rfl,b8 (bU (by simp[show ¬p.1<0 by omega,e2]) aD) (bu (jS (v:=.int p.2) (xs:=iL (wr c0 (fs.take k))) (j:=p.1) (n:=i) (by simp) rfl (by simp) (by rw[hi];exact ke (by simp;omega)) (by simp)) ⟨some (.int p.1),some (.int p.2),?_⟩)⟩;simp only[s0_,s1_];rw[on hp,hi];simp[iL,map_set]
 .obtain⟨x3,x4,rfl⟩:=hP;rw[show(prL fs).length=fs.length by simp[prL],take_length];exact dF rfl
end
def fcR(P:JK->Bool):List (JK)->Option Nat
 | []=>none
 |c::l=>if P c then some 0 else(fcR P l).map (· + 1)
theorem CD{P:JK->Bool}:∀{l:List (JK)}{k:Nat}{c:JK},(∀j d,j<k->l[j]?=some d->P d=false)->l[k]?=some c->P c=true->fcR P l=some k
 | [],k,c,_,h,_=>by simp at h
 |d::l,0,c,_,h,hp=>by simp at h;subst h;simp[fcR,hp]
 |d::l,k+1,c,hf,h,hp=>by have h0:=hf 0 d () rfl;have:=CD (l:=l) (k:=k) (λj e hj he=>hf (j+1) e () he) h hp;simp[fcR,h0,this]
def CB{P:JK->Bool}:∀{l:List (JK)},(∀(j:Nat) d,l[j]?=some d->P d=false)->fcR P l=none
 | [],_=>rfl
 |d::l,hf=>by have h0:=hf 0 d rfl;have:=CB (l:=l) λj e he=>hf (j+1) e he;simp[fcR,h0,this]
def nV:Option Nat->PV
 |none=>.non
 |some k=>.int k
section
variable{o:PV}{n:Nat}{sp:Int}{al ip:Bool}{D:JK->Nat->Int}
theorem sP{rs:JK}{rows:List (JK×JK)}{f fr:Fl}(r:Rl o n sp al ip D)(hrl:rs.length=n)(hrow:∀p∈rows,p.2.length=n/\InS sp p.2/\p.1.length<=n)(hl:rows.length<=1000) :
  yn [o,.lst f (iL rs),.lst fr (rows.map (cj .frz))]=.ok (nV (fcR (caR n ip D) (rs.map (· % sp)::rows.map (·.2)))):=by
 have key:zh [some o,some (.lst f (iL rs)),some (.lst fr (rows.map (cj .frz))),none,none,none]=.ret (nV (fcR (caR n ip D) (rs.map (· % sp)::rows.map (·.2)))):=by
  unfold zh;have hc:aV [] 1 (cm (ac 2)) (tgN 0) bN (mOp aK (ac 0) (J5 1)) [some o,some (.lst f (iL rs)),some (.lst fr (rows.map (cj .frz))),none,none,none]=.ok (.lst .own (llL .frz (rows.map (·.2)))):=by
   refine aM (xs:=rows.map (cj .frz)) (by simp[Fl.JU]) (by simp;omega) ?_;rw[show llL .frz (rows.map (·.2))=rows.map λp=>PV.lst .frz (iL p.2) by simp[llL]];refine bp (a:=cj .frz) (f:=λp=>PV.lst .frz (iL p.2)) rows λp _=>⟨[some (cj .frz p)],by simp[tgN,aO,bQ,dw,PV.JX,Fl.JX,cj],?_,by simp[PV.has],by simp[PV.has]⟩
   have i1:aK (cj .frz p) (.int 1)=.ok (.lst .frz (iL p.2)):=cY (k:=1) rfl rfl (by simp);have ml:(cj .frz p).J2 Fl.JU=cj .frz p:=by simp[cj,Fl.JU]
   simp[ml,i1]
  have rd:=jW (f:=f.JU.JV) r hrl;have hcs:∀c∈rs.map (· % sp)::rows.map (·.2),c.length=n/\InS sp c:=λc hc=>by
   rcases mem_cons.mp hc with rfl|hc
   .exact⟨by simpa using hrl,lZ r⟩
   .obtain⟨p,hp,rfl⟩:=mem_map.mp hc;exact⟨(hrow p hp).1,(hrow p hp).2.1⟩
  have hcl:(rs.map (· % sp)::rows.map (·.2)).length<=1001:=by simp;omega
  refine ag (aw (v:=.lst .own (.lst .own (iL (rs.map (· % sp)))::llL .frz (rows.map (·.2)))) ?_ (by simp[PV.J1,PV.has,dO _ Fl.JZ .frz rfl]) rfl) ?_
  .simp only[gj,hc,o8,cr,c9,yR,dH];simp only[getElem?_cons_zero,getElem?_cons_succ,nG,Res.J4,r.le,r.rd];simp[r.tb,rd,aA,-map_map];rw[eY (by decide) (by decide) (by simp;omega)];simp
  simp only[s0_,s1_];refine ag (gD (v:=.lst .own (.lst .own (iL (rs.map (· % sp)))::llL .frz (rows.map (·.2)))) rfl) ?_;have efz:(PV.lst .own (.lst .own (iL (rs.map (· % sp)))::llL .frz (rows.map (·.2)))).J2 Fl.JW=.lst .frz (llL .frz (rs.map (· % sp)::rows.map (·.2))):=by simp[Fl.JW]
  simp only[s0_,s1_,efz];generalize rs.map (· % sp)::rows.map (·.2)=css at *;have it:kZ (ac 3) [some o,some (.lst f (iL rs)),some (.lst fr (rows.map (cj .frz))),some (.lst .frz (llL .frz css)),none,none]=.ok (enP 0 (llL .frz css)):=by unfold kZ;simp[Fl.JU,eO,dO _ Fl.JY .frz rfl,dO _ Fl.JZ .frz rfl]
  have lp:=lx (g:=tgT 2 (bf (tgN 4) (bf (tgN 5) dZ))) (body:=mBr (cO (bM az (ac 0) (ae (ac 5) ao))) (dv 4) a9)
   (λk e=>(∀j d,j<k->css[j]?=some d->caR n ip D d=false)/\∃a b,e=[some o,some (.lst f (iL rs)),some (.lst fr (rows.map (cj .frz))),some (.lst .frz (llL .frz css)),a,b])
   (λout=>(∃ k,fcR (caR n ip D) css=some k/\out=.ret (.int k)) \/ (fcR (caR n ip D) css=none/\∃ e,out=.next e)) it ⟨λj d hj=>absurd hj (not_lt_zero j),_,_,rfl⟩ (λk x e hx hP=>by
    obtain⟨hf,a,b,rfl⟩:=hP;rw[gn]at hx;obtain⟨y,hy,rfl⟩:=map_eq_some_iff.mp hx;obtain⟨c,hc1,rfl⟩:=t7 _ _ hy;obtain⟨c1,c2⟩:=hcs c (List.mem_of_getElem? hc1);have ca:=ly (f:=.frz) r (.inl (.inr rfl)) c1 c2;refine⟨[some o,some (.lst f (iL rs)),some (.lst fr (rows.map (cj .frz))),some (.lst .frz (llL .frz css)),some (.int (0+k)),some (.lst .frz (iL c))],rfl,?_⟩;by_cases q:caR n ip D c=true
    .refine .inr (.inr (.inl ⟨.int k,jb (by simp[r.le,Fl.JU,ca,q]) (by simp[dv]),.inl ⟨k,CD hf hc1 q,rfl⟩⟩))
    .have q:caR n ip D c=false:=by simpa using q
     refine .inl ⟨_,.inl (bU (by simp[r.le,Fl.JU,ca,q]) aD),λj d hj hd=>?_,_,_,rfl⟩;by_cases e:j=k
     .subst e;rw[hc1]at hd;cases hd;exact q
     .exact hf j d () hd) (λe hP=>by
    obtain⟨hf,a,b,rfl⟩:=hP;refine .inr ⟨CB λj d hd=>hf j d ?_ hd,_,rfl⟩;rw[fF,oY];exact(List.getElem?_eq_some_iff.mp hd).1)
  rcases lp with⟨k,e1,e2⟩ |⟨e1,e,e2⟩
  .rw[e1];exact dB e2
  .rw[e1];exact ag e2 (a5 (by simp[nV]) (by simp[nV]))
 exact au key
end
def t8{f g:Fl}(l:JK)(hl:l.length<=1000):ue [.lst f (iL l),.lst g (iL l)]=.ok (.bl true):=by
 refine au (v:=.bl true) ?_;show zi [some (.lst f (iL l)),some (.lst g (iL l))]=_;unfold zi;refine a5 ?_ (by simp);have hc:aV [] 1 (cm (ac 0)) (tgN 0) bN (aq (aN qM) (ae (ac 0) ao)) [some (.lst f (iL l)),some (.lst g (iL l))]=.ok (.lst .own ((l.map λ_=>true).map .bl)):=by refine aM (xs:=iL l) (by simp) (by rw[ba];omega) ?_;rw[map_map];exact bp (a:=PV.int) (f:=PV.bl ∘ λ_=>true) l λx _=>⟨[some (.int x)],by simp[tgN,aO,bQ,dw],by simp[pL,aA],by simp,by simp⟩
 have hb:iO lg (.lst .own ((l.map λ_=>true).map .bl))=.ok (.bl true):=by unfold iO;dsimp only;rw[jm];simp[lg]
 simp only[BW,eD,cr,c9,hc];simp only[Res.J4,p1,hb];simp[kf,sf]
section
variable{o:PV}{n:Nat}{sp:Int}{al ip:Bool}{D:JK->Nat->Int}{cs:JK}
theorem El:∀x∈mvR n D cs,0<=x/\x<n:=λx hx=>by unfold mvR at hx;obtain⟨k,hk,rfl⟩:=mem_map.mp hx;have:=mem_range.mp (mem_filter.mp hk).1;omega
def wlk(n:Nat)(ip:Bool)(D:JK->Nat->Int):List (JK)->Nat->JK->(Nat->Bool)->(Nat->Bool)× Option Nat
 | [],_,_,T=>(T,none)
 |nm::tns,k,cs,T=>if caR n ip D (stR n D cs nm)then(λi=>T i ||(dnR n D cs nm).contains (i:Int),some (k+1))else wlk n ip D tns (k+1) (stR n D cs nm) (λi=>T i ||(dnR n D cs nm).contains (i:Int))
def fJ(b:Option Nat)(rows:List (JK×JK)):List (JK×JK):=match b with
 |none=>rows
 |some k=>rows.take k
def f9(w:List (JK×JK))(i:Nat):Bool:=w.any λp=>p.1.contains (i:Int)
theorem v4:∀(tns:List (JK)) (k:Nat) (cs:JK) (T:Nat->Bool),caR n ip D cs=false ->
  (wlk n ip D tns k cs T).2=(fcR (caR n ip D) (cs::(bD n D cs tns).map (·.2))).map (· + k)/\∀i,(wlk n ip D tns k cs T).1 i=(T i||f9 (fJ (fcR (caR n ip D) (cs::(bD n D cs tns).map (·.2))) (bD n D cs tns)) i)
 | [],k,cs,T,h=>by simp[wlk,bD,fcR,h,fJ,f9]
 |nm::tns,k,cs,T,h=>by
  by_cases q:caR n ip D (stR n D cs nm)=true
  .simp[wlk,bD,fcR,h,q,fJ,f9];omega
  .have q':caR n ip D (stR n D cs nm)=false:=by simpa using q
   obtain⟨i1,i2⟩:=v4 tns (k+1) (stR n D cs nm) (λi=>T i ||(dnR n D cs nm).contains (i:Int)) q';have e:wlk n ip D (nm::tns) k cs T=wlk n ip D tns (k+1) (stR n D cs nm) (λi=>T i ||(dnR n D cs nm).contains (i:Int)):=by
    conv=>lhs;unfold wlk
    rw[if_neg q]
   have e2:fcR (caR n ip D) (cs::(bD n D cs (nm::tns)).map (·.2))=(fcR (caR n ip D) (stR n D cs nm::(bD n D (stR n D cs nm) tns).map (·.2))).map (· + 1):=by
    conv=>lhs;unfold fcR
    simp[h,bD]
   rw[e,e2,i1];generalize fcR (caR n ip D) (stR n D cs nm::(bD n D (stR n D cs nm) tns).map (·.2))=b at *;refine⟨by cases b<;>simp;omega,λi=>?_⟩;rw[i2];cases b with
   |none|some b=>simp[fJ,f9,bD,Bool.or_assoc]
def bT(n:Nat)(T:Nat->Bool):JS:=(range n).map λi=>PV.bl (T i)
@[simp] def Jk{p:Fl->Bool}{T:Nat->Bool}:hasL p (bT n T)=false:=by
 unfold bT
 induction range n with
 |nil=>rfl
 |cons b bs ih=>simpa[hasL,PV.has]using ih
@[simp] def Jj{g:Fl->Fl}{T:Nat->Bool}:mapL g (bT n T)=bT n T:=by
 unfold bT
 induction range n with
 |nil=>rfl
 |cons b bs ih=>simpa[mapL,PV.J2]using ih
def Ac{T:Nat->Bool}{k:Nat}{f:Fl}(hk:k<n):aK (.lst f (bT n T)) (.int k)=.ok (.bl (T k)):=cY rfl (by simp[bT,hk]) rfl
theorem Fz{T:Nat->Bool}{k:Nat}{b:Bool}(hk:k<n):(bT n T).set k (.bl b)=bT n (λi=>if i=k then b else T i):=by
 refine ext_getElem (by simp[bT]) λi h1 h2=>?_;simp only[bT,List.getElem_set,List.getElem_map,List.getElem_range];by_cases q:k=i
 .subst q;simp
 .rw[if_neg q,if_neg ()]
theorem uC{rs:JK}{tns:List (JK)}{f g h:Fl}(r:Rl o n sp al ip D)(hg:Fc g)(hh:Fc h)(hrl:rs.length=n)(hgd:∀nm∈tns,gR n al nm)(hl:tns.length<=1000) :
  yt [o,.lst f (iL rs),.lst g (llL h tns)]=.ok (.tup [.lst .own (iL (pick n (f9 (fJ (fcR (caR n ip D) (rs.map (· % sp)::(bD n D (rs.map (· % sp)) tns).map (·.2))) (bD n D (rs.map (· % sp)) tns))))),nV (fcR (caR n ip D) (rs.map (· % sp)::(bD n D (rs.map (· % sp)) tns).map (·.2)))]):=by
 have n20:=r.n20;have rd:=jW (f:=.own) r hrl;have ci:=lZ (rs:=rs) r;have cl:(rs.map (· % sp)).length=n:=by simpa using hrl
 refine au ?_;show zA [some o,some (.lst f (iL rs)),some (.lst g (llL h tns)),none,none,none,none,none,none]=_;unfold zA;refine ag (aw (v:=.lst .own (iL (rs.map (· % sp)))) (by simp[r.le,r.tb,r.rd,rd,aA])) ?_;simp only[s0_,s1_];generalize rs.map (· % sp)=cs at *;have e0:qb n [PV.bl false]=bT n λ_=>false:=by unfold qb bT;rw[List.map_const'];simp
 refine ag (aw (v:=.lst .own (bT n λ_=>false)) (by simp[r.le,r.a0,oK,eO,PV.has,hasL,show(n:Int)<= 1000000 by omega,show n<=10000000 by omega,e0]) (by simp[PV.J1,PV.has]) rfl) ?_;simp only[s0_,s1_];refine ag (aw (v:=.non) (by simp) (by simp[PV.J1,PV.has]) rfl) ?_;simp only[s0_,s1_];have ca:=ly (f:=.own) r (.inr rfl) cl ci;by_cases q:caR n ip D cs=true
 .have ef:fcR (caR n ip D) (cs::(bD n D cs tns).map (·.2))=some 0:=by simp[fcR,q]
  have ep:pick n (f9 (fJ (some 0) (bD n D cs tns)))=[]:=by unfold pick;rw[List.filter_eq_nil_iff.mpr λi _=>by simp[f9,fJ]];rfl
  rw[ef,ep];exact dB (jb (by simp[r.le,ca,q]) (a5 (by simp[nV,iL]) (by simp[PV.J1,PV.has,nV])))
 have q':caR n ip D cs=false:=by simpa using q
 refine ag (bU (by simp[r.le,ca,q']) aD) ?_;obtain⟨w1,w2⟩:=v4 (D:=D) tns 0 cs (λ_=>false) q';generalize hW:wlk n ip D tns 0 cs (λ_=>false)=Wf at *;have it:kZ (ac 2) [some o,some (.lst f (iL rs)),some (.lst g (llL h tns)),some (.lst .own (iL cs)),some (.lst .own (bT n λ_=>false)),some .non,none,none,none]=.ok (enP 0 (llL h tns)):=by
  have h1:Fl.JY h=false:=by rcases hh with rfl|rfl<;>rfl
  unfold kZ;simp[hg.le,hh.le,hg.nl,eO,dO _ Fl.JY h h1,dO _ Fl.JZ h hh.nl]
 refine fB (λk e=>∃(cs':JK) (T:Nat->Bool) (b:Option Nat) (x6 x7 x8:Option PV),e=[some o,some (.lst f (iL rs)),some (.lst g (llL h tns)),some (.lst .own (iL cs')),some (.lst .own (bT n T)),some (nV b),x6,x7,x8]/\cs'.length=n/\InS sp cs'/\((b=none/\wlk n ip D (tns.drop k) k cs' T=Wf)\/(b≠none/\Wf=(T,b)))) it ⟨cs,_,none,none,none,none,rfl,cl,ci,.inl ⟨rfl,by simpa using hW⟩⟩ (λk x e hx hP=>?_) (λe hP=>?_)
 .obtain⟨cs',T,b,x6,x7,x8,rfl,c1,c2,hb⟩:=hP;rw[gn]at hx;obtain⟨y,hy,rfl⟩:=map_eq_some_iff.mp hx;obtain⟨nm,hnm,rfl⟩:=t7 _ _ hy;refine⟨[some o,some (.lst f (iL rs)),some (.lst g (llL h tns)),some (.lst .own (iL cs')),some (.lst .own (bT n T)),some (nV b),some (.int (0+(k:Int))),some (.lst h (iL nm)),x8],rfl,?_⟩;rcases hb with⟨rfl,hb⟩ |⟨hb,hw⟩
  .have gd:=hgd nm (List.mem_of_getElem? hnm);have mo:=gJ (f:=.own) r (.inr rfl) c1 c2;have ml:=j6 (n:=n) (D:=D) (cs:=cs');obtain⟨s1,s2⟩:=rK r c1 c2 nm;have tu:=km (f:=.own) (fn:=.own) r (.inr rfl) (.inr rfl) c1 c2 gd;have ca2:=ly (f:=.own) r (.inr rfl) s1 s2;have mr:=El (n:=n) (D:=D) (cs:=cs');have dc:∀i:Nat,(dnR n D cs' nm).contains (i:Int)=((mvR n D cs').contains (i:Int)&&nm.contains (i:Int)):=λi=>by rw[Bool.eq_iff_iff];simp[dnR]
   have hdr:tns.drop k=nm::tns.drop (k+1):=by obtain⟨hk,e⟩:=List.getElem?_eq_some_iff.mp hnm;rw[List.drop_eq_getElem_cons hk,e]
   rw[hdr]at hb;generalize hmv:mvR n D cs'=mv at *;refine kJ (by simp[nV,iN,PV.isNon]) (x_ (xs:=iL mv) (λj e=>∃x8 T',e=[some o,some (.lst f (iL rs)),some (.lst g (llL h tns)),some (.lst .own (iL cs')),some (.lst .own (bT n T')),some .non,some (.int (0+(k:Int))),some (.lst h (iL nm)),x8]/\∀i:Nat,T' i=(T i ||((mv.take j).contains (i:Int)&&nm.contains (i:Int)))) (dJ (f:=.own) (by simp[r.le,r.tb,r.mv,mo,aA]) rfl (by simp) (by simp)) ⟨x8,T,rfl,λi=>by simp⟩ (λj x e hx hP=>?_) (λe hP=>?_))
   .obtain⟨x8,T',rfl,hT'⟩:=hP;obtain⟨m,hm,rfl⟩:=mf hx;obtain⟨m1,m2⟩:=mr m (List.mem_of_getElem? hm);obtain⟨i,rfl⟩:∃i:Nat,m=i:=⟨m.toNat,by omega⟩
    have hi:i<n:=by omega
    have ix:=λf=>Ac (n:=n) (T:=T') (f:=f) hi;refine⟨_,cS rfl,bu (jS (v:=.bl (T' i||nm.contains (i:Int))) (xs:=bT n T') (j:=(i:Int)) (n:=i) ?_ rfl (by simp) (ke (by simp[bT];exact hi)) (by simp[PV.J1,PV.has])) ⟨some (.int (i:Int)),λa=>if a=i then T' i||nm.contains (i:Int)else T' a,?_,λa=>?_⟩⟩
    .simp only[s0_,s1_];cases hq:T' i with
     |true=>simp[ix,hq,pOr]
     |false=>simp[ix,hq,pOr,hh.le]
    .simp only[s0_,s1_];rw[Fz hi]
    .dsimp only;rw[hT',List.take_succ,hm];by_cases qa:a=i
     .subst qa;rw[if_pos rfl];simp;cases T a<;>cases decide ((a:Int)∈ nm)<;>simp
     .rw[if_neg qa,hT'];have:¬((a:Int)=(i:Int)):=by omega
      simp[this]
   .obtain⟨x8,T',rfl,hT'⟩:=hP;rw[ba,take_length]at hT';have eT:T'=λi=>T i ||(dnR n D cs' nm).contains (i:Int):=by funext i;rw[hT',dc]
    rw[eT];refine b8 (aw (v:=.lst .own (iL (stR n D cs' nm))) (by simp[r.le,r.tb,r.tu,tu,aA])) ?_;simp only[s0_,s1_]
    conv at hb=>lhs;unfold wlk
    by_cases qc:caR n ip D (stR n D cs' nm)=true
    .rw[if_pos qc]at hb;exact bu (jb (by simp[r.le,ca2,qc]) (aw (v:=.int ((k+1:Nat):Int)) (by simp))) ⟨_,_,some (k+1),_,_,_,rfl,s1,s2,.inr ⟨by simp,hb.symm⟩⟩
    .rw[if_neg qc]at hb;have qc':caR n ip D (stR n D cs' nm)=false:=by simpa using qc
     exact bu (bU (by simp[r.le,ca2,qc']) aD) ⟨_,_,none,_,_,_,rfl,s1,s2,.inl ⟨rfl,hb⟩⟩
  .refine bu (bU ?_ aD) ⟨cs',T,b,_,_,_,rfl,c1,c2,.inr ⟨hb,hw⟩⟩;cases b with
   |none=>exact absurd rfl hb
   |some b=>simp[nV,iN,PV.isNon]
 .obtain⟨cs',T,b,x6,x7,x8,rfl,c1,c2,hb⟩:=hP;rw[fF,oY]at hb;have hW2:Wf=(T,b):=by
   rcases hb with⟨rfl,hb⟩ |⟨_,hb⟩
   .rw[<- hb,drop_length];rfl
   .exact hb
  rw[hW2]at w1 w2;simp only[Nat.add_zero]at w1;have eb:b=fcR (caR n ip D) (cs::(bD n D cs tns).map (·.2)):=by rw[w1];simp
  have ep:pick n (f9 (fJ (fcR (caR n ip D) (cs::(bD n D cs tns).map (·.2))) (bD n D cs tns)))=pick n T:=by unfold pick;congr 2;funext i;have:=w2 i;simpa using this.symm
  rw[ep,<- eb];refine a5 ?_ (by cases b<;>simp[PV.J1,PV.has,nV]);simp only[ET,cr,c9];rw[aM (xs:=cG 0 n) (ys:=iL (pick n T)) (bv (n:=n) (by simp[r.le,r.a0]) ()) (by rw[aZ];omega) (dA T (λk=>(k:Int)) n λk hk=>⟨[some (.lst .bor (bT n T)),some (.int (0+k))],by simp[tgN,aO,bQ],by simp[Ac hk],λ_=>by simp⟩)];cases b<;>simp[nV]
end
def y9{ps:JH}:PyData.canLayAll0 (dataL (prL ps))=true:=by
 induction ps with
 |nil=>rfl
 |cons n ns ih=>simp only[lR,dataL,PyData.canLayAll0,ih];rfl
theorem yZ{ps:JH}:PyData.depthAll (dataL (prL ps))<= 1:=by
 induction ps with
 |nil=>exact zero_le _
 |cons n ns ih=>have e:PyData.depth (prV n).data=1:=rfl;simp only[lR,dataL,PyData.depthAll,e];omega
def qW(f g:Fl):∀(xss:List (JK)),dataL (llL f xss)=dataL (llL g xss)
 | []=>rfl
 |xs::xss=>by rw[iV,iV];unfold dataL;rw[qW f g xss];rfl
def ux(f:Fl):∀(xss:List (JK)),PyData.canLayAll0 (dataL (llL f xss))=true
 | []=>rfl
 |xs::xss=>by rw[iV];unfold dataL PyData.canLayAll0;rw[ux f xss];simp[PV.data,PyData.canLay0]
theorem ur(f:Fl):∀(xss:List (JK)),PyData.depthAll (dataL (llL f xss))<= 1
 | []=>by simp[llL,dataL,PyData.depthAll]
 |xs::xss=>by have:=ur f xss;rw[iV];unfold dataL PyData.depthAll;simp[PV.data,PyData.depth];omega
section
variable{o:PV}{n:Nat}{sp:Int}{al ip:Bool}{D:JK->Nat->Int}{cs:JK}
def Fc.fz{f:Fl}(h:Fc f):f.JW=f:=by rcases h with rfl|rfl<;>rfl
def CC{P:JK->Bool}:∀{l:List (JK)}{k:Nat},fcR P l=some k->k<l.length
 | [],k,h=>by simp[fcR]at h
 |c::l,k,h=>by
  unfold fcR at h;split at h
  .cases h;simp
  .obtain⟨j,h1,rfl⟩:=map_eq_some_iff.mp h;have:=CC h1;simp;omega
theorem FB{w:List (JK×JK)}{f:Fl}(hf:Fc f)(i:Nat)(hl:w.length<=1000):cO (aq (p1 (iO kQ)) (ae (aV [1] 1 (cm (ac 0)) (tgN 1) bN (mOp pIn (ac 0) (mOp aK (ac 1) (J5 0)))) ao)) [some (.lst f (w.map (cj .frz))),some (.int (0+(i:Int)))]=.ok (f9 w i):=by
 have hc:aV [1] 1 (cm (ac 0)) (tgN 1) bN (mOp pIn (ac 0) (mOp aK (ac 1) (J5 0))) [some (.lst f (w.map (cj .frz))),some (.int (0+(i:Int)))]=.ok (.lst .own ((w.map λp=>p.1.contains (i:Int)).map .bl)):=by
  refine aM (xs:=w.map (cj .frz)) (by simp[hf.le,Fl.JU]) (by simp;omega) ?_;rw[map_map];refine bp (a:=cj .frz) (f:=PV.bl ∘ λp=>p.1.contains (i:Int)) w λp _=>⟨[some (.int (0+(i:Int))),some (cj .frz p)],by simp[tgN,aO,bQ,PV.JX,Fl.JX,cj],?_,by simp[PV.has],by simp[PV.has]⟩
  have i0:aK (cj .frz p) (.int 0)=.ok (.lst .frz (iL p.1)):=cY (k:=0) rfl rfl (by simp);have ml:(cj .frz p).J2 Fl.JU=cj .frz p:=by simp[cj,Fl.JU]
  simp[ml,i0]
 have hb:iO kQ (.lst .own ((w.map λp=>p.1.contains (i:Int)).map .bl))=.ok (.bl (f9 w i)):=by
  unfold iO;dsimp only;rw[jm];simp[kQ,List.any_map,f9]
  try rfl
 simp only[mD,eD,cr,c9,hc,Res.J4,p1,hb];rfl
theorem Bz{c0:JK}{fs:JH}{tns:List (JK)}{f g ft fi:Fl}(r:Rl o n sp al ip D)(hf:Fc f)(hg:Fc g)(hft:Fc ft)(hfi:Fc fi)(hn:c0.length=n)(hfs:∀p∈fs,0<=p.1/\p.1<n)(hgd:∀nm∈tns,gR n al nm)(hl:tns.length<=1000) :
  ym [o,.lst f (iL c0),.lst g (prL fs),.lst ft (llL fi tns)]=.ok (.tup [.lst .own (iL (pick n (f9 (fJ (fcR (caR n ip D) ((wr c0 fs).map (· % sp)::(bD n D ((wr c0 fs).map (· % sp)) tns).map (·.2))) (bD n D ((wr c0 fs).map (· % sp)) tns))))),nV (fcR (caR n ip D) ((wr c0 fs).map (· % sp)::(bD n D ((wr c0 fs).map (· % sp)) tns).map (·.2)))]):=by
 have n20:=r.n20;have so:=pS (c0:=c0) (fs:=fs) (f:=f) (g:=g) hg () (by rw[hn];exact hfs);have wl:(wr c0 fs).length=n:=(lA fs c0).trans hn;have ru:=C_ (f:=.bor) (rs:=wr c0 fs) (tns:=tns) (ft:=ft) (fi:=fi) r (by rw[hft.fz];exact hft) (by rw[hfi.fz];exact hfi) wl hgd hl;have rin:=tK r tns ((wr c0 fs).map (· % sp)) (by simpa using wl) (lZ r);have rlen:=pY (n:=n) (D:=D) tns ((wr c0 fs).map (· % sp));have cal:=sP (f:=.bor) (fr:=.frz) (rs:=wr c0 fs) (rows:=bD n D ((wr c0 fs).map (· % sp)) tns) r wl rin ();refine au ?_;show zd [some o,some (.lst f (iL c0)),some (.lst g (prL fs)),some (.lst ft (llL fi tns)),none,none,none,none,none]=_;unfold zd;refine ag (aw (v:=.lst .own (iL (wr c0 fs))) (by simp[hf.le,hf.tb,hg.le,hg.tb,so,aA])) ?_;simp only[s0_,s1_];generalize bD n D ((wr c0 fs).map (· % sp)) tns=rows at *;have rb:hasL Fl.J0 (rows.map (cj .own))=false:=lN rfl rows;have rn:hasL Fl.JZ (rows.map (cj .own))=false:=lN rfl rows;refine ag (aw (v:=.lst .own (rows.map (cj .own))) (by simp[r.le,r.tb,hft.le,hft.tb,hfi.le,hfi.tb,ru,aA,PV.has,rb]) (by simp[PV.J1,PV.has,rn]) rfl) ?_;simp only[s0_,s1_];refine ag (gD (v:=.lst .own (rows.map (cj .own))) rfl) ?_;have efz:(PV.lst .own (rows.map (cj .own))).J2 Fl.JW=.lst .frz (rows.map (cj .frz)):=by simp[Fl.JW]
 simp only[s0_,s1_,efz];have bl:∀k,fcR (caR n ip D) ((wr c0 fs).map (· % sp)::rows.map (·.2))=some k->k<=rows.length:=λk h=>by have:=CC h;simp at this;omega
 generalize fcR (caR n ip D) ((wr c0 fs).map (· % sp)::rows.map (·.2))=b at *;have nb:(nV b).has Fl.J0=false:=by cases b<;>simp[nV,PV.has]
 have nn:(nV b).J1=true:=by cases b<;>simp[nV,PV.J1,PV.has]
 refine ag (aw (v:=nV b) (by simp[r.le,r.tb,Fl.JU,Fl.JV,cal,aA,nb]) nn rfl) ?_;simp only[s0_,s1_];obtain⟨fw,hfw,hset⟩:∃fw:Fl,Fc fw.JX/\aW 7 (sB (aB (mOp iN (ac 6) (mC .non))) (ac 5) (fq (ac 5) fE (gh (ac 6)))) [some o,some (.lst f (iL c0)),some (.lst g (prL fs)),some (.lst ft (llL fi tns)),some (.lst .own (iL (wr c0 fs))),some (.lst .frz (rows.map (cj .frz))),some (nV b),none,none]=.next [some o,some (.lst f (iL c0)),some (.lst g (prL fs)),some (.lst ft (llL fi tns)),some (.lst .own (iL (wr c0 fs))),some (.lst .frz (rows.map (cj .frz))),some (nV b),some (.lst fw ((fJ b rows).map (cj .frz))),none]:=by
  have zn:∀(l:List (JK×JK)) f,(PV.lst f (l.map (cj .frz))).J1=true\/f=.lnt:=λl f=>by have:=lN (p:=Fl.JZ) (f:=.frz) rfl l;cases f<;>simp[PV.J1,PV.has,this,Fl.JZ]
  cases b with
  |none=>exact⟨.frz,.inr rfl,aw (v:=.lst .frz (rows.map (cj .frz))) (by simp[nV,iN,PV.isNon,Fl.JU]) ((zn rows .frz).resolve_right (by decide)) rfl⟩
  |some k=>refine⟨.own,.inl rfl,aw (v:=.lst .own ((rows.take k).map (cj .frz))) ?_ ((zn _ .own).resolve_right (by decide)) rfl⟩;have ct:i_ (rows.map (cj .frz)) none (some (k:Int))=(rows.map (cj .frz)).take k:=y2 _ k (by simpa using bl k rfl);simp only[EV,jl,gj,f6,gM,ij,dH,qO];simp[nV,iN,PV.isNon,Fl.JU,ct]
 refine ag hset ?_;have wlen:(fJ b rows).length<=1000:=by
  cases b with
  |none=>simp only[fJ];omega
  |some k=>simp only[fJ,length_take];omega
 refine ag (aw (v:=.lst .own (iL (pick n (f9 (fJ b rows))))) ?_) ?_
 .unfold pick;refine aM (xs:=cG 0 n) (bv (n:=n) (by simp[r.le,r.a0]) ()) (by rw[aZ];omega) (dA (f9 (fJ b rows)) (λk=>(k:Int)) n λk hk=>⟨[some (.lst fw.JX ((fJ b rows).map (cj .frz))),some (.int (0+k))],by simp[tgN,aO,bQ,PV.JX,Fl.JX],FB hfw k wlen,λ_=>by simp⟩)
 simp only[s0_,s1_];rfl
def Al{l:JK}{b:Option Nat}(hl:l.length<=1000):yp [.tup [.lst .own (iL l),nV b],.tup [.lst .bor (iL l),nV b]]=.ok (.bl true):=by
 have lo:=t8 (f:=.bor) (g:=.bor) l hl;refine au (v:=.bl true) ?_;show zm [some (.tup [.lst .own (iL l),nV b]),some (.tup [.lst .bor (iL l),nV b])]=_;unfold zm;cases b with
 |none=>have a0:aK (.tup [.lst .lnt (iL l),.non]) (.int 0)=.ok (.lst .lnt (iL l)):=cY (k:=0) rfl rfl (by simp);have a1:aK (.tup [.lst .lnt (iL l),.non]) (.int 1)=.ok .non:=cY (k:=1) rfl rfl (by simp);have b0:aK (.tup [.lst .bor (iL l),.non]) (.int 0)=.ok (.lst .bor (iL l)):=cY (k:=0) rfl rfl (by simp);have b1:aK (.tup [.lst .bor (iL l),.non]) (.int 1)=.ok .non:=cY (k:=1) rfl rfl (by simp);exact ag (bU (by simp[nV,kf,Fl.JU,a0,b0,lo,aA]) aD) (dB (jb (by simp[nV,Fl.JU,b1,iN,PV.isNon]) (a5 (by simp[nV,Fl.JU,a1,iN,PV.isNon]))))
 |some k=>have a0:aK (.tup [.lst .lnt (iL l),.int (k:Int)]) (.int 0)=.ok (.lst .lnt (iL l)):=cY (k:=0) rfl rfl (by simp);have a1:aK (.tup [.lst .lnt (iL l),.int (k:Int)]) (.int 1)=.ok (.int k):=cY (k:=1) rfl rfl (by simp);have b0:aK (.tup [.lst .bor (iL l),.int (k:Int)]) (.int 0)=.ok (.lst .bor (iL l)):=cY (k:=0) rfl rfl (by simp);have b1:aK (.tup [.lst .bor (iL l),.int (k:Int)]) (.int 1)=.ok (.int k):=cY (k:=1) rfl rfl (by simp);exact ag (bU (by simp[nV,kf,Fl.JU,a0,b0,lo,aA]) aD) (ag (bU (by simp[nV,Fl.JU,b1,iN,PV.isNon]) aD) (a5 (by simp[nV,Fl.JU,a1,b1,pL,aA,sf])))
def lB{R:Nat->Bool}{c0:JK}(hR:∀cs:JK,(∀i,i<n->R i=false->gt cs i=gt c0 i)->∀i,i<n->D cs i≠gt cs i->R i=true):∀(tns:List (JK)) (cs:JK),(∀i,i<n->R i=false->gt cs i=gt c0 i)->∀p∈bD n D cs tns,∀x∈p.1,R x.toNat=true
 | [],_,_,p,h=>nomatch h
 |nm::tns,cs,hc,p,h=>by
  rcases mem_cons.mp h with rfl|h
  .intro x hx;have hm:=(mem_filter.mp hx).1;unfold mvR at hm;obtain⟨i,hi,rfl⟩:=mem_map.mp hm;obtain⟨h1,h2⟩:=mem_filter.mp hi;have:=hR cs hc i (mem_range.mp h1) (by simpa using h2);simpa using this
  .refine lB hR tns _ (λi hi hr=>?_) p h;have e:gt (stR n D cs nm) i=if nm.contains (i:Int)then D cs i else gt cs i:=by simp[stR,gt,hi]
   rw[e];split
   .have:D cs i=gt cs i:=Classical.byContradiction λz=>by rw[hR cs hc i hi z]at hr;cases hr
    rw[this];exact hc i hi hr
   .exact hc i hi hr
theorem wf{c0:JK}{fs:JH}(hs:0<sp)(hn:c0.length=n)(hc:InS sp c0)(hf:∀p∈fs,0<=p.1/\p.1<n):∀k,k<=fs.length->Spo n sp c0 ((wr c0 (fs.take k)).map (· % sp)) k
 |0,_=>by
  have e:(wr c0 (fs.take 0)).map (· % sp)=c0:=by have:c0.map (· % sp)=c0.map id:=map_congr_left λx hx=>emod_eq_of_lt (hc x hx).1 (hc x hx).2;simpa[wr]using this
  rw[e];exact .zero
 |k+1,hk=>by
  have ih:=wf hs hn hc hf k ();have hp:fs[k]?=some fs[k]:=by simp
  have hp2:=hf _ (getElem_mem (l:=fs) (n:=k) ());rw[on hp,map_set];exact ih.more () (emod_nonneg _ ()) (emod_lt_of_pos _ hs)
def CO{fs:JH}{i:Nat}(h:∀p∈fs,p.1.toNat≠i):∀c0:JK,gt (wr c0 fs) i=gt c0 i:=by
 induction fs with
 |nil=>exact λ_=>rfl
 |cons p fs ih=>intro c0;rw[wr,foldl_cons,<- wr,ih λq hq=>h q (mem_cons_of_mem _ hq)];have:=h p mem_cons_self;simp[gt,getElem?_set_ne this]
theorem uB{c0:JK}{fs:JH}{tns:List (JK)}(b:Option Nat)(r:Rl o n sp al ip D)(X:Kx o n sp ip D)(hn:c0.length=n)(hc:InS sp c0)(h0:caR n ip D c0=true)(hf:∀p∈fs,0<=p.1/\p.1<n)(hfl:fs.length<=1000) :
  yu [o,.lst .bor (prL fs),.lst .bor (iL (wr c0 fs)),.lst .bor (iL (pick n (f9 (fJ b (bD n D ((wr c0 fs).map (· % sp)) tns)))))]=.ok (.bl true):=by
 have n20:=r.n20;have wl:(wr c0 fs).length=n:=(lA fs c0).trans hn;have rd:=jW (f:=.own) (rs:=wr c0 fs) r wl;obtain⟨M,mo,so,me,mq,sq,bd⟩:=X.ms;obtain⟨R,hR1,hR2,hR3⟩:=X.rc (fs.map (·.1));have sp0:=wf r.s0 hn hc hf fs.length (Nat.le_refl _);rw[take_length]at sp0;obtain⟨s1,s2⟩:=sp0.in_ hn hc;have mb:=bd c0 _ _ hn hc h0 sp0;obtain⟨sq1,sq2⟩:=sq fs.length hfl;have me1:=me .own _ (.inr rfl) s1 s2;have tin:∀x∈pick n (f9 (fJ b (bD n D ((wr c0 fs).map (· % sp)) tns))),(pick n R).contains x=true:=λx hx=>by
  unfold pick at hx;obtain⟨i,hi,rfl⟩:=mem_map.mp hx;obtain⟨h1,h2⟩:=mem_filter.mp hi;have hi':=mem_range.mp h1;unfold f9 at h2;obtain⟨p,hp,h3⟩:=any_eq_true.mp h2;have hp':p∈bD n D ((wr c0 fs).map (· % sp)) tns:=by
   cases b with
   |none=>exact hp
   |some k=>exact List.mem_of_mem_take hp
  have:=lB (c0:=c0) (λcs h i hi hd=>hR3 c0 cs h0 h i hi hd) tns _ (λi hi hr=>by
   have e:∀p∈fs,p.1.toNat≠i:=λp hp z=>by
    have hh:=hf p hp;have:R i=true:=hR2 i (by
     rw[List.contains_iff_mem];exact mem_map.mpr ⟨p,hp,by omega⟩)
    rw[this]at hr;cases hr
   have e2:=CO e c0;have hin:=hc _ (cD (far:=c0) (i:=i) ());have e3:gt ((wr c0 fs).map (· % sp)) i=gt (wr c0 fs) i%sp:=by
    have:i <(wr c0 fs).length:=by omega
    simp[gt,this]
   rw[e3,e2,emod_eq_of_lt hin.1 hin.2]) p hp' (i:Int) (by simpa using h3)
  rw[List.contains_iff_mem];unfold pick;exact mem_map.mpr ⟨i,mem_filter.mpr ⟨h1,by simpa using this⟩,rfl⟩
 have tl:(pick n (f9 (fJ b (bD n D ((wr c0 fs).map (· % sp)) tns)))).length<=n:=by unfold pick;rw[length_map];exact Nat.le_trans (length_filter_le _ _) (by simp)
 generalize pick n (f9 (fJ b (bD n D ((wr c0 fs).map (· % sp)) tns)))=tc at *;generalize(wr c0 fs).map (· % sp)=cs1 at *;refine au (v:=.bl true) ?_;show zB [some o,some (.lst .bor (prL fs)),some (.lst .bor (iL (wr c0 fs))),some (.lst .bor (iL tc)),none,none,none]=_;unfold zB;refine ag (aw (v:=.lst .own (iL (fs.map (·.1)))) ?_) ?_
 .refine aM (xs:=prL fs) (by simp) (by simp[prL];omega) ?_;rw[show iL (fs.map (·.1))=fs.map λp=>PV.int p.1 by simp[iL]];exact bp (a:=prV) (f:=λp=>PV.int p.1) fs λp _=>⟨[some (.int p.1),some (.int p.2)],rfl,by simp,by simp,by simp⟩
 simp only[s0_,s1_];refine ag (aw (v:=.lst .own (iL (pick n R))) (by simp[r.le,hR1 .own (.inr rfl)])) ?_;simp only[s0_,s1_];have pc:aV [5] 1 (bO (ae (mUn (ap 0) (ac 0)) ao)) (tgN 1) (aB (mOp pIn (ac 1) (ac 0))) (ac 1) [some o,some (.lst .bor (prL fs)),some (.lst .bor (iL (wr c0 fs))),some (.lst .bor (iL tc)),some (.lst .own (iL (fs.map (·.1)))),some (.lst .own (iL (pick n R))),none]=.ok (.lst .own (iL (pick n R))):=by
  have e:(range n).filter (λk:Nat=>(pick n R).contains (k:Int))=(range n).filter R:=List.filter_congr λk hk=>by
   rw[Bool.eq_iff_iff,List.contains_iff_mem];unfold pick;have hk':=mem_range.mp hk;simp only[mem_map,mem_filter,mem_range];constructor
   .rintro⟨a,⟨_,h2⟩,e⟩;obtain rfl:a=k:=by omega
    exact h2
   .exact λh=>⟨k,⟨hk',h⟩,rfl⟩
  have:=dA (env:=bQ [5] 1 [some o,some (.lst .bor (prL fs)),some (.lst .bor (iL (wr c0 fs))),some (.lst .bor (iL tc)),some (.lst .own (iL (fs.map (·.1)))),some (.lst .own (iL (pick n R))),none]) (g:=tgN 1) (mc:=aB (mOp pIn (ac 1) (ac 0))) (me:=ac 1) (λk:Nat=>(pick n R).contains (k:Int)) (λk=>(k:Int)) n λk hk=>⟨[some (.lst .bor (iL (pick n R))),some (.int (0+k))],by simp[tgN,aO,bQ],by simp,λ_=>by simp⟩
  rw[e]at this;exact aM (xs:=cG 0 n) (bv (n:=n) (by simp[r.le,r.a0]) ()) (by rw[aZ];omega) this
 refine ag (bU ?_ aD) ?_
 .simp only[EU,uo,mD,jl,gj,pc];simp[kf]
 refine ag (bU ?_ aD) ?_
 .simp only[uo,mD,eD,cr,c9];rw [aM (xs:=iL tc) (ys:=(tc.map λ_=>true).map .bl) (by simp) (by rw [ba];omega) (by
   rw[map_map];refine bp (a:=PV.int) (f:=PV.bl ∘ λ_=>true) tc λx hx=>⟨[some (.lst .bor (iL (pick n R))),some (.int x)],by simp[tgN,aO,bQ],?_,by simp,by simp⟩
   have:=tin x hx;rw[List.contains_iff_mem]at this;simp[this])]
  have hb:iO lg (.lst .own ((tc.map λ_=>true).map .bl))=.ok (.bl true):=by unfold iO;dsimp only;rw[jm];simp[lg]
  simp only[Res.J4,p1,hb];rfl
 refine ag (aw (v:=.int (M cs1)) (by simp[r.le,r.tb,r.rd,rd,aA,me1])) ?_;simp only[s0_,s1_];refine a5 ?_ (by simp);have pl:(prL fs).length=fs.length:=by simp[prL]
 simp only[yS,dH,yR,cr,c9,eD];simp[r.le,pl,sq1,mq,fU,mb,sq2]
end
def Em{d:Nat->Option (JS->JT)}{r:Res (JS)}{x o:PV}(h:x.J2 Fl.JV=o)(ho:o.J2 Fl.JV=o):dG d r x=dG d r o:=by
 subst h;cases x with
 |obj f c ks vs=>
  rw[PV.J2]at ho ⊢;unfold dG;dsimp only;cases d c with
  |none=>rfl
  |some m=>
   cases r with
   |ok xs=>simp only[Res.J4,y_,vq,ho];rfl
   |exc c|stuck=>rfl
 |_=>first|rfl|simp[PV.J2,dG]
def uG:Int:=1000000000000000000000000000000000000000000000000000000000000
def fOf(n:Nat)(z:Int):Int×Int:=(z / 2%n,z / 2 / n%uG*(if z%2=0 then 1 else -1))
def hV(f a b c d:Fl)(cs:JK)(fs:JH)(tns:List (JK)):PV:=.lst f [.lst a (iL cs),.lst b (prL fs),.lst c (llL d tns)]
theorem Hc{f a b c d f' a' b' c' d':Fl}{cs:JK}{fs:JH}{tns:List (JK)}:pNe (hV f a b c d cs fs tns) (hV f' a' b' c' d' cs fs tns)=.ok (.bl false):=by
 refine Br ?_ ?_
 .unfold hV;simp only[PV.data,dataL];rw[qW d d']
 .have h1:=ur d tns;have h2:=yZ (ps:=fs);simp[hV,shp,SeqAt.shaped,PV.data,dataL,PyData.canLay0,PyData.canLayAll0,PyData.depth,PyData.depthAll,ux,y9];omega
theorem law_true(fl:Fl)(ns:JK)(h:Scr fl)(hl:ns.length<=63):CI [.lst fl (ns.map .int)]=.ok (.bl true):=by
 rw[xW];have cl:∀k:Nat,jz [.lst fl (iL ns),.int k]=.ok (.int (cell ns k)):=λk=>B7 ns k h;have c0:jz [.lst fl (iL ns),.int 0]=.ok (.int (cell ns 0)):=cl 0;have c1:jz [.lst fl (iL ns),.int 1]=.ok (.int (cell ns 1)):=cl 1;have c2:jz [.lst fl (iL ns),.int 2]=.ok (.int (cell ns 2)):=cl 2;generalize cell ns 0=z0 at c0;generalize cell ns 1=z1 at c1;generalize cell ns 2=z2 at c2;have d6:dC (.int z0) (.int 6)=.ok (.int (z0 / 6)):=eE (by decide) (by decide);have d36:dC (.int z0) (.int 36)=.ok (.int (z0 / 36)):=eE (by decide) (by decide);have d216:dC (.int z0) (.int 216)=.ok (.int (z0 / 216)):=eE (by decide) (by decide);obtain⟨kd,hkd⟩:∃kd:Nat,z0%6=kd:=⟨(z0%6).toNat,by omega⟩
 obtain⟨m,hm⟩:∃m:Nat,1+z0 / 6%6=m:=⟨(1+z0 / 6%6).toNat,by omega⟩
 obtain⟨O,o,n,sp,al,ip,D,hru,K,X,n11,hk1,hk0,hip,hD⟩:=AH (kd:=kd) (m:=m) (z0 / 36) z1 () () ();have n1:=K.r.n1;have np:(0:Int)<n:=by omega
 obtain⟨s0,hs0,sl,si,sc⟩:=wd (kd:=kd) z2 K.r X (λz=>⟨by rw[hip];simp[z],by have:=hk0 z;omega,hD z⟩) (λz=>by rw[hip];simp[z]);refine au (v:=.bl true) ?_;show Ab [some (.lst fl (iL ns)),none,none,none,none,none,none,none,none,none,none,none,none,none,none]=_;unfold Ab;refine ag (aw (v:=.int z0) (by simp[h.JU,h.JV,c0,aA])) ?_;simp only[s0_,s1_];refine ag (aw (v:=.int kd) (by simp[bF,hkd])) ?_;simp only[s0_,s1_];refine ag (aw (v:=O) (by simp[h.JU,h.JV,c1,bF,d6,d36,hm,hru,aA,K.own]) K.nl rfl) ?_;simp only[s0_,s1_];refine ag (aw (v:=.int n) (by simp[K.la0])) ?_;simp only[s0_,s1_];refine ag (aw (v:=.lst .own (iL s0)) (by simp[h.JU,h.JV,c2,K.lb,hs0,aA])) ?_;simp only[s0_,s1_];have lm:∀(d:Nat->Option (JS->JT)) (x:Res (JS)),dG d x (O.J2 Fl.JU)=dG d x o:=λd x=>Em K.lb K.r.tb;have ca:=ly (f:=.own) K.r (.inr rfl) sl si;generalize hcb:caR n ip D s0=cb at ca;refine ag (aw (v:=.bl cb) (by simp[lm,ca])) ?_;simp only[s0_,s1_];refine ag (bU ?_ aD) ?_
 .cases cb with
  |true=>simp[kU,PV.isBl]
  |false=>
   have:z2%5=4:=Classical.byContradiction λz=>by have:=sc z;rw[hcb]at this;cases this
   simp[kU,PV.isBl,h.JU,h.JV,c2,aA,bF,this]
 refine ag (aw (v:=.lst .own []) (by simp)) ?_;simp only[s0_,s1_];obtain⟨q,hq⟩:∃q:Nat,z0 / 216%7=q:=⟨(z0 / 216%7).toNat,by omega⟩
 have ec:i_ (iL ns) (some 3) (some (3+z0 / 216%7))=iL ((ns.take (3+q)).drop 3):=y3 ns 3 (3+q) rfl ();have zl:((ns.take (3+q)).drop 3).length<=63:=by simp;omega
 generalize(ns.take (3+q)).drop 3=zs at ec zl;have pw:wZ (.int 10) (.int 60)=.ok (.int uG):=rfl;refine fB (λk e=>∃ x8,e=[some (.lst fl (iL ns)),some (.int z0),some (.int kd),some O,some (.int n),some (.lst .own (iL s0)),some (.bl cb),some (.lst .own (prL ((zs.take k).map (fOf n)))),x8,none,none,none,none,none,none]) (xs:=iL zs) (dJ (f:=.own) (by
  simp only[f6,ij,dH,qO,gj];simp[h.JU,d216,bF,ec]) rfl (by simp) (by simp)) ⟨none,rfl⟩ (λk x e hx hP=>?_) (λe hP=>?_)
 .obtain⟨x8,rfl⟩:=hP;obtain⟨z,hz,rfl⟩:=mf hx;have d2:dC (.int z) (.int 2)=.ok (.int (z / 2)):=eE (by decide) (by decide);have dn:dC (.int (z / 2)) (.int (n:Int))=.ok (.int (z / 2 / n)):=eE np ();have mt:cK (.int (z / 2 / n)) (.int uG)=.ok (.int (z / 2 / n%uG)):=bF (by decide);generalize hT:z / 2 / (n:Int)%uG=w at mt;have ix:lV (.lst .own [.int 1,.int (-1)]) (.int (z%2))=.ok (.int (if z%2=0 then 1 else -1)):=by
   have:z%2=0\/z%2=1:=by omega
   rcases this with e|e<;>rw[e]<;>rfl
  have mu:ck (.int w) (.int (if z%2=0 then 1 else -1))=.ok (.int (w*(if z%2=0 then 1 else -1))):=cH (.inr (by split<;>decide));refine⟨_,cS rfl,bu (eR (v:=prV (fOf n z)) (xs:=prL ((zs.take k).map (fOf n))) ?_ rfl (by simp[PV.J1,PV.has,prV,hasL]) (by simp[prL];omega)) ⟨some (.int z),?_⟩⟩
  .simp only[s0_,s1_];unfold fOf;rw[hT];generalize uG=TK at *;simp[d2,dn,bF np,bF,pw,mt,ix,mu,prV]
  .simp only[s0_,s1_];rw[List.take_succ,hz];simp[prL]
 obtain⟨x8,rfl⟩:=hP;rw[ba,take_length];have ff:∀p∈zs.map (fOf n),0<=p.1/\p.1<n:=λp hp=>by obtain⟨z,_,rfl⟩:=mem_map.mp hp;exact⟨emod_nonneg _ (),emod_lt_of_pos _ np⟩
 have fl2:(zs.map (fOf n)).length<=63:=by simpa using zl
 generalize zs.map (fOf n)=fs at *;obtain⟨TF,hTF⟩:∃F:Int->JK,∀z,ug [o,.int z]=.ok (.lst .own (iL (F z)))/\gR n al (F z):=⟨λz=>Classical.choose (sY K.r z),λz=>Classical.choose_spec (sY K.r z)⟩
 have hzl:((ns.take 203).drop 3).length<=63:=by simp;omega
 have ec2:i_ (iL ns) (some 3) (some 203)=iL ((ns.take 203).drop 3):=y3 ns 3 203 rfl rfl;generalize(ns.take 203).drop 3=ys at hzl ec2;refine ag (aw (v:=.lst .own (llL .own (ys.map TF))) ?_ (by simp[PV.J1,PV.has,dO _ Fl.JZ .own rfl]) rfl) ?_
 .refine aM (xs:=iL ys) (by simp only[BV,qO,f6,dH,ij];simp[h.JU,ec2]) (by rw[ba];omega) ?_;rw[show llL .own (ys.map TF)=ys.map λz=>PV.lst .own (iL (TF z)) by simp[llL]];exact bp (a:=PV.int) (f:=λz=>PV.lst .own (iL (TF z))) ys λz _=>⟨[some o,some (.int z)],by simp[tgN,aO,bQ,PV.JX,K.bb],by simp[K.r.le,K.r.tb,(hTF z).1,aA],by simp,by simp⟩
 simp only[s0_,s1_];have hgd:∀nm∈ys.map TF,gR n al nm:=λnm hm=>by obtain⟨z,_,rfl⟩:=mem_map.mp hm;exact(hTF z).2
 have htl:(ys.map TF).length<=63:=by simpa using hzl
 generalize ys.map TF=tns at *;have wo:=rB (c0:=s0) (fs:=fs) (f:=.bor) (g:=.bor) (.inl rfl) () (by rw[sl];exact ff);have wl:(wr s0 fs).length=n:=(lA fs s0).trans sl;refine ag (aw (v:=.lst .own (iL (wr s0 fs))) (by simp[wo,aA])) ?_;simp only[s0_,s1_];have wk:=uC (rs:=wr s0 fs) (tns:=tns) (f:=.bor) (g:=.bor) (h:=.bor) K.r (.inl rfl) (.inl rfl) wl hgd ();have me:=Bz (c0:=s0) (fs:=fs) (tns:=tns) (f:=.bor) (g:=.bor) (ft:=.bor) (fi:=.bor) K.r (.inl rfl) (.inl rfl) (.inl rfl) (.inl rfl) sl ff hgd ();have so:=pS (c0:=s0) (fs:=fs) (f:=.bor) (g:=.bor) (.inl rfl) () (by rw[sl];exact ff);have wi:=λhcal=>uB (tns:=tns) (fs:=fs) (fcR (caR n ip D) ((wr s0 fs).map (· % sp)::(bD n D ((wr s0 fs).map (· % sp)) tns).map (·.2))) K.r X sl si hcal ff ();rw[hcb]at wi;have pl:(pick n (f9 (fJ (fcR (caR n ip D) ((wr s0 fs).map (· % sp)::(bD n D ((wr s0 fs).map (· % sp)) tns).map (·.2))) (bD n D ((wr s0 fs).map (· % sp)) tns)))).length<=n:=by unfold pick;rw[length_map];exact Nat.le_trans (length_filter_le _ _) (by simp)
 have lo:=t8 (f:=.bor) (g:=.bor) (wr s0 fs) ();generalize pick n (f9 (fJ (fcR (caR n ip D) ((wr s0 fs).map (· % sp)::(bD n D ((wr s0 fs).map (· % sp)) tns).map (·.2))) (bD n D ((wr s0 fs).map (· % sp)) tns)))=tc at *;generalize fcR (caR n ip D) ((wr s0 fs).map (· % sp)::(bD n D ((wr s0 fs).map (· % sp)) tns).map (·.2))=b at *;generalize wr s0 fs=rg at *;have nb:(nV b).has Fl.J0=false:=by cases b<;>simp[nV,PV.has]
 have nn:(nV b).has Fl.JZ=false:=by cases b<;>simp[nV,PV.has]
 have nl:∀g,(nV b).J2 g=nV b:=λg=>by cases b<;>simp[nV]
 have to:=Al (l:=tc) (b:=b) ();refine ag (aw (v:=.tup [.lst .own (iL tc),nV b]) (by simp[K.lb,wk,aA,PV.has,hasL,nb]) (by simp[PV.J1,PV.has,hasL,nn]) rfl) ?_;simp only[s0_,s1_];refine fB (λk e=>∃x12 x13 x14,e=[some (.lst fl (iL ns)),some (.int z0),some (.int kd),some O,some (.int n),some (.lst .own (iL s0)),some (.bl cb),some (.lst .own (prL fs)),x8,some (.lst .own (llL .own tns)),some (.lst .own (iL rg)),some (.tup [.lst .own (iL tc),nV b]),x12,x13,x14]) (bv (n:=2) (by simp) ()) ⟨_,_,_,rfl⟩ (λk x e hx hP=>?_) (λe hP=>?_)
 .obtain⟨x12,x13,x14,rfl⟩:=hP;obtain⟨hk,rfl⟩:=da hx;refine⟨_,cS rfl,?_⟩;simp only[s0_,s1_];refine b8 (aw (v:=hV .own .own .own .own .own s0 fs tns) ?_ (by simp[hV,PV.J1,PV.has,hasL,dO _ Fl.JZ .own rfl]) rfl) ?_
  .simp only[o8,cr,c9];rw[aM (xs:=llL .lnt tns) (ys:=llL .own tns) (by simp[Fl.JU]) (by rw[oY];omega) (bp (a:=λnm=>PV.lst .lnt (iL nm)) (f:=λnm=>PV.lst .own (iL nm)) tns λnm _=>⟨[some (.lst .bor (iL nm))],by simp[tgN,aO,bQ,dw,PV.JX,Fl.JX],by simp,by simp,by simp⟩)];simp[hV]
  simp only[s0_,s1_];have hle:(hV .own .own .own .own .own s0 fs tns).J2 Fl.JU=hV .lnt .lnt .lnt .lnt .lnt s0 fs tns:=by simp[hV,Fl.JU]
  have i0:aK (hV .lnt .lnt .lnt .lnt .lnt s0 fs tns) (.int 0)=.ok (.lst .lnt (iL s0)):=cY (k:=0) rfl rfl (by simp);have i1:aK (hV .lnt .lnt .lnt .lnt .lnt s0 fs tns) (.int 1)=.ok (.lst .lnt (prL fs)):=cY (k:=1) rfl rfl (by simp);have i2:aK (hV .lnt .lnt .lnt .lnt .lnt s0 fs tns) (.int 2)=.ok (.lst .lnt (llL .lnt tns)):=cY (k:=2) rfl rfl (by simp[dO _ Fl.JY .lnt rfl]);refine b8 (aw (v:=.lst .own (iL rg)) (by simp[hle,i0,i1,so,aA])) ?_;simp only[s0_,s1_];refine b8 (bU (by simp[lo,aA]) aD) ?_;refine b8 (eR (v:=.int 0) (xs:=iL rg) (by simp) rfl (by simp) (by simp;omega)) ?_;simp only[s0_,s1_];have nh:pNe (hV .lnt .lnt .lnt .lnt .lnt s0 fs tns) (.lst .own [.lst .lnt (iL s0),.lst .lnt (prL fs),.lst .lnt (llL .lnt tns)])=.ok (.bl false):=Hc (f':=.own);have br:∀y,aB (mOp pNe (ac 13) (e_ (ae (ac 5) (ae (ac 7) (ae (ac 9) ao))))) [some (.lst fl (iL ns)),some (.int z0),some (.int kd),some O,some (.int n),some (.lst .own (iL s0)),some (.bl cb),some (.lst .own (prL fs)),x8,some (.lst .own (llL .own tns)),some (.lst .own (iL rg)),some (.tup [.lst .own (iL tc),nV b]),some (.int (0+(k:Int))),some (hV .own .own .own .own .own s0 fs tns),y]=.ok false:=λy=>by simp[hle,Fl.JU,nh]
  refine b8 (bU (br _) aD) ?_;refine b8 (bU (by simp[hle,i0,i1,i2,K.lb,me,aA,PV.has,hasL,nb,nl,to]) aD) ?_;exact bu (bU (br _) aD) ⟨_,_,_,rfl⟩
 .obtain⟨x12,x13,x14,rfl⟩:=hP;refine a5 (v:=.bl true) ?_ (by simp);have i0:aK (.tup [.lst .lnt (iL tc),nV b]) (.int 0)=.ok (.lst .lnt (iL tc)):=cY (k:=0) rfl rfl (by simp);cases cb with
  |false=>simp[pOr]
  |true=>simp[pOr,K.lb,nl,i0,wi rfl,aA]
end
section
def hb:Ag pt.F:=⟨bn2,bn4,bn3,bn2,bn2,bn2,bn2,bn2,bn2,bn2,bn3,bn3,bn2,bn1,bn2,bn1,bn3,bn5,bn3,bn2,bn3,bn3,bn4,bn2,bn2,bn3,bn2,bn2,bn2,bn3,bn3,bn2,bn3,bn2,bn2,bn2,bn3,bn2,bn3,bn3,bn3,bn3,bn3,bn2,bn2,bn2,bn2,bn2,bn3,bn2,bn1,bn2,bn3,bn3,bn3,bn4,bn2,bn2,bn3,bn2,bn2,bn2,bn2,bn2,bn2,bn2,bn2,bn2,bn2,bn1,bn2,bn2,bn1,bn1,bn1,bn1,bn1,bn2,bn2,bn4,bn1,trivial⟩
theorem hs:pt.F.all scB=true:=by decide +kernel
def fin{l:PySem.W.OpenLaw}{w:World}{K:PySem.W.Frag}{mg:JG}{fa:Addr}(t:Tx pt K mg)(hfa:mg "law"=some (.ref fa)) :
  ∃fd:FuncData,(∀(s:Shared) (u:Value),BindsTo s fd ⟨[u],[]⟩ [("_law_script",u)])/\∀base:Heap,K.In base->base.Ns mainGlobals mg->dD l.prog w K mg base (CXP l.prog w) 10 fa fd ["_law_script"] (tj K):=by
 have e:=hfa.symm.trans (t.gl 80 rfl);cases e;refine⟨dAt K (pt.fa K 80),λs u=>?_,λbase hB _=>Er (T:=T K) (Eh t hB) law_true⟩;obtain⟨oc,od,kV,doc,pm,an,cdv,ct,osl,e,_⟩:=(t.fn 80).ex;rw[e];exact .of_eq rfl
end
end G
namespace PySem.W.Fast
theorem t:True:=trivial
def tw3973245514356869048:=t
def tw5909504791330481445:=t
def tw1479294256523429152:=t
def tw5971165084047495546:=t
def tw6383011313137314907:=t
def tw1833789623349679897:=t
def tw2769114294721054976:=t
def tw11512473570845474301:=t
def tw12316200262696275194:=t
def tw11479449696709380644:=t
def tw3510853603619424530:=t
def tw2240793434091860298:=t
def tw6388363444470214181:=t
def tw3621444345907331264:=t
def tw17387086848492790506:=t
def tw9699708772154184267:=t
def tw14652900900598661247:=t
def tw3354297484646007667:=t
def tw9055179372049491743:=t
def tw3954057091999668738:=t
def tw15210850062114599132:=t
def tw4775376319818940035:=t
def tw18114118669769584831:=t
def tw15262697147988548477:=t
def tw14718836267197270905:=t
def tw12904197453515125803:=t
def tw13723713423469553033:=t
def tw13718790367009553091:=t
def tw5692103802109628508:=t
def tw10290969199775000058:=t
def tw16534321247858316118:=t
def tw2183723754393308077:=t
def tw4624744281648047074:=t
def tw1025769138916672784:=t
def tw10310281517463043789:=t
def tw4350884757009264943:=t
def tw5420414673398846406:=t
def tw1615407744928210430:=t
def tw16635414851039240534:=t
def tw8701365524716540916:=t
def tw9083591461779899154:=t
def tw3390856421569091732:=t
def tw4887307334793281378:=t
def tw18118265430315918052:=t
def tw16150245606322749860:=t
def tw13267727155400182562:=t
def tw11429445891105344430:=t
def tw10318610593923016215:=t
def tw6200188316237249087:=t
def tw13348586882312858087:=t
def tw1668918478420437830:=t
def tw18322922080563501767:=t
def tw5710061950662051860:=t
def tw15179356940204068064:=t
def tw11936520052563065754:=t
def tw5046329444472852625:=t
def tw3637355150802520044:=t
def tw7298380886580307211:=t
def tw10469343971553041048:=t
def tw15502188366866558439:=t
def tw17820101119950769642:=t
def tw4684434993271492922:=t
def tw9763768747096610893:=t
def tw10414098768443806208:=t
def tw1427541274458085552:=t
def tw9589482522955107291:=t
def tw2116406129043448779:=t
def tw4425766948791745579:=t
def tw16021902162408465960:=t
def tw2311151490971797259:=t
def tw2751416802295766295:=t
def tw8352880863234848303:=t
def tw719317523410147931:=t
def tw14089680437838841554:=t
def tw14128685571537695244:=t
def tw12899491018149985505:=t
def tw7336404957200195231:=t
def tw310006418007674773:=t
def tw1928953223927932304:=t
def tw5792712893216956984:=t
def tw664471223550142344:=t
def tw4905070475548572129:=t
def tw11657821347592898562:=t
def tw1556913678005091227:=t
def tw602131235722877416:=t
def tw4188290278525943593:=t
def tw6733449984582614456:=t
def tw6791213404341712770:=t
def tw7169777765149906837:=t
def tw11453449632378920674:=t
def tw13494855390326342286:=t
def tw6521539495681838196:=t
def tw12366072599431437085:=t
def tw12244103189742519161:=t
def tw11889359155557364403:=t
def tw4863231835437649134:=t
def tw9472916013614655948:=t
def tw6455285237349530899:=t
def tw16950280263862140880:=t
def tw3849092615335505936:=t
def tw17029958032268233754:=t
def tw8095387156252881663:=t
def tw16092059659495226497:=t
def tw17839804141744377129:=t
def tw16281396976957112560:=t
def tw17317501811398355619:=t
def tw5097142223525342325:=t
def tw4245689897469207017:=t
def tw5537083250627025305:=t
def tw9628112520268024352:=t
def tw15272989487949583260:=t
def tw41737091587029088:=t
def tw8313136103522107829:=t
def tw15227170492609489136:=t
def tw6165681853227104047:=t
def tw14406642674575484156:=t
def tw11894908342938613590:=t
def tw11992282025328381886:=t
def tw6771595115540574431:=t
def tw4106061548538542805:=t
def tw4605698283848951846:=t
def tw12160588038419372003:=t
def tw6763448203123934552:=t
def tw14580895840653788906:=t
def tw2607076183123001138:=t
def tw4751487046213019005:=t
def tw10992899703632670004:=t
def tw10331217590684878682:=t
def tw12705801323889712976:=t
def tw251094010182229047:=t
def tw757083113886999577:=t
def tw12696692030273248017:=t
def tw1167328930395659530:=t
def tw2360485645637230862:=t
def tw15256524657395875415:=t
def tw6630223144998022656:=t
def tw5956257506596905631:=t
def tw14400435702057852617:=t
def tw13261012332536718534:=t
def tw12788609245462816453:=t
def tw13122281355428931753:=t
def tw3226958484111957401:=t
def tw17639303558645291943:=t
def tw17512235311925190610:=t
def tw10698520263877004749:=t
def tw7895707375311787246:=t
def tw15549892820590872214:=t
def tw1085021176944492601:=t
def tw10156547400261383718:=t
def tw883220995367945228:=t
def tw9311860940988002710:=t
def tw15147420287015633011:=t
def tw12587295697273658821:=t
def tw16528648475844840947:=t
def tw15127560304369454480:=t
def tw4341008998396607855:=t
def tw3462132210667611487:=t
def tw5061591657223412507:=t
def tw16432396646399480834:=t
def tw4709871359431488211:=t
def tw1966624110795216225:=t
def tw7442816559582852121:=t
def tw4573114640704780236:=t
def tw13005682792653020367:=t
def tw1417449631685720260:=t
def tw13068206650874296468:=t
def tw9601404744648245071:=t
def tw1472797894686198671:=t
def tw1144881207123157391:=t
def tw10429476041784226384:=t
def tw2452679299667250910:=t
def tw2018347868492829065:=t
def tw7799336850084775241:=t
def tw17007146565958112072:=t
def tw17371311140819269184:=t
def tw12632761915968041947:=t
def tw2595632961320472489:=t
def tw2835658974743204245:=t
def tw3315128815734646616:=t
def tw11902530132865008189:=t
def tw7542434497927111392:=t
def tw5835048475444538170:=t
def tw4047492703331806542:=t
def tw13443118504762894880:=t
def tw848041917492629154:=t
def tw17052336304169603544:=t
def tw10913790248631644991:=t
def tw3616881000065431900:=t
def tw6273559545823046475:=t
def tw4869687294389047543:=t
def tw16269112858050170400:=t
def tw2621311135160611429:=t
def tw16451441880446278:=t
def tw18026896861938526322:=t
def tw1488012530183782598:=t
def tw12736252902449981737:=t
def tw17688362421717446486:=t
def tw15568643334863994569:=t
def tw5401318183822782541:=t
def tw8280684204534599000:=t
def tw14917286698760605398:=t
def tw7522989220437189980:=t
def tw9779888953299179454:=t
def tw2879202679528106968:=t
def tw112218258075748662:=t
def tw3588271973963696257:=t
def tw10414987523520609201:=t
def tw1050076570505266054:=t
def tw9612551706705872768:=t
def tw18224670854803087649:=t
def tw4154747346382218304:=t
def tw8225547117566276896:=t
def tw5746087491451486249:=t
def tw13881867485814429323:=t
def tw9383600086322014257:=t
def tw16860409536699886003:=t
def tw60070171802357172:=t
def tw16282894026431177230:=t
def tw9359002194457235683:=t
def tw11711615233523564655:=t
def tw18057476749065989556:=t
def tw13576245860375107194:=t
def tw5451630542566276526:=t
def tw7061529962701846722:=t
def tw12024693076311094823:=t
def tw6449255978697847747:=t
def tw11729951420711836798:=t
def tw2631651501559141417:=t
def tw17750947273984977028:=t
def tw4766144371953945515:=t
def tw2866046375268443635:=t
def tw7757313843867605094:=t
def tw7448780087310051958:=t
def tw2562809508050462879:=t
def tw10335678983864566620:=t
def tw6982556662361316523:=t
def tw13365619960316954964:=t
def tw3455343097159500535:=t
def tw5054145594405717864:=t
def tw7689838000632882259:=t
def tw5715190189585645005:=t
def tw1386738358295050347:=t
def tw18375447557059140392:=t
def tw342169079339221239:=t
def tw18293027045631226649:=t
def tw16141734549058110918:=t
def tw3636852844634628389:=t
def tw13848209808777097316:=t
def tw3787207929434946350:=t
def tw567367423378115603:=t
def tw6619822823670473835:=t
def tw18286402727611087393:=t
def tw15330467138692125377:=t
def tw8723870116123940942:=t
def tw4551022743725073593:=t
def tw17741961918128462113:=t
def tw10595272930456155924:=t
def tw16998071303753221195:=t
def tw14583334956443291759:=t
def tw10779340743963591803:=t
def tw13446785784547010532:=t
def tw10638418590065520721:=t
def tw12459845051039507727:=t
def tw15207003003701145454:=t
def tw8324439851286709848:=t
def tw13801906914462145209:=t
def tw17247713813148896565:=t
def tw14621158415509678410:=t
def tw759744737517815594:=t
def tw11253323850005558048:=t
def tw16520934515395846724:=t
def tw273986083167578900:=t
def tw7387211725794470618:=t
def tw9427814267893642613:=t
def tw12382340490911240840:=t
def tw7588078365150136513:=t
def tw3008665053350431373:=t
def tw10463352714657374972:=t
def tw6835090509247978003:=t
def tw16687101610994370917:=t
def tw2070478350067027270:=t
def tw8382677781629314431:=t
def tw17056997274987378371:=t
def tw15979671063183556084:=t
def tw4723946605019435216:=t
def tw14759431577243785992:=t
def tw14307969105518075718:=t
def tw1931553102089295735:=t
def tw10067171544007725505:=t
def tw4997310257213163120:=t
def tw11956219922430601879:=t
def tw12603216880463888845:=t
def tw13911463157218221034:=t
def tw12202893233432981324:=t
def tw10416551421192935482:=t
def tw8990713939848138980:=t
def tw187421712759993205:=t
def tw10801565263086497711:=t
def tw5376742385188308188:=t
def tw15031866060415193743:=t
def tw11725870497324382606:=t
def tw10723187966012529504:=t
def tw1579314471248014775:=t
def tw1524101561306328458:=t
def tw17783557145427515436:=t
def tw8029650050486083768:=t
def tw639210724546216469:=t
def tw5723471810009150585:=t
def tw799160592454706646:=t
def tw6514424773307181233:=t
def tw3628167985684713332:=t
def tw2322491141024555151:=t
def tw17135178150859979048:=t
def tw16425105395738814124:=t
def tw15571267774512527439:=t
def tw15187517525068622840:=t
def tw13221142730130018820:=t
def tw2478763737170769339:=t
def tw7251290748362556721:=t
def tw12601344382032612932:=t
def tw12113692191933509802:=t
def tw2155179029979833134:=t
def tw12854075587125651889:=t
def tw694401453776706090:=t
def tw16840441939801301087:=t
def tw9788355536643507127:=t
def tw9662591710940723270:=t
def tw15836960005323199330:=t
def tw14660382101140901880:=t
def tw11162397094586380799:=t
def tw7071838875291437101:=t
def tw3349267737009223497:=t
def tw15368500660725676178:=t
def tw16897470257790445989:=t
def tw9969664617186100863:=t
def tw6294317070743133642:=t
def tw17048429336582618788:=t
def tw1204610961100318330:=t
def tw10708287949112354692:=t
def tw8795965447383921105:=t
def tw8516013280756257456:=t
def tw6439873321173453344:=t
def tw17767854489559822045:=t
def tw16994781956493852516:=t
def tw13028277563937288055:=t
def tw12499539751212006036:=t
def tw14040843398209752724:=t
def tw2729848381508490422:=t
def tw13201381839429838750:=t
def tw1704857562119619233:=t
def tw1229443118058583396:=t
def tw8826551002213545882:=t
def tw7645987462502156457:=t
def tw4510336051229493282:=t
def tw14225537619592448789:=t
def tw13605007628497140323:=t
def tw10497331826143120959:=t
def tw10233604005905971681:=t
def tw7900512680744873026:=t
def tw2504664580619849152:=t
def tw7095899453393074610:=t
def tw9355738043404137906:=t
def tw9093602155969680508:=t
def tw8379393706752468840:=t
def tw7445949056529682901:=t
def tw4884802396694643663:=t
def tw18184946093636247428:=t
def tw17296000735378661568:=t
def tw15597480983553663167:=t
def tw14806573005150892437:=t
def tw1432566166526744616:=t
def tw13515329803062600137:=t
def tw13495589340690256399:=t
def tw12318462129217918225:=t
def tw10969159731543434133:=t
def tw10828176117519417735:=t
def tw1071902128074781510:=t
def tw8644491363804688641:=t
def tw7606836128306280694:=t
def tw7571083578979453733:=t
def tw6875228728106865412:=t
def tw3057935816595284740:=t
def tw2123704914786178273:=t
def tw18438927123091471977:=t
def tw17440879853110963640:=t
def tw16937563728559797191:=t
def tw15248992600300903035:=t
def tw14991125712595804263:=t
def tw14669912874762693598:=t
def tw13447583422011903157:=t
def tw13327102625587386167:=t
def tw10187837663498131364:=t
def tw10091081073002767881:=t
def tw10895757848435782164:=t
def tw6389956589427076699:=t
def tw5803290139222797654:=t
def tw5558679251540291295:=t
def tw4517173485584414833:=t
def tw3121892034435488008:=t
def tw1924363270586741841:=t
def tw15296155339976955599:=t
def tw14062341468658178410:=t
def tw13855218123360082377:=t
def tw13827908150122567809:=t
def tw12531552037913463923:=t
def tw1235513570339746609:=t
def tw10404608451815964845:=t
def tw9114097318736034266:=t
def tw9106850590776949419:=t
def tw8467190562271663394:=t
def tw8231102217120781725:=t
def tw8194117048264279088:=t
def tw6488310232492310602:=t
def tw5145168896496539874:=t
def tw2882737632171373600:=t
def tw18273709658880388476:=t
def tw17934495354124007933:=t
def tw17709339006514757940:=t
def tw13042303579699734978:=t
def tw11779226820132629853:=t
def tw11232106830755377834:=t
def tw10441796915809772100:=t
def tw10237029627684055540:=t
def tw9976291369255464861:=t
def tw9955268131799664543:=t
def tw9743993770069963587:=t
def tw9649203572501571434:=t
def tw9401730906731243341:=t
def tw9289737893036141734:=t
def tw9197183155875247851:=t
def tw9105885048938081828:=t
def tw902541137487940023:=t
def tw8943413803209121779:=t
def tw8829915863991876730:=t
def tw8780116954303374300:=t
def tw8340222986059013162:=t
def tw8332106802395718246:=t
def tw830887332959394727:=t
def tw8204971655981130762:=t
def tw8172353737400242241:=t
def tw8091274866895817006:=t
def tw7908140257605710487:=t
def tw7773164718710721978:=t
def tw7739529684086257834:=t
def tw7592379848242291651:=t
def tw7583328795693970873:=t
def tw72541659266326637:=t
def tw7170776731961846414:=t
def tw713372266101364638:=t
def tw6889090185625982607:=t
def tw6827501999751276679:=t
def tw6443540027511242088:=t
def tw6365877932223171407:=t
def tw6338769801872612185:=t
def tw6321620161398847355:=t
def tw6294094264395315988:=t
def tw6288495847292321655:=t
def tw6281758765624063208:=t
def tw6239573601381878399:=t
def tw6215351506587349389:=t
def tw6173939137377669510:=t
def tw5995099139773319664:=t
def tw5859714377970988078:=t
def tw5817568988887373709:=t
def tw5786909258859759285:=t
def tw5720411105534553423:=t
def tw5681661972994317170:=t
def tw5628025729927415529:=t
def tw556996577642245608:=t
def tw5543448239955758596:=t
def tw5523820247502677360:=t
def tw5412671099814586113:=t
def tw5390756056936131536:=t
def tw5289020447966427178:=t
def tw5242014113299930811:=t
def tw5234888727445974990:=t
def tw5177125080113777811:=t
def tw5077787725782211249:=t
def tw465545436920456336:=t
def tw4574390825150619056:=t
def tw4479047049918431128:=t
def tw4452144036616410799:=t
def tw4376345222749307430:=t
def tw4255959346247565570:=t
def tw4201669070257275533:=t
def tw4069306912802713180:=t
def tw4068775453630504142:=t
def tw4033043052897184029:=t
def tw3890125451484252983:=t
def tw3641008536048003881:=t
def tw3559876001546694906:=t
def tw355929299788736543:=t
def tw3547192769736701545:=t
def tw3520623560233261942:=t
def tw3503420091420117872:=t
def tw3472137319026759741:=t
def tw3464179920229345773:=t
def tw3429863624851489230:=t
def tw3347921622399547769:=t
def tw3284541243519171448:=t
def tw3164142516855734696:=t
def tw3120007221144808822:=t
def tw2800562706937690710:=t
def tw2744399251127830435:=t
def tw2703607931378463847:=t
def tw2603716781167865339:=t
def tw2597931380927969855:=t
def tw243193066346224365:=t
def tw2032043313350453120:=t
def tw202714268636752401:=t
def tw1955552608245838577:=t
def tw1868639236880693325:=t
def tw18399771478662150025:=t
def tw18353260191395973342:=t
def tw17983115090766614427:=t
def tw17772201322335720586:=t
def tw17601786801799257218:=t
def tw17312672639865993419:=t
def tw1724126493892598685:=t
def tw17146248247240941000:=t
def tw17140379428669310274:=t
def tw16871310991346800619:=t
def tw16813353042088299943:=t
def tw16677731932727187881:=t
def tw1666402063148073636:=t
def tw1661753311376289624:=t
def tw16548130785703394901:=t
def tw16317525802414420444:=t
def tw16271130013654313080:=t
def tw16269788751896873878:=t
def tw16158634040073535495:=t
def tw16019135092098920860:=t
def tw15933988740380281083:=t
def tw15847916426802598042:=t
def tw15821884335949161232:=t
def tw15691778455053255872:=t
def tw15620250272371162997:=t
def tw15608061014987076568:=t
def tw15517007386849000061:=t
def tw15259059062818683936:=t
def tw15074998662323650106:=t
def tw14863105399554022340:=t
def tw14695792722403050253:=t
def tw1469135080792164897:=t
def tw1453692693410538477:=t
def tw14472576200153367201:=t
def tw14248770866273389514:=t
def tw14192879718295235786:=t
def tw13714537898025244181:=t
def tw13641515668446407892:=t
def tw13630914445038210925:=t
def tw13543031507961486296:=t
def tw13508208732109205764:=t
def tw13489855066136124398:=t
def tw13392370189620264154:=t
def tw13302894031174142511:=t
def tw13232086196153225121:=t
def tw13158917865274588925:=t
def tw12865553415612301958:=t
def tw12747837875944570074:=t
def tw12745945172565592852:=t
def tw12644879640853240078:=t
def tw12605247230739588369:=t
def tw12569499433263416133:=t
def tw12444299437566083174:=t
def tw12271982940034063890:=t
def tw12131892468154915990:=t
def tw11891882106603941842:=t
def tw11809117497943186226:=t
def tw1173577771110564013:=t
def tw11686966558430188811:=t
def tw11676236238177255183:=t
def tw11291498549493528438:=t
def tw1116696960239248844:=t
def tw11098624738290341145:=t
def tw11066373831762440086:=t
def tw10965799791730228940:=t
def tw10821302206154764029:=t
def tw10660992213616326667:=t
def tw10523225074564253282:=t
def tw10506242075893144574:=t
def tw10497767219200157862:=t
def tw10320146863706908532:=t
def tw1018257703735071306:=t
def tw10169314490922212316:=t
def tw10094232959453636988:=t
def tw10039354836218265617:=t
def tw1008845637830243651:=t
def tw18081556044557964931:=t
def tw2970536592344739251:=t
def tw9339010878747931507:=t
def tw10518390415855073652:=t
def tw3751337556379493392:=t
def tw12684958399583465389:=t
def tw14040444534668647817:=t
def tw1690379510335744087:=t
def tw17965500110520710856:=t
def tw1547384833270398414:=t
def tw14476967482873224876:=t
def tw4066607541777910267:=t
def tw15860660597259589763:=t
def tw4278025260620332845:=t
def tw2028724691963018963:=t
def tw14897900938278267487:=t
def tw7874416298598127253:=t
def tw12422285379283178254:=t
def tw15469805122881966432:=t
def tw13337404075617166993:=t
def tw12985509433122357517:=t
def tw17098353090007397926:=t
def tw7142808585538032881:=t
def tw2889270394293396770:=t
def tw13752628922592359367:=t
def tw5641136789082948114:=t
def tw9304751607338173344:=t
def tw1986612633692915781:=t
def tw17844245826217956099:=t
def tw951487606105484078:=t
def tw14775798154608407231:=t
def tw13898657527752141539:=t
def tw4023654836988684030:=t
def tw10570210099824040306:=t
def tw16045704846189594726:=t
def tw16800486236339692683:=t
def tw12793769819842522249:=t
def tw7862582817103380855:=t
def tw193220635977357580:=t
def tw11497715340978214997:=t
def tw8448353062475427858:=t
def tw13990956363904617656:=t
def tw1018148934753921230:=t
def tw11031546161529043516:=t
def tw529244801148599171:=t
def tw18411948112738486275:=t
def tw8340185647778487689:=t
def tw6707273455003101077:=t
def tw7078795465191137587:=t
def tw11172854771989093091:=t
def tw12531226701849500152:=t
def tw6343559921008603572:=t
def tw13613742428530861854:=t
def tw4546072079566907987:=t
def tw10816535491491805250:=t
def tw14844850297372950394:=t
def tw11289345662075322870:=t
def tw11049347074665515072:=t
def tw5921610395739285991:=t
def tw7300865975900311813:=t
def tw18290592549721528481:=t
def tw1803952502679800470:=t
def tw7002830330221655016:=t
def tw16289209688934753725:=t
def tw15662215496357522816:=t
def tw3777326625179018646:=t
def tw8582178510523879220:=t
def tw18247088443842183785:=t
def tw15956203024476362912:=t
def tw14807516852734398940:=t
def tw5428641167783423279:=t
def tw16665629245097123598:=t
def tw5387010461966038736:=t
def tw8460436049743888681:=t
def tw8186048676066304666:=t
def tw965384870378240765:=t
def tw4010862150484886569:=t
def tw17391881804616156775:=t
def tw12832837582255991153:=t
def tw5424249891414678983:=t
def tw5742430770728282983:=t
def tw8045834992160591279:=t
def tw12877611396794705646:=t
def tw15426916275165720397:=t
def tw16135968674625245120:=t
def tw8870860981780069255:=t
def tw2830453357326138447:=t
def tw1636144373483285402:=t
def tw11285288554944354231:=t
def tw2140717436930735040:=t
def tw1688285619524494463:=t
def tw17362874991406721515:=t
def tw3892881807822215596:=t
def tw179822409800796809:=t
def tw13190441857766518519:=t
def tw7458092949367921508:=t
def tw2660529594549414880:=t
def tw6012404518750107034:=t
def tw12797991167540903703:=t
def tw17312112684532125441:=t
def tw5208729114007273640:=t
def tw8762686760914242390:=t
def tw16302879687360051211:=t
def tw3850827420780485922:=t
def tw1244155632483251478:=t
def tw7563120948472135708:=t
def tw6782307973611077289:=t
def tw6312677456931258471:=t
def tw9319320329646600917:=t
def tw15571287959326973351:=t
def tw17413801586457219806:=t
def tw7856213411212220798:=t
def tw6976000920531464404:=t
def tw17237572572022787276:=t
def tw4279386594492591187:=t
def tw18062796149121396753:=t
def tw11853532067350796044:=t
def tw4264234462840161209:=t
def tw1158206264672373604:=t
def tw12617067035845721550:=t
def tw3360849842907293205:=t
def tw10254926947085651586:=t
def tw4611513629819913180:=t
end PySem.W.Fast
end
open PySem PySem.W PyProof.Rows
set_option maxRecDepth 100000 in
set_option maxHeartbeats 0 in
theorem PySem.Challenge.cw_calmring_k43_mend_holds : PySem.Challenge.rw_calmring_k43_mend.Holds := by
 w_on;o_law;k_head;(case hw=>w_witness2)
 k_fill
 refine PR.xO (l:=PySem.Challenge.rw_calmring_k43_mend) (k:=10) (x := "_law_script") rfl rfl ⟨rfl,by decide,by decide⟩ (fun w h Y=>PySem.W.kIn_of Y) ?F
 case F =>
  intro w mg fa h KX G hmg
  refine' _root_.G.fin (_root_.PR.Tx.of KX G _root_.G.hb _root_.G.hs ?a ?b ?c ?d ?e ?f ?g) hmg
  (case a=>exact fun z=>nomatch z)
  (case b=>exact fun z=>nomatch z)
  (case c=>exact fun z=>nomatch z)
  (case d=>kernel_rfl)
  (case e=>kernel_rfl)
  (case f=>kernel_rfl)
  (case g=>kernel_rfl)
