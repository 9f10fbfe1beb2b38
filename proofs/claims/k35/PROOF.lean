import PyProof.Rows.All
import Wide.All
import OpenK.AllK
import Wide.FinOn
import Lean
import PyProof.EqAt
import PyProof.EqKinds
import PyProof.TupleCall
import PySem.Challenge.RW_calmring_k35_look_of_told_rules
abbrev Ja:=PySem.Value->PySem.Shared->Prop
abbrev Jb:=PySem.Str->Option PySem.Value
abbrev Jc:=List (Int×Int)
abbrev Jd:=List (PySem.Addr×PySem.Obj)
abbrev Je:=PySem.Addr->Prop
abbrev Jf:=List Int
abbrev Jg:=List PySem.Value
abbrev Jh:=List PySem.Addr
abbrev Ji:=List PySem.Str
abbrev Jj:=Option Int
abbrev Jk:=Array PySem.Value
open List(range mem_filter mem_range mem_cons_self mem_cons_of_mem mem_cons mem_append mem_append_left getElem_inj getElem?_set_self getElem?_set_ne mem_append_right size_toArray length_cons map_cons length_map append_nil nodup_cons replicate length_take getElem?_append_right getElem?_replicate getElem?_append_left getElem?_map length_append zip_cons_cons map_nil length_set Pairwise nodup_nil nodup_append Sublist all_cons any_cons pairwise_cons mem_map all_eq_true not_mem_nil getD_eq_getElem?_getD getElem_of_mem getElem?_eq_getElem nodup_range ext_getElem take_add_one sum_cons take_length getElem?_cons_succ getElem?_cons_zero eq_nil_of_length_eq_zero map_map map_set foldl_cons length_range mem_map_of_mem filter_cons length_filter_le mem_singleton Nodup filter_congr)
open PySem.W(instObj methodObj hideAll hideAll_get lookIn plainGet hasDictIn handedIn plainGet_of plainOver takerIn makesIn emptyDict callWith_K methodCall_KW kitOne kia_one mroIn clsIn excIn specialIn readsIn findCls exmOne mg_of)
open PySem.Heap(lt_size SameBut get?_push_of_some get?_push_size size_push get?_update_self get?_update_other ExtBut)
open Nat(zero_le le_succ not_lt_zero)
open Bool(or_eq_false_iff and_eq_true false_eq_true not_eq_true' or_eq_true)
open Option(map_eq_some_iff getD_some toList_some isNone)
open Int(toNat_natCast emod_nonneg emod_lt_of_pos emod_eq_of_lt)
open PyProof.Rows(firstMet evalArgs_kw2 kmk_tree step_dedup)
set_option Elab.async false
set_option linter.all false
set_option maxRecDepth 100000
noncomputable section
set_option genSizeOf false
set_option compiler.extract_closed false
set_option bootstrap.genMatcherCode false
section
local macro_rules|`(())=>`(by omega)
namespace L2
open PySem PySem.Spec PyProof.Rows
section
abbrev Key:=Sum Int Str
def B0:Key->Value->Bool
 |.inl k,v=>Value.isInt k v
 |.inr x,v=>Value.isStrOf x v
def IB(w:World):Key->Int
 |.inl k=>hashInt k
 |.inr x=>hashStr w x
theorem cB:∀{k:Key}{v:Value},B0 k v=true->(∃i t,k=Sum.inl i/\v=Value.int i t)\/(∃x t,k=Sum.inr x/\v=Value.str x t)
 |.inl i,v,h=>by obtain⟨t,e⟩:=Value.isInt_shape (k:=i) (v:=v) h;exact .inl ⟨i,t,rfl,e⟩
 |.inr x,v,h=>by obtain⟨t,e⟩:=Value.isStrOf_shape (x:=x) (v:=v) h;exact .inr ⟨x,t,rfl,e⟩
theorem DZ(a b:Int):decide ((Sum.inl a:Key)=Sum.inl b)=(a==b):=by
 by_cases e:a=b
 .subst e;simp
 .have h:¬(Sum.inl a:Key)=Sum.inl b:=λq=>e (Sum.inl.inj q);rw[decide_eq_false h];exact(beq_eq_false_iff_ne.mpr e).symm
theorem DW(a b:Str):decide ((Sum.inr a:Key)=Sum.inr b)=decide (a=b):=by
 by_cases e:a=b
 .subst e;simp
 .have h:¬(Sum.inr a:Key)=Sum.inr b:=λq=>e (Sum.inr.inj q);rw[decide_eq_false h,decide_eq_false e]
theorem DY(a:Int)(b:Str):decide ((Sum.inl a:Key)=Sum.inr b)=false:=decide_eq_false (λq=>nomatch q)
theorem DX(a:Str)(b:Int):decide ((Sum.inr a:Key)=Sum.inl b)=false:=decide_eq_false (λq=>nomatch q)
def oJ(prog:Program)(w:World):PySem.KeyKind prog w Key where
 is:=B0
 hash:=IB w
 inj:=λv a b ha hb=>by
  rcases cB ha with⟨i,t,rfl,rfl⟩ |⟨x,t,rfl,rfl⟩
  .rcases cB hb with⟨j,u,rfl,e⟩ |⟨y,u,rfl,e⟩
   .injection e with e1 _;rw[e1]
   .exact nomatch e
  .rcases cB hb with⟨j,u,rfl,e⟩ |⟨y,u,rfl,e⟩
   .exact nomatch e
   .injection e with e1 _;rw[e1]
 byValue:=λk v h=>by rcases cB h with⟨i,t,rfl,rfl⟩ |⟨x,t,rfl,rfl⟩<;>rfl
 pyHash:=λhv h=>by
  rcases cB hv with⟨i,t,rfl,rfl⟩ |⟨x,t,rfl,rfl⟩
  .exact wpAny_pyHash_int h
  .exact wpAny_pyHash_str h
 eqBool:=λhu hv h=>by
  rcases cB hu with⟨i,t,rfl,rfl⟩ |⟨x,t,rfl,rfl⟩
  .rcases cB hv with⟨j,u,rfl,rfl⟩ |⟨y,u,rfl,rfl⟩
   .rw[DZ]at h;exact wpAny_eqBool_int h
   .rw[DY]at h;exact SeqAt.EqAt.int_str i t y u _ _ _ _ h
  .rcases cB hv with⟨j,u,rfl,rfl⟩ |⟨y,u,rfl,rfl⟩
   .rw[DX]at h;exact SeqAt.EqAt.str_int x t j u _ _ _ _ h
   .rw[DW]at h;exact wpAny_eqBool_str h
 «strs»:=λk x t v h=>by
  rcases cB h with⟨i,u,rfl,e⟩ |⟨y,u,rfl,e⟩
  .exact nomatch e
  .injection e with e1 _;subst e1;cases v<;>rfl
end
section
inductive V where
 |non|bl (b:Bool)|int (i:Int)|str (x:Str)|byt (b:Array UInt8)|flt (b:UInt64)|ref (a:Addr)|ty (n:String)
 deriving DecidableEq
abbrev Jl:=List V
def bO:V->Value->Prop
 |.non,u=>u=Value.none
 |.bl b,u=>u=Value.bool b
 |.int i,u=>∃t,u=Value.int i t
 |.str x,u=>∃t,u=Value.str x t
 |.byt b,u=>∃t,u=Value.bytes b t
 |.flt b,u=>∃t,u=Value.float b t
 |.ref a,u=>u=Value.ref a
 |.ty n,u=>u=Value.type n
abbrev a5:Jl->Jg->Prop:=Paired bO
theorem a5.length{xs:Jl}{us:Jg}(r:a5 xs us):xs.length=us.length:=Paired.length r
theorem a5.get:∀{xs:Jl}{us:Jg}{i:Nat}{x:V},a5 xs us->xs[i]?=some x->∃u,us[i]?=some u/\bO x u
 |_,_,_,_,.nil,e=>by simp at e
 |_,_,0,_,.cons r _,e=>by simp at e;subst e;exact⟨_,rfl,r⟩
 |_,_,i+1,x,.cons _ t,e=>by obtain⟨u,h1,h2⟩:=a5.get (i:=i) (x:=x) t (by simpa using e);exact⟨u,by simpa using h1,h2⟩
theorem a5.set{x:V}{u:Value}(r:bO x u):∀{xs:Jl}{us:Jg} (i:Nat),a5 xs us->a5 (xs.set i x) (us.set i u)
 |_,_,_,.nil=>.nil
 |_,_,0,.cons _ t=>.cons r t
 |_,_,i+1,.cons q t=>.cons q (a5.set r i t)
theorem a5.append:∀{xs ys:Jl}{us ws:Jg},a5 xs us->a5 ys ws->a5 (xs++ys) (us++ws)
 |_,_,_,_,.nil,s=>s
 |_,_,_,_,.cons r t,s=>.cons r (a5.append t s)
theorem a5.take:∀{xs:Jl}{us:Jg} (n:Nat),a5 xs us->a5 (xs.take n) (us.take n)
 |_,_,0,_|_,_,_+1,.nil=>.nil
 |_,_,n+1,.cons r t=>.cons r (a5.take n t)
theorem a5.drop:∀{xs:Jl}{us:Jg} (n:Nat),a5 xs us->a5 (xs.drop n) (us.drop n)
 |_,_,0,r=>r
 |_,_,_+1,.nil=>.nil
 |_,_,n+1,.cons _ t=>a5.drop n t
def m9:Option V->Option Value->Prop
 |some v,some u=>bO v u
 |none,none=>True
 |_,_=>False
def KV{κ:Type}:List (κ×V)->List (κ×Value)->Prop:=Paired λ(p:κ×V) (q:κ×Value)=>p.1=q.1/\bO p.2 q.2
def kV:Key->V
 |.inl i=>.int i
 |.inr x=>.str x
inductive HO where
 |lst (xs:Jl)
 |tup (xs:Jl)
 |dK (kvs:List (Key×V))|dT (kvs:List (List Key×V))
 |set(S:Int->Bool) (n:Nat)
 |ins (C dx:Addr) (fs:List (Str×V))
 |own (x:Addr)
 |xd (fs:List (Str×V))
 |met (f x:Addr)
 |rng (lo hi:Int)
 |frz (o:Obj) (u:HO)
 |tbl (ps:Jk)
 |ext (φ:Heap->Prop)
abbrev Hp:=Addr->Option HO
abbrev Jm:=Hp->Prop
def upd(H:Hp)(a:Addr)(o:HO):Hp:=λb=>if b=a then some o else H b
theorem cw{H:Hp}{a:Addr}{o:HO}:upd H a o a=some o:=by unfold upd;rw[if_pos rfl]
theorem aV{H:Hp}{a b:Addr}{o:HO}(h:b≠a):upd H a o b=H b:=by unfold upd;rw[if_neg h]
theorem b9{H:Hp}{a b:Addr}{o:HO}(h:H a=some o)(h':H b=none):a≠b:=by intro e;subst e;rw[h]at h';cases h'
section
variable(P:Program)(w:World)
def Kp:HO->Prop
 |.tup _|.frz _ _=>True
 |_=>False
def Tab(H:Hp)(ps qs:Jk):Prop:=qs=#[]\/ ∃l c q t0 c' oc u vs t,ps=#[l,c,.str q t0]/\qs=#[l,c,.ref c']/\H c'=some (.frz oc u)/\oc.data=.fields vs/\vs[1]?=some (.str q t)
def dX(H:Hp)(h:Heap)(a:Addr):HO->Prop
 |.lst xs=>xs.length<=sizeLine/\∃(its:Jg) (n:Nat),a5 xs its/\h.get? a=some {cls:=.type "list",data:=.seq its.toArray n}
 |.tup xs=>xs.length<=sizeLine/\∃its:Jg,a5 xs its/\IsTup h a its.toArray
 |.dK kvs=>kvs.length<=sizeLine/\(a==sysModules)=false/\∃vs,KV kvs vs/\h.DictOf (oJ P w) a vs
 |.dT kvs=>kvs.length<=sizeLine/\(a==sysModules)=false/\∃xs:List (List Key×Addr×Value),
   Paired (λ(p:List Key×V) (q:List Key×Addr×Value)=>p.1=q.1/\H q.2.1=some (.tup (p.1.map kV))/\bO p.2 q.2.2) kvs xs /\
   ∃o es ep,h.get? a=some o/\o.ExactDict/\o.data=.dict es ep/\es.toList=xs.map (entryOfKey (tupleKind (oJ P w)))/\(xs.map (·.1)).Nodup
 |.set S n=>h.SetOf (intKind P w) a S n
 |.ins C dx fs=>H dx=some (.own a)/\fs.length<=1000/\dx≠a/\h.get? a=some (instObj C dx)/\
   ∃mA,h.Ns1 dx mA/\(∀f,m9 (fs.lookup f) (mA f))/\PySem.Within mA (fs.map (·.1))
 |.own _=>∃o,h.get? a=some o
 |.xd fs=>∃mA,h.Ns1 a mA/\∀f,m9 (fs.lookup f) (mA f)
 |.rng lo hi=>∃t u v,h.get? a=some {cls:=.type "range",data:=.fields #[.int lo t,.int hi u,.int 1 v]}
 |.frz o u=>h.get? a=some o/\dX H h a u
 |.tbl ps=>∃qs,h.get? a=some {cls:=.none,data:=.fields qs}/\Tab H ps qs
 |.met f x=>h.get? a=some (methodObj (.ref f) (.ref x))
 |.ext φ=>φ h/\(∃o,h.get? a=some o)/\∀h1 h2:Heap,φ h1->(∀o,h1.get? a=some o->h2.get? a=some o)->φ h2
def HOk(H:Hp)(h:Heap):Prop:=∀a o,H a=some o->dX P w H h a o
end
section
variable{P:Program}{w:World}{H H':Hp}{h h':Heap}{a:Addr}{o:HO}
theorem dX.lt(x:dX P w H h a o):a<h.objs.size:=by
 cases o with
 |lst xs=>obtain⟨_,_,_,_,e⟩:=x;exact lt_size e
 |tup xs=>obtain⟨_,_,_,p⟩:=x;exact p.lt
 |dK kvs|dT kvs=>obtain⟨_,_,_,_,o,_,_,e,_⟩:=x;exact lt_size e
 |set S n=>obtain⟨o,_,_,_,e,_⟩:=x;exact lt_size e
 |ins C dx fs=>obtain⟨_,_,_,e,_⟩:=x;exact lt_size e
 |own y=>obtain⟨_,e⟩:=x;exact lt_size e
 |xd fs=>obtain⟨_,⟨_,_,_,e,_⟩,_⟩:=x;exact lt_size e
 |rng lo hi=>obtain⟨_,_,_,e⟩:=x;exact lt_size e
 |frz ob u=>obtain⟨e,_⟩:=x;exact lt_size e
 |tbl ps=>obtain⟨_,e,_⟩:=x;exact lt_size e
 |met f y=>exact lt_size (show h.get? a=some _ from x)
 |ext φ=>obtain⟨_,⟨_,e⟩,_⟩:=x;exact lt_size e
theorem Paired.mapP{α β:Type}{F G:α->β->Prop}:∀{l₁:List α}{l₂:List β},Paired F l₁ l₂->(∀a b,F a b->G a b)->Paired G l₁ l₂
 |_,_,.nil,_=>.nil
 |_,_,.cons r t,f=>.cons (f _ _ r) (Paired.mapP t f)
theorem dX.stay(x:dX P w H h a o)(k:∀b u,(b=a\/H b=some (.own a))->h.get? b=some u->h'.get? b=some u)
  (ho:∀b,H b=some (.own a)->H' b=some (.own a)) (ht:∀b u,Kp u->H b=some u->H' b=some u):dX P w H' h' a o:=by
 induction o with
 |lst xs=>obtain⟨z,its,n,r,e⟩:=x;exact⟨z,its,n,r,k _ _ (.inl rfl) e⟩
 |tup xs=>obtain⟨z,its,r,ob,e,c⟩:=x;exact⟨z,its,r,ob,k _ _ (.inl rfl) e,c⟩
 |dK kvs=>obtain⟨z,y,vs,r,ob,es,ep,e,c⟩:=x;exact⟨z,y,vs,r,ob,es,ep,k _ _ (.inl rfl) e,c⟩
 |dT kvs=>obtain⟨z,y,xs,r,ob,es,ep,e,c⟩:=x;exact⟨z,y,xs,Paired.mapP r λp q z=>⟨z.1,ht _ _ True.intro z.2.1,z.2.2⟩,ob,es,ep,k _ _ (.inl rfl) e,c⟩
 |set S n=>obtain⟨ob,es,ep,t,e,c⟩:=x;exact⟨ob,es,ep,t,k _ _ (.inl rfl) e,c⟩
 |ins C dx fs=>obtain⟨d,z,ne,e,mA,⟨od,es,ep,e2,c⟩,r⟩:=x;exact⟨ho _ d,z,ne,k _ _ (.inl rfl) e,mA,⟨od,es,ep,k _ _ (.inr d) e2,c⟩,r⟩
 |own y=>obtain⟨ob,e⟩:=x;exact⟨ob,k _ _ (.inl rfl) e⟩
 |xd fs=>obtain⟨mA,⟨od,es,ep,e,c⟩,r⟩:=x;exact⟨mA,⟨od,es,ep,k _ _ (.inl rfl) e,c⟩,r⟩
 |rng lo hi=>obtain⟨t,u,v,e⟩:=x;exact⟨t,u,v,k _ _ (.inl rfl) e⟩
 |frz ob u ih=>obtain⟨e,q⟩:=x;exact⟨k _ _ (.inl rfl) e,ih q⟩
 |tbl ps=>obtain⟨qs,e,c⟩:=x;exact⟨qs,k a _ (.inl rfl) e,c.imp (λz=>z) λz=>by obtain⟨l,c,q,t0,c',oc,u,vs,t,e1,e2,e3,r⟩:=z;exact⟨l,c,q,t0,c',oc,u,vs,t,e1,e2,ht _ _ True.intro e3,r⟩⟩
 |met f y=>have e:h.get? a=some (methodObj (.ref f) (.ref y)):=x;show h'.get? a=some (methodObj (.ref f) (.ref y));exact k a _ (.inl rfl) e
 |ext φ=>obtain⟨p,⟨o,e⟩,st⟩:=x;exact⟨st _ _ p λo q=>k _ _ (.inl rfl) q,⟨o,k _ _ (.inl rfl) e⟩,st⟩
theorem HOk.lt(x:HOk P w H h)(e:H a=some o):a<h.objs.size:=(x a o e).lt
theorem HOk.fresh(x:HOk P w H h)(e:h.objs.size<=a):H a=none:=by
 cases q:H a with
 |none=>rfl
 |some u=>exact absurd (Nat.lt_of_lt_of_le (x.lt q) e) (Nat.lt_irrefl _)
theorem HOk.kept(x:HOk P w H h)(k:∀b u,h.get? b=some u->h'.get? b=some u):HOk P w H h':=λa o e=>
 (x a o e).stay (λb u _ q=>k b u q) (λ_ q=>q) λ_ _ _ q=>q
theorem HOk.laid(x:HOk P w H h)(k:∀b u,h.get? b=some u->h'.get? b=some u)(hp:h.objs.size<=a)(new:dX P w (upd H a o) h' a o):HOk P w (upd H a o) h':=λb u e=>by
 have hn:=x.fresh hp;by_cases hb:b=a
 .subst hb;rw[cw]at e;cases e;exact new
 .rw[aV hb]at e;exact(x b u e).stay (λc v _ q=>k c v q) (λc q=>by rw[aV (b9 q hn)];exact q) λc xs _ q=>by rw[aV (b9 q hn)];exact q
end
def Rd(H:Hp)(a:Addr)(u:HO):Prop:=H a=some u\/∃o,H a=some (.frz o u)
theorem Rd.ok{P:Program}{w:World}{H:Hp}{h:Heap}{a:Addr}{u:HO}(r:Rd H a u)(x:HOk P w H h):dX P w H h a u:=by
 rcases r with r |⟨o,r⟩
 .exact x a u r
 .obtain⟨_,q⟩:=x a _ r;exact q
def Mut:Option HO->Prop
 |some (.lst _)|some (.dK _)|some (.dT _)|some (.set _ _)|some (.ins _ _ _)|some (.ext _)=>True
 |_=>False
section
variable{P:Program}{w:World}{H:Hp}{h h':Heap}{x e:Addr}{o':HO}
theorem HOk.write(ok:HOk P w H h)(mu:Mut (H x))(he:e=x\/H e=some (.own x))(k:∀b u,b≠e->h.get? b=some u->h'.get? b=some u)(heo:∃u,h'.get? e=some u)
  (new:dX P w (upd H x o') h' x o'):HOk P w (upd H x o') h':=λb u q=>by
 have nown:∀c y,H c=some (.own y)->c≠x:=λc y r z=>by subst z;rw[r]at mu;exact mu
 have ntup:∀c u,Kp u->H c=some u->c≠x:=λc u h r z=>by subst z;rw[r]at mu;cases u<;>first|exact h|exact mu
 by_cases hb:b=x
 .subst hb;rw[cw]at q;cases q;exact new
 .rw[aV hb]at q;by_cases hbe:b=e
  .have q':H b=some (.own x):=by
    rcases he with z|z
    .exact absurd (hbe.trans z) hb
    .rw[hbe];exact z
   rw[q]at q';cases q';obtain⟨v,hv⟩:=heo;exact⟨v,by rw[hbe];exact hv⟩
  .refine(ok b u q).stay (λc v hc r=>k c v ?_ r) (λc r=>by rw[aV (nown c b r)];exact r) λc xs h r=>by rw[aV (ntup c xs h r)];exact r
   rcases hc with rfl|hc
   .exact hbe
   .rintro rfl;rcases he with z|z
    .exact nown c b hc z
    .rw[hc]at z;cases z;exact hb rfl
end
structure Un(fs ex:Jh)(H H':Hp)(h h':Heap):Prop where
 keep:∀b o,h.get? b=some o->H b=none->b∉fs->b∉ex->h'.get? b=some o
 slot:∀b o,h.get? b=some o->H b=none->b∈fs->b∉ex->∃sl,h'.get? b=some {o with slots:=sl}
 free:∀b o,h.get? b=some o->H b=none->b∉ex->H' b=none
 there:∀b o,h.get? b=some o->b∉ex->∃o',h'.get? b=some o'
 tups:∀b xs,H b=some (.tup xs)->H' b=some (.tup xs)
 frzs:∀b o u,H b=some (.frz o u)->H' b=some (.frz o u)
 tbls:∀b ps,H b=some (.tbl ps)->∃more,H' b=some (.tbl (ps++more))
section
variable{fs fs' ex ex':Jh}{H H1 H2:Hp}{h h1 h2 h':Heap}{a x e:Addr}{o:HO}
theorem Un.any(u:Un fs ex H H1 h h1){b:Addr}{ob:Obj}(q:h.get? b=some ob)(n:H b=none)(hx:b∉ex):∃sl,h1.get? b=some {ob with slots:=sl}:=by
 by_cases hb:b∈fs
 .exact u.slot b ob q n hb hx
 .exact⟨ob.slots,u.keep b ob q n hb hx⟩
theorem Un.trans(a:Un fs ex H H1 h h1)(b:Un fs ex H1 H2 h1 h2):Un fs ex H H2 h h2 where
 keep:=λc ob q n hc hx=>b.keep c ob (a.keep c ob q n hc hx) (a.free c ob q n hx) hc hx
 slot:=λc ob q n hc hx=>by obtain⟨sl,e1⟩:=a.slot c ob q n hc hx;obtain⟨sl',e2⟩:=b.slot c _ e1 (a.free c ob q n hx) hc hx;exact⟨sl',e2⟩
 free:=λc ob q n hx=>by obtain⟨o',e1⟩:=a.there c ob q hx;exact b.free c o' e1 (a.free c ob q n hx) hx
 there:=λc ob q hx=>by obtain⟨o',e1⟩:=a.there c ob q hx;exact b.there c o' e1 hx
 tups:=λc xs q=>b.tups c xs (a.tups c xs q)
 frzs:=λc ob xs q=>b.frzs c ob xs (a.frzs c ob xs q)
 tbls:=λc ps q=>by obtain⟨m1,e1⟩:=a.tbls c ps q;obtain⟨m2,e2⟩:=b.tbls c _ e1;exact⟨m1++m2,by rw[e2,Array.append_assoc]⟩
theorem Un.kept(k:∀b u,h.get? b=some u->h'.get? b=some u):Un fs ex H H h h':=
 ⟨λb ob q _ _ _=>k b ob q,λb ob q _ _ _=>⟨ob.slots,k b ob q⟩,λ_ _ _ n _=>n,λb ob q _=>⟨ob,k b ob q⟩,λ_ _ q=>q,λ_ _ _ q=>q,λ_ ps q=>⟨#[],by rw[q];simp⟩⟩
theorem Un.refl:Un fs ex H H h h:=Un.kept λ_ _ q=>q
theorem Un.laid(k:∀b u,h.get? b=some u->h'.get? b=some u)(hp:h.objs.size<=a)(hn:H a=none):Un fs ex H (upd H a o) h h' where
 keep:=λb u q _ _ _=>k b u q
 slot:=λb u q _ _ _=>⟨u.slots,k b u q⟩
 free:=λb u q n _=>by rw[aV (Nat.ne_of_lt (Nat.lt_of_lt_of_le (lt_size q) hp))];exact n
 there:=λb u q _=>⟨u,k b u q⟩
 tups:=λb xs q=>by rw[aV (b9 q hn)];exact q
 frzs:=λb u xs q=>by rw[aV (b9 q hn)];exact q
 tbls:=λb ps q=>⟨#[],by rw[aV (b9 q hn),q];simp⟩
theorem Un.write(mu:Mut (H x))(he:e=x\/H e=some (.own x))(k:∀b u,b≠e->h.get? b=some u->h'.get? b=some u)(heo:∃u,h'.get? e=some u):Un fs ex H (upd H x o) h h':=by
 have hx:∀b,H b=none->b≠x:=λb n z=>by subst z;rw[n]at mu;exact mu
 have hb:∀b,H b=none->b≠e:=λb n z=>by
  subst z;rcases he with r|r
  .exact hx b n r
  .rw[n]at r;cases r
 have hm:∀b u,H b=some u->¬Mut (some u)->b≠x:=λb u q nm z=>by subst z;rw[q]at mu;exact nm mu
 refine ⟨λb u q n _ _=>k b u (hb b n) q,λb u q n _ _=>⟨u.slots,k b u (hb b n) q⟩,λb u q n _=>by rw [aV (hx b n)];exact n,λb u q _=>?_,
  λb xs q=>by rw[aV (hm b _ q λz=>z)];exact q,λb u xs q=>by rw[aV (hm b _ q λz=>z)];exact q,λb ps q=>⟨#[],by rw[aV (hm b _ q λz=>z),q];simp⟩⟩
 by_cases hbe:b=e
 .subst hbe;exact heo
 .exact⟨u,k b u hbe q⟩
theorem Un.mono(u:Un fs ex H H1 h h1)(hs:∀b∈fs,b∈fs')(hx:∀b∈ex,b∈ex'):Un fs' ex' H H1 h h1:=
 ⟨λb ob q n hb he=>u.keep b ob q n (λz=>hb (hs b z)) λz=>he (hx b z),λ_ _ q n _ he=>u.any q n λz=>he (hx _ z),λb ob q n he=>u.free b ob q n λz=>he (hx b z),λb ob q he=>u.there b ob q λz=>he (hx b z),u.tups,u.frzs,u.tbls⟩
end
def trk(h:Heap)(H:Hp):Jh:=(range h.objs.size).filter λa=>(H a).isSome
def oS(h:Heap)(H:Hp):Heap:=hideAll h (trk h H)
theorem vi(h:Heap)(H:Hp):(oS h H).objs.size=h.objs.size:=PySem.W.hideAll_size _ _
theorem xM{h:Heap}{H:Hp}{b:Addr}{o:Obj}(e:h.get? b=some o)(n:H b=none):(oS h H).get? b=some o:=
 hideAll_get _ e λhm=>by have q:(H b).isSome=true:=(mem_filter.mp hm).2;rw[n]at q;simp at q
theorem AH{h:Heap}{H:Hp}{b:Addr}{o:Obj}(e:(oS h H).get? b=some o):h.get? b=some o/\H b=none:=by
 have e':h.get? b=some o:=PySem.W.of_hideAll (trk h H) e;refine⟨e',?_⟩;cases q:H b with
 |none=>rfl
 |some x=>have hm:b∈trk h H:=mem_filter.mpr ⟨mem_range.mpr (lt_size e'),by simp[q]⟩;have z:(oS h H).get? b=none:=PySem.W.hideAll_none (trk h H) hm;rw[z]at e;cases e
def BF(g h:Heap)(L:Addr):Jd:=(range h.objs.size).filterMap λa=>if a=L \/(g.get? a).isSome=true then none else(h.get? a).map λo=>(a,o)
def aI(g h:Heap)(L d:Addr):Jd:=(BF g h L).filter λp=>decide (p.1≠d)
end
section
structure Mod(K:PySem.W.Frag)(mg:Jb)(base:Heap):Prop where
 kin:K.In base
 glob:base.Ns mainGlobals mg
 blt:∃mb,base.Ns builtinsNs mb/\∀x:Str,x≠"__name__" -> mb x=bootBuiltins x
 nolimit:base.NoLimit
structure Cx where
 prog:Program
 w:World
 K:PySem.W.Frag
 mg:Jb
 base:Heap
 A:Around
 N:Ji
 s₀:Shared
 H₀:Hp
 env:Env
 outer:List Env
 stack:List Env
 ex:Jh
 fn:Str->Bool
 calm:Bool
 pn:Jd
 xe:Ja
def frs(l:List Env):Jh:=l.filterMap (·.frame)
abbrev Cx.fs(X:Cx):Jh:=frs X.outer
def Vis(sc:Scope)(x:Str):Prop:=sc.names.lookup x=some .local\/sc.names.lookup x=some .cell\/sc.names.lookup x=some .free
def Loc(sc:Scope)(x:Str):Prop:=sc.names.lookup x=some .local\/sc.names.lookup x=some .cell
def IS(env:Env)(h:Heap)(m:Jb)(x:Str)(u:Value):Prop:=
 (env.kindOf x=some .local/\m x=some u)\/((env.kindOf x=some .cell\/env.kindOf x=some .free)/\∃c,env.cells.lookup x=some c/\h.IsCell c (some u))
structure Cx.Ok(X:Cx):Prop where
 mod:Mod X.K X.mg X.base
 kind:X.env.scope.kind=.function
 glob:X.env.globals=mainGlobals
 blt:X.env.builtins=builtinsNs
 above:X.s₀.heap.objs.size<=X.env.locals
 inj:∀x y c,X.env.cells.lookup x=some c->X.env.cells.lookup y=some c->x=y
 has:∀x,(X.env.kindOf x=some .cell\/X.env.kindOf x=some .free)->∃c,X.env.cells.lookup x=some c
 cab:∀x c,X.fn x=true->X.env.cells.lookup x=some c->X.s₀.heap.objs.size<=c
 hd:X.calm=true->X.A.handled=none
 frames:X.A.frames=some X.stack
 stk:X.stack=X.outer \/(X.stack=X.env::X.outer/\X.env.frame=some X.env.locals)
 exf:∀b∈X.ex,b≠X.env.locals/\∀x c,X.env.cells.lookup x=some c->c≠b
 bs:∀b o,X.base.get? b=some o->X.s₀.heap.get? b=some o/\X.H₀ b=none
 bsz:X.base.objs.size<=X.s₀.heap.objs.size
 noex:∀b o,X.base.get? b=some o->b∉X.ex
 exfs:∀b∈X.ex,b∉X.fs
 funs:X.s₀.heap.FunFrames X.base X.outer
 frf:∀b∈X.fs,X.H₀ b=none
structure Inv(X:Cx)(js:Jd)(Y:List (Option V))(H:Hp)(s:Shared):Prop where
 ok:X.Ok
 os:s.os=X.s₀.os
 bare:AllBare s.gens
 base:Un X.fs X.ex X.H₀ H X.s₀.heap s.heap
 loc:∃m,s.heap.Ns X.env.locals m/\∀(i:Nat) (x:Str) (v:V),X.N[i]?=some x->Y[i]?=some (some v)->Vis X.env.scope x->∃u,bO v u/\IS X.env s.heap m x u
 cell:∀x c,X.env.cells.lookup x=some c->∃v,s.heap.IsCell c v
 free:H X.env.locals=none
 freeC:∀x c,X.env.cells.lookup x=some c->H c=none\/X.fn x=false/\∃o u,H c=some (.frz o u)
 pin:∀p∈X.pn++js,s.heap.get? p.1=some p.2/\H p.1=none/\p.1≠X.env.locals/\p.1∉X.fs/\∀v,p.2.data≠.cell v
 hok:HOk X.prog X.w H s.heap
 len:Y.length=X.N.length
section
variable{X:Cx}{js:Jd}{Y:List (Option V)}{H H':Hp}{s:Shared}{h':Heap}
theorem Cx.Ok.nofr(ok:X.Ok){b:Addr}{o:Obj}(e:X.base.get? b=some o):b∉X.fs:=λhb=>by have:=(ok.funs.mem hb).1;rw[e]at this;cases this
theorem Inv.bs(I:Inv X js Y H s):∀b o,X.base.get? b=some o->s.heap.get? b=some o/\H b=none:=λb o e=>
 ⟨I.base.keep b o (I.ok.bs b o e).1 (I.ok.bs b o e).2 (I.ok.nofr e) (I.ok.noex b o e),I.base.free b o (I.ok.bs b o e).1 (I.ok.bs b o e).2 (I.ok.noex b o e)⟩
theorem Inv.bk(I:Inv X js Y H s):∀b o,X.base.get? b=some o->s.heap.get? b=some o:=λb o e=>(I.bs b o e).1
theorem Inv.mod(I:Inv X js Y H s):Mod X.K X.mg X.base:=I.ok.mod
theorem Inv.kIn(I:Inv X js Y H s):X.K.In s.heap:=I.ok.mod.kin.keeps I.bk
theorem Inv.lt(I:Inv X js Y H s):X.env.locals<s.heap.objs.size:=let⟨_,hn,_⟩:=I.loc;hn.lt
theorem Inv.sz(I:Inv X js Y H s):X.s₀.heap.objs.size<=s.heap.objs.size:=Nat.le_trans I.ok.above (Nat.le_of_lt I.lt)
theorem Inv.nofs(I:Inv X js Y H s){a:Addr}(h:s.heap.objs.size<=a):a∉X.fs:=λhb=>by obtain⟨_,o,ho,_⟩:=I.ok.funs.mem hb;exact absurd (Nat.lt_of_lt_of_le (lt_size ho) (Nat.le_trans I.sz h)) (Nat.lt_irrefl _)
theorem Inv.cne(I:Inv X js Y H s):∀x c,X.env.cells.lookup x=some c->c≠X.env.locals:=λx c e z=>by obtain⟨v,o,ho,hd⟩:=I.cell x c e;obtain⟨m,⟨o',es,ep,ho',hd',_⟩,_⟩:=I.loc;rw[z,ho']at ho;cases ho;rw[hd']at hd;cases hd
theorem Inv.funs(I:Inv X js Y H s):s.heap.FunFrames X.base X.outer:=by
 have all:∀(l:List Env),(∀b∈frs l,b∈X.fs)->X.s₀.heap.FunFrames X.base l->s.heap.FunFrames X.base l:=by
  intro l
  induction l with
  |nil=>intro _ _;trivial
  |cons env r ih=>intro hs hl;obtain⟨hk,⟨L,o,hf,hn,ho,hd⟩,hr⟩:=hl;have hL:L∈X.fs:=hs L (by unfold frs;rw[List.filterMap_cons,hf];exact mem_cons_self);obtain⟨sl,e⟩:=I.base.slot L o ho (I.ok.frf L hL) hL λz=>I.ok.exfs L z hL;exact⟨hk,⟨L,_,hf,hn,e,hd⟩,ih (λb hb=>hs b (by unfold frs;rw[List.filterMap_cons,hf];exact mem_cons_of_mem _ hb)) hr⟩
 exact all X.outer (λ_ hb=>hb) I.ok.funs
theorem Inv.stack(I:Inv X js Y H s):s.heap.FunFrames X.base X.stack:=by
 rcases I.ok.stk with e |⟨e,hf⟩
 .rw[e];exact I.funs
 .rw[e];obtain⟨m,hn,_⟩:=I.loc;refine .cons (by rw[I.ok.kind];decide) hf hn ?_ I.funs;exact Heap.get?_none_of_le (Nat.le_trans I.ok.bsz I.ok.above)
theorem Inv.stkSub(I:Inv X js Y H s):∀b∈frs X.stack,b∈X.env.locals::X.fs:=λb hb=>by
 rcases I.ok.stk with e |⟨e,hf⟩
 .rw[e]at hb;exact mem_cons_of_mem _ hb
 .rw[e]at hb;unfold frs at hb;rw[List.filterMap_cons,hf]at hb;exact hb
theorem Inv.stkFree(I:Inv X js Y H s):∀b∈frs X.stack,H b=none:=λb hb=>by
 rcases mem_cons.mp (I.stkSub b hb)with e|hb
 .rw[e];exact I.free
 .obtain⟨_,o,ho,_⟩:=I.ok.funs.mem hb;exact I.base.free b o ho (I.ok.frf b hb) λz=>I.ok.exfs b z hb
theorem Inv.step{g':Array GenState}{t':Nat}{d':Drawn}{ch:Jh}(I:Inv X js Y H s)
  (hch:∀b∈ch,(b∈X.ex\/X.s₀.heap.objs.size<=b)/\b≠X.env.locals/\(∀x c,X.env.cells.lookup x=some c->c≠b)/\∀p∈X.pn++js,p.1≠b)
  (keep:∀b o,b≠X.env.locals->b∉X.fs->b∉ch->s.heap.get? b=some o->H b=none->h'.get? b=some o)
  (slot:∀b o,b≠X.env.locals->b∈X.fs->b∉ch->s.heap.get? b=some o->H b=none->∃sl,h'.get? b=some {o with slots:=sl}) (free:∀b o,b∉ch->s.heap.get? b=some o->H b=none->H' b=none)
  (there:∀b o,b∉ch->s.heap.get? b=some o->∃o',h'.get? b=some o')
  (tups:∀b xs,H b=some (.tup xs)->H' b=some (.tup xs)) (frzs:∀b o u,H b=some (.frz o u)->H' b=some (.frz o u)) (tbls:∀b ps,H b=some (.tbl ps)->∃more,H' b=some (.tbl (ps++more)))
  (ns:∀m,s.heap.Ns X.env.locals m->h'.Ns X.env.locals m) (hok:HOk X.prog X.w H' h') (hg:AllBare g') :
  Inv X js Y H' {s with heap:=h',gens:=g',drawn:=d',toks:=t'}:=by
 have neL:∀b o,X.s₀.heap.get? b=some o->b≠X.env.locals:=λb o e=>Nat.ne_of_lt (Nat.lt_of_lt_of_le (lt_size e) I.ok.above);have neC:∀b o,X.s₀.heap.get? b=some o->b∉X.ex->b∉ch:=λb o e hx hb=>by
  rcases(hch b hb).1 with z|z
  .exact hx z
  .exact absurd (Nat.lt_of_lt_of_le (lt_size e) z) (Nat.lt_irrefl _)
 have cellK:∀x c,X.env.cells.lookup x=some c->∀v,s.heap.IsCell c v->h'.IsCell c v:=λx c e v hz1=>by
  obtain⟨o,ho,hd⟩:=hz1;have nch:c∉ch:=λz=>(hch c z).2.2.1 x c e rfl;rcases I.freeC x c e with n |⟨_,o',u,q⟩
  .by_cases hc:c∈X.fs
   .obtain⟨sl,q⟩:=slot c o (I.cne x c e) hc nch ho n;exact⟨_,q,hd⟩
   .exact⟨o,keep c o (I.cne x c e) hc nch ho n,hd⟩
  .obtain⟨q1,_⟩:=I.hok c _ q;obtain⟨q2,_⟩:=hok c _ (frzs c o' u q);rw[ho]at q1;cases q1;exact⟨o,q2,hd⟩
 refine⟨I.ok,I.os,hg,⟨λb o e n hb hx=>?_,λb o e n hb hx=>?_,λb o e n hx=>?_,λb o e hx=>?_,λb xs e=>tups b xs (I.base.tups b xs e),λb o xs e=>frzs b o xs (I.base.frzs b o xs e),λb ps e=>?_⟩,?_,λx c e=>?_,?_,λx c e=>?_,λp hp=>?_,hok,I.len⟩
 .exact keep b o (neL b o e) hb (neC b o e hx) (I.base.keep b o e n hb hx) (I.base.free b o e n hx)
 .obtain⟨sl,e1⟩:=I.base.slot b o e n hb hx;obtain⟨sl',e2⟩:=slot b _ (neL b o e) hb (neC b o e hx) e1 (I.base.free b o e n hx);exact⟨sl',e2⟩
 .obtain⟨o',e1⟩:=I.base.there b o e hx;exact free b o' (neC b o e hx) e1 (I.base.free b o e n hx)
 .obtain⟨o',e1⟩:=I.base.there b o e hx;exact there b o' (neC b o e hx) e1
 .obtain⟨m1,e1⟩:=I.base.tbls b ps e;obtain⟨m2,e2⟩:=tbls b _ e1;exact⟨m1++m2,by rw[e2,Array.append_assoc]⟩
 .obtain⟨m,hn,hl⟩:=I.loc;refine⟨m,ns m hn,λi x v e1 e2 e3=>?_⟩;obtain⟨u,r,l⟩:=hl i x v e1 e2 e3;refine⟨u,r,?_⟩;rcases l with l |⟨k,c,e,z⟩
  .exact .inl l
  .exact .inr ⟨k,c,e,cellK x c e _ z⟩
 .obtain⟨v,z⟩:=I.cell x c e;exact⟨v,cellK x c e v z⟩
 .obtain⟨m,⟨o,_,_,ho,_⟩,_⟩:=I.loc;exact free _ o (λz=>(hch _ z).2.1 rfl) ho I.free
 .obtain⟨v,o,ho,hd⟩:=I.cell x c e;rcases I.freeC x c e with n |⟨n,o',u,q⟩
  .exact .inl (free c o (λz=>(hch c z).2.2.1 x c e rfl) ho n)
  .exact .inr ⟨n,o',u,frzs c o' u q⟩
 .obtain⟨e,n,ne,nf,d⟩:=I.pin p hp;have nch:p.1∉ch:=λz=>(hch p.1 z).2.2.2 p hp rfl;exact⟨keep p.1 p.2 ne nf nch e n,free p.1 p.2 nch e n,ne,nf,d⟩
theorem Inv.un{t':Nat}(I:Inv X js Y H s)(u:Un X.fs [] H H' s.heap h')(hok:HOk X.prog X.w H' h'):Inv X js Y H' {s with heap:=h',toks:=t'}:=by
 obtain⟨m,⟨o,es,ep,ho,r⟩,_⟩:=id I.loc;obtain⟨sl,hL⟩:=u.any ho I.free (by simp);exact I.step (g':=s.gens) (d':=s.drawn) (ch:=[]) (λ_ z=>nomatch z) (λb o _ hb _ e n=>u.keep b o e n hb (by simp)) (λb o _ hb _ e n=>u.slot b o e n hb (by simp)) (λb o _ e n=>u.free b o e n (by simp)) (λb o _ e=>u.there b o e (by simp)) u.tups u.frzs u.tbls (λm' hm=>by
  obtain⟨o',es',ep',ho',r'⟩:=hm;rw[ho]at ho';cases ho';exact⟨_,es',ep',hL,r'⟩) hok I.bare
theorem Inv.call{g':Array GenState}{t':Nat}{d':Drawn}{ch:Jh}(I:Inv X js Y H s)(u:Un (frs X.stack) ch H H' s.heap h')(hok:HOk X.prog X.w H' h')(hg:AllBare g')
  (hch:∀b∈ch,(b∈X.ex\/X.s₀.heap.objs.size<=b)/\b≠X.env.locals/\(∀x c,X.env.cells.lookup x=some c->c≠b)/\∀p∈X.pn++js,p.1≠b) :
  Inv X js Y H' {s with heap:=h',gens:=g',drawn:=d',toks:=t'}:=by
 obtain⟨m,⟨o,es,ep,ho,r⟩,_⟩:=id I.loc;obtain⟨sl,hL⟩:=u.any ho I.free λz=>(hch _ z).2.1 rfl;exact I.step (ch:=ch) hch (λb o hL hb hc e n=>u.keep b o e n (λz=>(mem_cons.mp (I.stkSub b z)).elim hL hb) hc) (λb o _ _ hc e n=>u.any e n hc) (λb o hc e n=>u.free b o e n hc) (λb o hc e=>u.there b o e hc) u.tups u.frzs u.tbls (λm' hm=>by
  obtain⟨o',es',ep',ho',r'⟩:=hm;rw[ho]at ho';cases ho';exact⟨_,es',ep',hL,r'⟩) hok hg
theorem Inv.turned{t':Nat}{it:Addr}(I:Inv X js Y H s)(k:∀b o,b≠it->s.heap.get? b=some o->h'.get? b=some o)(hn:H it=none)(hL:it≠X.env.locals)
  (h1:it∈X.ex\/X.s₀.heap.objs.size<=it) (h2:∀x c,X.env.cells.lookup x=some c->c≠it) (h3:∀p∈X.pn++js,p.1≠it):Inv X js Y H {s with heap:=h',toks:=t'}:=by
 have nit:∀b u,H b=some u->b≠it:=λb u e z=>by rw[z,hn]at e;cases e
 refine I.step (g':=s.gens) (d':=s.drawn) (ch:=[it]) (λb hb=>?_) (λb o _ _ hc e _=>k b o (λz=>hc (by simp[z])) e) (λb o _ _ hc e _=>⟨o.slots,k b o (λz=>hc (by simp[z])) e⟩) (λ_ _ _ _ n=>n)
  (λb o hc e=>⟨o,k b o (λz=>hc (by simp[z])) e⟩) (λ_ _ e=>e) (λ_ _ _ e=>e) (λb ps e=>⟨#[],by rw[e];simp⟩) (λm hm=>?_) (λb u e=>?_) I.bare
 .have e:b=it:=by simpa using hb
  subst e;exact⟨h1,hL,h2,h3⟩
 .obtain⟨o,es,ep,ho,r⟩:=hm;exact⟨o,es,ep,k _ o (Ne.symm hL) ho,r⟩
 .refine(I.hok b u e).stay (λc v hc q=>k c v ?_ q) (λ_ q=>q) λ_ _ _ q=>q;rcases hc with z|z
  .rw[z];exact nit b u e
  .exact nit c _ z
theorem Inv.tok(I:Inv X js Y H s)(t:Nat):Inv X js Y H {s with toks:=t}:=I.un (h':=s.heap) (t':=t) Un.refl I.hok
theorem Inv.kept{t':Nat}(I:Inv X js Y H s)(k:∀b u,s.heap.get? b=some u->h'.get? b=some u):Inv X js Y H {s with heap:=h',toks:=t'}:=I.un (Un.kept k) (I.hok.kept k)
theorem Inv.laid{a:Addr}{o:HO}{t':Nat}(I:Inv X js Y H s)(k:∀b u,s.heap.get? b=some u->h'.get? b=some u)(hp:s.heap.objs.size<=a)(new:dX X.prog X.w (upd H a o) h' a o) :
  Inv X js Y (upd H a o) {s with heap:=h',toks:=t'}:=I.un (Un.laid k hp (I.hok.fresh hp)) (I.hok.laid k hp new)
theorem Inv.write{x e:Addr}{o:HO}{t':Nat}(I:Inv X js Y H s)(mu:Mut (H x))(he:e=x\/H e=some (.own x))(k:∀b u,b≠e->s.heap.get? b=some u->h'.get? b=some u)(heo:∃u,h'.get? e=some u)
  (new:dX X.prog X.w (upd H x o) h' x o):Inv X js Y (upd H x o) {s with heap:=h',toks:=t'}:=I.un (Un.write mu he k heo) (I.hok.write mu he k heo new)
theorem Inv.pins_of{pins':Jd}(I:Inv X js Y H s)(h:∀p∈pins',s.heap.get? p.1=some p.2/\H p.1=none/\p.1≠X.env.locals/\p.1∉X.fs/\∀v,p.2.data≠.cell v):Inv X pins' Y H s:=
 ⟨I.ok,I.os,I.bare,I.base,I.loc,I.cell,I.free,I.freeC,λp hp=>(mem_append.mp hp).elim (λz=>I.pin p (mem_append_left _ z)) (h p),I.hok,I.len⟩
theorem p9{N:Ji}(hN:N.Nodup){i j:Nat}{x:Str}(a:N[i]?=some x)(b:N[j]?=some x):i=j:=by obtain⟨h1,e1⟩:=List.getElem?_eq_some_iff.mp a;obtain⟨h2,e2⟩:=List.getElem?_eq_some_iff.mp b;exact(getElem_inj hN).mp (e1.trans e2.symm)
theorem nr{M:Model}{A:Around}{E:Ja}{i:Nat}{x:Str}{v:V}{u:Value}{Q:Unit->Shared->Prop}(I:Inv X js Y H s)(hN:X.N.Nodup)(hi:X.N[i]?=some x)(hx:Loc X.env.scope x)(r:bO v u)
  (h:∀s',Inv X js (Y.set i (some v)) H s'->(∃a,SameBut a s.heap s'.heap/\(a=X.env.locals\/X.env.cells.lookup x=some a))->Q .unit s') (hf:X.fn x=true\/X.env.scope.names.lookup x=some .local:=by first|exact .inl rfl|exact .inr rfl|assumption):wpAny M A (storeName X.env x u) Q E s:=by
 obtain⟨m,hn,hl⟩:=id I.loc;have hcls:(X.env.scope.kind==.class ||(X.env.scope.kind==.module&&X.env.locals != X.env.globals))=false:=by rw[I.ok.kind];rfl
 have hiσ:i<Y.length:=by rw[I.len];exact(List.getElem?_eq_some_iff.mp hi).1
 have cne:=I.cne;have tracked:∀{a:Addr}{h':Heap},(∃o,s.heap.get? a=some o/\H a=none)->SameBut a s.heap h'->HOk X.prog X.w H h':=λ{a h'} ha hs b ob e=>by
  obtain⟨_,_,hfree⟩:=ha;refine(I.hok b ob e).stay (λc w' hc q=>(hs.2 c ?_).trans q) (λ_ q=>q) λ_ _ _ q=>q;rintro rfl;rcases hc with rfl|hc
  .rw[hfree]at e;cases e
  .rw[hfree]at hc;cases hc
 rcases hx with hk|hk
 .refine wpAny_storeName_local hk hn (λh' hn' hs=>?_) hcls;obtain⟨oL,_,_,hoL,_⟩:=id hn;refine h _ ⟨I.ok,I.os,I.bare,⟨λb o e n hb hx=>?_,λb o e n hb hx=>?_,I.base.free,λb o e hx=>?_,I.base.tups,I.base.frzs,I.base.tbls⟩,⟨_,hn',λj y v' e1 e2 e3=>?_⟩,λy c e=>?_,I.free,I.freeC,λp hp=>?_,tracked ⟨oL,hoL,I.free⟩ hs,by simpa using I.len⟩ ⟨_,hs,.inl rfl⟩
  .exact(hs.2 b (Nat.ne_of_lt (Nat.lt_of_lt_of_le (lt_size e) I.ok.above))).trans (I.base.keep b o e n hb hx)
  .obtain⟨sl,e1⟩:=I.base.slot b o e n hb hx;exact⟨sl,(hs.2 b (Nat.ne_of_lt (Nat.lt_of_lt_of_le (lt_size e) I.ok.above))).trans e1⟩
  .obtain⟨o',e1⟩:=I.base.there b o e hx;exact⟨o',(hs.2 b (Nat.ne_of_lt (Nat.lt_of_lt_of_le (lt_size e) I.ok.above))).trans e1⟩
  .by_cases hj:j=i
   .subst hj;rw[hi]at e1;cases e1;rw[getElem?_set_self hiσ]at e2;cases e2;exact⟨u,r,.inl ⟨hk,by simp⟩⟩
   .rw[getElem?_set_ne (Ne.symm hj)]at e2;obtain⟨u',r',q⟩:=hl j y v' e1 e2 e3;refine⟨u',r',?_⟩;rcases q with⟨k,e⟩ |⟨k,c,e,z⟩
    .refine .inl ⟨k,?_⟩;have:y≠x:=λe=>hj (p9 hN e1 (e▸hi));simp[this,e]
    .exact .inr ⟨k,c,e,z.sameBut hs (cne y c e)⟩
  .obtain⟨w',z⟩:=I.cell y c e;exact⟨w',z.sameBut hs (cne y c e)⟩
  .obtain⟨e,n,ne,nf,d⟩:=I.pin p hp;exact⟨(hs.2 p.1 ne).trans e,n,ne,nf,d⟩
 .have hfn:X.fn x=true:=by
   rcases hf with z|z
   .exact z
   .rw[z]at hk;cases hk
  obtain⟨c,hc⟩:=I.ok.has x (.inl hk);obtain⟨w',z⟩:=I.cell x c hc;refine wpAny_storeName_cell I.ok.kind hk hc z (λh' hc' hs=>?_);obtain⟨oc,hoc,hocd⟩:=id z;refine h {s with heap:=h'} ⟨I.ok,I.os,I.bare,⟨λb o e n hb hx=>?_,λb o e n hb hx=>?_,I.base.free,λb o e hx=>?_,I.base.tups,I.base.frzs,I.base.tbls⟩,⟨m,hn.sameBut hs (Ne.symm (cne x c hc)),λj y v' e1 e2 e3=>?_⟩,λy c' e=>?_,I.free,I.freeC,λp hp=>?_,tracked ⟨oc,hoc,(I.freeC x c hc).resolve_right λq=>by rw[hfn]at q;cases q.1⟩ hs,by simpa using I.len⟩ ⟨c,hs,.inr hc⟩
  .exact(hs.2 b (Nat.ne_of_lt (Nat.lt_of_lt_of_le (lt_size e) (I.ok.cab x c hfn hc)))).trans (I.base.keep b o e n hb hx)
  .obtain⟨sl,e1⟩:=I.base.slot b o e n hb hx;exact⟨sl,(hs.2 b (Nat.ne_of_lt (Nat.lt_of_lt_of_le (lt_size e) (I.ok.cab x c hfn hc)))).trans e1⟩
  .obtain⟨o',e1⟩:=I.base.there b o e hx;exact⟨o',(hs.2 b (Nat.ne_of_lt (Nat.lt_of_lt_of_le (lt_size e) (I.ok.cab x c hfn hc)))).trans e1⟩
  .by_cases hj:j=i
   .subst hj;rw[hi]at e1;cases e1;rw[getElem?_set_self hiσ]at e2;cases e2;exact⟨u,r,.inr ⟨.inl hk,c,hc,hc'⟩⟩
   .rw[getElem?_set_ne (Ne.symm hj)]at e2;obtain⟨u',r',q⟩:=hl j y v' e1 e2 e3;refine⟨u',r',?_⟩;rcases q with q |⟨k,c',e,z'⟩
    .exact .inl q
    .refine .inr ⟨k,c',e,z'.sameBut hs ?_⟩;rintro rfl;exact hj (p9 hN e1 (I.ok.inj _ _ _ e hc▸hi))
  .by_cases hcc:c'=c
   .subst hcc;exact⟨_,hc'⟩
   .obtain⟨w2,z2⟩:=I.cell y c' e;exact⟨w2,z2.sameBut hs hcc⟩
  .obtain⟨e,n,ne,nf,d⟩:=I.pin p hp;refine⟨(hs.2 p.1 ?_).trans e,n,ne,nf,d⟩;intro q;rw[q,hoc]at e;have q':oc=p.2:=Option.some.inj e;exact d w' (by rw[<- q'];exact hocd)
theorem pL{M:Model}{A:Around}{E:Ja}{i:Nat}{x:Str}{v:V}{u:Value}{Q:Unit->Shared->Prop}(I:Inv X js Y H s)(hN:X.N.Nodup)(hi:X.N[i]?=some x)(hx:Loc X.env.scope x)(r:bO v u)
  (h:∀s',Inv X js (Y.set i (some v)) H s'->Q .unit s') (hf:X.fn x=true\/X.env.scope.names.lookup x=some .local:=by first|exact .inl rfl|exact .inr rfl|assumption):wpAny M A (storeName X.env x u) Q E s:=
 nr I hN hi hx r (λs' I' _=>h s' I') hf
theorem Inv.call'{s':Shared}{ch:Jh}(I:Inv X js Y H s)(ho:s'.os=s.os)(u:Un (frs X.stack) ch H H' s.heap s'.heap)(hok:HOk X.prog X.w H' s'.heap)(hg:AllBare s'.gens)
  (hch:∀b∈ch,(b∈X.ex\/X.s₀.heap.objs.size<=b)/\b≠X.env.locals/\(∀x c,X.env.cells.lookup x=some c->c≠b)/\∀p∈X.pn++js,p.1≠b):Inv X js Y H' s':=by
 obtain⟨h',g',d',t',o'⟩:=s';have e:o'=s.os:=ho;subst e;exact I.call (g':=g') (t':=t') (d':=d') u hok hg hch
end
abbrev XK:=Value->Option Addr->Jm
abbrev St:=List (Option V)
abbrev VK:=V->Jm
abbrev TE:=St->Hp->VK->Prop
abbrev TT:=St->Hp->(Bool->Jm)->Prop
abbrev TA:=St->Hp->(Jl->Jm)->Prop
structure Ends where
 nx:St->Jm
 rt:VK
 bk:St->Jm:=λ_ _=>False
 ct:St->Jm:=λ_ _=>False
abbrev TS:=Ends->St->Jm
def EP(X:Cx)(js:Jd)(Y:St)(Q:VK)(u:Value)(s':Shared):Prop:=∃v H',Inv X js Y H' s'/\bO v u/\Q v H'
def TP(X:Cx)(js:Jd)(Y:St)(Q:Bool->Jm)(b:Bool)(s':Shared):Prop:=∃H',Inv X js Y H' s'/\Q b H'
def AP(X:Cx)(js:Jd)(Y:St)(Q:Jl->Jm)(us:Jg)(s':Shared):Prop:=∃vs H',Inv X js Y H' s'/\a5 vs us/\Q vs H'
def SP(X:Cx)(js:Jd)(D:Ends)(f:Flow)(s':Shared):Prop:=
 match f with
 |.next=>∃σ' H',Inv X js σ' H' s'/\D.nx σ' H'
 |.brk=>∃σ' H',Inv X js σ' H' s'/\D.bk σ' H'
 |.cont=>∃σ' H',Inv X js σ' H' s'/\D.ct σ' H'
 |.ret u=>∃v σ' H',Inv X js σ' H' s'/\bO v u/\D.rt v H'
def PE(X:Cx)(e:Expr)(t:TE):Prop:=
 ∀(js:Jd) (s:Shared) (Y:St) (H:Hp) (Q:VK),Inv X js Y H s->t Y H Q->wpAny (model X.prog X.w) X.A (eval e X.env) (EP X js Y Q) X.xe s
def PT(X:Cx)(e:Expr)(t:TT):Prop:=
 ∀(js:Jd) (s:Shared) (Y:St) (H:Hp) (Q:Bool->Jm),Inv X js Y H s->t Y H Q->wpAny (model X.prog X.w) X.A (isTrue e X.env (eval e X.env)) (TP X js Y Q) X.xe s
def PW(X:Cx)(e:Expr)(t:TT):Prop:=
 ∀(whole:Sem Value) (js:Jd) (s:Shared) (Y:St) (H:Hp) (Q:Bool->Jm),Inv X js Y H s->t Y H Q->wpAny (model X.prog X.w) X.A (isTrue e X.env whole) (TP X js Y Q) X.xe s
theorem PW.pt{X:Cx}{e:Expr}{t:TT}(h:PW X e t):PT X e t:=h _
def PA(X:Cx)(es:List Expr)(t:TA):Prop:=
 ∀(pos:Pos) (js:Jd) (s:Shared) (Y:St) (H:Hp) (Q:Jl->Jm),Inv X js Y H s->t Y H Q->wpAny (model X.prog X.w) X.A (spliced (backTo pos (starEach es X.env))) (AP X js Y Q) X.xe s
def PS(X:Cx)(st:Stmt)(t:TS):Prop:=
 ∀(js:Jd) (s:Shared) (Y:St) (H:Hp) (D:Ends),Inv X js Y H s->t D Y H->wpAny (model X.prog X.w) X.A (exec st X.env) (SP X js D) X.xe s
def PSs(X:Cx)(st:List Stmt)(t:TS):Prop:=
 ∀(js:Jd) (s:Shared) (Y:St) (H:Hp) (D:Ends),Inv X js Y H s->t D Y H->wpAny (model X.prog X.w) X.A (execs st X.env) (SP X js D) X.xe s
theorem thn{α:Type}{t:Sem α}{Q Q':α->Shared->Prop}{M:Model}{A:Around}{E:Ja}{s:Shared}(h:wpAny M A t Q E s)(hQ:∀a s,Q a s->Q' a s):wpAny M A t Q' E s:=wpAny_mono h hQ λ_ _ x=>x
end
section
section
variable{X:Cx}
def Id(i:Nat):TE:=λY H Q=>∃v,Y[i]?=some (some v)/\Q v H
def tC(v:V):TE:=λ_ H Q=>Q v H
theorem kf{i:Nat}{x:Str}{pos:Pos}(hN:X.N[i]?=some x)(hv:Vis X.env.scope x)(hd:(x ==("__debug__":Str))=false:=by decide)(hcd:(x ==("__classdict__":Str))=false:=by decide):PE X (.Name x pos) (Id i):=by
 intro js s Y H Q I h;obtain⟨v,e,h⟩:=h;obtain⟨m,hn,hl⟩:=I.loc;obtain⟨u,r,l⟩:=hl i x v hN e hv;have fin:EP X js Y Q u s:=⟨v,H,I,r,h⟩
 rcases l with⟨hk,hm⟩ |⟨hk,c,hc,hcell⟩
 .exact wpAny_Name (wpAny_loadName_local I.ok.kind hk hn hm fin) hd
 .rcases hk with hk|hk
  .exact wpAny_Name (wpAny_loadName_cell I.ok.kind hk hc hcell fin) hd
  .exact wpAny_Name (wpAny_loadName_free I.ok.kind hk hc hcell fin hcd) hd
theorem rR{i j pos}:PE X (.Constant (.int i) j pos) (tC (.int i)):=λ_ _ _ H _ I h=>wpAny_Constant_int ⟨.int i,H,I.tok _,⟨_,rfl⟩,h⟩
theorem Ge{b j pos}:PE X (.Constant (.bool b) j pos) (tC (.bl b)):=λ_ _ _ H _ I h=>Constant_bool ⟨.bl b,H,I,rfl,h⟩
theorem wB{j pos}:PE X (.Constant .none j pos) (tC .non):=λ_ _ _ H _ I h=>Constant_none ⟨.non,H,I,rfl,h⟩
theorem CZ{x j pos}:PE X (.Constant (.str x) j pos) (tC (.str x)):=λ_ _ _ H _ I h=>Calls.Constant_str ⟨.str x,H,I.tok _,⟨_,rfl⟩,h⟩
def Gl(X:Cx)(x:Str):Prop:=X.env.kindOf x=some .globalImplicit
theorem jR{E:Ja}{js:Jd}{s:Shared}{Y:St}{H:Hp}{x:Str}{u:Value}{pos:Pos}{Q:Ja}(I:Inv X js Y H s)(hg:Gl X x)(hm:X.mg x=some u)(h:Q u s)
  (hd:(x ==("__debug__":Str))=false:=by decide):wpAny (model X.prog X.w) X.A (eval (.Name x pos) X.env) Q E s:=
 Calls.Name_function_global I.ok.kind hg (Calls.loadGlobal_global (by rw[I.ok.glob];exact I.mod.glob.keeps I.bk) hm h) hd
theorem fP{E:Ja}{js:Jd}{s:Shared}{Y:St}{H:Hp}{x:Str}{u:Value}{pos:Pos}{Q:Ja}(I:Inv X js Y H s)(hg:Gl X x)(hm:X.mg x=none)(hv:bootBuiltins x=some u)(h:Q u s)
  (hn:x≠"__name__":=by decide) (hd:(x ==("__debug__":Str))=false:=by decide):wpAny (model X.prog X.w) X.A (eval (.Name x pos) X.env) Q E s:=by
 obtain⟨mb,h1,h2⟩:=I.mod.blt;exact Calls.Name_function_global I.ok.kind hg (Calls.loadGlobal_builtin (by rw[I.ok.glob];exact I.mod.glob.keeps I.bk) hm (by rw[I.ok.blt];exact h1.keeps I.bk) ((h2 x hn).trans hv) h) hd
theorem Ay{x:Str}{v:V}{u:Value}{pos:Pos}(hg:Gl X x)(hm:X.mg x=some u)(r:bO v u)(hd:(x ==("__debug__":Str))=false:=by decide):PE X (.Name x pos) (tC v):=
 λ_ _ _ H _ I h=>jR I hg hm ⟨v,H,I,r,h⟩ hd
theorem AA{x:Str}{v:V}{u:Value}{pos:Pos}(hg:Gl X x)(hm:X.mg x=none)(hv:bootBuiltins x=some u)(r:bO v u)(hn:x≠"__name__":=by decide)(hd:(x ==("__debug__":Str))=false:=by decide):PE X (.Name x pos) (tC v):=
 λ_ _ _ H _ I h=>fP I hg hm hv ⟨v,H,I,r,h⟩ hn hd
variable{a b:Expr}{ta tb:TE}{pos:Pos}
variable{tA tB':TT}{aI:List Expr}
def Im(t u:TT):TT:=λY H Q=>t Y H λc H1=>if c=true then u Y H1 Q else Q false H1
def tOr(t u:TT):TT:=λY H Q=>t Y H λc H1=>if c=true then Q true H1 else u Y H1 Q
def Ii(t:TT):TT:=λY H Q=>t Y H λc H1=>Q (!c) H1
theorem An(ha:PT X a tA):PW X (.BoolOp .And [a] pos) tA:=by
 intro wh js s Y H Q I h;refine isTrue_and (thn (ha js s Y H Q I h) λc s1 e=>?_);cases c with
 |true=>exact isTrue_and_nil e
 |false=>exact e
theorem CK(ha:PT X a tA):PW X (.BoolOp .Or [a] pos) tA:=by
 intro wh js s Y H Q I h;refine isTrue_or (thn (ha js s Y H Q I h) λc s1 e=>?_);cases c with
 |false=>exact isTrue_or_nil e
 |true=>exact e
theorem CL(ha:PT X a tA)(hb:PW X (.BoolOp .And (b::aI) pos) tB'):PW X (.BoolOp .And (a::b::aI) pos) (Im tA tB'):=by
 intro wh js s Y H Q I h;refine isTrue_and (thn (ha js s Y H _ I h) λc s1 ⟨H1,I1,q1⟩=>?_);cases c with
 |true=>exact hb wh js s1 Y H1 Q I1 q1
 |false=>exact⟨H1,I1,q1⟩
theorem F7(ha:PT X a tA)(hb:PW X (.BoolOp .Or (b::aI) pos) tB'):PW X (.BoolOp .Or (a::b::aI) pos) (tOr tA tB'):=by
 intro wh js s Y H Q I h;refine isTrue_or (thn (ha js s Y H _ I h) λc s1 ⟨H1,I1,q1⟩=>?_);cases c with
 |true=>exact⟨H1,I1,q1⟩
 |false=>exact hb wh js s1 Y H1 Q I1 q1
theorem CM(ha:PT X a tA):PT X (.UnaryOp .Not a pos) (Ii tA):=by intro js s Y H Q I h;exact isTrue_not (ha js s Y H (λc H1=>Q (!c) H1) I h)
def FU(ta tb:TE):TE:=λY H Q=>ta Y H λx H1=>∃c,x=.bl c/\if c=true then tb Y H1 Q else Q (.bl false) H1
def FO(ta:TE):TE:=λY H Q=>ta Y H λx H1=>∃c,x=.bl c/\Q (.bl (!c)) H1
theorem C0{op}{t:TE}(h:PE X a t):PE X (.BoolOp op [a] pos) t:=λjs s Y H Q I hw=>BoolOp_one (h js s Y H Q I hw)
theorem C4(ha:PE X a ta)(hb:PE X (.BoolOp .And (b::aI) pos) tb):PE X (.BoolOp .And (a::b::aI) pos) (FU ta tb):=by
 intro js s Y H Q I h;refine BoolOp_and (thn (ha js s Y H _ I h) λv s1 zz=>?_);obtain⟨x,H1,I1,r1,q1⟩:=zz;obtain⟨c,rfl,q1⟩:=q1;cases r1;refine wpAny_truthy_bool ?_;cases c with
 |true=>exact hb js s1 Y H1 Q I1 q1
 |false=>exact⟨.bl false,H1,I1,rfl,q1⟩
theorem C1(ha:PE X a ta):PE X (.UnaryOp .Not a pos) (FO ta):=by intro js s Y H Q I h;refine UnaryOp_ (thn (ha js s Y H _ I h) λv s1 zz=>?_);obtain⟨x,H1,I1,r1,q1⟩:=zz;obtain⟨c,rfl,q1⟩:=q1;cases r1;exact not_of (wpAny_truthy_bool ⟨.bl (!c),H1,I1,rfl,q1⟩)
def tIf(t:TT)(ta tb:TE):TE:=λY H Q=>t Y H λc H1=>if c=true then ta Y H1 Q else tb Y H1 Q
theorem wC{c:Expr}(hc:PT X c tA)(ha:PE X a ta)(hb:PE X b tb):PE X (.IfExp c a b pos) (tIf tA ta tb):=by
 intro js s Y H Q I h;refine wpAny_IfExp (thn (hc js s Y H _ I h) λd s1 ⟨H1,I1,q1⟩=>?_);cases d with
 |true=>exact ha js s1 Y H1 Q I1 q1
 |false=>exact hb js s1 Y H1 Q I1 q1
end
end
section
def SqL(K:PySem.W.Frag)(H:Hp)(a:Addr)(xs:Jl):Prop:=
 Rd H a (.lst xs)\/
  ∃(o:Obj) (its:Jk) (n:Nat),K.lookup a=some o/\o.cls=.type "list" /\ o.dict=none/\o.data=.seq its n/\its.size<=sizeLine/\a5 xs its.toList
def SqT(K:PySem.W.Frag)(H:Hp)(a:Addr)(xs:Jl):Prop:=
 Rd H a (.tup xs)\/
  ∃(o:Obj) (its:Jk) (n:Nat),K.lookup a=some o/\o.cls=.type "tuple" /\ o.data=.seq its n/\its.size<=sizeLine/\a5 xs its.toList
def IN:Value->Option V
 |.none=>some .non
 |.bool b=>some (.bl b)
 |.int i _=>some (.int i)
 |.str x _=>some (.str x)
 |.bytes b _=>some (.byt b)
 |.float b _=>some (.flt b)
 |.ref a=>some (.ref a)
 |.type n=>some (.ty n)
 |_=>none
theorem bO.abs{x:V}{u:Value}(r:bO x u):IN u=some x:=by
 cases x with
 |non|bl _=>cases r;rfl
 |int _|str _|byt _|flt _=>obtain⟨t,rfl⟩:=r;rfl
 |ref _|ty _=>cases r;rfl
theorem bO.inj{x y:V}{u:Value}(r:bO x u)(q:bO y u):x=y:=Option.some.inj (r.abs.symm.trans q.abs)
theorem a5.inj:∀{xs ys:Jl}{us:Jg},a5 xs us->a5 ys us->xs=ys
 |_,_,_,.nil,.nil=>rfl
 |_,_,_,.cons r t,.cons r' t'=>by rw[r.inj r',a5.inj t t']
section
variable{X:Cx}{js:Jd}{Y:St}{H:Hp}{s:Shared}{a:Addr}{xs ys:Jl}
theorem SqL.of{K:PySem.W.Frag}(h:H a=some (.lst xs)):SqL K H a xs:=.inl (.inl h)
theorem SqT.of{K:PySem.W.Frag}(h:H a=some (.tup xs)):SqT K H a xs:=.inl (.inl h)
theorem Inv.list(I:Inv X js Y H s)(h:SqL X.K H a xs):∃its:Jg,a5 xs its/\PlainL s.heap a its.toArray/\xs.length<=sizeLine:=by
 rcases h with h |⟨o,its,n,hk,hc,hd,hs,hz,r⟩
 .obtain⟨z,its,n,r,e⟩:=h.ok I.hok;exact⟨its,r,⟨_,n,e,rfl,rfl,rfl⟩,z⟩
 .refine⟨its.toList,r,⟨o,n,I.kIn a o hk,hc,hd,by simpa using hs⟩,?_⟩;have e:=r.length;simp only[Array.length_toList]at e;omega
theorem Inv.tuple(I:Inv X js Y H s)(h:SqT X.K H a xs):∃its:Jg,a5 xs its/\IsTup s.heap a its.toArray/\xs.length<=sizeLine:=by
 rcases h with h |⟨o,its,n,hk,hc,hs,hz,r⟩
 .obtain⟨z,its,r,p⟩:=h.ok I.hok;exact⟨its,r,p,z⟩
 .refine⟨its.toList,r,⟨o,I.kIn a o hk,hc,n,by simpa using hs⟩,?_⟩;have e:=r.length;simp only[Array.length_toList]at e;omega
theorem Inv.list_inj(I:Inv X js Y H s)(h:SqL X.K H a xs)(h':SqL X.K H a ys):xs=ys:=by
 obtain⟨its,r,⟨o,n,e,_,_,d⟩,_⟩:=I.list h;obtain⟨its',r',⟨o',n',e',_,_,d'⟩,_⟩:=I.list h';rw[e]at e';cases e';rw[d]at d';injection d' with d1 _;have:its=its':=by simpa using congrArg Array.toList d1
 subst this;exact r.inj r'
theorem Inv.tuple_inj(I:Inv X js Y H s)(h:SqT X.K H a xs)(h':SqT X.K H a ys):xs=ys:=by
 obtain⟨its,r,⟨o,e,_,n,d⟩,_⟩:=I.tuple h;obtain⟨its',r',⟨o',e',_,n',d'⟩,_⟩:=I.tuple h';rw[e]at e';cases e';rw[d]at d';injection d' with d1 _;have:its=its':=by simpa using congrArg Array.toList d1
 subst this;exact r.inj r'
end
section
variable{X:Cx}{st:Stmt}{aI:List Stmt}{t u:TS}{e:Expr}{te:TE}{pos:Pos}
def FP:TS:=λD Y H=>D.nx Y H
def Ig(t u:TS):TS:=λD Y H=>t {D with nx:=u D} Y H
theorem Aq:PSs X [] FP:=λ_ _ Y H _ I h=>wpAny_execs_nil ⟨Y,H,I,h⟩
theorem wj(h1:PS X st t)(h2:PSs X aI u):PSs X (st::aI) (Ig t u):=by
 intro js s Y H D I h;refine wpAny_execs_cons (thn (h1 js s Y H {D with nx:=u D} I h) λf s1 q=>?_);cases f with
 |next=>obtain⟨σ',H',I',q⟩:=q;exact h2 js s1 σ' H' D I' q
 |ret v|brk|cont=>exact q
theorem Ap(h1:PS X st t):PSs X [st] t:=by
 intro js s Y H D I h;refine wpAny_execs_cons (thn (h1 js s Y H D I h) λf s1 q=>?_);cases f with
 |next=>exact wpAny_execs_nil q
 |ret v|brk|cont=>exact q
def Ci:TS:=λD Y H=>D.bk Y H
theorem wo:PS X (.Break pos) Ci:=λ_ _ Y H _ I h=>wpAny_Break ⟨Y,H,I,h⟩
theorem Inv.quiet{js:Jd}{Y:St}{H:Hp}{s:Shared}(I:Inv X js Y H s):interactive X.env=false:=by simp[interactive,I.ok.kind]
def FR(te:TE):TS:=λD Y H=>te Y H λ_ H1=>D.nx Y H1
theorem ow(he:PE X e te)(hs:swapsWith e none pos.line X.env=pure false:=by rfl):PS X (.Expr e pos) (FR te):=by intro js s Y H D I h;exact wpAny_Expr_any (thn (he js s Y H _ I h) λv s1 ⟨x,H1,I1,r1,q1⟩=>⟨Y,H1,I1,q1⟩) I.quiet hs
def Ih(te:TE):TS:=λD Y H=>te Y H D.rt
theorem wn(he:PE X e te):PS X (.Return (some e) pos) (Ih te):=by intro js s Y H D I h;exact wpAny_Return_some (thn (he js s Y H _ I h) λv s1 ⟨x,H1,I1,r1,q1⟩=>⟨x,Y,H1,I1,r1,q1⟩)
def Ik(c:TT)(t u:TS):TS:=λD Y H=>c Y H λb H1=>if b=true then t D Y H1 else u D Y H1
theorem F8{c:Expr}{a b:List Stmt}{tc:TT}(hc:PT X c tc)(ha:PSs X a t)(hb:PSs X b u):PS X (.If c a b pos) (Ik tc t u):=by
 intro js s Y H D I h;refine wpAny_If (thn (hc js s Y H _ I h) λd s1 ⟨H1,I1,q1⟩=>?_);cases d with
 |true=>exact ha js s1 Y H1 D I1 q1
 |false=>exact hb js s1 Y H1 D I1 q1
end
abbrev TG:=V->St->Hp->(St->Jm)->Prop
abbrev TGs:=Jl->St->Hp->(St->Jm)->Prop
def PG(X:Cx)(target:Expr)(t:TG):Prop:=
 ∀(js:Jd) (s:Shared) (Y:St) (H:Hp) (v:V) (u:Value) (Q:St->Jm),Inv X js Y H s->bO v u->t v Y H Q ->
  wpAny (model X.prog X.w) X.A (assign target X.env u) (λ_ s'=>∃σ' H',Inv X js σ' H' s'/\Q σ' H') X.xe s
def PGs(X:Cx)(ts:List Expr)(t:TGs):Prop:=
 ∀(js:Jd) (s:Shared) (Y:St) (H:Hp) (vs:Jl) (us:Jg) (Q:St->Jm),Inv X js Y H s->a5 vs us->t vs Y H Q ->
  wpAny (model X.prog X.w) X.A (assignInOrder ((assignEach ts X.env).map (·.2)) us) (λ_ s'=>∃σ' H',Inv X js σ' H' s'/\Q σ' H') X.xe s
abbrev E6:=V->V->V->Hp->(Jm)->Prop
def Hx(X:Cx)(t:E6):Prop:=
 ∀(js:Jd) (s:Shared) (Y:St) (H:Hp) (o i v:V) (ov iv u:Value) (Q:Jm),Inv X js Y H s->bO o ov->bO i iv->bO v u->t o i v H Q ->
  wpAny (model X.prog X.w) X.A (setItem ov iv u) (λ_ s'=>∃H',Inv X js Y H' s'/\Q H') X.xe s
section
variable{X:Cx}{pos:Pos}
def B3(i:Nat):TG:=λv Y H Q=>Q (Y.set i (some v)) H
theorem tQ{i:Nat}{x:Str}(hN:X.N.Nodup)(hi:X.N[i]?=some x)(hx:Loc X.env.scope x)(hf:X.fn x=true\/X.env.scope.names.lookup x=some .local:=by first|exact .inl rfl|exact .inr rfl|assumption):PG X (.Name x pos) (B3 i):=by intro js s Y H v u Q I r h;exact wpAny_assign_Name (pL I hN hi hx r (λs' I'=>⟨_,H,I',h⟩) hf)
def IG:TGs:=λvs Y H Q=>vs=[]/\Q Y H
def Hi(t:TG)(u:TGs):TGs:=λvs Y H Q=>∃v r,vs=v::r/\t v Y H λσ' H'=>u r σ' H' Q
theorem Ax:PGs X [] IG:=by intro js s Y H vs us Q I r h;obtain⟨e,h⟩:=h;subst e;cases r;exact assignInOrder_nil ⟨Y,H,I,h⟩
theorem wz{e:Expr}{es:List Expr}{t:TG}{u:TGs}(h1:PG X e t)(h2:PGs X es u)
  (hs:(assignEach (e::es) X.env).map (·.2)=assign e X.env::(assignEach es X.env).map (·.2):=by rfl):PGs X (e::es) (Hi t u):=by
 intro js s Y H vs us Q I r h;obtain⟨v,vr,e1,h⟩:=h;subst e1;cases r with
 |cons r rr=>rw[hs];refine assignInOrder_cons (thn (h1 js s Y H _ _ _ I r h) λ_ s1 ⟨σ1,H1,I1,q1⟩=>?_);exact h2 js s1 σ1 H1 _ _ Q I1 rr q1
def IE(K:PySem.W.Frag)(n:Nat)(t:TGs):TG:=λv Y H Q=>∃a xs,v=.ref a/\SqT K H a xs/\xs.length=n/\t xs Y H Q
theorem CV{es:List Expr}{k:Nat}{t:TGs}{n:Nat}(hc:X.calm=true)(h:PGs X es t)
  (hn:(assignEach es X.env).length=n:=by rfl) (hst:(assignEach es X.env).findIdx? (·.1)=none:=by rfl):PG X (.Tuple es k pos) (IE X.K n t):=by
 intro js s Y H v u Q I r hw;obtain⟨a,xs,e1,hq,hl,hw⟩:=hw;subst e1;cases r;obtain⟨its,rv,ht,hz⟩:=I.tuple hq;refine assign_Tuple_tuple (I.ok.hd hc) ht (by simp[hn,<- hl,rv.length]) hst λh' hx=>?_;have I1:Inv X js Y H {s with heap:=h'}:=I.kept (t':=s.toks) λb o e=>hx b o (Nat.ne_of_lt (lt_size e)) e;exact h js _ Y H xs _ Q I1 (by simpa using rv) hw
def IF(to ti:TE)(t:E6):TG:=λv Y H Q=>to Y H λo H1=>ti Y H1 λi H2=>t o i v H2 λH3=>Q Y H3
theorem CW{o i:Expr}{to ti:TE}{t:E6}(ho:PE X o to)(hi:PE X i ti)(hs:Hx X t)
  (ha:∀ v,assign (.Subscript o i pos) X.env v=(do
   let ov <- holding [v] (eval o X.env)
   let iv <- holding [v,ov] (eval i X.env)
   standAt pos
   holding [v,ov,iv] (setItem ov iv v)
   release [v,ov,iv] []):=by intro _;rfl):PG X (.Subscript o i pos) (IF to ti t):=by
 intro js s Y H v u Q I r h;rw[ha];refine wpAny_bind (wpAny_holding (thn (ho js s Y H _ I h) λov s1 zz=>?_));obtain⟨x,H1,I1,r1,q1⟩:=zz;refine wpAny_bind (wpAny_holding (thn (hi js s1 Y H1 _ I1 q1) λiv s2 zz=>?_));obtain⟨y,H2,I2,r2,q2⟩:=zz;refine wpAny_bind (wpAny_standAt (wpAny_bind (wpAny_holding (thn (hs js s2 Y H2 x y v ov iv u _ I2 r1 r2 r q2) λ_ s3 ⟨H3,I3,q3⟩=>?_))));exact wpAny_release ⟨Y,H3,I3,q3⟩
def FT(te:TE)(g:TG):TS:=λD Y H=>te Y H λx H1=>g x Y H1 D.nx
theorem wp{tg e:Expr}{te:TE}{g:TG}(he:PE X e te)(hg:PG X tg g)(hs:swapsWithSole [tg] e pos.line X.env=pure false:=by rfl)(hw:swappedStores [tg] e X.env=pure none:=by rfl)
  (h1:(assignEach [tg] X.env).map (·.2)=[assign tg X.env]:=by rfl):PS X (.Assign [tg] e pos) (FT te g):=by
 intro js s Y H D I h;refine wpAny_Assign_stores (thn (he js s Y H _ I h) λv s1 zz=>?_) hs hw;obtain⟨x,H1,I1,r1,q1⟩:=zz;rw[h1];exact thn (hg js s1 Y H1 x v _ I1 r1 q1) λ_ s2 q=>q
theorem CO{i:Nat}{x:Str}{e:Expr}{te:TE}{pos':Pos}(hN:X.N.Nodup)(hi:X.N[i]?=some x)(hx:Loc X.env.scope x)(he:PE X e te)(hs:swapsWith e (some (.Name x pos')) pos.line X.env=pure false:=by rfl)(hf:X.fn x=true\/X.env.scope.names.lookup x=some .local:=by first|exact .inl rfl|exact .inr rfl|assumption) :
  PS X (.Assign [.Name x pos'] e pos) (FT te (B3 i)):=by
 intro js s Y H D I h;refine wpAny_Assign_Name (thn (he js s Y H _ I h) λv s1 zz=>?_) hs;obtain⟨y,H1,I1,r1,q1⟩:=zz;exact pL I1 hN hi hx r1 (λs2 I2=>⟨_,H1,I2,q1⟩) hf
def Cg(c:TT)(tb:TS):TS:=λD Y H=>∃W:Nat->St->Jm,(∃m,W m Y H)/\∀m Y H,W m Y H ->
 c Y H λb H1=>if b=true then ∃N:St->Jm,(∀σ' H',N σ' H'->∃m',m'<m/\W m' σ' H')/\tb {D with nx:=N,ct:=N,bk:=D.nx} Y H1 else D.nx Y H1
theorem wm{c:Expr}{body:List Stmt}{tc:TT}{tb:TS}(hp:PassesOwn (model X.prog X.w) X.A X.env X.xe)(hc:PT X c tc)(hb:PSs X body tb):PS X (.While c body [] pos) (Cg tc tb):=by
 intro js s Y H D I h;obtain⟨W,⟨m0,w0⟩,turn⟩:=h;refine wpAny_While (codeAny_whileLoop (λn s'=>∃σ' H',Inv X js σ' H' s'/\W n σ' H') ?_ m0 ⟨Y,H,I,w0⟩);rintro n s1 ⟨σ1,H1,I1,w1⟩;refine wpAny_passesOwn hp (thn (hc js s1 σ1 H1 _ I1 (turn n σ1 H1 w1)) λb s2 ⟨H2,I2,q2⟩=>?_);cases b with
 |true=>
  obtain⟨N,hN,q2⟩:=q2;rw[if_pos rfl];refine wpAny_passesOwn hp (thn (hb js s2 σ1 H2 _ I2 q2) λf s3 q3=>?_);cases f with
  |next=>obtain⟨σ3,H3,I3,n3⟩:=q3;obtain⟨m',hm,w3⟩:=hN σ3 H3 n3;exact⟨m',hm,σ3,H3,I3,w3⟩
  |cont=>obtain⟨σ3,H3,I3,n3⟩:=q3;obtain⟨m',hm,w3⟩:=hN σ3 H3 n3;exact⟨m',hm,σ3,H3,I3,w3⟩
  |brk|ret v=>exact q3
 |false=>rw[if_neg Bool.false_ne_true];exact wpAny_execs_nil ⟨σ1,H2,I2,q2⟩
end
structure It where
 go:Nat->Jm
 yld:Nat->Hp->V->Jm
 stop:Nat->Jm
def mU(X:Cx)(js:Jd)(H:Hp)(b:Addr):Prop:=
 H b=none/\b≠X.env.locals/\b∉X.fs/\(b∈X.ex\/X.s₀.heap.objs.size<=b)/\(∀x c,X.env.cells.lookup x=some c->c≠b)/\∀p∈X.pn++js,p.1≠b
theorem Inv.fpOk{X:Cx}{js:Jd}{Y:St}{H H':Hp}{s:Shared}{b:Addr}(I:Inv X js Y H s)(hb:s.heap.objs.size<=b)(hn:H' b=none):mU X js H' b:=by
 refine⟨hn,Nat.ne_of_gt (Nat.lt_of_lt_of_le I.lt hb),I.nofs hb,.inr (Nat.le_trans I.sz hb),λx c e z=>?_,λp hp z=>?_⟩
 .obtain⟨v,q⟩:=I.cell x c e;exact absurd (Nat.lt_of_lt_of_le q.lt (by rw[z];exact hb)) (Nat.lt_irrefl _)
 .exact absurd (Nat.lt_of_lt_of_le (lt_size (I.pin p hp).1) (by rw[z];exact hb)) (Nat.lt_irrefl _)
structure vF(P:Program)(w:World)(K:PySem.W.Frag)(tg:Expr)(J:It)(fp:Jh)(it:Addr)(tn:Nat->Heap->Prop):Prop where
 mem:it∈fp
 obj:∀i h,tn i h->∀b∈fp,∃o,h.get? b=some o/\∀v,o.data≠.cell v
 keep:∀i h h',tn i h->(∀b∈fp,∀o,h.get? b=some o->h'.get? b=some o)->tn i h'
 item:∀(X:Cx),X.prog=P->X.w=w->X.K=K->X.calm=true->∀(i:Nat) (js:Jd) (s:Shared) (Y:St) (H:Hp) (E:Ja),Inv X js Y H s->(∀b∈fp,mU X js H b)->tn i s.heap->J.go i H ->
  wpAny (model P w) X.A (pyNext (.ref it)) (λr s1=>∃ u,r=some u /\
   wpAny (model P w) X.A (letOwnedTupleGo tg (.ref it) u) (λ_ s2=>∃x H',Inv X js Y H' s2/\bO x u/\J.yld i H x H'/\tn (i+1) s2.heap/\∀b∈fp,H' b=none) E s1) E s
 done:∀(X:Cx),X.prog=P->X.w=w->X.K=K->X.calm=true->∀(i:Nat) (js:Jd) (s:Shared) (Y:St) (H:Hp) (E:Ja),Inv X js Y H s->(∀b∈fp,mU X js H b)->tn i s.heap->J.stop i H ->
  wpAny (model P w) X.A (pyNext (.ref it)) (λr s1=>r=none/\Inv X js Y H s1) E s
 self:∀(A:Around) (i:Nat) (s:Shared) (Q:Ja) (E:Ja),tn i s.heap->Q (.ref it) s->wpAny (model P w) A (pyIter (.ref it)) Q E s
abbrev TI:=St->Hp->(It->Jm)->Prop
def PIE(X:Cx)(js:Jd)(Y:St)(tg:Expr)(R:It->Jm)(itv:Value)(s2:Shared):Prop:=
 ∃(it:Addr) (fp:Jh) (tn:Nat->Heap->Prop) (J:It) (H':Hp),itv=.ref it/\Inv X js Y H' s2/\vF X.prog X.w X.K tg J fp it tn/\tn 0 s2.heap/\(∀b∈fp,mU X js H' b)/\R J H'
def PI(X:Cx)(tg iter:Expr)(wi:TI):Prop:=
 ∀(js:Jd) (s:Shared) (Y:St) (H:Hp) (R:It->Jm),Inv X js Y H s->wi Y H R ->
  wpAny (model X.prog X.w) X.A (eval iter X.env) (λv s1=>wpAny (model X.prog X.w) X.A (pyIter v) (PIE X js Y tg R) X.xe s1) X.xe s
theorem xO{M:Model}{A:Around}{E:Ja}{s:Shared}{tg:Expr}{it:Addr}{u:Value}{o:Obj}{n:String}{vs:Jk}{Q:Unit->Shared->Prop}(ho:s.heap.get? it=some o)(hc:o.cls=.type n)(hd:o.data=.fields vs)
    (hn:["enumerate","zip","dict_itemiterator","dict_reverseitemiterator","odict_iterator","itertools.zip_longest","itertools.pairwise"].contains n=false) (hQ:Q .unit s):wpAny M A (letOwnedTupleGo tg (.ref it) u) Q E s:=by
  unfold letOwnedTupleGo;cases tg<;>first
    |exact wpAny_pure hQ
    | (cases u <;> first
        |exact wpAny_pure hQ
        | (refine wpAny_bind (wpAny_load ho ?_)
           rw[hc,hd];show wpAny M A (if(["enumerate","zip","dict_itemiterator","dict_reverseitemiterator","odict_iterator","itertools.zip_longest","itertools.pairwise"].contains n&&vs[0]?==some (rawInt _))=true then _ else _) Q E s;rw[if_neg (by intro h;rw[hn,Bool.false_and]at h;cases h)];exact wpAny_pure hQ))
def Itl(K:PySem.W.Frag)(a:Addr):It:=
 ⟨λi H=>∃xs x,SqL K H a xs/\xs[i]?=some x,λi H x H'=>H'=H/\∀xs,SqL K H a xs->xs[i]?=some x,λi H=>∃xs,SqL K H a xs/\xs.length<=i⟩
def Itt(K:PySem.W.Frag)(a:Addr):It:=
 ⟨λi H=>∃xs x,SqT K H a xs/\xs[i]?=some x,λi H x H'=>H'=H/\∀xs,SqT K H a xs->xs[i]?=some x,λi H=>∃xs,SqT K H a xs/\xs.length<=i⟩
def Itr(lo:Int)(n:Nat):It:=⟨λi _=>i<n,λi H x H'=>H'=H/\x=.int (lo+i),λi _=>n<=i⟩
theorem uC{P:Program}{w:World}{K:PySem.W.Frag}{tg:Expr}(a it:Addr):vF P w K tg (Itl K a) [it] it (λi h=>h.IsListIter it a i) where
 mem:=by simp
 obj:=λi h st b hb=>by
  have e:b=it:=by simpa using hb
  subst e;obtain⟨o,e,c,d⟩:=st;exact⟨o,e,λv z=>by rw[d]at z;cases z⟩
 keep:=λi h h' st k=>st.at λo e=>k it (by simp) o e
 item:=by intro X hP hw hK hc i js s Y H E I hf st hg;subst hP hw hK;obtain⟨xs,x,hq,hx⟩:=hg;obtain⟨its,rv,p,hz⟩:=I.list hq;obtain⟨u,hu,ru⟩:=rv.get hx;obtain⟨f0,f1,f2,f3,f4,f5⟩:=hf it (by simp);refine wpAny_pyNext_list_item st p.isList (x:=u) (by simpa using hu) λh' st' sb=>?_;have I1:Inv X js Y H {s with heap:=h'}:=I.turned (t':=s.toks) (λb o hb e=>(sb.2 b hb).trans e) f0 f1 f3 f4 f5;obtain⟨o,e,c,d⟩:=id st';exact⟨u,rfl,xO (s:={s with heap:=h'}) e c d (by decide) ⟨x,H,I1,ru,⟨rfl,λys hy=>by rw[I.list_inj hy hq];exact hx⟩,st',λb hb=>(hf b hb).1⟩⟩
 done:=by intro X hP hw hK hc i js s Y H E I hf st hg;subst hP hw hK;obtain⟨xs,hq,hx⟩:=hg;obtain⟨its,rv,p,hz⟩:=I.list hq;obtain⟨f0,f1,f2,f3,f4,f5⟩:=hf it (by simp);have hl:=rv.length;exact wpAny_pyNext_list_end (I.ok.hd hc) st p.isList (by simp;omega) λh' eb=>⟨rfl,I.turned (t':=s.toks) (λb o hb e=>eb b o hb e) f0 f1 f3 f4 f5⟩
 self:=λ_ _ _ _ _ st h=>wpAny_pyIter_listiter st h
theorem rh{P:Program}{w:World}{K:PySem.W.Frag}{tg:Expr}(a it:Addr):vF P w K tg (Itt K a) [it] it (λi h=>h.IsTupleIter it a i) where
 mem:=by simp
 obj:=λi h st b hb=>by
  have e:b=it:=by simpa using hb
  subst e;obtain⟨o,e,c,d⟩:=st;exact⟨o,e,λv z=>by rw[d]at z;cases z⟩
 keep:=λi h h' st k=>st.at λo e=>k it (by simp) o e
 item:=by intro X hP hw hK hc i js s Y H E I hf st hg;subst hP hw hK;obtain⟨xs,x,hq,hx⟩:=hg;obtain⟨its,rv,p,hz⟩:=I.tuple hq;obtain⟨u,hu,ru⟩:=rv.get hx;obtain⟨f0,f1,f2,f3,f4,f5⟩:=hf it (by simp);refine wpAny_pyNext_tuple_item st (show s.heap.IsTuple a its.toArray from p) (x:=u) (by simpa using hu) λh' st' sb=>?_;have I1:Inv X js Y H {s with heap:=h'}:=I.turned (t':=s.toks) (λb o hb e=>(sb.2 b hb).trans e) f0 f1 f3 f4 f5;obtain⟨o,e,c,d⟩:=id st';exact⟨u,rfl,xO (s:={s with heap:=h'}) e c d (by decide) ⟨x,H,I1,ru,⟨rfl,λys hy=>by rw[I.tuple_inj hy hq];exact hx⟩,st',λb hb=>(hf b hb).1⟩⟩
 done:=by intro X hP hw hK hc i js s Y H E I hf st hg;subst hP hw hK;obtain⟨xs,hq,hx⟩:=hg;obtain⟨its,rv,p,hz⟩:=I.tuple hq;obtain⟨f0,f1,f2,f3,f4,f5⟩:=hf it (by simp);have hl:=rv.length;exact wpAny_pyNext_tuple_end (I.ok.hd hc) st (show s.heap.IsTuple a its.toArray from p) (by simp;omega) λh' eb=>⟨rfl,I.turned (t':=s.toks) (λb o hb e=>eb b o hb e) f0 f1 f3 f4 f5⟩
 self:=λ_ _ _ _ _ st h=>wpAny_pyIter_tupleiter st h
theorem rj{P:Program}{w:World}{K:PySem.W.Frag}{tg:Expr}(it:Addr)(lo:Int)(n:Nat):vF P w K tg (Itr lo n) [it] it (λi h=>IsRangeIter h it (lo+(i:Nat)*1) ((n:Int)-(i:Nat)) 1) where
 mem:=by simp
 obj:=λi h st b hb=>by
  have e:b=it:=by simpa using hb
  subst e;exact ⟨_,st,λv z=>by
   have z':Data.fields _=Data.cell v:=z;cases z'⟩
 keep:=λi h h' st k=>k it (by simp) _ st
 item:=by intro X hP hw hK hc i js s Y H E I hf st hg;subst hP hw hK;obtain⟨f0,f1,f2,f3,f4,f5⟩:=hf it (by simp);have W:=Walks.range (prog:=X.prog) (w:=X.w) (I.ok.hd hc) it lo 1 n;refine W.item i s _ _ hg st λv h' tk hv st' kk=>?_;obtain⟨t,rfl⟩:=hv;have I1:Inv X js Y H {s with heap:=h',toks:=tk}:=I.turned (λb o hb e=>kk b o (by simpa using hb) e) f0 f1 f3 f4 f5;refine⟨_,rfl,xO (s:={s with heap:=h',toks:=tk}) (n:="range_iterator") st' rfl rfl (by decide) ⟨.int (lo+i),H,I1,⟨t,?_⟩,⟨rfl,rfl⟩,st',λb hb=>(hf b hb).1⟩⟩;rw[Int.mul_one]
 done:=by intro X hP hw hK hc i js s Y H E I hf st hg;subst hP hw hK;obtain⟨f0,f1,f2,f3,f4,f5⟩:=hf it (by simp);exact wpAny_pyNext_range_end (I.ok.hd hc) st (by have:n<=i:=hg;omega) λh' eb=>⟨rfl,I.turned (t':=s.toks) (λb o hb e=>eb b o hb e) f0 f1 f3 f4 f5⟩
 self:=λ_ _ _ _ _ st h=>wpAny_pyIter_rangeiter st h
end
section
section
variable{X:Cx}{tg:Expr}
theorem pW{js:Jd}{Y:St}{H:Hp}{s:Shared}{R:It->Jm}{E:Ja}{lo hi:Int}{t u v:Tok}{tk:Nat}(I:Inv X js Y H s)(h1:-(2 ^ 62)<= lo)(h2:lo<2 ^ 62)(h3:-(2 ^ 62)<= hi)(h4:hi<2 ^ 62)
  (q:R (Itr lo (hi-lo).toNat) H):wpAny (model X.prog X.w) X.A (pyIter (.ref s.heap.objs.size)) (PIE X js Y tg R) E {s with heap:=s.heap.push {cls:=.type "range",data:=.fields #[.int lo t,.int hi u,.int 1 v]},toks:=tk}:=by
 refine wpAny_pyIter_range (IsRange.new ..) (small_one h1 h2 h3 h4) ?_;have I1:Inv X js Y H {s with heap:=s.heap.push {cls:=.type "range",data:=.fields #[.int lo t,.int hi u,.int 1 v]},toks:=tk}:=I.kept λb o e=>get?_push_of_some _ e;refine ⟨(s.heap.push { cls:=.type "range", data:=.fields #[.int lo t,.int hi u,.int 1 v] }).objs.size,[(s.heap.push { cls:=.type "range", data:=.fields #[.int lo t,.int hi u,.int 1 v] }).objs.size],_,_,H,rfl,
  I1.kept (t':=tk) λb o e=>get?_push_of_some _ e,rj _ lo (hi-lo).toNat,?_,λb hb=>?_,q⟩
 .have e1:lo+((0:Nat):Int)*1=lo:=by simp
  have e2:(((hi-lo).toNat:Nat):Int)-((0:Nat):Int)=Builtin.Range.rangeSize lo hi 1:=by rw[rangeSize_one];split<;>omega
  show IsRangeIter _ _ (lo+((0:Nat):Int)*1) ((((hi-lo).toNat:Nat):Int)-((0:Nat):Int)) 1;rw[e1,e2];exact get?_push_size _ rfl
 .have e:b=(s.heap.push {cls:=.type "range",data:=.fields #[.int lo t,.int hi u,.int 1 v]}).objs.size:=by simpa using hb
  subst e;exact I1.fpOk (Nat.le_refl _) (I1.hok.fresh (Nat.le_refl _))
def Hd(ta:TA):TI:=λY H R=>ta Y H λvs H1=>∃j:Int,vs=[.int j]/\-(2 ^ 62)<= j/\j<2 ^ 62/\R (Itr 0 j.toNat) H1
def Hc(ta:TA):TI:=λY H R=>ta Y H λvs H1=>∃i j:Int,vs=[.int i,.int j]/\(-(2 ^ 62)<= i/\i<2 ^ 62/\-(2 ^ 62)<= j/\j<2 ^ 62)/\R (Itr i (j-i).toNat) H1
theorem nG{a:Expr}{ta:TA}{p pos:Pos}(hg:Gl X "range")(hm:X.mg "range"=none)(ha:PA X [a] ta)(hs:starEach [a] X.env=[(false,eval a X.env)]:=by rfl):PI X tg (.Call (.Name "range" p) [a] [] pos) (Hd ta):=by
 intro js s Y H R I h;refine Call_ (fP I hg hm boot_range (PyProof.Rows.callWith_type1 (thn (ha pos js s Y H _ I h) λus s1 zz=>?_) hs rfl));obtain⟨vs,H1,I1,r1,q1⟩:=zz;obtain⟨j,e,q1,q2,q⟩:=q1;subst e;cases r1 with
 |cons r rr=>cases rr;obtain⟨t,rfl⟩:=r;exact call_range_1 (pW I1 () () q1 q2 (by simpa using q))
theorem uV{a b:Expr}{ta:TA}{p pos:Pos}(hg:Gl X "range")(hm:X.mg "range"=none)(ha:PA X [a,b] ta)(hs:starEach [a,b] X.env=[(false,eval a X.env),(false,eval b X.env)]:=by rfl)(hs2:starEach [b] X.env=[(false,eval b X.env)]:=by rfl) :
  PI X tg (.Call (.Name "range" p) [a,b] [] pos) (Hc ta):=by
 intro js s Y H R I h;refine Call_ (fP I hg hm boot_range (PyProof.Rows.callWith_type1 (thn (ha pos js s Y H _ I h) λus s1 zz=>?_) (by rw[hs,hs2]) (by rw[hs2];rfl)));obtain⟨vs,H1,I1,r1,q1⟩:=zz;obtain⟨i,j,e,⟨q1,q2,q3,q4⟩,q⟩:=q1;subst e;cases r1 with
 |cons r rr=>
  cases rr with
  |cons r' rr=>cases rr;obtain⟨t,rfl⟩:=r;obtain⟨t',rfl⟩:=r';exact call_range_2 (pW I1 q1 q2 q3 q4 q)
def Il(wi:TI)(g:TG)(tb:TS):TS:=λD Y H=>wi Y H λJ H1=>∃W:Nat->Nat->St->Jm,(∃m,W 0 m Y H1)/\∀i m Y H,W i m Y H ->
 (J.stop i H/\D.nx Y H)\/(J.go i H/\∃N:St->Jm,(∀σ' H',N σ' H'->∃m',m'<m/\W (i+1) m' σ' H')/\∀x H',J.yld i H x H'->g x Y H' λσ2 H2=>tb {D with nx:=N,ct:=N,bk:=D.nx} σ2 H2)
def lH(fp:Jh)(h:Heap):Jd:=fp.filterMap λb=>(h.get? b).map λo=>(b,o)
theorem gS{fp:Jh}{h:Heap}{b:Addr}{o:Obj}(hb:b∈fp)(e:h.get? b=some o):(b,o)∈ lH fp h:=List.mem_filterMap.mpr ⟨b,hb,by rw[e];rfl⟩
theorem u0{fp:Jh}{h:Heap}{p:Addr×Obj}(hp:p∈lH fp h):p.1∈fp/\h.get? p.1=some p.2:=by
 obtain⟨b,hb,e⟩:=List.mem_filterMap.mp hp;cases q:h.get? b with
 |none=>rw[q]at e;cases e
 |some o=>rw[q]at e;have e':(b,o)=p:=Option.some.inj e;subst e';exact⟨hb,q⟩
theorem Inv.pinned{js:Jd}{Y:St}{H:Hp}{s:Shared}{fp:Jh}(I:Inv X js Y H s)(hf:∀b∈fp,mU X js H b)(ho:∀b∈fp,∃o,s.heap.get? b=some o/\∀v,o.data≠.cell v):Inv X (js++lH fp s.heap) Y H s:=
 I.pins_of λp hp=>(mem_append.mp hp).elim (λz=>I.pin p (mem_append_right _ z)) λz=>by obtain⟨hb,e⟩:=u0 z;obtain⟨f0,f1,f2,_⟩:=hf p.1 hb;obtain⟨o,e',d⟩:=ho p.1 hb;rw[e]at e';cases e';exact⟨e,f0,f1,f2,d⟩
theorem Inv.unpinned{js pl:Jd}{Y:St}{H:Hp}{s:Shared}(I:Inv X (js++pl) Y H s):Inv X js Y H s:=I.pins_of λp hp=>I.pin p (mem_append_right _ (mem_append_left _ hp))
theorem CP{iter:Expr}{body:List Stmt}{wi:TI}{g:TG}{tb:TS}{pos:Pos}(hp:PassesOwn (model X.prog X.w) X.A X.env X.xe)(hc:X.calm=true)(hi:PI X tg iter wi)(hg:PG X tg g)(hb:PSs X body tb)
  (hs:∀x,foldedSetIterable iter X.env x=pure x:=by intro _;rfl):PS X (.For tg iter body [] pos) (Il wi g tb):=by
 intro js s Y H D I h;refine wpAny_For (thn (hi js s Y H _ I h) λv s1 h1=>thn h1 λitv s2 h2=>?_) hs;obtain⟨it,fp,tn,J,H2,e,I2,T,st2,f2,W,⟨m0,w0⟩,turn⟩:=h2;subst e;have stat:∀{H':Hp},(∀b∈fp,H' b=none)->∀b∈fp,mU X js H' b:=λhn b hb=>⟨hn b hb,(f2 b hb).2⟩
 refine codeAny_forLoop_any (λn s'=>∃i σ' H',Inv X js σ' H' s'/\tn i s'.heap/\(∀b∈fp,H' b=none)/\W i n σ' H') ?_ m0 ⟨0,Y,H2,I2,st2,λb hb=>(f2 b hb).1,w0⟩;rintro n s3 ⟨i,σ3,H3,I3,st3,fr3,w3⟩;rcases turn i n σ3 H3 w3 with⟨stop,qn⟩ |⟨go,N,hN,step⟩
 .refine wpAny_passesOwn hp (thn (T.done X rfl rfl rfl hc i js s3 σ3 H3 X.xe I3 (stat fr3) st3 stop) λr s4 ⟨hr,I4⟩=>?_);subst hr;exact wpAny_execs_nil ⟨σ3,H3,I4,qn⟩
 .refine wpAny_passesOwn hp (thn (T.item X rfl rfl rfl hc i js s3 σ3 H3 X.xe I3 (stat fr3) st3 go) λr s4 ⟨u,hr,h4⟩=>?_);subst hr;refine wpAny_passesOwn hp (thn h4 λ_ s5 zz=>?_);obtain⟨x,H5,I5,r5,y5,st5,fr5⟩:=zz;have I5':=I5.pinned (stat fr5) (T.obj _ _ st5);refine wpAny_passesOwn hp (thn (hg _ s5 σ3 H5 x u _ I5' r5 (step x H5 y5)) λ_ s6 ⟨σ6,H6,I6,q6⟩=>?_);refine wpAny_passesOwn hp (thn (hb _ s6 σ6 H6 _ I6 q6) λf s7 q7=>?_);have again:∀{σ7:St}{H7:Hp},Inv X (js++lH fp s5.heap) σ7 H7 s7->N σ7 H7->∃m,m<n/\∃i σ' H',Inv X js σ' H' s7/\tn i s7.heap/\(∀b∈fp,H' b=none)/\W i m σ' H':=λ{σ7 H7} I7 n7=>by obtain⟨m',hm,w7⟩:=hN σ7 H7 n7;refine⟨m',hm,i+1,σ7,H7,I7.unpinned,T.keep _ _ _ st5 λb hb o e=>(I7.pin (b,o) (mem_append_right _ (mem_append_right _ (gS hb e)))).1,λb hb=>?_,w7⟩;obtain⟨o,e,d⟩:=T.obj _ _ st5 b hb;exact(I7.pin (b,o) (mem_append_right _ (mem_append_right _ (gS hb e)))).2.1
  cases f with
  |next|cont=>obtain⟨σ7,H7,I7,n7⟩:=q7;exact again I7 n7
  |brk=>obtain⟨σ7,H7,I7,q7⟩:=q7;exact⟨σ7,H7,I7.unpinned,q7⟩
  |ret v=>obtain⟨x7,σ7,H7,I7,r7,q7⟩:=q7;exact⟨x7,σ7,H7,I7.unpinned,r7,q7⟩
end
end
section
abbrev R2:=V->V->Hp->VK->Prop
def OpR(X:Cx)(f:Value->Value->Sem Value)(r:R2):Prop:=
 ∀(js:Jd) (s:Shared) (Y:St) (H:Hp) (x y:V) (v u:Value) (Q:VK),Inv X js Y H s->bO x v->bO y u->r x y H Q ->
  wpAny (model X.prog X.w) X.A (f v u) (EP X js Y Q) X.xe s
def UnR(X:Cx)(f:Value->Sem Value)(r:V->Hp->VK->Prop):Prop:=
 ∀(js:Jd) (s:Shared) (Y:St) (H:Hp) (x:V) (v:Value) (Q:VK),Inv X js Y H s->bO x v->r x H Q ->
  wpAny (model X.prog X.w) X.A (f v) (EP X js Y Q) X.xe s
def fQ(X:Cx)(f:Value)(r:Jl->Hp->VK->Prop):Prop:=
 ∀(js:Jd) (s:Shared) (Y:St) (H:Hp) (xs:Jl) (us:Jg) (Q:VK),Inv X js Y H s->a5 xs us->r xs H Q ->
  wpAny (model X.prog X.w) X.A (call f us) (EP X js Y Q) X.xe s
def IP(X:Cx)(r:V->Hp->(Bool->Jm)->Prop):Prop:=
 ∀(js:Jd) (s:Shared) (Y:St) (H:Hp) (x:V) (v:Value) (Q:Bool->Jm),Inv X js Y H s->bO x v->r x H Q ->
  wpAny (model X.prog X.w) X.A (truthy v) (TP X js Y Q) X.xe s
def tOp(r:R2)(ta tb:TE):TE:=λY H Q=>ta Y H λx H1=>tb Y H1 λy H2=>r x y H2 Q
def tUn(r:V->Hp->VK->Prop)(ta:TE):TE:=λY H Q=>ta Y H λx H1=>r x H1 Q
def rI(C:Int->Int->Prop)(g:Int->Int->V):R2:=λx y H Q=>∃i j,x=.int i/\y=.int j/\C i j/\Q (g i j) H
def rI0(g:Int->Int->V):R2:=λx y H Q=>∃i j,x=.int i/\y=.int j/\Q (g i j) H
def rU(g:Int->V):V->Hp->VK->Prop:=λx H Q=>∃i,x=.int i/\Q (g i) H
section
variable{X:Cx}{a b c:Expr}{ta tb tc:TE}{pos:Pos}
theorem EC(ha:PE X a ta)(hb:PE X b tb){js:Jd}{s:Shared}{Y:St}{H:Hp}{R:V->V->Jm}(I:Inv X js Y H s)
  (h:ta Y H λx H1=>tb Y H1 λy H2=>R x y H2) {Q:Ja}{f:Value->Value->Sem Value}
  (hf:∀v u s2 x y H2,Inv X js Y H2 s2->bO x v->bO y u->R x y H2->wpAny (model X.prog X.w) X.A (f v u) Q X.xe s2) :
  wpAny (model X.prog X.w) X.A (eval a X.env) (λv s₁=>wpAny (model X.prog X.w) X.A (eval b X.env) (λu s₂=>wpAny (model X.prog X.w) X.A (f v u) Q X.xe s₂) X.xe s₁) X.xe s:=by
 refine thn (ha js s Y H _ I h) λv s1 hz1=>?_;obtain⟨x,H1,I1,r1,q1⟩:=hz1;refine thn (hb js s1 Y H1 _ I1 q1) λu s2 hz1=>?_;obtain⟨y,H2,I2,r2,q2⟩:=hz1;exact hf v u s2 x y H2 I2 r1 r2 q2
theorem Ga{op:Operator}{r:R2}(ho:OpR X (binaryOp op) r)(ha:PE X a ta)(hb:PE X b tb):PE X (.BinOp a op b pos) (tOp r ta tb):=by intro js s Y H Q I h;exact wpAny_BinOp (EC ha hb I h λv u s2 x y H2 I2 rx ry q=>ho js s2 Y H2 x y v u Q I2 rx ry q)
theorem BU{op:UnaryOp}{r:V->Hp->VK->Prop}(ho:UnR X (unaryOp op) r)(ha:PE X a ta):PE X (.UnaryOp op a pos) (tUn r ta):=by intro js s Y H Q I h;exact UnaryOp_ (thn (ha js s Y H _ I h) λv s1 ⟨x,H1,I1,r1,q1⟩=>ho js s1 Y H1 x v Q I1 r1 q1)
theorem opI{f:Value->Value->Sem Value}{C:Int->Int->Prop}{g:Int->Int->Int}
  (rule:∀(i j:Int) (t u:Tok) (s:Shared) (Q:Ja) (E:Ja),C i j->Q (.int (g i j) s.toks) {s with toks:=s.toks+1}->wpAny (model X.prog X.w) X.A (f (.int i t) (.int j u)) Q E s) :
  OpR X f (rI C λi j=>.int (g i j)):=by
 intro js s Y H x y v u Q I rx ry h;obtain⟨i,j,rfl,rfl,hc,q⟩:=h;obtain⟨t,rfl⟩:=rx;obtain⟨t',rfl⟩:=ry;exact rule i j t t' s _ _ hc ⟨.int (g i j),H,I.tok _,⟨_,rfl⟩,q⟩
theorem Gn{f:Value->Value->Sem Value}{g:Int->Int->Int}
  (rule:∀(i j:Int) (t u:Tok) (s:Shared) (Q:Ja) (E:Ja),Q (.int (g i j) s.toks) {s with toks:=s.toks+1}->wpAny (model X.prog X.w) X.A (f (.int i t) (.int j u)) Q E s) :
  OpR X f (rI0 λi j=>.int (g i j)):=by
 intro js s Y H x y v u Q I rx ry h;obtain⟨i,j,rfl,rfl,q⟩:=h;obtain⟨t,rfl⟩:=rx;obtain⟨t',rfl⟩:=ry;exact rule i j t t' s _ _ ⟨.int (g i j),H,I.tok _,⟨_,rfl⟩,q⟩
theorem AG{f:Value->Value->Sem Value}{g:Int->Int->Bool}
  (rule:∀(i j:Int) (t u:Tok) (s:Shared) (Q:Ja) (E:Ja),Q (.bool (g i j)) s->wpAny (model X.prog X.w) X.A (f (.int i t) (.int j u)) Q E s) :
  OpR X f (rI0 λi j=>.bl (g i j)):=by
 intro js s Y H x y v u Q I rx ry h;obtain⟨i,j,rfl,rfl,q⟩:=h;obtain⟨t,rfl⟩:=rx;obtain⟨t',rfl⟩:=ry;exact rule i j t t' s _ _ ⟨.bl (g i j),H,I,rfl,q⟩
def IX(i j:Int):Prop:=0<j/\j<1073741824
def IW(i j:Int):Prop:=0<=j/\j<=1000000/\i.natAbs<2 ^ 64
def Fe(i j:Int):Prop:=(-(2 ^ 64)<i/\i<2 ^ 64)\/(-(2 ^ 64)<j/\j<2 ^ 64)
theorem Fe.ok{i j:Int}(h:Fe i j):IntMulOk i j:=by
 rcases h with⟨h1,h2⟩ |⟨h1,h2⟩
 .exact .of_left (intBits_le_64 h1 h2)
 .exact .of_right (intBits_le_64 h1 h2)
theorem Db:OpR X (binaryOp .Add) (rI0 λi j=>.int (i+j)):=Gn λ_ _ _ _ _ _ _ q=>add_int q
theorem C5:OpR X (binaryOp .Sub) (rI0 λi j=>.int (i-j)):=Gn λ_ _ _ _ _ _ _ q=>sub_int q
theorem C7:OpR X (binaryOp .Mult) (rI Fe λi j=>.int (i*j)):=opI λ_ _ _ _ _ _ _ hc q=>mul_int q hc.ok
theorem AE:OpR X (binaryOp .FloorDiv) (rI IX λi j=>.int (i / j)):=opI λi j _ _ _ _ _ hc q=>by have h1:(0:Int)<j:=hc.1;have h2:j<1073741824:=hc.2;exact floordiv_int () (by rw[Int.fdiv_eq_ediv_of_nonneg i ()];exact q) (.inl (PyProof.noPylong_small ()))
theorem C8:OpR X (binaryOp .Mod) (rI (λ_ j=>0<j) λi j=>.int (i%j)):=opI λi j _ _ _ _ _ hc q=>by have h1:(0:Int)<j:=hc;exact mod_int' () (by rw[Int.fmod_eq_emod_of_nonneg i ()];exact q)
theorem C6:OpR X (binaryOp .LShift) (rI IW λi j=>.int (i*2 ^ j.toNat)):=opI λ_ _ _ _ _ _ _ hc q=>lshift_int_small hc.1 hc.2.1 hc.2.2 q
theorem unI{f:Value->Sem Value}{g:Int->Int}
  (rule:∀(i:Int) (t:Tok) (s:Shared) (Q:Ja) (E:Ja),Q (.int (g i) s.toks) {s with toks:=s.toks+1}->wpAny (model X.prog X.w) X.A (f (.int i t)) Q E s) :
  UnR X f (rU λi=>.int (g i)):=by
 intro js s Y H x v Q I rx h;obtain⟨i,rfl,q⟩:=h;obtain⟨t,rfl⟩:=rx;exact rule i t s _ _ ⟨.int (g i),H,I.tok _,⟨_,rfl⟩,q⟩
theorem vO:UnR X (unaryOp .USub) (rU λi=>.int (-i)):=unI λ_ _ _ _ _ q=>neg_int q
theorem xU{js:Jd}{Y:St}{H:Hp}{s:Shared}{Q:VK}{k k':Bool}(I:Inv X js Y H s)(q:Q (.bl k) H)(e:k=k'):EP X js Y Q (.bool k') s:=by subst e;exact⟨.bl k,H,I,rfl,q⟩
theorem BW:OpR X (compareOp .Lt) (rI0 λi j=>.bl (decide (i<j))):=AG λ_ _ _ _ _ _ _ q=>lt_int q
theorem Gj:OpR X (compareOp .LtE) (rI0 λi j=>.bl (decide (i<=j))):=AG λ_ _ _ _ _ _ _ q=>le_int q
theorem Gk:OpR X (compareOp .Gt) (rI0 λi j=>.bl (decide (j<i))):=AG λ_ _ _ _ _ _ _ q=>gt_int q
theorem Gm:OpR X (compareOp .GtE) (rI0 λi j=>.bl (decide (j<=i))):=AG λ_ _ _ _ _ _ _ q=>ge_int q
theorem C_:OpR X (compareOp .Is) (λx y H Q=>y=.non/\Q (.bl (decide (x=.non))) H):=by
 intro js s Y H x y v u Q I rx ry h;obtain⟨rfl,q⟩:=h;cases ry;refine is_none_gen (xU I q ?_);cases x<;>first
  |(cases rx;rfl)
  |(obtain⟨t,rfl⟩:=rx;rfl)
theorem AD:OpR X (compareOp .IsNot) (λx y H Q=>y=.non/\Q (.bl (!decide (x=.non))) H):=by
 intro js s Y H x y v u Q I rx ry h;obtain⟨rfl,q⟩:=h;cases ry;refine isnot_none_gen (xU I q ?_);cases x<;>first
  |(cases rx;rfl)
  |(obtain⟨t,rfl⟩:=rx;rfl)
theorem OpR.or{f:Value->Value->Sem Value}{r r':R2}(h:OpR X f r)(h':OpR X f r'):OpR X f (λx y H Q=>r x y H Q\/r' x y H Q):=by
 intro js s Y H x y v u Q I rx ry q;rcases q with q|q
 .exact h js s Y H x y v u Q I rx ry q
 .exact h' js s Y H x y v u Q I rx ry q
theorem fj(b:Expr){op:CmpOp}(h:op≠.In:=by decide)(h2:op≠.NotIn:=by decide):behindInMarks op b=false:=by
 have e1:(op==CmpOp.In)=false:=by cases op<;>first|rfl|exact absurd rfl h
 have e2:(op==CmpOp.NotIn)=false:=by cases op<;>first|rfl|exact absurd rfl h2
 cases b<;>simp[behindInMarks,e1,e2]
theorem Az{op:CmpOp}{r:R2}(ho:OpR X (compareOp op) r)(ha:PE X a ta)(hb:PE X b tb)(hm:behindInMarks op b=false):PE X (.Compare a [op] [b] pos) (tOp r ta tb):=by intro js s Y H Q I h;exact wpAny_Compare1 (EC ha hb I h λv u s2 x y H2 I2 rx ry q=>ho js s2 Y H2 x y v u Q I2 rx ry q) hm
def FM(t:TE):TT:=λY H Q=>t Y H λx H'=>∃k,x=.bl k/\Q k H'
theorem Ao{op:CmpOp}{r:R2}(ho:OpR X (compareOp op) r)(ha:PE X a ta)(hb:PE X b tb)(hm:behindInMarks op b=false):PT X (.Compare a [op] [b] pos) (FM (tOp r ta tb)):=by
 intro js s Y H Q I h;refine wpAny_isTrue_Compare1 (thn (ha js s Y H _ I h) λv s1 ⟨x,H1,I1,r1,q1⟩=>thn (hb js s1 Y H1 _ I1 q1) λu s2 ⟨y,H2,I2,r2,q2⟩=>
  thn (ho js s2 Y H2 x y v u _ I2 r1 r2 q2) λc s3 ⟨z,H3,I3,r3,k,e,q3⟩=>?_) hm
 subst e;cases r3;exact wpAny_truthy_bool ⟨H3,I3,q3⟩
def Hw(K:PySem.W.Frag)(x:V)(H:Hp)(k:Bool):Prop:=
 match x with
 |.non=>k=false
 |.bl b=>k=b
 |.int i=>k=(i != 0)
 |.str y=>y.length<=sizeLine/\k=((y.length:Int) != 0)
 |.byt y=>y.size<=sizeLine/\k=((y.size:Int) != 0)
 |.ref p=>(∃xs,SqL K H p xs/\k=!xs.isEmpty)\/(∃xs,SqT K H p xs/\k=!xs.isEmpty)\/ ∃kvs,H p=some (.dK kvs)/\k=!kvs.isEmpty
 |_=>False
theorem sk{κ:Type}{kvs:List (κ×V)}{vs:List (κ×Value)}(r:KV kvs vs):(!vs.isEmpty)=!kvs.isEmpty:=by cases r<;>rfl
theorem lZ{xs:Jl}{its:Jg}(r:a5 xs its):(!its.toArray.isEmpty)=!xs.isEmpty:=by cases r<;>simp
theorem kn:(sizeLine:Nat)<2 ^ 63:=by rw[sizeLine_eq];decide
theorem Cf:IP X (λx H Q=>∃k,Hw X.K x H k/\Q k H):=by
 intro js s Y H x v Q I rx h;obtain⟨k,e,q⟩:=h;have hl:=kn;have hs:sizeLine=16777216:=sizeLine_eq;cases x with
 |non=>cases rx;have e':k=false:=e;subst e';exact truthy_none ⟨H,I,q⟩
 |bl b=>cases rx;have e':k=b:=e;subst e';exact wpAny_truthy_bool ⟨H,I,q⟩
 |int i=>obtain⟨t,rfl⟩:=rx;have e':k=(i != 0):=e;subst e';exact PySem.P.truthy_int ⟨H,I,q⟩
 |str y=>obtain⟨t,rfl⟩:=rx;obtain⟨hy,e'⟩:y.length<=sizeLine/\k=((y.length:Int) != 0):=e;subst e';exact PySem.P.truthy_str () ⟨H,I.tok _,q⟩
 |byt y=>obtain⟨t,rfl⟩:=rx;obtain⟨hy,e'⟩:y.size<=sizeLine/\k=((y.size:Int) != 0):=e;subst e';exact PySem.W.truthy_bytes () ⟨H,I.tok _,q⟩
 |ref p=>
  cases rx;have e':(∃xs,SqL X.K H p xs/\k=!xs.isEmpty)\/(∃xs,SqT X.K H p xs/\k=!xs.isEmpty)\/ ∃kvs,H p=some (.dK kvs)/\k=!kvs.isEmpty:=e;rcases e' with⟨xs,hx,e'⟩ |⟨xs,hx,e'⟩ |⟨kvs,hx,e'⟩
  .subst e';obtain⟨its,r,pl,hz⟩:=I.list hx;have hlen:=r.length;exact wpAny_truthy_list pl.isList (by simp only[size_toArray];omega) ⟨H,I.tok _,by rw[lZ r];exact q⟩
  .subst e';obtain⟨its,r,pl,hz⟩:=I.tuple hx;have hlen:=r.length;exact truthy_tuple pl (by simp only[size_toArray];omega) ⟨H,I.tok _,by rw[lZ r];exact q⟩
  .subst e';obtain⟨hz,hS,vs,r,m⟩:kvs.length<=sizeLine/\(p==sysModules)=false/\∃vs,KV kvs vs/\s.heap.DictOf (oJ X.prog X.w) p vs:=I.hok p _ hx;have hlen:kvs.length=vs.length:=Paired.length r;exact wpAny_truthy_dict hS m () ⟨H,I.tok _,by rw[sk r];exact q⟩
 |_=>exact(show False from e).elim
theorem wg(ha:PE X a ta)(he:∀whole,isTrue a X.env whole=(do let v <- whole;standAt a.pos;holding [v] (truthy v))) :
  PT X a (λY H Q=>ta Y H λx H'=>∃k,Hw X.K x H' k/\Q k H'):=by
 intro js s Y H Q I h;exact isTrue_plain (thn (ha js s Y H _ I h) λv s1 ⟨x,H1,I1,r1,q1⟩=>Cf js s1 Y H1 x v Q I1 r1 q1) (he _)
theorem fw{x:V}{us:Jg}(r:a5 [x] us):∃u,us=[u]/\bO x u:=by
 cases r with
 |cons r1 r2=>cases r2;exact⟨_,rfl,r1⟩
theorem FL{x y:V}{us:Jg}(r:a5 [x,y] us):∃u w',us=[u,w']/\bO x u/\bO y w':=by
 cases r with
 |cons r1 r2=>
  cases r2 with
  |cons r3 r4=>cases r4;exact⟨_,_,rfl,r1,r3⟩
theorem vz(hc:X.calm=true):fQ X (.builtin "min") (λxs H Q=>∃i j,xs=[.int i,.int j]/\Q (.int (if j<i then j else i)) H):=by
 intro js s Y H xs us Q I r h;obtain⟨i,j,rfl,q⟩:=h;obtain⟨u,w',rfl,⟨t,rfl⟩,⟨t',rfl⟩⟩:=FL r;refine min_two_ints (I.ok.hd hc) λh' tk k=>⟨_,H,I.kept k,?_,q⟩
 by_cases hj:j<i
 .rw[if_pos hj,if_pos hj];exact⟨_,rfl⟩
 .rw[if_neg hj,if_neg hj];exact⟨_,rfl⟩
end
end
section
structure sL(h:Heap)(x dx C:Addr)(mA:Jb):Prop where
 obj:h.get? x=some (instObj C dx)
 ns:h.Ns1 dx mA
 ne:dx≠x
theorem vd{h:Heap}{dx:Addr}{mA:Jb}(n:h.Ns1 dx mA):∃od,h.get? dx=some od/\∀name,lookIn name od=some (mA name):=by
 obtain⟨o,es,ep,ho,hd,hk,_,hm⟩:=n;refine⟨o,ho,λname=>?_⟩;have e:=hm name;unfold nsFind findBy at e;rw[<- Array.find?_toList]at e;unfold lookIn;rw[hd];dsimp only;split
 .rename_i y q
  rw[q]at e;exact congrArg some e
 .rename_i q
  rw[q]at e;have a:es.toList.any (·.refKey)=false:=by rw[List.any_eq_false];intro y hy;obtain⟨z,t,hkey⟩:=hk y (Array.mem_toList_iff.mp hy);simp[DictEntry.refKey,hkey]
  have a':¬es.toList.any (·.refKey)=true:=by rw[a];exact Bool.false_ne_true
  rw[if_neg a'];exact congrArg some e
theorem sL.look{h:Heap}{x dx C:Addr}{mA:Jb}(I:sL h x dx C mA):∃od,PySem.W.InstAt h x (instObj C dx) C (some od)/\∀name,lookIn name od=some (mA name):=
 let⟨od,ho,hl⟩:=vd I.ns
 ⟨od,⟨I.obj,rfl,rfl,ho⟩,hl⟩
section
variable{prog:Program}{w:World}{A:Around}{E:Ja}{s:Shared}{K:PySem.W.Frag}{x dx C f:Addr}{mA:Jb}{name:Str}{v:Value}
theorem Bc{expr:Bool}{Q:Ja}(X:K.In s.heap)(I:sL s.heap x dx C mA)(hg:plainGet K C name=true)(hh:hasDictIn K C=true)
  (ha:PySem.W.findIn K (.ref C) name=some none) (hv:mA name=some v) (hv':handedIn v=true) (h:Q v {s with toks:=s.toks+1}) :
  wpAny (model prog w) A (getAttr (.ref x) name expr) Q E s:=by
 obtain⟨od,J,hl⟩:=I.look;exact PySem.W.get_value X J (plainGet_of hg).1 (PySem.W.findObj_own hh ha rfl (by rw[hl,hv])) hv' h
theorem xR{pl:Sem Bool}{Q:Value×Jg->Shared->Prop}(X:K.In s.heap)(I:sL s.heap x dx C mA)(hg:plainGet K C name=true)
  (hf:PySem.W.findIn K (.ref C) name=some (some (.ref f))) (ht:PySem.W.isFn K (.ref f)=true) (hv:mA name=none) (h:Q (.ref f,[.ref x]) s) :
  wpAny (model prog w) A (getMethod (.ref x) name pl) Q E s:=by
 obtain⟨od,J,hl⟩:=I.look;exact PySem.W.method_fn X J (plainGet_of hg).1 (plainGet_of hg).2 hf (beq_iff_eq.mp ht) (by show(lookIn name od).map (·.isSome)=some false;rw[hl,hv];rfl) h
theorem z8{ns:Ji}{Q:Unit->Shared->Prop}(X:K.In s.heap)(I:sL s.heap x dx C mA)
  (hs:PySem.W.findIn K (.ref C) "__setattr__"=some (some (.builtin "object.__setattr__"))) (hp:plainOver K C=true) (ht:takerIn K C name=some none) (hh:hasDictIn K C=true)
  (hw:PySem.Within mA ns) (hsz:ns.length<=sizeLine)
  (h:∀h',sL h' x dx C (λy=>if y=name then some v else mA y)->SameBut dx s.heap h'->Q .unit {s with heap:=h',toks:=s.toks+2}) :
  wpAny (model prog w) A (setAttr (.ref x) name v) Q E s:=by
 obtain⟨od,J,hl⟩:=I.look;refine PySem.W.set_plain X J hs (PySem.W.osa_open (s:={s with toks:=s.toks+1}) (r:=none) X J hp ht λb=>?_);obtain⟨cd,hc,hd'⟩:=PySem.W.any_some hh;have hx:s.heap.get? x=some ⟨.ref C,some dx,.plain,#[]⟩:=I.obj;refine wpAny_bind (wpAny_pure (wpAny_bind (wpAny_bind (wpAny_loadPart hx (wpAny_bind (PySem.W.Looks.here (s:={s with toks:=s.toks+1}) (PySem.W.looks_clsIn X hc) ?_))))));rw[hd'];refine wpAny_pure (a:=some dx) (wpAny_bind (wpAny_pure (wpAny_bind ?_)));refine wpAny_nsSet1 (s:={s with toks:=s.toks+1}) I.ns λh' hn2 hs2=>?_;obtain⟨oD,esD,epD,hoD,hdD,hcD⟩:=hn2.count (PySem.Within.cons name v hw);refine wpAny_bind (wpAny_lookBehind hoD (by rw[hdD];exact pastItsLine_dict (Nat.le_trans hcD (by rw[length_cons];omega))) ?_);exact wpAny_pure (h _ ⟨(hs2.2 _ (Ne.symm I.ne)).trans I.obj,hn2,I.ne⟩ hs2)
theorem xt{R:Result->Shared->Prop}{vs:Jg}{kw:List (Str×Value)}(X:K.In s.heap)(hm:makesIn K C=true)
  (hi:PySem.W.findIn K (.ref C) "__init__"=some (some (.ref f))) (hf:PySem.W.typeIn K (.ref f)=some (.type "function"))
  (h:codeAny (model prog w) (A.under (.builtin "type.__call__" ⟨.ref C::vs,kw⟩)) (.call (.ref f) ⟨.ref (s.heap.objs.size+1)::vs,kw⟩) (PySem.W.InitBack (s.heap.objs.size+1) R)
   {s with heap:=(s.heap.push emptyDict).push (instObj C s.heap.objs.size)}) :
  codeAny (model prog w) A (.call (.ref C) ⟨vs,kw⟩) R s:=by
 obtain⟨hh,g,d,t,os⟩:=s;exact PySem.W.make_core (PySem.W.makes_of X hm) (PySem.W.looks_findIn X hi) (λself=>PySem.W.bind_fn X self hf) (.inl rfl) h
end
def gL(f:Str)(v:V):List (Str×V)->List (Str×V)
 | []=>[(f,v)]
 |(g,x)::r=>if g=f then(g,v)::r else(g,x)::gL f v r
theorem kR(f g:Str)(v:V):∀fs:List (Str×V),(gL f v fs).lookup g=if g=f then some v else fs.lookup g
 | []=>by
  show List.lookup g [(f,v)]=_;by_cases h:g=f
  .have hb:(g==f)=true:=beq_iff_eq.mpr h;simp only[List.lookup,hb,if_pos h]
  .have hb:(g==f)=false:=beq_eq_false_iff_ne.mpr h;simp only[List.lookup,hb,if_neg h]
 |(k,x)::r=>by
  have ih:=kR f g v r;rw[show gL f v ((k,x)::r)=(if k=f then(k,v)::r else(k,x)::gL f v r)from rfl];by_cases hk:k=f
  .rw[if_pos hk];by_cases h:g=k
   .have hb:(g==k)=true:=beq_iff_eq.mpr h;simp only[List.lookup,hb,if_pos (h.trans hk)]
   .have hb:(g==k)=false:=beq_eq_false_iff_ne.mpr h;simp only[List.lookup,hb,if_neg (λe:g=f=>h (e.trans hk.symm))]
  .rw[if_neg hk];by_cases h:g=k
   .have hb:(g==k)=true:=beq_iff_eq.mpr h;simp only[List.lookup,hb,if_neg (λe:g=f=>hk (h.symm.trans e))]
   .have hb:(g==k)=false:=beq_eq_false_iff_ne.mpr h;simp only[List.lookup,hb];exact ih
theorem kr(f:Str)(v:V):∀fs:List (Str×V),f ∈(gL f v fs).map (·.1)/\∀g,g∈fs.map (·.1)->g ∈(gL f v fs).map (·.1)
 | []=>⟨by simp[gL],λg h=>by simp at h⟩
 |(k,x)::r=>by
  obtain⟨i1,i2⟩:=kr f v r;rw[show gL f v ((k,x)::r)=(if k=f then(k,v)::r else(k,x)::gL f v r)from rfl];by_cases hk:k=f
  .rw[if_pos hk];subst hk;exact⟨by simp,λg h=>by simpa using h⟩
  .rw[if_neg hk];refine⟨?_,λg h=>?_⟩
   .rw[map_cons];exact mem_cons_of_mem _ i1
   .rw[map_cons]at h ⊢;rcases mem_cons.mp h with e|e
    .exact mem_cons.mpr (.inl e)
    .exact mem_cons_of_mem _ (i2 g e)
theorem kT(f:Str)(v:V):∀fs:List (Str×V),(gL f v fs).length<=fs.length+1
 | []=>by simp[gL]
 |(k,x)::r=>by
  have ih:=kT f v r;rw[show gL f v ((k,x)::r)=(if k=f then(k,v)::r else(k,x)::gL f v r)from rfl];by_cases hk:k=f
  .rw[if_pos hk,length_cons,length_cons];omega
  .rw[if_neg hk,length_cons,length_cons];omega
theorem m9.some_of{v:V}{o:Option Value}(r:m9 (some v) o):∃u,o=some u/\bO v u:=by
 cases o with
 |none=>exact(show False from r).elim
 |some u=>exact⟨u,rfl,r⟩
theorem m9.none_of{o:Option Value}(r:m9 none o):o=none:=by
 cases o with
 |none=>rfl
 |some u=>exact(show False from r).elim
theorem vk{v:V}{u:Value}(r:bO v u):handedIn u=true:=by
 cases v with
 |non=>cases(show u=Value.none from r);rfl
 |bl b=>cases(show u=Value.bool b from r);rfl
 |int i=>obtain⟨t,e⟩:=(show ∃t,u=Value.int i t from r);cases e;rfl
 |str x=>obtain⟨t,e⟩:=(show ∃t,u=Value.str x t from r);cases e;rfl
 |byt b=>obtain⟨t,e⟩:=(show ∃t,u=Value.bytes b t from r);cases e;rfl
 |flt b=>obtain⟨t,e⟩:=(show ∃t,u=Value.float b t from r);cases e;rfl
 |ref a=>cases(show u=Value.ref a from r);rfl
 |ty n=>cases(show u=Value.type n from r);rfl
section
variable{P:Program}{w:World}{H H':Hp}{h h':Heap}{a C dx:Addr}{fs fs':List (Str×V)}
theorem oR(hok:HOk P w H h)(e:H a=some (.ins C dx fs)):∃mA,sL h a dx C mA/\(∀f,m9 (fs.lookup f) (mA f))/\PySem.Within mA (fs.map (·.1))/\fs.length<=1000/\H dx=some (.own a):=by
 obtain⟨d,z,ne,ob,mA,n,r,q⟩:=(show dX P w H h a (.ins C dx fs)from hok a _ e)
 exact⟨mA,⟨ob,n,ne⟩,r,q,z,d⟩
end
structure Cls(K:PySem.W.Frag)(C:Addr):Prop where
 pg:plainGet K C Str.empty=true
 hd:hasDictIn K C=true
 po:plainOver K C=true
 sa:PySem.W.findIn K (.ref C) "__setattr__"=some (some (.builtin "object.__setattr__"))
theorem Cls.get{K:PySem.W.Frag}{C:Addr}(c:Cls K C)(f:Str):plainGet K C f=true:=c.pg
def fu(K:PySem.W.Frag)(C:Addr)(f:Str):Prop:=PySem.W.findIn K (.ref C) f=some none
theorem fu.taker{K:PySem.W.Frag}{C:Addr}{f:Str}(n:fu K C f):takerIn K C f=some none:=by unfold takerIn;rw[show PySem.W.findIn K (.ref C) f=some none from n];rfl
structure BI(K:PySem.W.Frag)(C:Addr)(m:Str)(f:Addr):Prop where
 at_:PySem.W.findIn K (.ref C) m=some (some (.ref f))
 fn:PySem.W.isFn K (.ref f)=true
 kp:PySem.W.keepIn K (.ref f)=true
section
variable{X:Cx}{js:Jd}{Y:St}{H:Hp}{s:Shared}{a C dx:Addr}{fs:List (Str×V)}{f:Str}{v:V}{A:Around}{E:Ja}
theorem sB{b:Bool}{Q:Ja}(I:Inv X js Y H s)(e:H a=some (.ins C dx fs))(c:Cls X.K C)(n:fu X.K C f)(l:fs.lookup f=some v)
  (h:∀u s',Inv X js Y H s'->bO v u->Q u s'):wpAny (model X.prog X.w) A (getAttr (.ref a) f b) Q E s:=by
 obtain⟨mA,O,r,_,_,_⟩:=oR I.hok e;obtain⟨u,hu,ru⟩:=m9.some_of (v:=v) (o:=mA f) (by rw[<- l];exact r f);exact Bc I.kIn O (c.get f) c.hd n hu (vk ru) (h u _ (I.tok _) ru)
theorem sA{m:Str}{g:Addr}{pl:Sem Bool}{Q:Value×Jg->Shared->Prop}(I:Inv X js Y H s)(e:H a=some (.ins C dx fs))(c:Cls X.K C)(k:BI X.K C m g)(l:fs.lookup m=none)
  (h:Q (.ref g,[.ref a]) s):wpAny (model X.prog X.w) A (getMethod (.ref a) m pl) Q E s:=by
 obtain⟨mA,O,r,_,_,_⟩:=oR I.hok e;have hn:mA m=none:=m9.none_of (by rw[<- l];exact r m);exact xR I.kIn O (c.get m) k.at_ k.fn hn h
theorem rE{y:V}{u:Value}{Q:Unit->Shared->Prop}(I:Inv X js Y H s)(e:H a=some (.ins C dx fs))(c:Cls X.K C)(n:fu X.K C f)(hl:fs.length<1000)(ry:bO y u)
  (h:∀s',Inv X js Y (upd H a (.ins C dx (gL f y fs))) s'->Q .unit s'):wpAny (model X.prog X.w) A (setAttr (.ref a) f u) Q E s:=by
 obtain⟨mA,O,r,wi,_,ho⟩:=oR I.hok e;have hz:(fs.map (·.1)).length<=sizeLine:=by rw[length_map,sizeLine_eq];omega
 refine z8 I.kIn O c.sa c.po n.taker c.hd wi hz λh' O' sb=>h _ ?_;have hd:∃o,h'.get? dx=some o:=let⟨o,_,_,e',_⟩:=O'.ns;⟨o,e'⟩
 refine I.write (x:=a) (e:=dx) (by rw[e];exact True.intro) (.inr ho) (λb q hb z=>(sb.2 b hb).trans z) hd ?_;refine⟨by rw[aV O.ne];exact ho,?_,O.ne,O'.obj,_,O'.ns,λg=>?_,λg hg=>?_⟩
 .have:=kT f y fs;omega
 .show m9 ((gL f y fs).lookup g) (if g=f then some u else mA g);rw[kR];by_cases q:g=f
  .rw[if_pos q,if_pos q];exact ry
  .rw[if_neg q,if_neg q];exact r g
 .by_cases q:g=f
  .rw[q];exact(kr f y fs).1
  .refine(kr f y fs).2 g (wi g λz=>hg ?_);show(if g=f then some u else mA g)=none;rw[if_neg q];exact z
theorem Inv.made(I:Inv X js Y H s):Inv X js Y (upd (upd H s.heap.objs.size (.own (s.heap.objs.size+1))) (s.heap.objs.size+1) (.ins C s.heap.objs.size []))
  {s with heap:=(s.heap.push emptyDict).push (instObj C s.heap.objs.size)}:=by
 have e1:(s.heap.push emptyDict).get? s.heap.objs.size=some emptyDict:=get?_push_size s.heap rfl;have e2:((s.heap.push emptyDict).push (instObj C s.heap.objs.size)).get? (s.heap.objs.size+1)=some (instObj C s.heap.objs.size):=by
  have:=get?_push_size (s.heap.push emptyDict) (o:=instObj C s.heap.objs.size) rfl
  rwa [size_push]at this
 have e3:(s.heap.push emptyDict).Ns s.heap.objs.size (λ_=>none):=⟨emptyDict,#[],_,e1,rfl,(λe he=>absurd he (by simp)),λ_=>rfl⟩
 have I1:=I.laid (a:=s.heap.objs.size) (o:=.own (s.heap.objs.size+1)) (h':=s.heap.push emptyDict) (t':=s.toks) (λb u q=>get?_push_of_some _ q) (Nat.le_refl _) ⟨_,e1⟩;refine I1.laid (a:=s.heap.objs.size+1) (o:=.ins C s.heap.objs.size []) (t':=s.toks) (λb u q=>get?_push_of_some _ q) (Nat.le_of_eq (size_push _ _)) ?_;have ne:s.heap.objs.size≠s.heap.objs.size+1:=Nat.ne_of_lt (Nat.lt_succ_self _);refine⟨by rw[aV ne,cw],zero_le _,ne,e2,λ_=>none,(Heap.Ns1.of_empty e3).at λo q=>get?_push_of_some _ q,λ_=>True.intro,λy hy=>absurd rfl hy⟩
theorem BD{prog:Program}{w:World}{env:Env}{e:Expr}{f:Str}{pos:Pos}{s:Shared}{Q:Ja}(hb:attributeBase e f env (eval e env)=eval e env)
  (h:wpAny (model prog w) A (eval e env) (λo s₁=>wpAny (model prog w) A (getAttr o f true) Q E s₁) E s):wpAny (model prog w) A (eval (.Attribute e f pos) env) Q E s:=
 Attribute_any_ h (by rw[arm_eval_Attribute,hb])
end
def FQ(K:PySem.W.Frag)(ta:TE)(f:Str):TE:=λY H Q=>ta Y H λx H1=>∃a C dx fs v,x=.ref a/\H1 a=some (.ins C dx fs)/\Cls K C/\fu K C f/\fs.lookup f=some v/\Q v H1
def sFld(K:PySem.W.Frag)(ta tv:TE)(f:Str):TS:=λD Y H=>tv Y H λy H1=>ta Y H1 λx H2=>∃a C dx fs,x=.ref a/\H2 a=some (.ins C dx fs)/\Cls K C/\fu K C f/\fs.length<1000 /\
 D.nx Y (upd H2 a (.ins C dx (gL f y fs)))
section
variable{X:Cx}{o e value:Expr}{f:Str}{pos pos' tpos:Pos}{ta tv:TE}
theorem C3(he:PE X e ta)(hb:attributeBase e f X.env (eval e X.env)=eval e X.env):PE X (.Attribute e f pos) (FQ X.K ta f):=by intro js s Y H Q I h;refine BD hb (thn (he js s Y H _ I h) λu s1 zz=>?_);obtain⟨x,H1,I1,rx,a,C,dx,fs,v,ex,ea,c,n,l,q⟩:=zz;subst ex;obtain rfl:u=Value.ref a:=rx;exact sB I1 ea c n l λu' s2 I2 ru=>⟨v,H1,I2,ru,q⟩
theorem CQ(ha:PE X o ta)(hv:PE X value tv)(hs:swapsWith value (some (.Attribute o f pos')) pos.line X.env=pure false):PS X (.Assign [.Attribute o f pos'] value pos) (sFld X.K ta tv f):=by intro js s Y H D I h;refine plainObj_wpAny_Assign_Attribute (thn (hv js s Y H _ I h) λu s1 ⟨y,H1,I1,ry,q⟩=>thn (ha js s1 Y H1 _ I1 q) λov s2 zz=>?_) hs;obtain⟨x,H2,I2,rx,a,C,dx,fs,ex,ea,c,n,l,q2⟩:=zz;subst ex;obtain rfl:ov=Value.ref a:=rx;exact rE I2 ea c n l ry λs3 I3=>⟨Y,_,I3,q2⟩
end
end
section
structure er(k:Nat)(A:Around):Prop where
 hd:A.handled=none
 dp:A.depth+3*k+5<recursionLimit
 un:A.units+16*k+200<cLine
theorem er.mono{j k:Nat}{A:Around}(r:er k A)(h:j<=k):er j A:=⟨r.hd,by have:=r.dp;omega,by have:=r.un;omega⟩
theorem er.deeper{k:Nat}{A:Around}(r:er (k+1) A)(env:Env):er k (A.deeper env):=
 ⟨r.hd,by have:=r.dp;show A.depth+1+3*k+5<_;omega,by have:=r.un;show A.units+3+16*k+200<_;omega⟩
theorem sd{A:Around}{C:Addr}{us:Jg}{kw:List (Str×Value)}:(A.under (.builtin "type.__call__" ⟨.ref C::us,kw⟩)).depth=A.depth+1:=by
 first|rfl|simp[Around.under,Code.weight,Code.isCreation,Code.isGuard,Code.isCaller,Code.frames,Code.isFrame,guardIds]
theorem r_{A:Around}{C:Addr}{us:Jg}{kw:List (Str×Value)}:(A.under (.builtin "type.__call__" ⟨.ref C::us,kw⟩)).units=A.units+1:=by
 first|rfl|simp[Around.under,Code.cUnits,Code.frames,Code.isFrame]
theorem er.make{k:Nat}{A:Around}(r:er (k+1) A)(C:Addr)(us:Jg)(kw:List (Str×Value)):er k (A.under (.builtin "type.__call__" ⟨.ref C::us,kw⟩)):=
 ⟨r.hd,by have:=r.dp;rw[sd];omega,by have:=r.un;rw[r_];omega⟩
theorem er.depth{k:Nat}{A:Around}(r:er k A):A.depth<recursionLimit:=by have:=r.dp;omega
theorem er.units{k:Nat}{A:Around}(r:er k A):A.units+64<cLine:=by have:=r.un;omega
def Ch:TA:=λ_ H Q=>Q [] H
def sT(ta:TE)(tr:TA):TA:=λY H Q=>ta Y H λx H1=>tr Y H1 λxs H2=>Q (x::xs) H2
section
variable{X:Cx}{e:Expr}{es:List Expr}{te:TE}{t:TA}{pos:Pos}
theorem iA:PA X [] Ch:=λ_ _ _ _ H Q I h=>Calls.spliced_nil ⟨[],H,I,.nil,h⟩
theorem eR(ha:PE X e te)(hr:PA X es t)(hs:starEach (e::es) X.env=(false,eval e X.env)::starEach es X.env:=by rfl):PA X (e::es) (sT te t):=by intro pos js s Y H Q I h;rw[hs];show wpAny _ _ (spliced ((false,eval e X.env)::backTo pos (starEach es X.env))) _ _ s;refine Calls.spliced_cons (thn (ha js s Y H _ I h) λu s1 zz=>?_);obtain⟨x,H1,I1,r1,q1⟩:=zz;exact thn (hr pos js s1 Y H1 _ I1 q1) λus s2 ⟨xs,H2,I2,r2,q2⟩=>⟨x::xs,H2,I2,.cons r1 r2,q2⟩
def Ie(t:TA):TE:=λY H Q=>t Y H λxs H1=>xs.length<=sizeLine/\∀p,H1 p=none->Q (.ref p) (upd H1 p (.tup xs))
def Ij(t:TA):TE:=λY H Q=>t Y H λxs H1=>xs.length<=sizeLine/\∀p,H1 p=none->Q (.ref p) (upd H1 p (.lst xs))
theorem CY{x1}(h:PA X es t):PE X (.Tuple es x1 pos) (Ie t):=by intro js s Y H Q I hq;refine wpAny_Tuple_spliced (thn (h pos js s Y H _ I hq) λus s1 ⟨xs,H1,I1,r,z,q⟩=>⟨by rw[<- r.length];exact z,?_⟩);have hf:H1 s1.heap.objs.size=none:=I1.hok.fresh (Nat.le_refl _);refine⟨.ref s1.heap.objs.size,upd H1 s1.heap.objs.size (.tup xs),I1.laid (t':=s1.toks) (λb u e=>get?_push_of_some _ e) (Nat.le_refl _) ?_,rfl,q _ hf⟩;exact⟨z,us,r,⟨_,get?_push_size _ rfl,rfl,_,rfl⟩⟩
theorem C2(h:PA X es t):PE X (.List es pos) (Ij t):=by intro js s Y H Q I hq;refine wpAny_List_spliced (thn (h pos js s Y H _ I hq) λus s1 ⟨xs,H1,I1,r,z,q⟩=>⟨by rw[<- r.length];exact z,?_⟩);have hf:H1 s1.heap.objs.size=none:=I1.hok.fresh (Nat.le_refl _);refine⟨.ref s1.heap.objs.size,upd H1 s1.heap.objs.size (.lst xs),I1.laid (t':=s1.toks) (λb u e=>get?_push_of_some _ e) (Nat.le_refl _) ?_,rfl,q _ hf⟩;exact⟨z,us,0,r,get?_push_size _ rfl⟩
end
abbrev Sp:=Jl->Hp->VK->XK->Prop
abbrev CXT:=List Env->Hp->Shared->XK->Ja
structure sM(P:Program)(w:World)(K:PySem.W.Frag)(mg:Jb)(base:Heap)(A:Around)(outer:List Env)(s:Shared)(H:Hp):Prop where
 frames:A.frames=some outer
 mod:Mod K mg base
 bs:∀b o,base.get? b=some o->s.heap.get? b=some o/\H b=none
 bsz:base.objs.size<=s.heap.objs.size
 funs:s.heap.FunFrames base outer
 frf:∀b∈frs outer,H b=none
 hok:HOk P w H s.heap
 bare:AllBare s.gens
def CE(outer:List Env)(P:Program)(w:World)(H:Hp)(s:Shared)(Q:VK)(u:Value)(s':Shared):Prop:=
 ∃v H',s'.os=s.os/\AllBare s'.gens/\Un (frs outer) [] H H' s.heap s'.heap/\HOk P w H' s'.heap/\bO v u/\Q v H'
def CR(CX:CXT)(outer:List Env)(P:Program)(w:World)(H:Hp)(s:Shared)(Q:VK)(E:XK)(r:Result)(s':Shared):Prop:=
 match r with
 |.ok (.ret u)=>CE outer P w H s Q u s'
 |.ok _=>False
 |.error e=>CX outer H s E e s'
structure da(P:Program)(w:World)(K:PySem.W.Frag)(mg:Jb)(base:Heap)(CX:CXT)(k:Nat)(f:Addr)(fd:FuncData)(ps:Ji)(sp:Sp):Prop where
 len:∀vs H Q E,sp vs H Q E->vs.length=ps.length
 run:∀(A:Around) (outer:List Env) (s:Shared) (H:Hp) (args:Args) (us:Jg) (vs:Jl) (Q:VK) (E:XK),er k A->sM P w K mg base A outer s H->BindsTo s fd args (ps.zip us)->a5 vs us->sp vs H Q E ->
  codeAny (model P w) A (.call (.ref f) args) (CR CX outer P w H s Q E) s
theorem da.mono{P:Program}{w:World}{K:PySem.W.Frag}{mg:Jb}{base:Heap}{CX:CXT}{j k:Nat}{f:Addr}{fd:FuncData}{ps:Ji}{sp:Sp}(F:da P w K mg base CX j f fd ps sp)(h:j<=k) :
  da P w K mg base CX k f fd ps sp:=⟨F.len,λA outer s H args us vs Q E hr=>F.run A outer s H args us vs Q E (hr.mono h)⟩
theorem da.imp{P:Program}{w:World}{K:PySem.W.Frag}{mg:Jb}{base:Heap}{CX:CXT}{k:Nat}{f:Addr}{fd:FuncData}{ps:Ji}{sp sp':Sp}(F:da P w K mg base CX k f fd ps sp)
  (h:∀vs H Q E,sp' vs H Q E->sp vs H Q E):da P w K mg base CX k f fd ps sp':=
 ⟨λvs H Q E q=>F.len vs H Q E (h _ _ _ _ q),λA outer s H args us vs Q E hr he hb hv hs=>F.run A outer s H args us vs Q E hr he hb hv (h _ _ _ _ hs)⟩
theorem sM.make{P:Program}{w:World}{K:PySem.W.Frag}{mg:Jb}{base:Heap}{A:Around}{outer:List Env}{s:Shared}{H:Hp}(e:sM P w K mg base A outer s H)(C:Addr)(us:Jg)(kw:List (Str×Value)) :
  sM P w K mg base (A.under (.builtin "type.__call__" ⟨.ref C::us,kw⟩)) outer s H:=⟨by first|exact e.frames |(simpa[Around.under,Code.envs,Code.isFrame,pushEnvs]using e.frames),e.mod,e.bs,e.bsz,e.funs,e.frf,e.hok,e.bare⟩
section
variable{X:Cx}{js:Jd}{Y:St}{H:Hp}{s s':Shared}
theorem Inv.env0(I:Inv X js Y H s):sM X.prog X.w X.K X.mg X.base X.A X.stack s H:=
 ⟨I.ok.frames,I.ok.mod,I.bs,Nat.le_trans I.ok.bsz I.sz,I.stack,I.stkFree,I.hok,I.bare⟩
theorem Inv.after{Q:VK}{u:Value}(I:Inv X js Y H s)(h:CE X.stack X.prog X.w H s Q u s'):EP X js Y Q u s':=by obtain⟨v,H',os,bare,un,hok,r,q⟩:=h;obtain⟨hh,g,d,t,os'⟩:=s';obtain rfl:os'=s.os:=os;exact⟨v,H',I.call (h':=hh) (g':=g) (d':=d) (t':=t) (ch:=[]) un hok bare (λb z=>absurd z (by simp)),r,q⟩
end
def fe(K:PySem.W.Frag)(fd:FuncData)(ps:Ji)(ds:Jg):Prop:=
 ∀(s:Shared) (us:Jg),K.In s.heap->(us++ds).length=ps.length->BindsTo s fd ⟨us,[]⟩ (ps.zip (us++ds))
theorem fe.all{K:PySem.W.Frag}{fd:FuncData}{ps:Ji}(h:∀us:Jg,us.length=ps.length->bindArgs fd ⟨us,[]⟩=pure (ps.zip us)):fe K fd ps []:=λs us _ hl=>by rw[append_nil]at hl ⊢;exact .of_eq (h us hl)
section
variable{X:Cx}{CX:CXT}{k:Nat}{f C:Addr}{fd:FuncData}{ps:Ji}{sp:Sp}{dvs:Jl}{ds:Jg}{E:XK}{x m:Str}{p pos apos:Pos}{e o:Expr}{es:List Expr}{ta:TE}{t:TA}
structure Mk(K:PySem.W.Frag)(C f:Addr):Prop where
 makes:makesIn K C=true
 init:PySem.W.findIn K (.ref C) "__init__"=some (some (.ref f))
 fn:PySem.W.isFn K (.ref f)=true
 kp:PySem.W.keepIn K (.ref C)=true
end
def PK(X:Cx)(kws:List Keyword)(t:TA):Prop:=
 ∀(pos:Pos) (js:Jd) (s:Shared) (Y:St) (H:Hp) (Q:Jl->Jm),Inv X js Y H s->t Y H Q->wpAny (model X.prog X.w) X.A (evalAll ((backToKw pos (keywordEach kws X.env)).map (·.2))) (AP X js Y Q) X.xe s
section
variable{X:Cx}{CX:CXT}{k:Nat}{f C:Addr}{fd:FuncData}{ps ks:Ji}{sp:Sp}{E:XK}{x m:Str}{p pos apos kpos:Pos}{e o:Expr}{es:List Expr}{kws:List Keyword}{te ta:TE}{t tk:TA}{nm:Option Str}
theorem wu:PK X [] Ch:=λ_ _ _ _ H Q I h=>wpAny_evalAll_nil ⟨[],H,I,.nil,h⟩
theorem tL(ha:PE X e te)(hr:PK X kws t):PK X (⟨nm,e,kpos⟩::kws) (sT te t):=by intro pos js s Y H Q I h;show wpAny _ _ (evalAll ((do let v <- eval e X.env;standAt pos;pure v)::(backToKw pos (keywordEach kws X.env)).map (·.2))) _ _ s;refine wpAny_evalAll_cons (wpAny_bind (thn (ha js s Y H _ I h) λu s1 ⟨x,H1,I1,r1,q1⟩=>wpAny_bind (wpAny_standAt (wpAny_pure ?_))));exact thn (hr pos js s1 Y H1 _ I1 q1) λus s2 ⟨xs,H2,I2,r2,q2⟩=>⟨x::xs,H2,I2,.cons r1 r2,q2⟩
variable{g:Jg->Jg->Jg}{gV:Jl->Jl->Jl}
end
structure dC(N P:Ji)(sc:Scope):Prop where
 kind:sc.kind=.function
 co:sc.isCoroutine=false
 gen:sc.isGenerator=false
 nd:N.Nodup
 pre:N.take P.length=P
 par:∀x∈P,sc.names.lookup x=some .local\/sc.names.lookup x=some .cell
 nofree:∀y∈sc.names,y.2≠.free
theorem nV{kindOf:Str->Option NameKind}{x:Str}:∀{binds:List (Str×Value)}{m:Jb},(∀v,(x,v)∉ binds)->bindL kindOf binds m x=m x
 | [],_,_=>rfl
 |(n,v)::r,m,h=>by
  unfold bindL;rw[nV λw hw=>h w (mem_cons_of_mem _ hw)];split
  .have:x≠n:=by rintro rfl;exact h v mem_cons_self
   simp[this]
  .rfl
theorem nX{kindOf:Str->Option NameKind}{x:Str}:∀{binds:List (Str×Value)}{m:Jb},(∀v,(x,v)∉ binds)->bindC kindOf binds m x=m x
 | [],_,_=>rfl
 |(n,v)::r,m,h=>by
  unfold bindC;rw[nX λw hw=>h w (mem_cons_of_mem _ hw)];split
  .rfl
  .have:x≠n:=by rintro rfl;exact h v mem_cons_self
   simp[this]
theorem nW{kindOf:Str->Option NameKind}{x:Str}{v:Value}:∀{P:Ji}{vs:Jg}{i:Nat}{m:Jb},P.Nodup->P[i]?=some x->vs[i]?=some v->kindOf x=some .local ->
  bindL kindOf (P.zip vs) m x=some v
 | [],_,_,_,_,h,_,_|_::_,[],_,_,_,_,h,_=>by simp at h
 |p::P,w::vs,0,m,nd,h1,h2,hk=>by simp at h1 h2;subst h1;subst h2;show bindL kindOf ((p,w)::P.zip vs) m p=_;unfold bindL;rw[nV λv hv=>(nodup_cons.mp nd).1 (List.of_mem_zip hv).1,if_pos hk];simp
 |p::P,w::vs,i+1,m,nd,h1,h2,hk=>by show bindL kindOf ((p,w)::P.zip vs) m x=_;unfold bindL;exact nW (i:=i) (nodup_cons.mp nd).2 (by simpa using h1) (by simpa using h2) hk
theorem nY{kindOf:Str->Option NameKind}{x:Str}{v:Value}:∀{P:Ji}{vs:Jg}{i:Nat}{m:Jb},P.Nodup->P[i]?=some x->vs[i]?=some v->kindOf x≠some .local ->
  bindC kindOf (P.zip vs) m x=some v
 | [],_,_,_,_,h,_,_|_::_,[],_,_,_,_,h,_=>by simp at h
 |p::P,w::vs,0,m,nd,h1,h2,hk=>by simp at h1 h2;subst h1;subst h2;show bindC kindOf ((p,w)::P.zip vs) m p=_;unfold bindC;rw[nX λv hv=>(nodup_cons.mp nd).1 (List.of_mem_zip hv).1,if_neg hk];simp
 |p::P,w::vs,i+1,m,nd,h1,h2,hk=>by show bindC kindOf ((p,w)::P.zip vs) m x=_;unfold bindC;exact nY (i:=i) (nodup_cons.mp nd).2 (by simpa using h1) (by simpa using h2) hk
def start(N:Ji)(vs:Jl):St:=vs.map some++replicate (N.length-vs.length) none
def ef(CX:CXT)(P:Program)(w:World)(K:PySem.W.Frag)(mg:Jb)(base:Heap)(N:Ji)(qual:Str)(scope:Scope)(f:Addr)(cd:Value)(A:Around)(outer:List Env)(s:Shared)(H:Hp)(E:XK):Cx where
 prog:=P
 w:=w
 K:=K
 mg:=mg
 base:=base
 A:=A.deeper (envOfC qual scope s.heap.objs.size f cd)
 N:=N
 s₀:=s
 H₀:=H
 env:=envOfC qual scope s.heap.objs.size f cd
 outer:=outer
 stack:=envOfC qual scope s.heap.objs.size f cd::outer
 ex:=[]
 calm:=true
 fn:=λ_=>true
 pn:=[]
 xe:=λe s'=>wpAny (model P w) (A.deeper (envOfC qual scope s.heap.objs.size f cd)) (leaving (envOfC qual scope s.heap.objs.size f cd) e) (λ_ s''=>CX outer H s E e s'') (λe' s''=>CX outer H s E e' s'') s'
theorem qO{sc:Scope}{n:Nat}{x:Str}(h:sc.names.lookup x=some .cell):∃c,(cellsFrom n sc.names []).lookup x=some c:=by have q:=PySem.W.cellsFrom_some sc.names n [] (.inl h);exact Option.isSome_iff_exists.mp q
theorem vh{CX:CXT}{P:Program}{w:World}{K:PySem.W.Frag}{mg:Jb}{base:Heap}{N ps:Ji}{qual:Str}{scope:Scope}{f:Addr}{cd:Value}{A:Around}{outer:List Env}{s s1:Shared}{H:Hp}{E:XK}{us:Jg}{vs:Jl}
  (S:dC N ps scope) (hd:A.handled=none) (e0:sM P w K mg base A outer s H) (hl:vs.length=ps.length) (r:a5 vs us)
  (x:InCallC s s.heap.objs.size (bindL (envOfC qual scope s.heap.objs.size f cd).kindOf (ps.zip us) λ_=>none) (cellsFrom (s.heap.objs.size+1) scope.names []) (bindC (envOfC qual scope s.heap.objs.size f cd).kindOf (ps.zip us) λ_=>none) s1) :
  Inv (ef CX P w K mg base N qual scope f cd A outer s H E) [] (start N vs) H s1:=by
 have hpl:ps.length<=N.length:=by have:=congrArg List.length S.pre;rw[length_take]at this;omega
 obtain⟨h1,tk,rfl,hk⟩:=x.done;have noA:∀b:Addr,b ∉(ef CX P w K mg base N qual scope f cd A outer s H E).ex:=λb z=>absurd (show b ∈([]:Jh)from z) (by simp);refine ⟨⟨e0.mod,S.kind,rfl,rfl,Nat.le_refl _,λy z c h1 h2=>?_,λy hy=>?_,λy c _ h=>?_,λ_=>hd,Around.frames_deeper e0.frames,.inr ⟨rfl,rfl⟩,λb z=>absurd z (noA b),e0.bs,e0.bsz,λb _ _=>noA b,λb z=>absurd z (noA b),e0.funs,e0.frf⟩,
  rfl,e0.bare,Un.kept hk,⟨_,x.toInCall.ns,λi y v h1 h2 h3=>?_⟩,λy c h=>⟨_,x.cell y c h⟩,e0.hok.fresh (Nat.le_refl _),λy c h=>?_,λp hp=>absurd (show p ∈([]:Jd)from hp) (by simp),e0.hok.kept hk,?_⟩
 .exact name_of_addr x.apart (PySem.mem_of_lookup h1) (PySem.mem_of_lookup h2)
 .have hy:scope.names.lookup y=some .cell\/scope.names.lookup y=some .free:=hy;rcases hy with hy|hy
  .exact qO hy
  .exact absurd rfl (S.nofree _ (PySem.mem_of_lookup hy))
 .exact Nat.le_of_lt (x.above y c (PySem.mem_of_lookup h))
 .have hi:i<vs.length:=by
   unfold start at h2;by_cases hi:i<vs.length
   .exact hi
   .rw[getElem?_append_right (by simpa using hi)]at h2;rw[getElem?_replicate]at h2;split at h2<;>cases h2
  have ha:vs[i]?=some v:=by
   unfold start at h2;rw[getElem?_append_left (by simpa using hi),getElem?_map]at h2;cases e:vs[i]? with
   |none=>rw[e]at h2;cases h2
   |some a=>rw[e]at h2;cases h2;rfl
  obtain⟨u,hu,rv⟩:=r.get ha;have hp:ps[i]?=some y:=by rw[<- S.pre,List.getElem?_take_of_lt ()];exact h1
  have ndP:ps.Nodup:=by rw[<- S.pre];exact S.nd.sublist (List.take_sublist _ _)
  refine⟨u,rv,?_⟩;rcases S.par y (List.mem_of_getElem? hp)with k|k
  .exact .inl ⟨k,nW ndP hp hu k⟩
  .obtain⟨c,e⟩:=qO (n:=s.heap.objs.size+1) k;refine .inr ⟨.inl k,c,e,?_⟩;have q:=x.cell y c e;rw[nY ndP hp hu (by show scope.names.lookup y≠_;rw[k];decide)]at q;exact q
 .exact .inl (e0.hok.fresh (Nat.le_of_lt (x.above y c (PySem.mem_of_lookup h))))
 .unfold start;show _=N.length;rw[length_append,length_map,List.length_replicate];omega
def Cx.low(X:Cx)(g:Str->Bool):Cx:={X with fn:=g}
def IQ(g:Str->Bool)(X:Cx)(st:List Stmt)(t:TS):Prop:=
 ∀(js:Jd) (s:Shared) (Y:St) (H:Hp) (D:Ends),Inv X js Y H s->t D Y H->wpAny (model X.prog X.w) X.A (execs st X.env) (SP (X.low g) js D) X.xe s
theorem D7(g:Str->Bool){CX:CXT}{P:Program}{w:World}{K:PySem.W.Frag}{mg:Jb}{base:Heap}{k:Nat}{f:Addr}{name qual:Str}{params:Arguments}{body:List Stmt}{scope:Scope}{dV kV doc pm cdv ct oc:Value}{an od:Option Addr}
  {osl:Array (Option Value)}{N ps:Ji}{sp:Sp} (lk:K.lookup f=some ⟨oc,od,.func (PySem.W.fnOf name qual params body scope dV kV doc pm an cdv ct),osl⟩) (hcd:PySem.W.codeIn K cdv qual=true) (S:dC N ps scope)
  (len:∀vs H Q E,sp vs H Q E->vs.length=ps.length)
  (hbody:∀ (A:Around) (outer:List Env) (s:Shared) (H:Hp) (vs:Jl) (Q:VK) (E:XK),er k (A.deeper (envOfC qual scope s.heap.objs.size f cdv))->sp vs H Q E ->
   ∃t,IQ g (ef CX P w K mg base N qual scope f cdv A outer s H E) body t/\t {nx:=λ_ H'=>Q .non H',rt:=Q} (start N vs) H) :
  da P w K mg base CX (k+1) f (PySem.W.fnOf name qual params body scope dV kV doc pm an cdv ct) ps sp:=by
 refine⟨len,λA outer s H args us vs Q E hr e0 hb r hsp=>?_⟩;have hl:=len _ _ _ _ hsp;have KX:K.In s.heap:=e0.mod.kin.keeps λb o e=>(e0.bs b o e).1;have lim:s.heap.NoLimit:=e0.mod.nolimit.keeps λb o e=>(e0.bs b o e).1;have hkind:∀y∈ps.zip us,scope.names.lookup y.1=some .local \/(scope.names.lookup y.1=some .cell/\((cellsFrom (s.heap.objs.size+1) scope.names []).lookup y.1).isSome=true):=λhz1 hy=>by
  obtain⟨n,v⟩:=hz1;rcases S.par n (List.of_mem_zip hy).1 with q|q
  .exact .inl q
  .exact .inr ⟨q,PySem.W.cellsFrom_some _ _ _ (.inl q)⟩
 refine codeAny_call_function hr.depth (KX _ _ lk) rfl S.co S.gen rfl (PySem.W.codeRec_of KX hcd) (hb _ _ _ _ ?_);refine wpAny_newFunctionEnv_cells S.kind hkind λenv he s1 x=>?_;subst he;refine⟨lim.keeps x.toInCall.keep,codeAny_func ?_⟩;obtain⟨t,ht,hq⟩:=hbody A outer s H vs Q E (hr.deeper _) hsp;have I:Inv (ef CX P w K mg base N qual scope f cdv A outer s H E) [] (start N vs) H s1:=vh S hr.hd e0 hl r x;refine wpAny_mono (ht [] s1 (start N vs) H _ I hq) (λfl s' hs=>?_) λe s' hs=>hs;have fin:∀{σ':St}{H':Hp}{v:V}{u:Value},Inv ((ef CX P w K mg base N qual scope f cdv A outer s H E).low g) [] σ' H' s'->bO v u->Q v H'->CE outer P w H s Q u s':=
  λ{σ' H' v u} J rv q=>⟨v,H',J.os,J.bare,J.base,J.hok,rv,q⟩
 cases fl with
 |ret u=>obtain⟨v,σ',H',J,rv,q⟩:=hs;exact fin J rv q
 |next=>obtain⟨σ',H',J,q⟩:=hs;exact fin (v:=V.non) (u:=Value.none) J rfl q
 |brk=>obtain⟨_,_,_,q⟩:=hs;exact False.elim q
 |cont=>obtain⟨_,_,_,q⟩:=hs;exact False.elim q
theorem xT{CX:CXT}{P:Program}{w:World}{K:PySem.W.Frag}{mg:Jb}{base:Heap}{k:Nat}{f:Addr}{name qual:Str}{params:Arguments}{body:List Stmt}{scope:Scope}{dV kV doc pm cdv ct oc:Value}{an od:Option Addr}
  {osl:Array (Option Value)}{N ps:Ji}{sp:Sp} (lk:K.lookup f=some ⟨oc,od,.func (PySem.W.fnOf name qual params body scope dV kV doc pm an cdv ct),osl⟩) (hcd:PySem.W.codeIn K cdv qual=true) (S:dC N ps scope)
  (len:∀vs H Q E,sp vs H Q E->vs.length=ps.length)
  (hbody:∀ (A:Around) (outer:List Env) (s:Shared) (H:Hp) (vs:Jl) (Q:VK) (E:XK),er k (A.deeper (envOfC qual scope s.heap.objs.size f cdv))->sp vs H Q E ->
   ∃t,PSs (ef CX P w K mg base N qual scope f cdv A outer s H E) body t/\t {nx:=λ_ H'=>Q .non H',rt:=Q} (start N vs) H) :
  da P w K mg base CX (k+1) f (PySem.W.fnOf name qual params body scope dV kV doc pm an cdv ct) ps sp:=D7 (λ_=>true) lk hcd S len hbody
end
section
section
variable{X:Cx}{x:Str}{p pos:Pos}{e:Expr}{es:List Expr}{t:TA}{id T:String}{r:Jl->Hp->VK->Prop}
def tCB(r:Jl->Hp->VK->Prop)(t:TA):TE:=λY H Q=>t Y H λvs H1=>r vs H1 Q
theorem lI(hc:fQ X (.builtin id) r)(hg:Gl X x)(hm:X.mg x=none)(hv:bootBuiltins x=some (.builtin id))(ha:PA X (e::es) t)(hn:x≠"__name__":=by decide)(hdb:(x ==("__debug__":Str))=false:=by decide)
  (he:starEach (e::es) X.env=(false,eval e X.env)::starEach es X.env:=by rfl) (hpl:(backTo pos (starEach es X.env)).any (·.1)=false:=by rfl):PE X (.Call (.Name x p) (e::es) [] pos) (tCB r t):=by
 intro js s Y H Q I h;refine wpAny_Call_Name_kw (fP I hg hm hv ?_ hn hdb);exact PyProof.Rows.callWith_builtin1 (thn (ha pos js s Y H _ I h) λus s1 ⟨vs,H1,I1,r1,q1⟩=>hc js s1 Y H1 vs us Q I1 r1 q1) he hpl
theorem nH(hc:fQ X (.type T) r)(hg:Gl X x)(hm:X.mg x=none)(hv:bootBuiltins x=some (.type T))(ha:PA X (e::es) t)(hn:x≠"__name__":=by decide)(hdb:(x ==("__debug__":Str))=false:=by decide)
  (he:starEach (e::es) X.env=(false,eval e X.env)::starEach es X.env:=by rfl) (hpl:(backTo pos (starEach es X.env)).any (·.1)=false:=by rfl):PE X (.Call (.Name x p) (e::es) [] pos) (tCB r t):=by
 intro js s Y H Q I h;refine wpAny_Call_Name_kw (fP I hg hm hv ?_ hn hdb);exact PyProof.Rows.callWith_type1 (thn (ha pos js s Y H _ I h) λus s1 ⟨vs,H1,I1,r1,q1⟩=>hc js s1 Y H1 vs us Q I1 r1 q1) he hpl
end
end
end L2
namespace HT
open PySem PyProof.Rows
def lexLt:Jf->Jf->Bool
 | [],[]=>false
 | [],_::_=>true
 |_::_,[]=>false
 |x::xs,y::ys=>if x=y then lexLt xs ys else decide (x<y)
theorem se(x y:Int)(xs ys:Jf):lexLt (x::xs) (y::ys)=if x=y then lexLt xs ys else decide (x<y):=rfl
theorem mY:lexLt [] []=false:=rfl
theorem lW(y:Int)(ys:Jf):lexLt [] (y::ys)=true:=rfl
theorem lX(x:Int)(xs:Jf):lexLt (x::xs) []=false:=rfl
theorem yC(A:Around)(s:Shared)(a:Int)(t:Tok)(c:Int)(u:Tok):∃e,SeqAt.EqAt A s (.int a t) (.int c u) e/\(e=true↔a=c):=
 ⟨(a==c),SeqAt.EqAt.int_int a t c u,by simp⟩
theorem wa(A:Around)(s:Shared)(a:Int)(t:Tok)(c:Int)(u:Tok)(prog:Program)(w:World)(E:Ja)(Q:Ja)(h:Q (.bool (decide (a<c))) s) :
  wpAny (model prog w) A (richCompare .Lt (.int a t) (.int c u)) Q E s:=
 (PyProof.Rows.lt_int h:wpAny (model prog w) A (compareOp .Lt (.int a t) (.int c u)) Q E s)
section
open PySem.SeqAt
open PySem.AutoSeq1 (wpAny_loadPart')
open PySem.MeetsSeq PySem.MeetsSeq2 PySem.MeetsSeq3
theorem mV(l b:Addr)(items items2:Jk)(n n2:Nat)(dd dd2:Option Addr)(sl sl2:Array (Option Value))(ns ms:Jf)(hi:IntsAre items.toList ns)(hj:IntsAre items2.toList ms) :
  Meets (Builtin.«tuple.__lt__» ⟨[.ref l,.ref b],[]⟩)
   (λ_ R s=>s.heap.get? l=some { cls:=.type "tuple", dict:=dd,data:=.seq items n,slots:=sl }/\s.heap.get? b=some { cls:=.type "tuple", dict:=dd2,data:=.seq items2 n2,slots:=sl2 } /\
    R (.ok (.ret (.bool (lexLt ns ms)))) s):=
 .of_wp λprog w A R s h=>by
  obtain⟨hp,g,d,tk,os⟩:=s;obtain⟨hl,hb,h⟩:=h;have f2:=AutoSeq1.sub_tuple_tuple;have z1:items.size=ns.length:=by rw[<- hi.length];simp
  have z2:items2.size=ms.length:=by rw[<- hj.length];simp
  wp_walk using wpAny_loadPart' hl,wpAny_loadPart' hb,wpAny_forIn_list _ (λaI b s'=>b.1=none/\s'=⟨hp,g,d,tk,os⟩/\∃ (vs ws:Jg) (ns' ms':Jf),aI=vs.zip ws /\
   IntsAre vs ns'/\IntsAre ws ms'/\ns'.length+items2.size=ms'.length+items.size/\R (.ok (.ret (.bool (lexLt ns' ms')))) ⟨hp,g,d,tk,os⟩) _
  case turn=>
   rintro⟨y,x⟩ aI b s' ⟨hb',rfl,vs,ws,ns',ms',hz,hvi,hwi,hlen,hR⟩;cases hvi with
   |nil=>rw[List.zip_nil_left]at hz;cases hz
   |cons a t hvi'=>
    cases hwi with
    |nil=>rw[List.zip_nil_right]at hz;cases hz
    |cons c u hwi'=>
     rw[zip_cons_cons]at hz;injection hz with hyx hrest;injection hyx with hy hx;subst hy hx;rw[se]at hR;simp only[length_cons]at hlen;obtain⟨e,he,hiff⟩:=yC A.in1 ⟨hp,g,d,tk,os⟩ a t c u;refine wpAny_bind (he prog w _ _ ?_);cases e with
     |true=>
      rw[if_pos (hiff.mp rfl)]at hR
      wp_walk
      exact⟨rfl,rfl,_,_,_,_,hrest,hvi',hwi',by omega,hR⟩
     |false=>
      rw[if_neg (λq=>absurd (hiff.mpr q) Bool.false_ne_true)]at hR;have hri:=wa A.in1 ⟨hp,g,d,tk,os⟩ a t c u prog w
      wp_walk using hri
      exact⟨_,rfl,by simpa using hR⟩
  case fin=>
   rintro⟨b1,b2⟩ s' ⟨hb',rfl,vs,ws,ns',ms',hz,hvi,hwi,hlen,hR⟩;simp only at hb';subst hb';have hv:lexLt ns' ms'=decide (items.size<items2.size):=by
    cases hvi with
    |nil=>
     cases hwi with
     |nil=>simp only[List.length_nil]at hlen;rw[mY];exact(decide_eq_false ()).symm
     |cons c u hw=>simp only[List.length_nil,length_cons]at hlen;rw[lW];exact(decide_eq_true ()).symm
    |cons a t hv=>
     cases hwi with
     |nil=>simp only[List.length_nil,length_cons]at hlen;rw[lX];exact(decide_eq_false ()).symm
     |cons c u hw=>rw[zip_cons_cons]at hz;cases hz
   rw[hv]at hR
   wp_walk
   exact⟨_,rfl,by simpa[Builtin.Tuple.tupleCompareSizes]using hR⟩
  case h=>
   exact⟨rfl,rfl,items.toList,items2.toList,ns,ms,rfl,hi,hj,by omega,h⟩
end
section
variable{prog:Program}{w:World}{A:Around}{E:Ja}{s:Shared}
theorem lt_tupInts{l b:Addr}{items items2:Jk}{ns ms:Jf}{Q:Ja}(hl:IsTup s.heap l items)(hb:IsTup s.heap b items2)(hi:IntsAre items.toList ns)(hj:IntsAre items2.toList ms)
  (hu:A.units<cLine) (h:Q (.bool (lexLt ns ms)) s):wpAny (model prog w) A (compareOp .Lt (.ref l) (.ref b)) Q E s:=by
 obtain⟨⟨cls,dd,data,sl⟩,ho,hc,n,hd⟩:=id hl;obtain⟨⟨cls2,dd2,data2,sl2⟩,ho2,hc2,n2,hd2⟩:=id hb;simp only at hc hd hc2 hd2;subst hc hd hc2 hd2;exact richCompare_meets_room (op:=.Lt) ⟨_,ho,rfl⟩ ⟨_,ho2,rfl⟩ PySem.F.slot_tuple_lt PySem.F.entry_tuple_lt (PySem.F.args_tuple_lt_2 _ _) (mV l b items items2 n n2 dd dd2 sl sl2 ns ms hi hj)
  ⟨ho,ho2,show Value.bool (lexLt ns ms)≠ Value.notImplemented/\Q (.bool (lexLt ns ms)) s from⟨(λx=>nomatch x),h⟩⟩ hu
def sIx(n d:Nat):Jj->Nat
 |none=>d
 |some v=>if v<0 then(v+(n:Int)).toNat else min v.toNat n
theorem sIx_none(n d:Nat):sIx n d none=d:=rfl
theorem sIx_nat(n d k:Nat):sIx n d (some (k:Int))=min k n:=by show(if(k:Int)<0 then((k:Int)+(n:Int)).toNat else min (k:Int).toNat n)=min k n;rw[if_neg (),toNat_natCast]
end
end HT
namespace L2
open PySem PySem.Spec PyProof.Rows
section
abbrev TO:=St->Hp->(Jj->Jm)->Prop
def PO(X:Cx)(e:Option Expr)(t:TO):Prop:=
 ∀(js:Jd) (s:Shared) (Y:St) (H:Hp) (Q:Jj->Jm),Inv X js Y H s->t Y H Q ->
  wpAny (model X.prog X.w) X.A (evalPart e X.env) (λu s'=>∃o H',Inv X js Y H' s'/\IsPart u o/\Q o H') X.xe s
def zW:TO:=λ_ H Q=>Q none H
def FN(t:TE):TO:=λY H Q=>t Y H λx H1=>∃i,x=.int i/\Q (some i) H1
theorem l7{ns:Jf}:∀{us:Jg},a5 (ns.map V.int) us->IntsAre us ns:=by
 induction ns with
 |nil=>intro us r;rw[map_nil]at r;cases r;exact .nil
 |cons n ns ih=>
  intro us r;rw[map_cons]at r;cases r with
  |cons r1 r2=>obtain⟨t,e⟩:=r1;subst e;exact .cons n t (ih r2)
section
variable{X:Cx}{e:Expr}{te:TE}{lo hi:Option Expr}{tl th:TO}{pos p2:Pos}
theorem Au:PO X none zW:=by intro js s Y H Q I h;rw[evalPart_none];exact wpAny_pure ⟨none,H,I,.none,h⟩
theorem At(h:PE X e te):PO X (some e) (FN te):=by intro js s Y H Q I hw;rw[evalPart_some];refine thn (h js s Y H _ I hw) λu s1 hz1=>?_;obtain⟨x,H1,I1,r1,q1⟩:=hz1;obtain⟨i,rfl,q⟩:=q1;obtain⟨t,rfl⟩:=r1;exact⟨some i,H1,I1,.int i t,q⟩
def SlR(X:Cx)(r:V->Jj->Jj->Hp->VK->Prop):Prop:=
 ∀(js:Jd) (s:Shared) (Y:St) (H:Hp) (x:V) (v vl vu:Value) (lo hi:Jj) (sl:Addr) (Q:VK),Inv X js Y H s->bO x v->s.heap.IsSliceOf sl vl vu .none->IsPart vl lo->IsPart vu hi->r x lo hi H Q ->
  ∃T id,typeLookup (.type T) "__getitem__"=pure (some (.builtin id))/\s.TypeIs v T/\wpAny (model X.prog X.w) X.A (getItem v (.ref sl)) (EP X js Y Q) X.xe s
def tSl(r:V->Jj->Jj->Hp->VK->Prop)(te:TE)(tl th:TO):TE:=λY H Q=>te Y H λx H1=>tl Y H1 λl H2=>th Y H2 λu H3=>r x l u H3 Q
theorem wA{r:V->Jj->Jj->Hp->VK->Prop}(hr:SlR X r)(he:PE X e te)(hl:PO X lo tl)(hu:PO X hi th):PE X (.Subscript e (.Slice lo hi none p2) pos) (tSl r te tl th):=by intro js s Y H Q I h;refine Subscript_ (thn (he js s Y H _ I h) λv s1 zz=>?_);obtain⟨x,H1,I1,r1,q1⟩:=zz;refine wpAny_Slice (thn (hl js s1 Y H1 _ I1 q1) λvl s2 ⟨l,H2,I2,pl,q2⟩=>thn (hu js s2 Y H2 _ I2 q2) λvu s3 zz=>?_);obtain⟨u,H3,I3,pu,q3⟩:=zz;rw[evalPart_none];refine wpAny_pure ?_;have I4:Inv X js Y H3 {s3 with heap:=s3.heap.push {cls:=.type "slice",data:=.fields #[vl,vu,.none]}}:=I3.kept (t':=s3.toks) λb ob q=>get?_push_of_some _ q;obtain⟨T,id,hT,ht,hg⟩:=hr js {s3 with heap:=s3.heap.push {cls:=.type "slice",data:=.fields #[vl,vu,.none]}} Y H3 x v vl vu l u s3.heap.objs.size Q I4 r1 (Heap.IsSliceOf.new ..) pl pu q3;show wpAny (model X.prog X.w) X.A (subscriptTail e (.Slice lo hi none p2) v (.ref s3.heap.objs.size)) (EP X js Y Q) X.xe {s3 with heap:=s3.heap.push {cls:=.type "slice",data:=.fields #[vl,vu,.none]}};exact tail_any (ops:=[.ref s3.heap.objs.size,v]) ht hT hg (by with_unfolding_all rfl)
def yK(xs:Jl)(lo hi:Jj):Jl:=(xs.drop (HT.sIx xs.length 0 lo)).take (HT.sIx xs.length xs.length hi-HT.sIx xs.length 0 lo)
theorem qL(xs:Jl)(lo hi:Jj):(yK xs lo hi).length<=xs.length:=by unfold yK;rw[length_take,List.length_drop];omega
def F5(K:PySem.W.Frag):R2:=λx y H Q=>∃a b ns ms,x=.ref a/\y=.ref b/\SqT K H a (ns.map V.int)/\SqT K H b (ms.map V.int)/\Q (.bl (HT.lexLt ns ms)) H
theorem C9(hu:X.A.units<cLine):OpR X (compareOp .Lt) (F5 X.K):=by intro js s Y H x y v u Q I rx ry h;obtain⟨a,b,ns,ms,rfl,rfl,ha,hb,q⟩:=h;cases rx;cases ry;obtain⟨its,r1,p1,_⟩:=I.tuple ha;obtain⟨its2,r2,p2,_⟩:=I.tuple hb;have i1:IntsAre its.toArray.toList ns:=l7 r1;have i2:IntsAre its2.toArray.toList ms:=l7 r2;exact HT.lt_tupInts p1 p2 i1 i2 hu ⟨.bl (HT.lexLt ns ms),H,I,rfl,q⟩
end
end
section
def ixN(n:Nat)(i:Int):Option Nat:=if 0<=i then(if i<n then some i.toNat else none)else if -(n:Int)<= i then some (i+n).toNat else none
def atI{α:Type}(xs:List α)(i:Int):Option α:=(ixN xs.length i).bind λj=>xs[j]?
theorem ua{n:Nat}{i:Int}{j:Nat}(h:ixN n i=some j):seqIndex? i n=some j/\j<n/\-(n:Int)<= i/\i<n:=by
 unfold ixN at h;by_cases h0:0<=i
 .rw[if_pos h0]at h;by_cases h1:i<n
  .rw[if_pos h1]at h;have e:i.toNat=j:=Option.some.inj h;exact⟨by rw[seqIndex_of h0 h1,e],by omega,by omega,h1⟩
  .rw[if_neg h1]at h;cases h
 .rw[if_neg h0]at h;by_cases h1:-(n:Int)<= i
  .rw[if_pos h1]at h;have e:(i+n).toNat=j:=Option.some.inj h;exact⟨by rw[seqIndex_neg () h1,e],by omega,h1,by omega⟩
  .rw[if_neg h1]at h;cases h
theorem pq{α:Type}{xs:List α}{i:Int}{v:α}(h:atI xs i=some v):∃j,seqIndex? i xs.length=some j/\xs[j]?=some v/\j<xs.length/\-(xs.length:Int)<= i/\i<xs.length:=by
 unfold atI at h;cases e:ixN xs.length i with
 |none=>rw[e]at h;cases h
 |some j=>rw[e]at h;obtain⟨h1,h2,h3,h4⟩:=ua e;exact⟨j,h1,h,h2,h3,h4⟩
def lw(b:Expr):Prop:=∀o i,subscripted b false o i=operate [o,i] (getItem o i)
def IxR(X:Cx)(r:R2):Prop:=
 ∀(value slice:Expr) (js:Jd) (s:Shared) (Y:St) (H:Hp) (x y:V) (v u:Value) (Q:VK),Inv X js Y H s->bO x v->bO y u->r x y H Q ->
  subscripted slice false v u=operate [v,u] (getItem v u)->wpAny (model X.prog X.w) X.A (subscriptTail value slice v u) (EP X js Y Q) X.xe s
def MtR(X:Cx)(id:String)(r:V->Jl->Hp->VK->Prop):Prop:=
 ∀(js:Jd) (s:Shared) (Y:St) (H:Hp) (x:V) (xs:Jl) (v:Value) (us:Jg) (Q:VK),Inv X js Y H s->bO x v->a5 xs us->r x xs H Q ->
  wpAny (model X.prog X.w) X.A (call (.builtin id) (v::us)) (EP X js Y Q) X.xe s
section
variable{X:Cx}{a b:Expr}{ta tb:TE}{pos:Pos}
theorem IxR.or{r r':R2}(h:IxR X r)(h':IxR X r'):IxR X (λx y H Q=>r x y H Q\/r' x y H Q):=by
 intro value slice js s Y H x y v u Q I rx ry q hs;rcases q with q|q
 .exact h value slice js s Y H x y v u Q I rx ry q hs
 .exact h' value slice js s Y H x y v u Q I rx ry q hs
theorem Gb{r:R2}(hr:IxR X r)(ha:PE X a ta)(hb:PE X b tb)(hs:lw b):PE X (.Subscript a b pos) (tOp r ta tb):=by intro js s Y H Q I h;exact Subscript_ (EC ha hb I h λv u s2 x y H2 I2 rx ry q=>hr a b js s2 Y H2 x y v u Q I2 rx ry q (hs _ _))
def CI(K:PySem.W.Frag):R2:=λx y H Q=>∃p xs i v,x=.ref p/\y=.int i/\SqL K H p xs/\atI xs i=some v/\Q v H
def CG(K:PySem.W.Frag):R2:=λx y H Q=>∃p xs i v,x=.ref p/\y=.int i/\SqT K H p xs/\atI xs i=some v/\Q v H
def CH:R2:=λx y H Q=>∃z i c,x=.str z/\y=.int i/\z.length<=sizeLine/\atI z.cps.toList i=some c/\Q (.str ⟨#[c]⟩) H
theorem A8:IxR X (CI X.K):=by
 intro value slice js s Y H x y v u Q I rx ry h hs;obtain⟨p,xs,i,z,rfl,rfl,hq,he,q⟩:=h;cases rx;obtain⟨t,rfl⟩:=ry;obtain⟨its,r,pl,hz⟩:=I.list hq;obtain⟨j,h1,h2,h3,h4,h5⟩:=pq he;obtain⟨w,ew,rw'⟩:=r.get h2;have hl:=r.length;have hn:=kn;have fin:EP X js Y Q w s:=⟨z,H,I,rw',q⟩
 by_cases h0:0<=i
 .have hj:i.toNat=j:=by rw[seqIndex_of h0 h5]at h1;exact Option.some.inj h1
  exact item_listR pl.isList h0 () (by rw[hj];simpa using ew) fin hs
 .have hj:(i+(its.toArray.size:Int)).toNat=j:=by rw[seqIndex_neg () h4]at h1;rw[size_toArray,<- hl];exact Option.some.inj h1
  exact subscriptTail_builtinR (x:=w) pl.isList.typeIs slot_list_getitem.lookup
   (wpAny_getItem_list_neg (Q:=λr s'=>r=w/\EP X js Y Q r s') pl.isList () (by rw[size_toArray]<;>omega) () (by rw[hj];simpa using ew) ⟨rfl,fin⟩) hs
theorem D0:IxR X (CG X.K):=by
 intro value slice js s Y H x y v u Q I rx ry h hs;obtain⟨p,xs,i,z,rfl,rfl,hq,he,q⟩:=h;cases rx;obtain⟨t,rfl⟩:=ry;obtain⟨its,r,pl,hz⟩:=I.tuple hq;obtain⟨j,h1,h2,h3,h4,h5⟩:=pq he;obtain⟨w,ew,rw'⟩:=r.get h2;have hl:=r.length;have hn:=kn;have fin:EP X js Y Q w s:=⟨z,H,I,rw',q⟩
 exact subscriptTail_builtinR (x:=w) pl.typeIs slot_tuple_getitem.lookup
  (getItem_tuple (j:=j) (Q:=λr s'=>r=w/\EP X js Y Q r s') pl () () (by rw[size_toArray,<- hl];exact h1) (by simpa using ew) ⟨rfl,fin⟩) hs
theorem D1:IxR X CH:=by
 intro value slice js s Y H x y v u Q I rx ry h hs;obtain⟨z,i,c,rfl,rfl,hz,he,q⟩:=h;obtain⟨t,rfl⟩:=rx;obtain⟨t',rfl⟩:=ry;obtain⟨j,h1,h2,h3,h4,h5⟩:=pq he;have hl:z.cps.toList.length=z.length:=by simp[Str.length]
 rw[hl]at h1 h4 h5;have hn:=kn;exact tail_any (typeIs_str s z t) slot_str_getitem.lookup (getItem_str (c:=c) (by
  have e1:decide (i < -(2 ^ 63:Int))=false:=decide_eq_false ();have e2:decide (i >= 2 ^ 63)=false:=decide_eq_false ();rw[e1,e2,Bool.or_false]) (by rw[h1];simpa using h2) ⟨.str ⟨#[c]⟩,H,I.tok _,⟨_,rfl⟩,q⟩) hs
def rIx(K:PySem.W.Frag):R2:=λx y H Q=>CI K x y H Q\/CG K x y H Q\/CH x y H Q
theorem D2:IxR X (rIx X.K):=A8.or (D0.or D1)
theorem r9(its:Jg)(n j:Nat)(u:Value):Obj.mapSeq (·.setIfInBounds j u) {cls:=.type "list",data:=.seq its.toArray n}={cls:=.type "list",data:=.seq (its.set j u).toArray n}:=by simp[Obj.mapSeq]
theorem Inv.lst{js:Jd}{Y:St}{H:Hp}{s:Shared}{p:Addr}{xs:Jl}(I:Inv X js Y H s)(h:H p=some (.lst xs)) :
  ∃(its:Jg) (n:Nat),a5 xs its/\s.heap.get? p=some {cls:=.type "list",data:=.seq its.toArray n}/\xs.length<=sizeLine:=by
 obtain⟨z,its,n,r,e⟩:=I.hok p _ h;exact⟨its,n,r,e,z⟩
theorem Inv.lstUpd{js:Jd}{Y:St}{H:Hp}{s:Shared}{p:Addr}{xs ys:Jl}{its its':Jg}{n n':Nat}{f:Obj->Obj}(I:Inv X js Y H s)(h:H p=some (.lst xs))
  (ho:s.heap.get? p=some {cls:=.type "list",data:=.seq its.toArray n}) (hf:f {cls:=.type "list",data:=.seq its.toArray n}={cls:=.type "list",data:=.seq its'.toArray n'}) (r:a5 ys its') (hz:ys.length<=sizeLine) (t:Nat) :
  Inv X js Y (upd H p (.lst ys)) {s with heap:=s.heap.update p f,toks:=t}:=by
 have e:(s.heap.update p f).get? p=some {cls:=.type "list",data:=.seq its'.toArray n'}:=by rw[get?_update_self f ho (by rw[hf]<;>rfl),hf]
 refine I.write (x:=p) (e:=p) (by rw[h];trivial) (.inl rfl) (λb u hb q=>(get?_update_other _ _ (Ne.symm hb)).trans q) ⟨_,e⟩ ?_;exact⟨hz,its',n',r,e⟩
def F4:V->V->V->Hp->(Jm)->Prop:=λo i v H Q=>∃p xs k j,o=.ref p/\i=.int k/\H p=some (.lst xs)/\ixN xs.length k=some j/\Q (upd H p (.lst (xs.set j v)))
theorem vZ:Hx X F4:=by
 intro js s Y H o i v ov iv u Q I ro ri rv h;obtain⟨p,xs,k,j,rfl,rfl,hp,hj,q⟩:=h;cases ro;obtain⟨t,rfl⟩:=ri;obtain⟨its,n,r,ho,hz⟩:=I.lst hp;obtain⟨h1,h2,h3,h4⟩:=ua hj;have hl:=r.length;have hn:=kn;have I':Inv X js Y (upd H p (.lst (xs.set j v))) {s with heap:=s.heap.update p (Obj.mapSeq (·.setIfInBounds j u))}:=
  I.lstUpd hp ho (r9 its n j u) (r.set rv j) (by rw[length_set];exact hz) s.toks
 by_cases h0:0<=k
 .have hk:k.toNat=j:=by rw[seqIndex_of h0 h4]at h1;exact Option.some.inj h1
  exact PySem.W.ki_setAt ho h0 () (by rw[size_toArray,<- hl];exact h4) (by rw[hk];exact⟨_,I',q⟩)
 .have hk:(k+(its.toArray.size:Int)).toNat=j:=by rw[seqIndex_neg () h3]at h1;rw[size_toArray,<- hl];exact Option.some.inj h1
  exact PySem.W.ki_setBack ho () (by rw[size_toArray,<- hl];exact h3) () (by rw[hk];exact⟨_,I',q⟩)
theorem n_(lo hi:Jj)(n:Nat):(sliceBounds lo hi none n).1=((HT.sIx n 0 lo:Nat):Int)/\(sliceBounds lo hi none n).2.1=((HT.sIx n n hi:Nat):Int)/\(sliceBounds lo hi none n).2.2=1:=by
 refine⟨?_,?_,rfl⟩
 .cases lo with
  |none=>simp[sliceBounds,HT.sIx]
  |some i=>
   simp only[sliceBounds,HT.sIx,Option.getD_none,show(1:Int)>0 by decide,if_true];by_cases h:i<0
   .simp only[h,if_true]<;>omega
   .simp only[h,if_false]<;>omega
 .cases hi with
  |none=>simp[sliceBounds,HT.sIx]
  |some i=>
   simp only[sliceBounds,HT.sIx,Option.getD_none,show(1:Int)>0 by decide,if_true];by_cases h:i<0
   .simp only[h,if_true]<;>omega
   .simp only[h,if_false]<;>omega
theorem mW(its:Jg)(lo hi:Jj):slicePick its.toArray lo hi none=((its.drop (HT.sIx its.length 0 lo)).take (HT.sIx its.length its.length hi-HT.sIx its.length 0 lo)).toArray:=by obtain⟨h1,h2,h3⟩:=n_ lo hi its.toArray.size;unfold slicePick;rw[h1,h2,h3];simp only[sliceRange_one,pick_run,size_toArray]<;>rfl
def Ip(K:PySem.W.Frag):V->Jj->Jj->Hp->VK->Prop:=λx lo hi H Q=>∃a xs,x=.ref a/\SqL K H a xs/\∀p,H p=none->Q (.ref p) (upd H p (.lst (yK xs lo hi)))
theorem z5:SlR X (Ip X.K):=by intro js s Y H x v vl vu lo hi sl Q I rx hs pl pu h;obtain⟨a,xs,rfl,hx,q⟩:=h;cases rx;obtain⟨its,r,ht,hz⟩:=I.list hx;have hlen:=r.length;refine⟨"list",_,slot_list_getitem.lookup,ht.isList.typeIs,?_⟩;refine wpAny_getItem_list_slice ht.isList hs pl pu .none (by simp) ?_ (by rw[size_toArray]<;>omega);rw[mW,<- hlen];refine⟨.ref s.heap.objs.size,_,I.laid (t':=s.toks) (o:=.lst (yK xs lo hi)) (λb ob q=>get?_push_of_some _ q) (Nat.le_refl _) ?_,rfl,q _ (I.hok.fresh (Nat.le_refl _))⟩;exact⟨Nat.le_trans (qL xs lo hi) hz,_,0,(r.drop (HT.sIx xs.length 0 lo)).take (HT.sIx xs.length xs.length hi-HT.sIx xs.length 0 lo),get?_push_size _ rfl⟩
theorem pf:fQ X (.builtin "len") (λxs H Q=>∃p ys,xs=[.ref p]/\(SqL X.K H p ys\/SqT X.K H p ys)/\Q (.int ys.length) H):=by
 intro js s Y H xs us Q I r h;obtain⟨p,ys,rfl,hq,q⟩:=h;obtain⟨u,rfl,rx⟩:=fw r;cases rx;have hn:=kn;rcases hq with hq|hq
 .obtain⟨its,r',pl,hz⟩:=I.list hq;have hlen:=r'.length;exact Calls.call_len_list pl.isList (by simp only[size_toArray]<;>omega) ⟨.int ys.length,H,I.tok _,⟨s.toks+1,by rw[size_toArray,hlen]⟩,q⟩
 .obtain⟨its,r',pl,hz⟩:=I.tuple hq;have hlen:=r'.length;exact len_tuple pl (by simp only[size_toArray]<;>omega) ⟨.int ys.length,H,I.tok _,⟨s.toks+1,by rw[size_toArray,hlen]⟩,q⟩
theorem pd:fQ X (.type "list") (λxs H Q=>∃p ys,xs=[.ref p]/\(SqL X.K H p ys\/SqT X.K H p ys)/\∀l,H l=none->Q (.ref l) (upd H l (.lst ys))):=by
 intro js s Y H xs us Q I r h;obtain⟨p,ys,rfl,hq,q⟩:=h;obtain⟨u,rfl,rx⟩:=fw r;cases rx;have fin:∀(its:Jg),a5 ys its->ys.length<=sizeLine->∀(h':Heap) (c':Nat),(∀b o',s.heap.get? b=some o'->h'.get? b=some o')->
   h'.get? s.heap.objs.size=some {cls:=.type "list",dict:=none,data:=.seq its.toArray c',slots:=#[]}->EP X js Y Q (.ref s.heap.objs.size) {s with heap:=h'}:=λits r' hz h' c' kp e=>
  ⟨.ref s.heap.objs.size,_,I.laid (t':=s.toks) kp (Nat.le_refl _) (show dX X.prog X.w _ h' _ (.lst ys)from⟨hz,its,c',r',e⟩),rfl,q _ (I.hok.fresh (Nat.le_refl _))⟩
 rcases hq with hq|hq
 .obtain⟨its,r',pl,hz⟩:=I.list hq;have hlen:=r'.length;obtain⟨o,ho,hc,n,hd⟩:=pl.isList;exact call_list_seq p (.inl rfl) ho hc hd (λh' c' kp e=>fin its r' hz h' c' kp e) (by simp only[size_toArray]<;>omega)
 .obtain⟨its,r',pl,hz⟩:=I.tuple hq;have hlen:=r'.length;obtain⟨o,ho,hc,n,hd⟩:=pl;exact call_list_seq p (.inr rfl) ho hc hd (λh' c' kp e=>fin its r' hz h' c' kp e) (by simp only[size_toArray]<;>omega)
theorem m5:fQ X (.type "tuple") (λxs H Q=>∃p ys,xs=[.ref p]/\((SqL X.K H p ys/\∀l,H l=none->Q (.ref l) (upd H l (.tup ys)))\/(SqT X.K H p ys/\Q (.ref p) H))):=by
 intro js s Y H xs us Q I r h;obtain⟨p,ys,rfl,h⟩:=h;obtain⟨u,rfl,rx⟩:=fw r;cases rx;rcases h with⟨hq,q⟩ |⟨hq,q⟩
 .obtain⟨its,r',pl,hz⟩:=I.list hq;have hlen:=r'.length;refine call_tuple_list pl.isList (λh' kp=>?_) (by simp only[size_toArray]<;>omega);have I1:Inv X js Y H {s with heap:=h'}:=I.kept (t':=s.toks) kp;have I2:Inv X js Y (upd H h'.objs.size (.tup ys)) {s with heap:=h'.push {cls:=.type "tuple",data:=.seq its.toArray}}:=
   I1.laid (t':=s.toks) (λb o e=>get?_push_of_some _ e) (Nat.le_refl _) (show dX X.prog X.w _ _ _ (.tup ys)from⟨hz,its,r',IsTup.new _ _⟩)
  exact⟨.ref h'.objs.size,_,I2,rfl,q _ (I1.hok.fresh (Nat.le_refl _))⟩
 .obtain⟨its,r',pl,hz⟩:=I.tuple hq;exact call_tuple_same pl ⟨.ref p,H,I,rfl,q⟩
def tyV(K:PySem.W.Frag)(T:String)(x:V)(H:Hp):Prop:=match x with
 |.str _=>T="str"
 |.int _=>T="int"
 |.ref p=>(T="list" /\ ∃xs,SqL K H p xs)\/(T="tuple" /\ ∃o,K.lookup p=some o/\o.cls=.type "tuple" /\ o.dict=none)\/
   (T="dict" /\((∃kvs,H p=some (.dK kvs))\/ ∃kvs,H p=some (.dT kvs)))\/(T="set" /\ ∃S n,H p=some (.set S n))
 |_=>False
theorem Cd{js:Jd}{Y:St}{H:Hp}{s:Shared}{T:String}{x:V}{v:Value}(I:Inv X js Y H s)(r:bO x v)(ty:tyV X.K T x H) :
  s.TypeIs v T/\∀a,v=.ref a->∃ob,s.heap.get? a=some ob/\ob.dict=none:=by
 cases x with
 |str z=>obtain⟨t,rfl⟩:=r;cases(show T="str" from ty);exact⟨typeIs_str s z t,λ_ e=>nomatch e⟩
 |int i=>obtain⟨t,rfl⟩:=r;cases(show T="int" from ty);exact⟨typeIs_int s i t,λ_ e=>nomatch e⟩
 |ref p=>
  cases r;rcases ty with⟨rfl,xs,hq⟩ |⟨rfl,o,hk,hc,hd⟩ |⟨rfl,hk⟩ |⟨rfl,S,n,hk⟩
  .obtain⟨its,_,pl,_⟩:=I.list hq;refine⟨pl.isList.typeIs,λa e=>?_⟩;cases e;obtain⟨o,n,e,c,hd,_⟩:=pl;exact⟨o,e,hd⟩
  .refine⟨⟨o,I.kIn p o hk,hc⟩,λa e=>?_⟩;cases e;exact⟨o,I.kIn _ o hk,hd⟩
  .have z:∃o,s.heap.get? p=some o/\o.ExactDict:=by
    rcases hk with⟨kvs,hk⟩ |⟨kvs,hk⟩
    .obtain⟨_,_,_,_,o,_,_,e,ex,_⟩:=I.hok p _ hk;exact⟨o,e,ex⟩
    .obtain⟨_,_,_,_,o,_,_,e,ex,_⟩:=I.hok p _ hk;exact⟨o,e,ex⟩
   obtain⟨o,e,ex⟩:=z;refine⟨⟨o,e,ex.1⟩,λa e2=>?_⟩;cases e2;exact⟨o,e,ex.2.1⟩
  .obtain⟨o,_,_,_,e,ex,_⟩:=I.hok p _ hk;refine⟨⟨o,e,ex.1⟩,λa e2=>?_⟩;cases e2;exact⟨o,e,ex.2.1⟩
 |_=>exact False.elim ty
def tBM(K:PySem.W.Frag)(T:String)(r:V->Jl->Hp->VK->Prop)(to:TE)(t:TA):TE:=λY H Q=>to Y H λx H1=>tyV K T x H1/\t Y H1 λxs H2=>r x xs H2 Q
variable{o e:Expr}{es:List Expr}{to:TE}{t:TA}{name:Str}{apos cpos:Pos}{T id:String}{r:V->Jl->Hp->VK->Prop}
theorem Gc(pa:PlainAttrs T)(slot:Slot T name id)(hty:typeOf (.builtin id)=pure (.type "method_descriptor"))(hm:MtR X id r)(ho:PE X o to)(ha:PA X (e::es) t)
  (hbase:attributeBase o name X.env (eval o X.env)=eval o X.env:=by rfl)
  (hfew:((backTo cpos (starEach (e::es) X.env)).all (λx=>!x.1) && (backToKw cpos (keywordEach [] X.env)).all (λx=>x.1.isSome)
   && decide ((e::es).length+([]:List Keyword).length+(if([]:List Keyword).isEmpty then 0 else 1)<30))=true:=by rfl)
  (hline:(apos.endLine==cpos.line)=true:=by rfl) (hs:starEach (e::es) X.env=(false,eval e X.env)::starEach es X.env:=by rfl) (hplain:(backTo cpos (starEach es X.env)).any (·.1)=false:=by rfl) :
  PE X (.Call (.Attribute o name apos) (e::es) [] cpos) (tBM X.K T r to t):=by
 intro js s Y H Q I h;refine wpAny_Call_method_late hbase hfew hline rfl (thn (ho js s Y H _ I h) λv s1 zz=>?_);obtain⟨x,H1,I1,r1,ty,q1⟩:=zz;obtain⟨h1,h2⟩:=Cd I1 r1 ty;refine⟨T,id,pa,slot,hty,h1,h2,?_⟩;have hA:=ha cpos js s1 Y H1 _ I1 q1;rw[hs]at hA ⊢;refine Calls.callWith_builtin (by show(false ||(backTo cpos (starEach es X.env)).any (·.1))=false;rw[hplain]<;>rfl) (Calls.evalArgs_plain ?_);exact thn hA λus s2 ⟨vs,H2,I2,r2,q2⟩=>hm js s2 Y H2 x vs v us Q I2 r1 r2 q2
end
end
section
def MtM(X:Cx)(id:String)(r:V->Jl->Hp->VK->Prop):Prop:=
 ∀(js:Jd) (s:Shared) (Y:St) (H:Hp) (x:V) (xs:Jl) (v:Value) (us:Jg) (Q:VK),Inv X js Y H s->bO x v->a5 xs us->r x xs H Q ->
  wpAny (model X.prog X.w) X.A (call (.builtin id) (v::us)) (EP X js Y Q) X.xe s
theorem a5.one:∀{x:V}{us:Jg},a5 [x] us->∃u,us=[u]/\bO x u
 |_,_,.cons r .nil=>⟨_,rfl,r⟩
section
variable{X:Cx}{js:Jd}{Y:St}{H:Hp}{s:Shared}{l b:Addr}{xs ys zs:Jl}
theorem Inv.lset{its its':Jg}{n:Nat}{f:Jk->Jk}{t':Nat}(I:Inv X js Y H s)(hH:H l=some (.lst xs))
  (e:s.heap.get? l=some {cls:=.type "list",data:=.seq its.toArray n}) (hf:f its.toArray=its'.toArray) (hv:a5 ys its') (hz:ys.length<=sizeLine) :
  Inv X js Y (upd H l (.lst ys)) {s with heap:=s.heap.update l (Obj.mapSeq f),toks:=t'}:=by
 have q:=PySem.IsL.update e f;rw[hf]at q;refine I.write (x:=l) (e:=l) (by rw[hH];exact trivial) (.inl rfl) (λb' u hb hu=>(get?_update_other s.heap (Obj.mapSeq f) (Ne.symm hb)).trans hu) ⟨_,q⟩ ?_;exact⟨hz,its',_,hv,q⟩
theorem Inv.lnew{its:Jg}{t':Nat}(I:Inv X js Y H s)(hv:a5 ys its)(hz:ys.length<=sizeLine) :
  Inv X js Y (upd H s.heap.objs.size (.lst ys)) {s with heap:=s.heap.push {cls:=.type "list",data:=.seq its.toArray},toks:=t'}:=
 I.laid (λ_ _ q=>get?_push_of_some _ q) (Nat.le_refl _) ⟨hz,its,0,hv,get?_push_size _ rfl⟩
theorem Inv.fresh(I:Inv X js Y H s):H s.heap.objs.size=none:=I.hok.fresh (Nat.le_refl _)
theorem Inv.lstM(I:Inv X js Y H s)(hH:H l=some (.lst xs)):xs.length<=sizeLine/\∃(its:Jg) (n:Nat),a5 xs its/\xs.length=its.length/\s.heap.get? l=some {cls:=.type "list",data:=.seq its.toArray n}:=by obtain⟨z,its,n,r,e⟩:=I.hok l _ hH;exact⟨z,its,n,r,r.length,e⟩
end
section
variable{X:Cx}
def Am:V->Jl->Hp->VK->Prop:=λx vs H Q=>∃l xs y,x=.ref l/\vs=[y]/\H l=some (.lst xs)/\xs.length<sizeLine/\Q .non (upd H l (.lst (xs++[y])))
theorem nM:MtM X "list.append" Am:=by intro js s Y H x vs v us Q I rx rv h;obtain⟨l,xs,y,rfl,rfl,hH,hz,q⟩:=h;cases rx;obtain⟨u,rfl,ru⟩:=rv.one;obtain⟨z,its,n,r,hl,e⟩:=I.lstM hH;refine call_meets F.slot_list_append ⟨_,e,rfl⟩ F.entry_list_append (F.args_list_append_2 _ _) (PySem.list_append l its.toArray n u (by rw[size_toArray];omega)) ⟨e,?_⟩;refine⟨.non,_,I.lset (its':=its++[u]) hH e (by simp) (r.append (.cons ru .nil)) ?_,rfl,q⟩;rw[length_append,List.length_singleton];omega
end
end
end L2
namespace Att
open PySem PySem.W PySem.Calls PyProof.Rows
theorem k7{P:Params}{h:Heap}:∀(ns:Jf) (vs:Jg),WellAll P h vs (ns.map WData.int)->IntsAre vs ns:=by
 intro ns
 induction ns with
 |nil=>intro vs w;rw[map_nil]at w;cases w;exact .nil
 |cons n ns ih=>
  intro vs w;rw[map_cons]at w;cases w with
  |cons a b=>cases a;exact .cons _ _ (ih _ b)
theorem uI{l:OpenLaw}{n:Nat}(hn:l.most=some n){P:Params}{h:Heap}{args:List WData}{vals:Jg}
  (hpre:l.row.toRowW.claim.pre args=true) (hwl:WellAll P h vals args) :
  ∃a vs ns,vals=[Value.ref a]/\args=[WData.list (ns.map WData.int)]/\h.get? a=some {cls:=.type "list",data:=.seq vs.toArray}/\IntsAre vs ns/\ns.length<=n:=by
 have hsh:WShape.hasAll [] args [.list .int]=true:=(pre_splitW hpre).1;have hc:l.pre.holds [] {args:=args}=true:=(pre_splitW hpre).2;obtain⟨d,r,rfl,h1,h2⟩:=hasAllW_cons hsh;obtain rfl:=hasAllW_nil h2;obtain⟨xs,rfl,h3⟩:=hasW_list h1;obtain⟨ns,rfl⟩:=items_int h3;have hlen:ns.length<=n:=by
  unfold OpenLaw.pre at hc;have h4:(WTm.not (.lt (.lit (.int (n:Int))) (.len (.arg 0)))).holds [] {args:=[.list (ns.map .int)]}=true:=by have h4:=(holds_andW hc).1;rw[hn]at h4;exact h4
  have h5:=condW_of h4 (w_not (w_lt w_lit (w_len_list (w_arg rfl))));rw[length_map]at h5;refine Nat.le_of_not_lt λq=>?_;have q':(n:Int) <((ns.length:Nat):Int):=by omega
  first
   |(rw[decide_eq_true q']at h5;exact absurd h5 (by decide))
   |(simp at h5;omega)
 cases hwl with
 |cons w1 w2=>
  cases w2;cases w1 with
  |list ho hall=>exact⟨_,_,ns,rfl,rfl,ho,k7 ns _ hall,hlen⟩
theorem uR(l:OpenLaw)(args:List WData):l.row.toRowW.claim.post args (.bool true) args=true:=
 postW_of (r:=l.row.toRowW) (X:=(true==true))
  (show WShape.has [] (.bool true) .bool=true by first|rfl|decide|simp[WShape.has,WShape.arms,WShape.armsAll])
  (show(WTm.eq .res (.lit (.bool true))).value [] {args:=args,res:=some (.bool true),after:=args}=some (.bool (true==true))from w_eq_bool (w_res rfl) w_lit) rfl
theorem attach_call{l:OpenLaw}{n:Nat}{q:Program}{loose:Ji}{XP:(Jb)->Heap->Prop}{YP:World->Heap->Prop}{d:DefRec}
  (hn:l.most=some n) (hdf:d.params.defaults=[])
  (call:∀ (w:World) (s₀ s₁:Shared) (mg mb:Jb) (fa:Addr) (o:Obj) (pm cd doc:Value) (a:Addr) (vs:Jg) (ns:Jf),
   Ground q loose [] XP w s₀ mg mb s₁.heap->YP w s₁.heap ->
   s₁.heap.get? fa=some o->o.data=.func (docDef d.name d.params d.body d.scope pm cd doc)->s₁.heap.CodeRec cd d.name->mg d.name=some (.ref fa)->
   s₁.heap.get? a=some {cls:=.type "list",data:=.seq vs.toArray}->IntsAre vs ns->ns.length<=n->s₁.gens=#[]->
   codeAny (model l.prog w) callerA (.call (.ref fa) ⟨[.ref a],[]⟩) (λr s'=>r=.ok (.ret (.bool true))/\OldK s₁.heap s'.heap/\s'.os=s₁.os/\AllBare s'.gens) s₁) :
  WalkO q loose XP YP l.row.toRowW d [] (λf vs=>PySem.call f vs):=by
 intro w s₀ s₁ mg mb G td fa o pm cd doc dV kV ho hd hcd hD hmg hg args vals as hpre hlay hrd hwl hlo;obtain rfl:dV=.none:=Dflts.none hD hdf;obtain rfl:kV=.none:=Dflts.noKw hD;obtain⟨a,vs,ns,rfl,rfl,hobj,hints,hlen⟩:=uI hn hpre hwl;refine enter_call (codeAny_mono (call w s₀ s₁ mg mb fa o pm cd doc a vs ns G td ho (fd_plain hd) hcd hmg hobj hints hlen hg) λr s' hq=>?_);obtain⟨rfl,h2,h3,h4⟩:=hq;exact⟨.inl ⟨.bool true,.bool true,[],rfl,λ_=>rfl,.bool true,uR l _,λ_=>⟨Pairwise.nil,λ_ hm=>(nomatch hm)⟩⟩,h2,h3,h4⟩
end Att
namespace L2
open PySem PySem.Spec PyProof.Rows
section
theorem ng:∀{vs:Jg}{ns:Jf},IntsAre vs ns->a5 (ns.map V.int) vs
 |_,_,.nil=>.nil
 |_,_,.cons n t h=>.cons ⟨t,rfl⟩ (ng h)
def E7(H:Hp):Prop:=∀b,H b=none\/∃o xs,H b=some (.frz o (.lst xs))
theorem xF{P:Program}{w:World}{K:PySem.W.Frag}{mg mb:Jb}{CX:CXT}{k:Nat}{fa a:Addr}{fd:FuncData}{x:Str}{sp:Sp}{s₁:Shared}{vs:Jg}{ns:Jf}
  (KX:K.In s₁.heap) (hns:s₁.heap.Ns mainGlobals mg) (hb:s₁.heap.Ns builtinsNs mb) (hbb:∀x:Str,x≠"__name__" -> mb x=bootBuiltins x) (hlim:s₁.heap.NoLimit) (hg:s₁.gens=#[])
  (ha:s₁.heap.get? a=some {cls:=.type "list",data:=.seq vs.toArray}) (hi:IntsAre vs ns) (hl:ns.length<=sizeLine) (hr:er k callerA)
  (F:∀base:Heap,K.In base->base.Ns mainGlobals mg->da P w K mg base CX k fa fd [x] sp) (hbind:∀(s:Shared) (u:Value),BindsTo s fd ⟨[u],[]⟩ [(x,u)])
  (hsp:∀H:Hp,E7 H->SqL K H a (ns.map V.int)->sp [.ref a] H (λv _=>v=.bl true) λ_ _ _=>False)
  (hCX:∀H e s',CX [] H s₁ (λ_ _ _=>False) e s'->False) :
  codeAny (model P w) callerA (.call (.ref fa) ⟨[.ref a],[]⟩) (λr s'=>r=.ok (.ret (.bool true))/\OldK s₁.heap s'.heap/\s'.os=s₁.os/\AllBare s'.gens) s₁:=by
 have rv:=ng hi;have lenV:=hi.length;have core:∀H:Hp,E7 H->SqL K H a (ns.map V.int)->HOk P w H s₁.heap->(∀b,H b≠none->b=a)->(H a≠none->K.lookup a=none)->
   codeAny (model P w) callerA (.call (.ref fa) ⟨[.ref a],[]⟩) (λr s'=>r=.ok (.ret (.bool true))/\OldK s₁.heap s'.heap/\s'.os=s₁.os/\AllBare s'.gens) s₁:=by
  intro H hO hS hok hA hK;have base_of:∀{b:Addr}{o:Obj},s₁.heap.get? b=some o->H b=none->(oS s₁.heap H).get? b=some o:=λe n=>xM e n;have noA:∀{b:Addr}{o:Obj}{es:Array DictEntry}{ep:Nat},s₁.heap.get? b=some o->o.data=.dict es ep->H b=none:=λ{b o es ep} e d=>by
   cases q:H b with
   |none=>rfl
   |some u=>have e':b=a:=hA b (by rw[q];simp);subst e';rw[ha]at e;cases e;have d':Data.seq vs.toArray _=Data.dict es ep:=d;cases d'
  have nsK:∀{b:Addr}{m:Jb},s₁.heap.Ns b m->(oS s₁.heap H).Ns b m:=λ{b m} ⟨o,es,ep,e,d,r⟩=>⟨o,es,ep,base_of e (noA e d),d,r⟩
  have hKb:K.In (oS s₁.heap H):=λb o e=>base_of (KX b o e) (by
   cases q:H b with
   |none=>rfl
   |some u=>
    have e':b=a:=hA b (by rw[q];simp);subst e';rw[hK (by rw[q];simp)]at e;cases e)
  have hM:Mod K mg (oS s₁.heap H):=⟨hKb,nsK hns,⟨mb,nsK hb,hbb⟩,let⟨mc,h1,h2⟩:=hlim;⟨mc,nsK h1,h2⟩⟩
  have e0:sM P w K mg (oS s₁.heap H) callerA [] s₁ H:=⟨rfl,hM,λb o e=>AH e,Nat.le_of_eq (vi _ _),trivial,λb hb=>absurd (show b ∈([]:Jh)from hb) (by simp),hok,.of_eq hg⟩
  refine codeAny_mono ((F _ hKb (nsK hns)).run callerA [] s₁ H ⟨[.ref a],[]⟩ [.ref a] [.ref a] _ _ hr e0 (hbind s₁ (.ref a)) (.cons rfl .nil) (hsp H hO hS)) λr s' h=>?_;cases r with
  |error e=>exact(hCX H e s' h).elim
  |ok fl=>
   cases fl with
   |next|brk|cont=>exact False.elim h
   |ret u=>
    obtain⟨v,H',os,bare,un,hok',r',q⟩:=h;have q':v=.bl true:=q;subst q';obtain rfl:u=Value.bool true:=r';refine⟨rfl,OldK.of_keep λb o e=>?_,os,bare⟩;cases q:H b with
    |none=>exact un.keep b o e q (by intro z;exact absurd (show b ∈([]:Jh)from z) (by simp)) (by simp)
    |some u=>
     rcases hO b with z |⟨ob,xs,z⟩
     .rw[q]at z;cases z
     .have z2:=un.frzs b ob _ z;obtain⟨e1,_⟩:=hok b _ z;obtain⟨e2,_⟩:=hok' b _ z2;rw[e]at e1;cases e1;exact e2
 cases hk:K.lookup a with
 |some o=>have e:=KX a o hk;rw[ha]at e;cases e;refine core (λ_=>none) (λ_=>.inl rfl) (.inr ⟨_,vs.toArray,_,hk,rfl,rfl,rfl,by rw[size_toArray,lenV];exact hl,by simpa using rv⟩) (λb u z=>by have z':(none:Option HO)=some u:=z;cases z') (λb z=>absurd rfl z) λz=>absurd rfl z
 |none=>
  refine core (λb=>if b=a then some (.frz {cls:=.type "list",data:=.seq vs.toArray} (.lst (ns.map V.int)))else none) (λb=>?_) (.inl (.inr ⟨{cls:=.type "list",data:=.seq vs.toArray},if_pos rfl⟩)) (λb u z=>?_) (λb z=>?_) λ_=>hk
  .by_cases hb:b=a
   .exact .inr ⟨_,_,if_pos hb⟩
   .exact .inl (if_neg hb)
  .by_cases hb:b=a
   .have z':=(if_pos hb).symm.trans z;cases z';subst hb;exact⟨ha,by rw[length_map];exact hl,vs,_,rv,ha⟩
   .have z':=(if_neg hb).symm.trans z;cases z'
  .by_cases hb:b=a
   .exact hb
   .exact absurd (if_neg hb) z
end
section
theorem zT{l:PySem.W.OpenLaw}{n k:Nat}{q:Program}{loose:Ji}{XP:(Jb)->Heap->Prop}{YP:World->Heap->Prop}{d:DefRec}{K:Params->PySem.W.Frag}{CX:World->CXT}{sp:World->Sp}{x:Str}
  (hn:l.most=some n) (hn2:n<=sizeLine) (hdf:d.params.defaults=[]) (hr:er k callerA)
  (hY:∀(w:World) (h:Heap),YP w h->(K w.params).In h)
  (F:∀ (w:World) (mg:Jb) (fa:Addr) (h:Heap),(K w.params).In h->h.Ns mainGlobals mg->mg d.name=some (.ref fa) ->
   ∃fd:FuncData,(∀(s:Shared) (u:Value),BindsTo s fd ⟨[u],[]⟩ [(x,u)])/\
    ∀base:Heap,(K w.params).In base->base.Ns mainGlobals mg->da l.prog w (K w.params) mg base (CX w) k fa fd [x] (sp w))
  (hsp:∀(w:World) (H:Hp) (a:Addr) (ns:Jf),ns.length<=n->E7 H->SqL (K w.params) H a (ns.map V.int)->sp w [.ref a] H (λv _=>v=.bl true) λ_ _ _=>False)
  (hCX:∀(w:World) (H:Hp) (s:Shared) (e:Value) (s':Shared),CX w [] H s (λ_ _ _=>False) e s'->False) :
  PySem.W.WalkO q loose XP YP l.row.toRowW d [] (λf vs=>PySem.call f vs):=by
 refine Att.attach_call hn hdf λw s₀ s₁ mg mb fa o pm cd doc a vs ns G td ho hd hcd hmg hobj hints hlen hg=>?_;have KX:=hY w _ td;obtain⟨fd,hb,hF⟩:=F w mg fa _ KX G.T.g hmg;exact xF KX G.T.g G.T.b G.T.builtins G.T.nolimit hg hobj hints (Nat.le_trans hlen hn2) hr hF hb (λH hO hS=>hsp w H a ns hlen hO hS) λH e s'=>hCX w H s₁ e s'
end
section
def Bb(s:Stmt)(j:Nat):Stmt:=match s with
 |.ClassDef _ _ _ body _ _ _ _ _ _ _=>body.getD j (.Pass ⟨0,0,0,0⟩)
 |_=>.Pass ⟨0,0,0,0⟩
def b_(s:Stmt):Arguments:=match s with
 |.FunctionDef _ a _ _ _ _ _ _ _ _=>a
 |_=>{posonlyargs:=[],args:=[],vararg:=none,kwonlyargs:=[],kw_defaults:=[],kwarg:=none,defaults:=[]}
def bB(s:Stmt):List Stmt:=match s with
 |.FunctionDef _ _ b _ _ _ _ _ _ _=>b
 |_=>[]
def aC(s:Stmt):Scope:=match s with
 |.FunctionDef _ _ _ _ _ _ sc _ _ _=>sc
 |_=>{kind:=.function,names:=[],isGenerator:=false,isCoroutine:=false}
structure Fun(K:PySem.W.Frag)(x qual:Str)(st:Stmt)(f:Addr)(fd:FuncData):Prop where
 ex:∃(oc:Value) (od:Option Addr) (kV doc pm:Value) (an:Option Addr) (cdv ct:Value) (osl:Array (Option Value)),
  fd=PySem.W.fnOf x qual (b_ st) (bB st) (aC st) .none kV doc pm an cdv ct/\K.lookup f=some ⟨oc,od,.func fd,osl⟩/\PySem.W.codeIn K cdv qual=true
 kp:PySem.W.keepIn K (.ref f)=true
section
variable{P:Program}{w:World}{K:PySem.W.Frag}{mg:Jb}{base:Heap}
theorem Fun.binds{x qual:Str}{st:Stmt}{f:Addr}{fd:FuncData}{ps:Ji}(F:Fun K x qual st f fd)
  (h:∀(kV doc pm:Value) (an:Option Addr) (cdv ct:Value) (us:Jg),us.length=ps.length->bindArgs (PySem.W.fnOf x qual (b_ st) (bB st) (aC st) .none kV doc pm an cdv ct) ⟨us,[]⟩=pure (ps.zip us)):fe K fd ps []:=by
 obtain⟨oc,od,kV,doc,pm,an,cdv,ct,osl,rfl,lk,hcd⟩:=F.ex;exact .all (h kV doc pm an cdv ct)
end
end
end L2
set_option maxHeartbeats 4000000
namespace PR
open PySem
inductive Fl where
 |own|frz|bor|lnt|mod
 deriving DecidableEq
inductive PV where
 |non
 |bl (b:Bool)
 |int (i:Int)
 |str (x:Str)
 |lst (f:Fl) (xs:List PV)
 |tup (xs:List PV)
 |obj (f:Fl) (c:Nat) (ks:List Nat) (vs:List PV)
 |exc (c:Nat)
 |box (k:Nat) (xs:List PV)
abbrev Jn:=List PV
mutual
def PV.Jx(g:Fl->Fl):PV->PV
 |.non=>.non
 |.bl b=>.bl b
 |.int i=>.int i
 |.str x=>.str x
 |.lst f xs=>.lst (g f) (mapL g xs)
 |.tup xs=>.tup (mapL g xs)
 |.obj f c ks vs=>.obj (g f) c ks (mapL g vs)
 |.exc c=>.exc c
 |.box k xs=>.box k (mapL g xs)
def mapL(g:Fl->Fl):Jn->Jn
 | []=>[]
 |x::xs=>x.Jx g::mapL g xs
end
mutual
def PV.has(p:Fl->Bool):PV->Bool
 |.non|.bl _|.int _|.str _=>false
 |.lst f xs=>p f||hasL p xs
 |.tup xs=>hasL p xs
 |.obj f _ _ vs=>p f||hasL p vs
 |.exc _=>false
 |.box _ xs=>hasL p xs
def hasL(p:Fl->Bool):Jn->Bool
 | []=>false
 |x::xs=>x.has p||hasL p xs
end
def Fl.Ju:Fl->Bool
 |.lnt=>true
 |_=>false
def Fl.Jv:Fl->Bool
 |.bor=>true
 |_=>false
def Fl.Jp:Fl->Fl
 |.own=>.lnt
 |f=>f
def Fl.Jr:Fl->Fl
 |.own=>.frz
 |f=>f
def Fl.Jq:Fl->Fl
 |.lnt=>.bor
 |f=>f
inductive Res(α:Type) where
 |ok (a:α)
 |exc (c:Nat)
 |stuck
abbrev Jo:=Res PV
noncomputable def Res.bind{α β:Type}:Res α->(α->Res β)->Res β
 |.ok a,k=>k a
 |.exc c,_=>.exc c
 |.stuck,_=>.stuck
@[simp] theorem Res.Jz{α β:Type}(a:α)(k:α->Res β):(Res.ok a).bind k=k a:=by simp only[Res.bind]
@[simp] theorem Res.exc_bind{α β:Type}(c:Nat)(k:α->Res β):(Res.exc c:Res α).bind k=.exc c:=rfl
@[simp] theorem Res.stuck_bind{α β:Type}(k:α->Res β):(Res.stuck:Res α).bind k=.stuck:=rfl
abbrev En:=List (Option PV)
abbrev ME:=En->Jo
abbrev MT:=En->Res Bool
abbrev MA:=En->Res (Jn)
inductive Out where
 |next (e:En)
 |ret (v:PV)
 |brk (e:En)
 |cont (e:En)
 |exc (c:Nat) (e:En)
 |stuck
abbrev MS:=En->Out
def mC(v:PV):ME:=λ_=>.ok v
abbrev JA(i:Int):ME:=mC (.int i)
def ac(i:Nat):ME:=λenv=>match env[i]? with
 |some (some v)=>.ok (v.Jx Fl.Jp)
 |_=>.stuck
def am:MA:=λ_=>.ok []
def ae(a:ME)(r:MA):MA:=λenv=>(a env).bind λx=>(r env).bind λxs=>.ok (x::xs)
def mUn(f:PV->Jo)(a:ME):ME:=λenv=>(a env).bind f
def mOp(f:PV->PV->Jo)(a b:ME):ME:=λenv=>(a env).bind λx=>(b env).bind λy=>f x y
def lM(g:Int->Int->PV):PV->PV->Jo
 |.int i,.int j=>.ok (g i j)
 |_,_=>.stuck
def f6(C:Int->Int->Bool)(g:Int->Int->PV):PV->PV->Jo
 |.int i,.int j=>if C i j then .ok (g i j)else .stuck
 |_,_=>.stuck
def oA:PV->Res Bool
 |.non=>.ok false
 |.bl b=>.ok b
 |.int i=>.ok (i != 0)
 |.lst _ xs|.tup xs=>.ok (!xs.isEmpty)
 |_=>.stuck
def ax(a:ME):MT:=λenv=>(a env).bind fun
 |.bl b=>.ok b
 |_=>.stuck
def bX(a:ME):MT:=λenv=>(a env).bind oA
def iF(a:MT):MT:=λenv=>(a env).bind λb=>.ok (!b)
def eA(a b:MT):MT:=λenv=>(a env).bind λx=>if x then b env else .ok false
def gy(a b:MT):MT:=λenv=>(a env).bind λx=>if x then .ok true else b env
def oK(c:MT)(a b:ME):ME:=λenv=>(c env).bind λx=>if x then a env else b env
def aU:MS:=.next
def aq(a b:MS):MS:=λenv=>match a env with
 |.next e=>b e
 |o=>o
def mBr(c:MT)(a b:MS):MS:=λenv=>match c env with
 |.ok true=>a env
 |.ok false=>b env
 |.exc k=>.exc k env
 |.stuck=>.stuck
def PV.Jw(v:PV):Bool:=!v.has Fl.Ju
def dR(env:List (Option PV)):Bool:=match env[0]? with
 |some (some (PV.obj _ _ _ _))=>true
 |_=>false
def aT(i:Nat)(env:En):Bool:=if i=0 then !dR env else true
def aN(i:Nat)(e:ME):MS:=λenv=>match e env with
 |.ok v=>if v.Jw&&aT i env then .next (env.set i (some v))else .stuck
 |.exc k=>.exc k env
 |.stuck=>.stuck
def bt(e:ME):MS:=λenv=>match e env with
 |.ok v=>if v.Jw then .ret v else .stuck
 |.exc k=>.exc k env
 |.stuck=>.stuck
def d6(i:Nat):MS:=λenv=>match env[i]? with
 |some (some v)=>.ret v
 |_=>.stuck
def fO(e:ME):MS:=λenv=>match e env with
 |.ok _=>.next env
 |.exc k=>.exc k env
 |.stuck=>.stuck
def gW(i:Nat):MS:=λenv=>match env[i]? with
 |some (some v)=>.next (env.set i (some (v.Jx Fl.Jr)))
 |_=>.stuck
def mZ(body:PV->MS):Jn->En->Out
 | [],env=>.next env
 |x::xs,env=>match body x env with
  |.next e|.cont e=>mZ body xs e
  |.brk e=>.next e
  |o=>o
end PR
namespace PR
open PySem PySem.Spec L2
structure Tb where
 K:PySem.W.Frag
 nc:Nat
 cls:Nat->Addr
 att:Nat->Str
 inj:∀i j,att i=att j->i=j
 xcl:Nat->Addr
 dk:Nat->Ji:=λ_=>[]
 bx:Nat->Hp->Addr->Jl->Prop:=λk H a vs=>∃o,H a=some (.frz o (.dK (((dk k).map Sum.inr).zip vs)))/\(dk k).length=vs.length
 bxs:∀k (H H':Hp) a vs,(∀b o u,H b=some (.frz o u)->H' b=some (.frz o u))->bx k H a vs->bx k H' a vs:=by exact λ_ _ _ _ _ h ⟨o,q,l⟩=>⟨o,h _ _ _ q,l⟩
 tb:Addr->Option (Jk):=λ_=>none
def IU(C a:Addr):HO:=.ext λh=>∃o,h.get? a=some o/\o.cls=.ref C
def KL(K:PySem.W.Frag)(a:Addr)(xs:Jl):Prop:=∃(o:Obj) (its:Jk) (n:Nat),K.lookup a=some o/\o.cls=.type "list" /\ o.dict=none/\o.data=.seq its n/\its.size<=sizeLine/\a5 xs its.toList
def q8:Fl->Addr->Jh->Jh->Prop
 |.own,a,fp',fp=>fp=a::fp'
 |_,_,fp',fp=>fp'=[]/\fp=[]
def Fb(F B L:Je):Fl->Je
 |.own,_=>True
 |.frz,a=>F a
 |.bor,a=>B a
 |.lnt,a=>L a
 |.mod,_=>False
def mS(T:Tb)(F B L:Je)(H:Hp):Fl->Addr->Jl->Prop
 |.own,a,vs=>H a=some (.lst vs)
 |.lnt,a,vs=>L a/\H a=some (.lst vs)
 |.frz,a,vs=>F a/\Rd H a (.lst vs)
 |.bor,a,vs=>B a/\Rd H a (.lst vs)
 |.mod,a,vs=>KL T.K a vs
theorem mS.sq(h:mS T F B L H f a vs):SqL T.K H a vs:=by
 cases f with
 |own=>exact SqL.of h
 |lnt=>exact SqL.of h.2
 |frz|bor=>exact .inl h.2
 |mod=>exact .inr h
mutual
def Rel(T:Tb)(F B L:Je)(H:Hp):PV->V->Jh->Prop
 |.non,v,fp=>v=.non/\fp=[]
 |.bl b,v,fp=>v=.bl b/\fp=[]
 |.int i,v,fp=>v=.int i/\fp=[]
 |.str x,v,fp=>v=.str x/\fp=[]
 |.lst f xs,v,fp=>∃a vs fp',v=.ref a/\mS T F B L H f a vs/\RelL T F B L H xs vs fp'/\q8 f a fp' fp
 |.tup xs,v,fp=>∃a vs,v=.ref a/\SqT T.K H a vs/\RelL T F B L H xs vs fp
 |.obj f c ks xs,v,fp=>∃a dx vs fp',v=.ref a/\H a=some (.ins (T.cls c) dx ((ks.map T.att).zip vs))/\(ks.length=xs.length/\c<T.nc)/\RelL T F B L H xs vs fp'/\q8 f a fp' fp/\Fb F B L f a
 |.exc c,v,fp=>∃a,v=.ref a/\H a=some (IU (T.xcl c) a)/\fp=[]
 |.box k xs,v,fp=>∃a vs,v=.ref a/\T.bx k H a vs/\RelL T F B L H xs vs fp
def RelL(T:Tb)(F B L:Je)(H:Hp):Jn->Jl->Jh->Prop
 | [],vs,fp=>vs=[]/\fp=[]
 |x::xs,vs,fp=>∃v ws f1 f2,vs=v::ws/\Rel T F B L H x v f1/\RelL T F B L H xs ws f2/\fp=f1++f2
end
def jb:HO->Prop
 |.tup _|.frz _ _|.ext _=>True
 |_=>False
section
variable{T:Tb}{F F' B B' L L':Je}{H H':Hp}
theorem Rd.tr(h:∀o,H a=some o->H' a=some o)(q:Rd H a u):Rd H' a u:=by
 rcases q with q |⟨o,q⟩
 .exact .inl (h _ q)
 .exact .inr ⟨o,h _ q⟩
theorem SqT.tr(h:∀o,H a=some o->jb o->H' a=some o)(q:SqT K H a vs):SqT K H' a vs:=by
 rcases q with(q |⟨o,q⟩)|q
 .exact .inl (.inl (h _ q True.intro))
 .exact .inl (.inr ⟨o,h _ q True.intro⟩)
 .exact .inr q
theorem RelL.length:∀{xs:Jn}{vs:Jl}{fp:Jh},RelL T F B L H xs vs fp->xs.length=vs.length
 | [],_,_,h=>by unfold RelL at h;rw[h.1];rfl
 |x::xs,_,_,h=>by unfold RelL at h;obtain⟨v,ws,f1,f2,rfl,_,h2,_⟩:=h;simp[RelL.length h2]
theorem q8.all{P:Je}(h:q8 f a fp' fp)(hp:∀b∈fp,P b):(f=.own->P a)/\∀b∈fp',P b:=by
 cases f with
 |own=>
  obtain rfl:fp=a::fp':=h
  grind
 |_=>exact⟨λz=>(nomatch z),by rw[h.1];exact λ_ z=>nomatch z⟩
structure Mp(T:Tb)(g:Fl->Fl)(p:Fl->Bool)(E:Jh->Jh)(C F B L:Je)(H:Hp)(F' B' L':Je)(H':Hp):Prop where
 hl:∀f a vs,p f=false->(f=.own->C a)->mS T F B L H f a vs->mS T F' B' L' H' (g f) a vs
 hb:∀f a,p f=false->(f=.own->C a)->Fb F B L f a->Fb F' B' L' (g f) a/\∀o,H a=some o->H' a=some o
 hf:∀f a x y,q8 f a x y->q8 (g f) a (E x) (E y)
 he:E []=[]
 ha:∀x y,E (x++y)=E x++E y
 hx:∀a o,H a=some o->jb o->H' a=some o
mutual
theorem Mp.rel(M:Mp T g p E C F B L H F' B' L' H') :
  ∀{x:PV}{v:V}{fp:Jh},x.has p=false->(∀a∈fp,C a)->Rel T F B L H x v fp->Rel T F' B' L' H' (x.Jx g) v (E fp)
 |.non,_,_,_,_,h|.bl _,_,_,_,_,h|.int _,_,_,_,_,h|.str _,_,_,_,_,h=>by unfold Rel at h;simp only[PV.Jx];unfold Rel;exact⟨h.1,by rw[h.2,M.he]⟩
 |.lst f xs,_,fp,hp,hc,h=>by unfold Rel at h;obtain⟨a,vs,fp',e,h1,h2,h3⟩:=h;simp only[PV.has,or_eq_false_iff]at hp;obtain⟨c1,c2⟩:=h3.all hc;simp only[PV.Jx];unfold Rel;exact⟨a,vs,E fp',e,M.hl f a vs hp.1 c1 h1,Mp.rels M hp.2 c2 h2,M.hf f a fp' fp h3⟩
 |.tup xs,_,fp,hp,hc,h=>by unfold Rel at h;obtain⟨a,vs,e,h1,h2⟩:=h;simp only[PV.Jx];unfold Rel;exact⟨a,vs,e,SqT.tr (λo q z=>M.hx a o q z) h1,Mp.rels M hp hc h2⟩
 |.obj f c ks xs,_,fp,hp,hc,h=>by unfold Rel at h;obtain⟨a,dx,vs,fp',e,h1,hk,h2,h3,h4⟩:=h;simp only[PV.has,or_eq_false_iff]at hp;obtain⟨c1,c2⟩:=h3.all hc;obtain⟨q1,q2⟩:=M.hb f a hp.1 c1 h4;simp only[PV.Jx];unfold Rel;have r:=Mp.rels M hp.2 c2 h2;exact⟨a,dx,vs,E fp',e,q2 _ h1,⟨by rw[r.length,hk.1,h2.length],hk.2⟩,r,M.hf f a fp' fp h3,q1⟩
 |.exc c,_,fp,_,_,h=>by unfold Rel at h;obtain⟨a,e,h1,rfl⟩:=h;simp only[PV.Jx];unfold Rel;exact⟨a,e,M.hx a _ h1 True.intro,M.he⟩
 |.box k xs,_,fp,hp,hc,h=>by unfold Rel at h;obtain⟨a,vs,e,h1,h2⟩:=h;simp only[PV.Jx];unfold Rel;exact⟨a,vs,e,T.bxs k H H' a vs (λb o u q=>M.hx b _ q True.intro) h1,Mp.rels M hp hc h2⟩
theorem Mp.rels(M:Mp T g p E C F B L H F' B' L' H') :
  ∀{xs:Jn}{vs:Jl}{fp:Jh},hasL p xs=false->(∀a∈fp,C a)->RelL T F B L H xs vs fp->RelL T F' B' L' H' (mapL g xs) vs (E fp)
 | [],_,_,_,_,h=>by unfold RelL at h;simp only[mapL];unfold RelL;exact⟨h.1,by rw[h.2,M.he]⟩
 |x::xs,_,fp,hp,hc,h=>by unfold RelL at h;obtain⟨v,ws,f1,f2,e,h1,h2,rfl⟩:=h;simp only[hasL,or_eq_false_iff]at hp;simp only[mapL];unfold RelL;exact⟨v,ws,E f1,E f2,e,Mp.rel M hp.1 (λb hb=>hc b (mem_append_left _ hb)) h1,Mp.rels M hp.2 (λb hb=>hc b (mem_append_right _ hb)) h2,M.ha f1 f2⟩
end
mutual
theorem lg:∀x:PV,x.Jx (λf=>f)=x
 |.non|.bl _|.int _|.str _|.exc _=>rfl
 |.lst f xs|.tup xs|.obj f c ks xs|.box k xs=>by simp only[PV.Jx,mapL_id xs]
theorem mapL_id:∀xs:Jn,mapL (λf=>f) xs=xs
 | []=>rfl
 |x::xs=>by simp only[mapL,lg x,mapL_id xs]
end
mutual
theorem l9:∀x:PV,x.has (λ_=>false)=false
 |.non|.bl _|.int _|.str _|.exc _=>rfl
 |.lst f xs=>by simp only[PV.has,has_noL xs,Bool.or_false]
 |.tup xs=>by simp only[PV.has,has_noL xs]
 |.obj f c ks xs=>by simp only[PV.has,has_noL xs,Bool.or_false]
 |.box k xs=>by simp only[PV.has,has_noL xs]
theorem has_noL:∀xs:Jn,hasL (λ_=>false) xs=false
 | []=>rfl
 |x::xs=>by simp only[hasL,l9 x,has_noL xs,Bool.or_false]
end
theorem BX(hF:∀a,F a->F' a)(hB:∀a,B a->B' a)(hL:∀a,L a->L' a)(hx:∀a o,H a=some o->(F a\/B a\/L a\/jb o)->H' a=some o):Mp T (λf=>f) (λ_=>false) (λx=>x) (λa=>∀o,H a=some o->H' a=some o) F B L H F' B' L' H':=
 ⟨λf a vs _ c h=>by
  cases f with
  |own=>exact c rfl _ h
  |frz=>exact⟨hF a h.1,Rd.tr (λo q=>hx a o q (.inl h.1)) h.2⟩
  |bor=>exact⟨hB a h.1,Rd.tr (λo q=>hx a o q (.inr (.inl h.1))) h.2⟩
  |lnt=>exact⟨hL a h.1,hx a _ h.2 (.inr (.inr (.inl h.1)))⟩
  |mod=>exact h,λf a _ c h=>by
  cases f with
  |own=>exact⟨True.intro,c rfl⟩
  |frz=>exact⟨hF a h,λo q=>hx a o q (.inl h)⟩
  |bor=>exact⟨hB a h,λo q=>hx a o q (.inr (.inl h))⟩
  |lnt=>exact⟨hL a h,λo q=>hx a o q (.inr (.inr (.inl h)))⟩
  |mod=>exact h.elim,λ_ _ _ _ h=>h,rfl,λ_ _=>rfl,λa o q z=>hx a o q (.inr (.inr (.inr z)))⟩
theorem Rel.tr(hF:∀a,F a->F' a)(hB:∀a,B a->B' a)(hL:∀a,L a->L' a)(hx:∀a o,H a=some o->(F a\/B a\/L a\/jb o)->H' a=some o)(hp:∀a∈fp,∀o,H a=some o->H' a=some o)(h:Rel T F B L H x v fp):Rel T F' B' L' H' x v fp:=by
 have:=(BX hF hB hL hx).rel (l9 x) hp h
 rwa [lg]at this
theorem RelL.tr(hF:∀a,F a->F' a)(hB:∀a,B a->B' a)(hL:∀a,L a->L' a)(hx:∀a o,H a=some o->(F a\/B a\/L a\/jb o)->H' a=some o)(hp:∀a∈fp,∀o,H a=some o->H' a=some o)(h:RelL T F B L H x v fp):RelL T F' B' L' H' x v fp:=by
 have:=(BX hF hB hL hx).rels (has_noL x) hp h
 rwa [mapL_id]at this
def Ext(H H':Hp):Prop:=∀a o,H a=some o->H' a=some o
theorem Ext.refl:Ext H H:=λ_ _ h=>h
theorem Ext.trans(a:Ext H H1)(b:Ext H1 H2):Ext H H2:=λc o h=>b c o (a c o h)
theorem Ext.upd(h:H a=none):Ext H (L2.upd H a o):=λb u e=>by rw[aV (b9 e h)];exact e
theorem Ext.free(x:Ext H H')(h:H' a=none):H a=none:=by
 cases e:H a with
 |none=>rfl
 |some o=>rw[x a o e]at h;cases h
theorem Rel.ext(e:Ext H H')(hF:∀a,F a->F' a)(h:Rel T F B L H x v fp):Rel T F' B L H' x v fp:=
 Rel.tr hF (λ_ h=>h) (λ_ h=>h) (λa o q _=>e a o q) (λa _ o q=>e a o q) h
theorem RelL.ext(e:Ext H H')(hF:∀a,F a->F' a)(h:RelL T F B L H xs vs fp):RelL T F' B L H' xs vs fp:=
 RelL.tr hF (λ_ h=>h) (λ_ h=>h) (λa o q _=>e a o q) (λa _ o q=>e a o q) h
def Chg:HO->Prop
 |.lst _|.ins _ _ _=>True
 |_=>False
mutual
theorem Rel.chg:∀{x:PV}{v:V}{fp:Jh},Rel T F B L H x v fp->∀a∈fp,∃o,H a=some o/\Chg o
 |.non,_,_,h|.bl _,_,_,h|.int _,_,_,h|.str _,_,_,h=>by unfold Rel at h;rw[h.2];exact λ_ z=>nomatch z
 |.lst f xs,_,fp,h=>by
  unfold Rel at h;obtain⟨a,vs,fp',e,hl,hr,hf⟩:=h;cases f with
  |own=>
   obtain rfl:fp=a::fp':=hf;intro b hb;rcases mem_cons.mp hb with rfl|hb
   .exact⟨_,hl,True.intro⟩
   .exact RelL.chg hr b hb
  |frz|bor|lnt|mod=>obtain⟨rfl,rfl⟩:=hf;exact λ_ z=>nomatch z
 |.tup xs,_,fp,h=>by unfold Rel at h;obtain⟨a,vs,e,hl,hr⟩:=h;exact RelL.chg hr
 |.obj f c ks xs,_,fp,h=>by
  unfold Rel at h;obtain⟨a,dx,vs,fp',e,hl,hk,hr,hf,ha⟩:=h;cases f with
  |own=>
   obtain rfl:fp=a::fp':=hf;intro b hb;rcases mem_cons.mp hb with rfl|hb
   .exact⟨_,hl,True.intro⟩
   .exact RelL.chg hr b hb
  |frz|bor|lnt|mod=>obtain⟨rfl,rfl⟩:=hf;exact λ_ z=>nomatch z
 |.exc c,_,fp,h=>by unfold Rel at h;obtain⟨a,e,hl,rfl⟩:=h;exact λ_ z=>nomatch z
 |.box k xs,_,fp,h=>by unfold Rel at h;obtain⟨a,vs,e,hl,hr⟩:=h;exact RelL.chg hr
theorem RelL.chg:∀{xs:Jn}{vs:Jl}{fp:Jh},RelL T F B L H xs vs fp->∀a∈fp,∃o,H a=some o/\Chg o
 | [],_,_,h=>by unfold RelL at h;rw[h.2];exact λ_ z=>nomatch z
 |x::xs,_,_,h=>by
  unfold RelL at h;obtain⟨v,ws,f1,f2,_,h1,h2,rfl⟩:=h;intro b hb;rcases mem_append.mp hb with hb|hb
  .exact Rel.chg h1 b hb
  .exact RelL.chg h2 b hb
end
theorem Rel.there(h:Rel T F B L H x v fp)(a:Addr)(ha:a∈fp):∃o,H a=some o:=let⟨o,q,_⟩:=h.chg a ha;⟨o,q⟩
theorem RelL.there(h:RelL T F B L H xs vs fp)(a:Addr)(ha:a∈fp):∃o,H a=some o:=let⟨o,q,_⟩:=h.chg a ha;⟨o,q⟩
theorem AR:Mp T Fl.Jp (λ_=>false) (λ_=>[]) L F B L H F B L H:=
 ⟨λf a vs _ c h=>by
  cases f with
  |own=>exact⟨c rfl,h⟩
  | _=>exact h,λf a _ c h=>⟨by
  cases f with
  |own=>exact c rfl
  |_=>exact h,λ_ q=>q⟩,λf a x y h=>by cases f<;>exact⟨rfl,rfl⟩,rfl,λ_ _=>rfl,λ_ _ q _=>q⟩
theorem Rel.Jp(hp:∀a∈fp,L a)(h:Rel T F B L H x v fp):Rel T F B L H (x.Jx Fl.Jp) v []:=AR.rel (l9 x) hp h
end
end PR
namespace L2
open PySem PySem.Spec
theorem PE.wk(h:PE X e t)(w:∀Y H Q,t' Y H Q->t Y H Q):PE X e t':=λjs s Y H Q I q=>h js s Y H Q I (w Y H Q q)
theorem PA.wk(h:PA X e t)(w:∀Y H Q,t' Y H Q->t Y H Q):PA X e t':=λpos js s Y H Q I q=>h pos js s Y H Q I (w Y H Q q)
theorem PT.wk(h:PT X e t)(w:∀Y H Q,t' Y H Q->t Y H Q):PT X e t':=λjs s Y H Q I q=>h js s Y H Q I (w Y H Q q)
theorem PW.wk(h:PW X e t)(w:∀Y H Q,t' Y H Q->t Y H Q):PW X e t':=λwh js s Y H Q I q=>h wh js s Y H Q I (w Y H Q q)
theorem PS.wk(h:PS X e t)(w:∀D Y H,t' D Y H->t D Y H):PS X e t':=λjs s Y H D I q=>h js s Y H D I (w D Y H q)
theorem PSs.wk(h:PSs X e t)(w:∀D Y H,t' D Y H->t D Y H):PSs X e t':=λjs s Y H D I q=>h js s Y H D I (w D Y H q)
end L2
namespace PR
open PySem PySem.Spec L2
structure Zn where
 H0:Hp
 F0:Je
 fp0:Je
 B:Je
 pin:Option V:=none
abbrev NoL:Je:=λ_=>False
def BG(T:Tb)(H:Hp)(f:Je):Prop:=∀a ps,T.tb a=some ps->H a=some (.tbl ps)/\¬f a
structure cC(T:Tb)(Z:Zn)(F:Je)(H:Hp):Prop where
 bo:(∀a,Z.B a->(∃o,Z.H0 a=some o)/\¬Z.fp0 a)/\BG T Z.H0 Z.fp0
 keep:∀a o,Z.H0 a=some o->¬Z.fp0 a->H a=some o
 f0:∀a,Z.F0 a->F a
 fn:∀a,F a->Z.F0 a\/Z.H0 a=none\/Z.fp0 a
 ft:∀a,F a->∃o,H a=some o
structure aA(T:Tb)(Z:Zn)(F:Je)(H:Hp)(Y:St)(env:En)(fp:Nat->Jh):Prop where
 hp:cC T Z F H
 len:Y.length=env.length
 rel:∀(i:Nat) (pv:PV),env[i]?=some (some pv)->∃v,Y[i]?=some (some v)/\Rel T F Z.B NoL H pv v (fp i)
 nd:∀i,(fp i).Nodup
 dj:∀i j,i≠j->∀a∈fp i,a∉fp j
 dis:∀i,∀a∈fp i,¬F a/\∃o,H a=some o
 new:∀i,∀a∈fp i,Z.H0 a=none\/Z.fp0 a
 ch:∀i,∀a∈fp i,∃o,H a=some o/\Chg o
 pn:∀v,Z.pin=some v->Y[0]?=some (some v)/\dR env=true
def Own(fp:Nat->Jh):Je:=λa=>∃i,a∈fp i
structure Gr(F:Je)(H:Hp)(F':Je)(H':Hp):Prop where
 ext:Ext H H'
 mono:∀a,F a->F' a
 only:∀a,F' a->F a\/H a=none
 dom:∀a,F' a->∃o,H' a=some o
theorem Gr.refl(h:∀a,F a->∃o,H a=some o):Gr F H F H:=⟨Ext.refl,λ_ h=>h,λ_ h=>.inl h,h⟩
theorem Gr.trans(a:Gr F H F1 H1)(b:Gr F1 H1 F2 H2):Gr F H F2 H2:=
 ⟨a.ext.trans b.ext,λc h=>b.mono c (a.mono c h),λc h=>(b.only c h).elim (a.only c) λz=>.inr (a.ext.free z),b.dom⟩
theorem Gr.same(h:∀a,F a->∃o,H a=some o)(e:Ext H H'):Gr F H F H':=⟨e,λ_ h=>h,λ_ h=>.inl h,λa q=>let⟨o,z⟩:=h a q;⟨o,e a o z⟩⟩
section
variable{T:Tb}{Z:Zn}{F F':Je}{H H':Hp}{Y:St}{env:En}{fp:Nat->Jh}
theorem cC.tb(S:cC T Z F H)(h:T.tb a=some ps):H a=some (.tbl ps):=let⟨h1,h2⟩:=S.bo.2 a ps h;S.keep a _ h1 h2
theorem aA.tbo(S:aA T Z F H Y env fp)(e:Ext H H')(hn:∀ a,f a->H a=none \/ Own fp a):BG T H' f:=λa ps h=>⟨e a _ (S.hp.tb h),λz=>by
 have q:=S.hp.tb h;rcases hn a z with n |⟨i,hi⟩
 .rw[q]at n;cases n
 .obtain⟨o,h1,h2⟩:=S.ch i a hi;rw[q]at h1;cases h1;exact h2⟩
theorem cC.grow(S:cC T Z F H)(g:Gr F H F' H'):cC T Z F' H':=
 ⟨S.bo,λa o h n=>g.ext a o (S.keep a o h n),λa h=>g.mono a (S.f0 a h),λa h=>by
  rcases g.only a h with z|z
  .exact S.fn a z
  .refine .inr ?_;by_cases q:Z.fp0 a
   .exact .inr q
   .refine .inl ?_;cases w:Z.H0 a with
    |none=>rfl
    |some o=>rw[S.keep a o w q]at z;exact(nomatch z),g.dom⟩
theorem aA.grow(S:aA T Z F H Y env fp)(g:Gr F H F' H'):aA T Z F' H' Y env fp:=
 ⟨S.hp.grow g,S.len,λi pv h=>let ⟨v,q1,q2⟩:=S.rel i pv h;⟨v,q1,q2.ext g.ext g.mono⟩,S.nd,S.dj,λi a h=>by
  obtain⟨n,o,q⟩:=S.dis i a h;refine⟨λz=>?_,o,g.ext a o q⟩;rcases g.only a z with z|z
  .exact n z
  .rw[q]at z;exact(nomatch z),S.new,λi a h=>let⟨o,q,c⟩:=S.ch i a h;⟨o,g.ext a o q,c⟩,S.pn⟩
end
def GE(T:Tb)(W:Nat->St->Jm)(B F L:Je)(Y:St)(H:Hp)(Q:VK):Jo->Prop
 |.ok pv=>∀v H' F' f,Gr F H F' H'->Rel T F' B L H' pv v f->(∀a∈f,¬F' a)->f.Nodup->(∀a∈f,H a=none)->Q v H'
 |.exc c=>∀H',Ext H H'->W c Y H'
 |.stuck=>False
def GA(T:Tb)(W:Nat->St->Jm)(B F L:Je)(Y:St)(H:Hp)(Q:Jl->Jm):Res (Jn)->Prop
 |.ok pvs=>∀vs H' F' f,Gr F H F' H'->RelL T F' B L H' pvs vs f->(∀a∈f,¬F' a)->f.Nodup->(∀a∈f,H a=none)->Q vs H'
 |.exc c=>∀H',Ext H H'->W c Y H'
 |.stuck=>False
def GT(W:Nat->St->Jm)(F:Je)(Y:St)(H:Hp)(Q:Bool->Jm):Res Bool->Prop
 |.ok b=>∀H' F',Gr F H F' H'->Q b H'
 |.exc c=>∀H',Ext H H'->W c Y H'
 |.stuck=>False
def tE(T:Tb)(W:Nat->St->Jm)(m:ME):TE:=λY H Q=>∃Z F env fp,aA T Z F H Y env fp/\GE T W Z.B F (Own fp) Y H Q (m env)
def tA(T:Tb)(W:Nat->St->Jm)(m:MA):TA:=λY H Q=>∃Z F env fp,aA T Z F H Y env fp/\GA T W Z.B F (Own fp) Y H Q (m env)
def tT(T:Tb)(W:Nat->St->Jm)(m:MT):TT:=λY H Q=>∃Z F env fp,aA T Z F H Y env fp/\GT W F Y H Q (m env)
abbrev SE(X:Cx)(T:Tb)(W:Nat->St->Jm)(e:Expr)(m:ME):Prop:=PE X e (tE T W m)
abbrev SA(X:Cx)(T:Tb)(W:Nat->St->Jm)(es:List Expr)(m:MA):Prop:=PA X es (tA T W m)
abbrev ST(X:Cx)(T:Tb)(W:Nat->St->Jm)(e:Expr)(m:MT):Prop:=PT X e (tT T W m)
section
variable{X:Cx}{T:Tb}{W:Nat->St->Jm}{Z:Zn}{F F' B L:Je}{H H':Hp}{Y:St}{env:En}{fp:Nat->Jh}
theorem GE.scal{Q:VK}{pv:PV}{v:V}(q:GE T W B F L Y H Q (.ok pv))(g:Gr F H F' H')(r:Rel T F' B L H' pv v []):Q v H':=
 q v H' F' [] g r (λ_ z=>(nomatch z)) nodup_nil (λ_ z=>(nomatch z))
theorem lA{v:V}{pv:PV}(h:PE X e (tC v))(r:∀F B L H,Rel T F B L H pv v []):SE X T W e (mC pv):=PE.wk h λY H Q ⟨Z,F,env,fp,S,q⟩=>q.scal (Gr.refl S.hp.ft) (r _ _ _ _)
theorem ai{i j pos}:SE X T W (.Constant (.int i) j pos) (mC (.int i)):=lA rR λ_ _ _ _=>by unfold Rel;exact⟨rfl,rfl⟩
theorem eT{b j pos}:SE X T W (.Constant (.bool b) j pos) (mC (.bl b)):=lA Ge λ_ _ _ _=>by unfold Rel;exact⟨rfl,rfl⟩
theorem eD{j pos}:SE X T W (.Constant .none j pos) (mC .non):=lA wB λ_ _ _ _=>by unfold Rel;exact⟨rfl,rfl⟩
theorem bK{x j pos}:SE X T W (.Constant (.str x) j pos) (mC (.str x)):=lA CZ λ_ _ _ _=>by unfold Rel;exact⟨rfl,rfl⟩
theorem Ct(hN:X.N[i]?=some x)(hv:Vis X.env.scope x)(hd:(x ==("__debug__":Str))=false:=by decide)(hcd:(x ==("__classdict__":Str))=false:=by decide):SE X T W (.Name x pos) (ac i):=
 PE.wk (kf hN hv hd hcd) λY H Q hz1=>by
  obtain⟨Z,F,env,fp,S,q⟩:=hz1;unfold ac at q;split at q
  .rename_i pv e
   obtain⟨v,e1,r⟩:=S.rel i pv e;refine⟨v,e1,q.scal (Gr.refl S.hp.ft) ?_⟩;exact Rel.Jp (λa h=>⟨i,h⟩) (Rel.tr (λ_ h=>h) (λ_ h=>h) (λ_ h=>h.elim) (λa o q _=>q) (λa _ o q=>q) r)
  .exact q.elim
theorem tE.bind(S:aA T Z F H Y env fp)(hx:∀c,m env=.exc c->∀H',Ext H H'->W c Y H')(hs:m env≠.stuck)
  (k:∀pv v H' F' f,m env=.ok pv->Gr F H F' H'->Rel T F' Z.B (Own fp) H' pv v f->(∀a∈f,¬F' a)->f.Nodup->(∀a∈f,H a=none)->Q v H'):tE T W m Y H Q:=by
 refine⟨Z,F,env,fp,S,?_⟩;cases e:m env with
 |ok pv=>exact λv H' F' f g r h1 h2 h3=>k pv v H' F' f e g r h1 h2 h3
 |exc c=>exact hx c e
 |stuck=>exact hs e
theorem tE.bq(S:aA T Z F H Y env fp)(k:∀pv v H' F' f,m env=.ok pv->Gr F H F' H'->Rel T F' Z.B (Own fp) H' pv v f->(∀a∈f,¬F' a)->f.Nodup->(∀a∈f,H a=none)->Q v H')(hx:∀c,m env=.exc c->∀H',Ext H H'->W c Y H':=by exact λc e=>by rw[e]at q;exact q)(hs:m env≠.stuck:=by exact λe=>by rw[e]at q;exact q):tE T W m Y H Q:=tE.bind S hx hs k
theorem tA.bind(S:aA T Z F H Y env fp)(hx:∀c,m env=.exc c->∀H',Ext H H'->W c Y H')(hs:m env≠.stuck)
  (k:∀pvs vs H' F' f,m env=.ok pvs->Gr F H F' H'->RelL T F' Z.B (Own fp) H' pvs vs f->(∀a∈f,¬F' a)->f.Nodup->(∀a∈f,H a=none)->Q vs H'):tA T W m Y H Q:=by
 refine⟨Z,F,env,fp,S,?_⟩;cases e:m env with
 |ok pv=>exact λv H' F' f g r h1 h2 h3=>k pv v H' F' f e g r h1 h2 h3
 |exc c=>exact hx c e
 |stuck=>exact hs e
theorem tA.bq(S:aA T Z F H Y env fp)(k:∀pvs vs H' F' f,m env=.ok pvs->Gr F H F' H'->RelL T F' Z.B (Own fp) H' pvs vs f->(∀a∈f,¬F' a)->f.Nodup->(∀a∈f,H a=none)->Q vs H')(hx:∀c,m env=.exc c->∀H',Ext H H'->W c Y H':=by exact λc e=>by rw[e]at q;exact q)(hs:m env≠.stuck:=by exact λe=>by rw[e]at q;exact q):tA T W m Y H Q:=tA.bind S hx hs k
theorem tT.bind(S:aA T Z F H Y env fp)(hx:∀c,m env=.exc c->∀H',Ext H H'->W c Y H')(hs:m env≠.stuck)
  (k:∀b H' F',m env=.ok b->Gr F H F' H'->Q b H'):tT T W m Y H Q:=by
 refine⟨Z,F,env,fp,S,?_⟩;cases e:m env with
 |ok pv=>exact λH' F' g=>k pv H' F' e g
 |exc c=>exact hx c e
 |stuck=>exact hs e
theorem af:SA X T W [] am:=PA.wk iA λY H Q ⟨Z,F,env,fp,S,q⟩=>q [] H F [] (Gr.refl S.hp.ft) (by unfold RelL;exact⟨rfl,rfl⟩) (λ_ z=>(nomatch z)) nodup_nil (λ_ z=>(nomatch z))
theorem aa(ha:SE X T W e m)(hr:SA X T W es ms)(hs:starEach (e::es) X.env=(false,eval e X.env)::starEach es X.env:=by rfl):SA X T W (e::es) (ae m ms):=
 PA.wk (eR ha hr hs) λY H Q hz1=>by
  obtain⟨Z,F,env,fp,S,q⟩:=hz1;unfold ae at q;refine tE.bq S λx v H1 F1 f1 e1 g1 r1 n1 d1 w1=>?_;rw[e1]at q;simp only[Res.Jz]at q;refine tA.bind (S.grow g1) (λc e=>by rw[e]at q;exact λH' x=>q H' (g1.ext.trans x)) (λe=>by rw[e]at q;exact q) λxs vs H2 F2 f2 e2 g2 r2 n2 d2 w2=>?_;rw[e2]at q;simp only[Res.Jz]at q;have new1:∀a∈f1,¬F2 a:=λa ha z=>by
   rcases g2.only a z with z|z
   .exact n1 a ha z
   .obtain⟨o,ho⟩:=r1.there a ha;rw[ho]at z;cases z
  refine q (v::vs) H2 F2 (f1++f2) (g1.trans g2) (by unfold RelL;exact⟨v,vs,f1,f2,rfl,r1.ext g2.ext g2.mono,r2,rfl⟩) (λa ha=>?_) ?_ (λa ha=>?_)
  .rcases mem_append.mp ha with ha|ha
   .exact new1 a ha
   .exact n2 a ha
  .refine nodup_append.mpr ⟨d1,d2,λa ha b hb z=>?_⟩;subst z;obtain⟨o,ho⟩:=r1.there a ha;rw[w2 a hb]at ho;cases ho
  .rcases mem_append.mp ha with ha|ha
   .exact w1 a ha
   .exact g1.ext.free (w2 a ha)
def ap(f:Jn->Jo)(ms:MA):ME:=λenv=>(ms env).bind f
def Mir(T:Tb)(W:Nat->St->Jm)(f:Jn->Jo)(r:Jl->Hp->VK->Prop):Prop:=
 ∀(B F L:Je) (Y:St) (H:Hp) (Q:VK) (F':Je) (H':Hp) (xs:Jn) (vs:Jl) (fx:Jh),Gr F H F' H'->RelL T F' B L H' xs vs fx->(∀a∈fx,¬F' a)->fx.Nodup->(∀a∈fx,H a=none)->
  GE T W B F L Y H Q (f xs)->r vs H' Q
theorem tA.mir(hm:Mir T W f r)(h:tE T W (ap f ms) Y H Q):tA T W ms Y H λvs H1=>r vs H1 Q:=by obtain⟨Z,F,env,fp,S,q⟩:=h;unfold ap at q;refine tA.bq S λxs vs H1 F1 f1 e1 g1 r1 n1 d1 w1=>?_;rw[e1]at q;exact hm Z.B F (Own fp) Y H Q F1 H1 xs vs f1 g1 r1 n1 d1 w1 q
theorem gh{id:String}{x:Str}{es:List Expr}{f:Jn->Jo}{r:Jl->Hp->VK->Prop}(hc:fQ X (.builtin id) r)(hmir:Mir T W f r)(hg:Gl X x)(hm:X.mg x=none)(hv:bootBuiltins x=some (.builtin id))(ha:SA X T W (e::es) ms)
  (hn:x≠"__name__":=by decide) (hdb:(x ==("__debug__":Str))=false:=by decide)
  (he:starEach (e::es) X.env=(false,eval e X.env)::starEach es X.env:=by rfl) (hpl:(backTo pos (starEach es X.env)).any (·.1)=false:=by rfl):SE X T W (.Call (.Name x p) (e::es) [] pos) (ap f ms):=
 PE.wk (lI hc hg hm hv ha hn hdb he hpl) λY H Q h=>tA.mir hmir h
theorem nD{id:String}{x:Str}{es:List Expr}{f:Jn->Jo}{r:Jl->Hp->VK->Prop}(hc:fQ X (.type id) r)(hmir:Mir T W f r)(hg:Gl X x)(hm:X.mg x=none)(hv:bootBuiltins x=some (.type id))(ha:SA X T W (e::es) ms)
  (hn:x≠"__name__":=by decide) (hdb:(x ==("__debug__":Str))=false:=by decide)
  (he:starEach (e::es) X.env=(false,eval e X.env)::starEach es X.env:=by rfl) (hpl:(backTo pos (starEach es X.env)).any (·.1)=false:=by rfl):SE X T W (.Call (.Name x p) (e::es) [] pos) (ap f ms):=
 PE.wk (nH hc hg hm hv ha hn hdb he hpl) λY H Q h=>tA.mir hmir h
def j6(T:Tb)(W:Nat->St->Jm)(f:PV->PV->Jo)(r:R2):Prop:=
 ∀(B F L:Je) (Y:St) (H:Hp) (Q:VK) (F':Je) (H':Hp) (x y:PV) (v u:V) (fx fy:Jh),Gr F H F' H'->Rel T F' B L H' x v fx->Rel T F' B L H' y u fy->(∀a∈fx++fy,¬F' a)->(fx++fy).Nodup->(∀a∈fx++fy,H a=none)->
  GE T W B F L Y H Q (f x y)->r v u H' Q
theorem tE.mir2(hm:j6 T W f r)(h:tE T W (mOp f ma mb) Y H Q):tOp r (tE T W ma) (tE T W mb) Y H Q:=by
 obtain⟨Z,F,env,fp,S,q⟩:=h;unfold mOp at q;refine tE.bq S λx v H1 F1 f1 e1 g1 r1 n1 d1 w1=>?_;rw[e1]at q;simp only[Res.Jz]at q;refine tE.bind (S.grow g1) (λc e=>by rw[e]at q;exact λH' x=>q H' (g1.ext.trans x)) (λe=>by rw[e]at q;exact q) λy u H2 F2 f2 e2 g2 r2 n2 d2 w2=>?_;rw[e2]at q;simp only[Res.Jz]at q;have new1:∀a∈f1,¬F2 a:=λa ha z=>by
  rcases g2.only a z with z|z
  .exact n1 a ha z
  .obtain⟨o,ho⟩:=r1.there a ha;rw[ho]at z;cases z
 refine hm Z.B F (Own fp) Y H Q F2 H2 x y v u f1 f2 (g1.trans g2) (r1.ext g2.ext g2.mono) r2 (λa ha=>?_) ?_ (λa ha=>?_) q
 .rcases mem_append.mp ha with ha|ha
  .exact new1 a ha
  .exact n2 a ha
 .refine nodup_append.mpr ⟨d1,d2,λa ha b hb z=>?_⟩;subst z;obtain⟨o,ho⟩:=r1.there a ha;rw[w2 a hb]at ho;cases ho
 .rcases mem_append.mp ha with ha|ha
  .exact w1 a ha
  .exact g1.ext.free (w2 a ha)
theorem nB(ho:OpR X (binaryOp op) r)(hm:j6 T W f r)(ha:SE X T W a ma)(hb:SE X T W b mb):SE X T W (.BinOp a op b pos) (mOp f ma mb):=
 PE.wk (Ga (pos:=pos) ho ha hb) λY H Q h=>tE.mir2 hm h
theorem oq(ho:OpR X (compareOp op) r)(hm:j6 T W f r)(ha:SE X T W a ma)(hb:SE X T W b mb)(hk:behindInMarks op b=false):SE X T W (.Compare a [op] [b] pos) (mOp f ma mb):=
 PE.wk (Az (pos:=pos) ho ha hb hk) λY H Q h=>tE.mir2 hm h
theorem FY(hr:IxR X r)(hm:j6 T W f r)(ha:SE X T W a ma)(hb:SE X T W b mb)(hs:lw b):SE X T W (.Subscript a b pos) (mOp f ma mb):=
 PE.wk (Gb (pos:=pos) hr ha hb hs) λY H Q h=>tE.mir2 hm h
theorem ki(hg:∀i j F B L H,Rel T F B L H (g' i j) (g i j) []):j6 T W (lM g') (rI0 g):=by
  intro B F L Y H Q F' H' x y v u fx fy gr rx ry _ _ _ q;cases x<;>cases y<;>first
    |exact q.elim
    | (unfold Rel at rx ry
       exact⟨_,_,rx.1,ry.1,q.scal gr (hg _ _ _ _ _ _)⟩)
theorem t7(hc:∀i j,C' i j=true->C i j)(hg:∀i j F B L H,Rel T F B L H (g' i j) (g i j) []):j6 T W (f6 C' g') (rI C g):=by
  intro B F L Y H Q F' H' x y v u fx fy gr rx ry _ _ _ q;cases x<;>cases y<;>first
    |exact q.elim
    | (unfold Rel at rx ry
       simp only[f6]at q;split at q
       . rename_i hh
         exact⟨_,_,rx.1,ry.1,hc _ _ hh,q.scal gr (hg _ _ _ _ _ _)⟩
       . exact q.elim)
theorem fR:Rel T F B L H (.int i) (.int i) []:=by unfold Rel;exact⟨rfl,rfl⟩
theorem ka:Rel T F B L H (.bl i) (.bl i) []:=by unfold Rel;exact⟨rfl,rfl⟩
theorem FZ:Rel T F B L H .non .non []:=by unfold Rel;exact⟨rfl,rfl⟩
def fB:PV->PV->Jo:=lM λi j=>.int (i-j)
def cy:PV->PV->Jo:=f6 (λi j=>decide ((-(2 ^ 64)<i/\i<2 ^ 64)\/(-(2 ^ 64)<j/\j<2 ^ 64))) λi j=>.int (i*j)
def cI:PV->PV->Jo:=f6 (λ_ j=>decide (0<j)) λi j=>.int (i%j)
def dB:PV->PV->Jo:=f6 (λ_ j=>decide (0<j/\j<1073741824)) λi j=>.int (i / j)
def pLt:PV->PV->Jo:=lM λi j=>.bl (decide (i<j))
def pLe:PV->PV->Jo:=lM λi j=>.bl (decide (i<=j))
def pGt:PV->PV->Jo:=lM λi j=>.bl (decide (j<i))
def pGe:PV->PV->Jo:=lM λi j=>.bl (decide (j<=i))
variable{a b:Expr}{ma mb:ME}{pos:Pos}
theorem cW(ha:SE X T W a ma)(hb:SE X T W b mb):SE X T W (.BinOp a .Sub b pos) (mOp fB ma mb):=nB C5 (ki λ_ _ _ _ _ _=>fR) ha hb
theorem cD(ha:SE X T W a ma)(hb:SE X T W b mb):SE X T W (.BinOp a .Mult b pos) (mOp cy ma mb):=nB C7 (t7 (λi j h=>(by simpa using h:(-(2 ^ 64)<i/\i<2 ^ 64)\/(-(2 ^ 64)<j/\j<2 ^ 64))) λ_ _ _ _ _ _=>fR) ha hb
theorem bJ(ha:SE X T W a ma)(hb:SE X T W b mb):SE X T W (.BinOp a .Mod b pos) (mOp cI ma mb):=nB C8 (t7 (λ_ _ h=>of_decide_eq_true h) λ_ _ _ _ _ _=>fR) ha hb
theorem di(ha:SE X T W a ma)(hb:SE X T W b mb):SE X T W (.BinOp a .FloorDiv b pos) (mOp dB ma mb):=nB AE (t7 (λi j h=>(by simpa using h:0<j/\j<1073741824)) λ_ _ _ _ _ _=>fR) ha hb
theorem FW(ha:SE X T W a ma)(hb:SE X T W b mb):SE X T W (.Compare a [.Lt] [b] pos) (mOp pLt ma mb):=oq BW (ki λ_ _ _ _ _ _=>ka) ha hb (fj _)
theorem FX(ha:SE X T W a ma)(hb:SE X T W b mb):SE X T W (.Compare a [.LtE] [b] pos) (mOp pLe ma mb):=oq Gj (ki λ_ _ _ _ _ _=>ka) ha hb (fj _)
end
def GS(T:Tb)(W:Nat->St->Jm)(Z:Zn)(D:Ends):Out->Prop
 |.next e=>∀F H Y fp,aA T Z F H Y e fp->D.nx Y H
 |.ret pv=>∀F H v f,cC T Z F H->Rel T F Z.B NoL H pv v f->f.Nodup->(∀a∈f,¬F a)->(∀a∈f,Z.H0 a=none\/Z.fp0 a)->D.rt v H
 |.brk e=>∀F H Y fp,aA T Z F H Y e fp->D.bk Y H
 |.cont e=>∀F H Y fp,aA T Z F H Y e fp->D.ct Y H
 |.exc c e=>∀F H Y fp,aA T Z F H Y e fp->W c Y H
 |.stuck=>False
def tS(T:Tb)(W:Nat->St->Jm)(m:MS):TS:=λD Y H=>∃Z F env fp,aA T Z F H Y env fp/\GS T W Z D (m env)
abbrev SS(X:Cx)(T:Tb)(W:Nat->St->Jm)(st:Stmt)(m:MS):Prop:=PS X st (tS T W m)
abbrev SSs(X:Cx)(T:Tb)(W:Nat->St->Jm)(sts:List Stmt)(m:MS):Prop:=PSs X sts (tS T W m)
theorem xh{p:Fl->Bool}(hL:p .lnt=false->∀a,L a->L' a)(hB:p .bor=false->∀a,B a->B' a):Mp T (λf=>f) p (λx=>x) (λ_=>True) F B L H F B' L' H:=
 ⟨λf a vs q _ h=>by
  cases f with
  |lnt=>exact⟨hL q a h.1,h.2⟩
  |bor=>exact⟨hB q a h.1,h.2⟩
  | _=>exact h,λf a q _ h=>⟨by
  cases f with
  |lnt=>exact hL q a h
  |bor=>exact hB q a h
  |_=>exact h,λ_ q=>q⟩,λ_ _ _ _ h=>h,rfl,λ_ _=>rfl,λ_ _ q _=>q⟩
theorem Rel.noL(hp:x.has Fl.Ju=false)(h:Rel T F B L H x v fo):Rel T F B L' H x v fo:=by
 have:=(xh (p:=Fl.Ju) (L':=L') (λz=>(nomatch z)) (λ_ _ q=>q)).rel hp (λ_ _=>True.intro) h
 rwa [lg]at this
theorem RelL.noL(hp:hasL Fl.Ju x=false)(h:RelL T F B L H x v fo):RelL T F B L' H x v fo:=by
 have:=(xh (p:=Fl.Ju) (L':=L') (λz=>(nomatch z)) (λ_ _ q=>q)).rels hp (λ_ _=>True.intro) h
 rwa [mapL_id]at this
section
variable{X:Cx}{T:Tb}{W:Nat->St->Jm}{Z:Zn}{F F' B L:Je}{H H':Hp}{Y:St}{env:En}{fp:Nat->Jh}{D:Ends}
def cG(fp:Nat->Jh)(i:Nat)(f:Jh):Nat->Jh:=λj=>if j=i then f else fp j
theorem aA.put(S:aA T Z F H Y env fp){i:Nat}{pv:PV}{v:V}{f:Jh}(r:Rel T F Z.B NoL H pv v f)(nd:f.Nodup)(nf:∀a∈f,¬F a)(new:∀a∈f,Z.H0 a=none\/Z.fp0 a)(dj:∀a∈f,∀j,j≠i->a∉fp j)(ho:aT i env=true) :
  aA T Z F H (Y.set i (some v)) (env.set i (some pv)) (cG fp i f):=by
 refine⟨S.hp,by rw[length_set,length_set,S.len],λj pv' e=>?_,λj=>?_,λj k hjk a ha=>?_,λj a ha=>?_,λj a ha=>?_,λj a ha=>?_,λw hw=>?_⟩
 .grind[cG,aA,cC,Gr]
 .unfold cG;split
  .exact nd
  .exact S.nd j
 .grind[cG,aA,cC,Gr]
 .unfold cG at ha;by_cases h1:j=i
  .rw[if_pos h1]at ha;exact⟨nf a ha,r.there a ha⟩
  .rw[if_neg h1]at ha;exact S.dis j a ha
 .unfold cG at ha;by_cases h1:j=i
  .rw[if_pos h1]at ha;exact new a ha
  .rw[if_neg h1]at ha;exact S.new j a ha
 .unfold cG at ha;by_cases h1:j=i
  .rw[if_pos h1]at ha;exact r.chg a ha
  .rw[if_neg h1]at ha;exact S.ch j a ha
 .obtain⟨h1,h2⟩:=S.pn w hw;have hi:i≠0:=λz=>by rw[z]at ho;simp[aT,h2]at ho
  refine⟨by rw[getElem?_set_ne hi];exact h1,?_⟩;unfold dR at h2 ⊢;rw[getElem?_set_ne hi];exact h2
theorem aA.putN(S:aA T Z F H Y env fp)(g:Gr F H F' H'){i:Nat}{pv:PV}{v:V}{f:Jh}(ho:aT i env=true)(r:Rel T F' Z.B L H' pv v f)(hl:pv.Jw=true)(nf:∀a∈f,¬F' a)(nd:f.Nodup)(w:∀a∈f,H a=none) :
  aA T Z F' H' (Y.set i (some v)) (env.set i (some pv)) (cG fp i f):=by
 refine(S.grow g).put (Rel.noL (by simpa[PV.Jw]using hl) r) nd nf (λa ha=>?_) (λa ha j _ hj=>?_) ho
 .by_cases q:Z.fp0 a
  .exact .inr q
  .refine .inl ?_;cases e:Z.H0 a with
   |none=>rfl
   |some o=>have:=S.hp.keep a o e q;rw[w a ha]at this;cases this
 .obtain⟨_,o,ho⟩:=S.dis j a hj;rw[w a ha]at ho;cases ho
theorem aK:SSs X T W [] aU:=PSs.wk Aq λD Y H ⟨Z,F,env,fp,S,q⟩=>q F H Y fp S
theorem ag{aI:List Stmt}(h1:SS X T W st a)(h2:SSs X T W aI b):SSs X T W (st::aI) (aq a b):=
 PSs.wk (wj h1 h2) λD Y H hz1=>by
  obtain⟨Z,F,env,fp,S,q⟩:=hz1;refine⟨Z,F,env,fp,S,?_⟩;unfold aq at q;cases e:a env with
  |next e'=>rw[e]at q;exact λF' H' σ' fp' S'=>⟨Z,F',e',fp',S',q⟩
  |ret v|brk e'|cont e'|exc c e'|stuck=>rw[e]at q;exact q
theorem ak(h1:SS X T W st a):SSs X T W [st] a:=Ap h1
def xy:MS:=.brk
theorem vW:SS X T W (.Break pos) xy:=PS.wk wo λD Y H ⟨Z,F,env,fp,S,q⟩=>q F H Y fp S
theorem a_(hc:ST X T W c mc)(ha:SSs X T W a ma)(hb:SSs X T W b mb):SS X T W (.If c a b pos) (mBr mc ma mb):=
 PS.wk (F8 (pos:=pos) hc ha hb) λD Y H hz1=>by
  obtain⟨Z,F,env,fp,S,q⟩:=hz1;unfold mBr at q;refine tT.bind S (λc e H' x=>?_) (λe=>by rw[e]at q;exact q) λb H' F' e g=>?_
  .rw[e]at q;exact q F H' Y fp (S.grow (Gr.same S.hp.ft x))
  .cases b with
   |true=>rw[e]at q;exact(if_pos rfl).mpr ⟨Z,F',env,fp,S.grow g,q⟩
   |false=>rw[e]at q;exact(if_neg (by decide)).mpr ⟨Z,F',env,fp,S.grow g,q⟩
theorem Cm(hN:X.N.Nodup)(hi:X.N[i]?=some x)(hx:Loc X.env.scope x)(he:SE X T W e m)(hs:swapsWith e (some (.Name x pos')) pos.line X.env=pure false:=by rfl)
  (hf:X.fn x=true\/X.env.scope.names.lookup x=some .local:=by first|exact .inl rfl|exact .inr rfl|assumption):SS X T W (.Assign [.Name x pos'] e pos) (aN i m):=
 PS.wk (CO (pos:=pos) hN hi hx he hs hf) λD Y H hz1=>by
  obtain⟨Z,F,env,fp,S,q⟩:=hz1;unfold aN at q;refine tE.bind S (λc e H' x=>?_) (λe=>by rw[e]at q;exact q) λpv v H1 F1 f e g r h1 h2 h3=>?_
  .rw[e]at q;exact q F H' Y fp (S.grow (Gr.same S.hp.ft x))
  .rw[e]at q;simp only at q;split at q
   .rename_i hl
    rw[and_eq_true]at hl;exact q F1 H1 _ _ (S.putN g hl.2 r hl.1 h1 h2 h3)
   .exact q.elim
theorem cC.newE(S:cC T Z F H){f:Jh}(w:∀a∈f,H a=none):∀a∈f,Z.H0 a=none\/Z.fp0 a:=λa ha=>by
 by_cases q:Z.fp0 a
 .exact .inr q
 .refine .inl ?_;cases e:Z.H0 a with
  |none=>rfl
  |some o=>have:=S.keep a o e q;rw[w a ha]at this;cases this
theorem aE(he:SE X T W e m):SS X T W (.Return (some e) pos) (bt m):=
 PS.wk (wn (pos:=pos) he) λD Y H hz1=>by
  obtain⟨Z,F,env,fp,S,q⟩:=hz1;unfold bt at q;refine tE.bind S (λc e H' x=>?_) (λe=>by rw[e]at q;exact q) λpv v H1 F1 f e g r h1 h2 h3=>?_
  .rw[e]at q;exact q F H' Y fp (S.grow (Gr.same S.hp.ft x))
  .rw[e]at q;simp only at q;split at q
   .rename_i hl
    exact q F1 H1 v f (S.hp.grow g) (Rel.noL (by simpa[PV.Jw]using hl) r) h2 h1 (S.hp.newE h3)
   .exact q.elim
theorem cZ(hN:X.N[i]?=some x)(hv:Vis X.env.scope x)(hd:(x ==("__debug__":Str))=false:=by decide)(hcd:(x ==("__classdict__":Str))=false:=by decide):SS X T W (.Return (some (.Name x pos')) pos) (d6 i):=
 PS.wk (wn (pos:=pos) (kf hN hv hd hcd)) λD Y H hz1=>by
  obtain⟨Z,F,env,fp,S,q⟩:=hz1;unfold d6 at q;split at q
  .rename_i pv e
   obtain⟨v,e1,r⟩:=S.rel i pv e;exact⟨v,e1,q F H v (fp i) S.hp r (S.nd i) (λa ha=>(S.dis i a ha).1) (S.new i)⟩
  .exact q.elim
theorem dZ(he:SE X T W e m)(hs:swapsWith e none pos.line X.env=pure false:=by rfl):SS X T W (.Expr e pos) (fO m):=
 PS.wk (ow (pos:=pos) he hs) λD Y H hz1=>by
  obtain⟨Z,F,env,fp,S,q⟩:=hz1;unfold fO at q;refine tE.bind S (λc e H' x=>?_) (λe=>by rw[e]at q;exact q) λpv v H1 F1 f e g r h1 h2 h3=>?_
  .rw[e]at q;exact q F H' Y fp (S.grow (Gr.same S.hp.ft x))
  .rw[e]at q;exact q F1 H1 Y fp (S.grow g)
theorem u8(hF:∀a,F a->F' a):Mp T Fl.Jr (λ_=>false) (λ_=>[]) F' F B L H F' B L H:=
 ⟨λf a vs _ c h=>by
  cases f with
  |own=>exact⟨c rfl,.inl h⟩
  |frz=>exact⟨hF a h.1,h.2⟩
  | _=>exact h,λf a _ c h=>⟨by
  cases f with
  |own=>exact c rfl
  |frz=>exact hF a h
  |_=>exact h,λ_ q=>q⟩,λf a x y h=>by cases f<;>exact⟨rfl,rfl⟩,rfl,λ_ _=>rfl,λ_ _ q _=>q⟩
theorem Rel.Jr(hF:∀a,F a->F' a)(hp:∀a∈fo,F' a)(h:Rel T F B L H x v fo):Rel T F' B L H (x.Jx Fl.Jr) v []:=(u8 hF).rel (l9 x) hp h
theorem aA.frz(S:aA T Z F H Y env fp){i:Nat}{pv:PV}(e:env[i]?=some (some pv)):aA T Z (λa=>F a\/a∈fp i) H Y (env.set i (some (pv.Jx Fl.Jr))) (cG fp i []):=by
 have hi:i<env.length:=(List.getElem?_eq_some_iff.mp e).1;refine⟨⟨S.hp.bo,S.hp.keep,λa h=>.inl (S.hp.f0 a h),λa h=>h.elim (S.hp.fn a) λz=>.inr (S.new i a z),λa h=>h.elim (S.hp.ft a) λz=>(S.dis i a z).2⟩,by rw[length_set,S.len],λj pv' e'=>?_,λj=>?_,λj k hjk a ha=>?_,λj a ha=>?_,λj a ha=>?_,λj a ha=>?_,λw hw=>?_⟩
 .by_cases hj:j=i
  .subst hj;rw[getElem?_set_self hi]at e';cases e';obtain⟨v,h1,h2⟩:=S.rel j pv e;refine⟨v,h1,?_⟩;unfold cG;rw[if_pos rfl];exact Rel.Jr (λ_ h=>.inl h) (λa h=>.inr h) h2
  .rw[getElem?_set_ne (Ne.symm hj)]at e';obtain⟨w,h1,h2⟩:=S.rel j pv' e';refine⟨w,h1,?_⟩;unfold cG;rw[if_neg hj];exact h2.ext Ext.refl λ_ h=>.inl h
 .unfold cG;split
  .exact nodup_nil
  .exact S.nd j
 .grind[cG,aA,cC,Gr]
 .unfold cG at ha;by_cases h1:j=i
  .rw[if_pos h1]at ha;cases ha
  .rw[if_neg h1]at ha;exact⟨λz=>z.elim (S.dis j a ha).1 λz=>S.dj j i h1 a ha z,(S.dis j a ha).2⟩
 .unfold cG at ha;by_cases h1:j=i
  .rw[if_pos h1]at ha;cases ha
  .rw[if_neg h1]at ha;exact S.new j a ha
 .unfold cG at ha;by_cases h1:j=i
  .rw[if_pos h1]at ha;cases ha
  .rw[if_neg h1]at ha;exact S.ch j a ha
 .obtain⟨h1,h2⟩:=S.pn w hw;refine⟨h1,?_⟩;unfold dR at h2 ⊢;by_cases hi0:i=0
  .subst hi0;rw[e]at h2;rw[getElem?_set_self hi];cases pv<;>first|exact h2 |(cases h2;done)|rfl
  .rw[getElem?_set_ne hi0];exact h2
theorem eB{i:Nat}{sts:List Stmt}(h:SSs X T W sts m):SSs X T W sts (aq (gW i) m):=PSs.wk h λD Y H hz1=>by
 obtain⟨Z,F,env,fp,S,q⟩:=hz1;cases e:env[i]? with
 |none=>simp[aq,gW,e]at q;exact q.elim
 |some w=>
  cases w with
  |none=>simp[aq,gW,e]at q;exact q.elim
  |some pv=>simp only[aq,gW,e]at q;exact⟨Z,_,_,_,S.frz e,q⟩
def Zn.re(Z:Zn)(F:Je)(H:Hp)(fp:Nat->Jh):Zn:=⟨H,F,Own fp,Z.B,Z.pin⟩
theorem aA.enter(S:aA T Z F H Y env fp):aA T (Z.re F H fp) F H Y env fp:=
 ⟨⟨⟨λa h=>by
   obtain⟨⟨o,h1⟩,h2⟩:=S.hp.bo.1 a h;refine⟨⟨o,S.hp.keep a o h1 h2⟩,λ⟨i,hi⟩=>?_⟩;rcases S.new i a hi with z|z
   .rw[h1]at z;cases z
   .exact h2 z,S.tbo Ext.refl λ_ z=>.inr z⟩,λ_ _ h _=>h,λ_ h=>h,λ_ h=>.inl h,S.hp.ft⟩,S.len,S.rel,S.nd,S.dj,S.dis,λi a ha=>.inr ⟨i,ha⟩,S.ch,S.pn⟩
theorem cC.leave(S:aA T Z F H Y env fp)(S':cC T (Z.re F H fp) F' H'):cC T Z F' H':=
 ⟨S.hp.bo,λa o h n=>S'.keep a o (S.hp.keep a o h n) λhz1=>by
   obtain⟨i,hi⟩:=hz1;rcases S.new i a hi with z|z
   .rw[h]at z;cases z
   .exact n z,λa h=>S'.f0 a (S.hp.f0 a h),λa h=>by
  rcases S'.fn a h with z|z |⟨i,hi⟩
  .exact S.hp.fn a z
  .refine .inr ?_;by_cases q:Z.fp0 a
   .exact .inr q
   .refine .inl ?_;cases w:Z.H0 a with
    |none=>rfl
    |some o=>have z':H a=none:=z;rw[S.hp.keep a o w q]at z';cases z'
  .exact .inr (S.new i a hi),S'.ft⟩
theorem aA.newL(S:aA T Z F H Y env fp)(h:(Z.re F H fp).H0 a=none \/(Z.re F H fp).fp0 a):Z.H0 a=none\/Z.fp0 a:=by
 rcases h with z |⟨i,hi⟩
 .by_cases q:Z.fp0 a
  .exact .inr q
  .refine .inl ?_;cases w:Z.H0 a with
   |none=>rfl
   |some o=>have z':H a=none:=z;rw[S.hp.keep a o w q]at z';cases z'
 .exact S.new i a hi
theorem aA.leave(S:aA T Z F H Y env fp)(S':aA T (Z.re F H fp) F' H' σ' env' fp'):aA T Z F' H' σ' env' fp':=
 ⟨cC.leave S S'.hp,S'.len,S'.rel,S'.nd,S'.dj,S'.dis,λi a ha=>S.newL (S'.new i a ha),S'.ch,S'.pn⟩
abbrev SW(X:Cx)(T:Tb)(W:Nat->St->Jm)(e:Expr)(m:MT):Prop:=PW X e (tT T W m)
theorem tT.test(h:tT T W (ax m) Y H Q):tE T W m Y H λx H'=>∃k,x=.bl k/\Q k H':=by
 obtain⟨Z,F,env,fp,S,q⟩:=h;unfold ax at q;refine tE.bq S λx v H1 F1 f1 e1 g1 r1 n1 d1 w1=>?_;rw[e1]at q;cases x with
 |bl b=>unfold Rel at r1;exact⟨b,r1.1,q H1 F1 g1⟩
 |_=>exact q.elim
theorem fZ(ho:OpR X (compareOp op) r)(hm:j6 T W f r)(ha:SE X T W a ma)(hb:SE X T W b mb)(hk:behindInMarks op b=false):ST X T W (.Compare a [op] [b] pos) (ax (mOp f ma mb)):=
 PT.wk (Ao (pos:=pos) ho ha hb hk) λY H Q h=>by obtain⟨Z,F,env,fp,S,q⟩:=tT.test h;exact tE.mir2 hm ⟨Z,F,env,fp,S,q⟩
theorem im(h:ST X T W a m):ST X T W (.UnaryOp .Not a pos) (iF m):=PT.wk (CM (pos:=pos) h) λY H Q hz1=>by obtain⟨Z,F,env,fp,S,q⟩:=hz1;unfold iF at q;refine tT.bind S (λc e=>by rw[e]at q;exact q) (λe=>by rw[e]at q;exact q) λb H1 F1 e1 g1=>?_;rw[e1]at q;exact q H1 F1 g1
theorem dM(h:ST X T W a m):SW X T W (.BoolOp .And [a] pos) m:=An h
theorem fg(h:ST X T W a m):SW X T W (.BoolOp .Or [a] pos) m:=CK h
theorem dY{aI:List Expr}(h:ST X T W a m)(h2:SW X T W (.BoolOp .And (b::aI) pos) n):SW X T W (.BoolOp .And (a::b::aI) pos) (eA m n):=PW.wk (CL h h2) λY H Q hz1=>by
 obtain⟨Z,F,env,fp,S,q⟩:=hz1;unfold eA at q;refine tT.bind S (λc e=>by rw[e]at q;exact q) (λe=>by rw[e]at q;exact q) λb H1 F1 e1 g1=>?_;rw[e1]at q;cases b with
 |true=>
  refine(if_pos rfl).mpr ⟨Z,F1,env,fp,S.grow g1,?_⟩;simp only[Res.Jz,if_true]at q;cases e2:n env with
  |ok b=>rw[e2]at q;exact λH2 F2 g2=>q H2 F2 (g1.trans g2)
  |exc c=>rw[e2]at q;exact λH' x=>q H' (g1.ext.trans x)
  |stuck=>rw[e2]at q;exact q
 |false=>exact(if_neg (by decide)).mpr (q H1 F1 g1)
theorem fz{aI:List Expr}(h:ST X T W a m)(h2:SW X T W (.BoolOp .Or (b::aI) pos) n):SW X T W (.BoolOp .Or (a::b::aI) pos) (gy m n):=PW.wk (F7 h h2) λY H Q hz1=>by
 obtain⟨Z,F,env,fp,S,q⟩:=hz1;unfold gy at q;refine tT.bind S (λc e=>by rw[e]at q;exact q) (λe=>by rw[e]at q;exact q) λb H1 F1 e1 g1=>?_;rw[e1]at q;cases b with
 |false=>
  refine(if_neg (by decide)).mpr ⟨Z,F1,env,fp,S.grow g1,?_⟩;simp only[Res.Jz,false_eq_true,if_false]at q;cases e2:n env with
  |ok b=>rw[e2]at q;exact λH2 F2 g2=>q H2 F2 (g1.trans g2)
  |exc c=>rw[e2]at q;exact λH' x=>q H' (g1.ext.trans x)
  |stuck=>rw[e2]at q;exact q
 |true=>exact(if_pos rfl).mpr (q H1 F1 g1)
theorem SW.st(h:SW X T W e m):ST X T W e m:=PW.pt h
theorem bI(hK:X.K=T.K)(h:SE X T W a m)(he:∀whole,isTrue a X.env whole=(do let v <- whole;standAt a.pos;holding [v] (truthy v)):=by intro _;rfl):ST X T W a (bX m):=PT.wk (wg h he) λY H Q hz1=>by
 obtain⟨Z,F,env,fp,S,q⟩:=hz1;unfold bX at q;refine tE.bq S λx v H1 F1 f1 e1 g1 r1 n1 d1 w1=>?_;rw[e1]at q;rw[hK];cases x with
 |non=>unfold Rel at r1;rw[r1.1];exact⟨false,rfl,q H1 F1 g1⟩
 |bl b=>unfold Rel at r1;rw[r1.1];exact⟨b,rfl,q H1 F1 g1⟩
 |int i=>unfold Rel at r1;rw[r1.1];exact⟨_,rfl,q H1 F1 g1⟩
 |str i=>exact q.elim
 |lst f xs=>
  unfold Rel at r1;obtain⟨a,vs,fp',rfl,hl,hr,_⟩:=r1;have hl':SqL T.K H1 a vs:=hl.sq;have e:(!xs.isEmpty)=!vs.isEmpty:=by have:=hr.length;cases xs<;>cases vs<;>simp_all
  exact⟨_,.inl ⟨vs,hl',rfl⟩,by rw[<- e];exact q H1 F1 g1⟩
 |tup xs=>
  unfold Rel at r1;obtain⟨a,vs,rfl,hl,hr⟩:=r1;have e:(!xs.isEmpty)=!vs.isEmpty:=by have:=hr.length;cases xs<;>cases vs<;>simp_all
  exact⟨_,.inr (.inl ⟨vs,hl,rfl⟩),by rw[<- e];exact q H1 F1 g1⟩
 |obj f c ks xs|exc c|box k xs=>exact q.elim
theorem jD(hc:ST X T W c mc)(ha:SE X T W a ma)(hb:SE X T W b mb):SE X T W (.IfExp c a b pos) (oK mc ma mb):=PE.wk (wC (pos:=pos) hc ha hb) λY H Q hz1=>by
 obtain⟨Z,F,env,fp,S,q⟩:=hz1;unfold oK at q;refine tT.bind S (λc e=>by rw[e]at q;exact q) (λe=>by rw[e]at q;exact q) λb H1 F1 e1 g1=>?_;rw[e1]at q;have lift:∀m:ME,GE T W Z.B F (Own fp) Y H Q (m env)->tE T W m Y H1 Q:=λm q=>by
  refine⟨Z,F1,env,fp,S.grow g1,?_⟩;cases e2:m env with
  |ok b=>rw[e2]at q;exact λv H2 F2 f g2 r n d w=>q v H2 F2 f (g1.trans g2) r n d λa ha=>g1.ext.free (w a ha)
  |exc c=>rw[e2]at q;exact λH' x=>q H' (g1.ext.trans x)
  |stuck=>rw[e2]at q;exact q
 cases b with
 |true=>exact(if_pos rfl).mpr (lift ma q)
 |false=>exact(if_neg (by decide)).mpr (lift mb q)
def qg(a:ME):ME:=λenv=>(a env).bind fun
 |.bl b=>.ok (.bl (!b))
 |_=>.stuck
def i8(a b:ME):ME:=λenv=>(a env).bind fun
 |.bl true=>b env
 |.bl false=>.ok (.bl false)
 |_=>.stuck
theorem v3(ha:SE X T W a ma):SE X T W (.UnaryOp .Not a pos) (qg ma):=PE.wk (C1 (pos:=pos) ha) λY H Q hz1=>by
 obtain⟨Z,F,env,fp,S,q⟩:=hz1;unfold qg at q;refine tE.bq S λx v H1 F1 f1 e1 g1 r1 n1 d1 w1=>?_;rw[e1]at q;cases x with
 |bl b=>unfold Rel at r1;exact⟨b,r1.1,q.scal g1 ka⟩
 |_=>exact q.elim
theorem oi(ha:SE X T W a ma):SE X T W (.BoolOp op [a] pos) ma:=C0 ha
theorem tE.later(S:aA T Z F H Y env fp)(g1:Gr F H F' H')(q:GE T W Z.B F (Own fp) Y H Q (m env)):tE T W m Y H' Q:=by
 refine⟨Z,F',env,fp,S.grow g1,?_⟩;cases e2:m env with
 |ok b=>rw[e2]at q;exact λv H2 F2 f g2 r n d w=>q v H2 F2 f (g1.trans g2) r n d λa ha=>g1.ext.free (w a ha)
 |exc c=>rw[e2]at q;exact λH' x=>q H' (g1.ext.trans x)
 |stuck=>rw[e2]at q;exact q
theorem lD{aI:List Expr}(ha:SE X T W a ma)(hb:SE X T W (.BoolOp .And (b::aI) pos) mb):SE X T W (.BoolOp .And (a::b::aI) pos) (i8 ma mb):=PE.wk (C4 ha hb) λY H Q hz1=>by
 obtain⟨Z,F,env,fp,S,q⟩:=hz1;unfold i8 at q;refine tE.bq S λx v H1 F1 f1 e1 g1 r1 n1 d1 w1=>?_;rw[e1]at q;cases x with
 |bl b=>
  unfold Rel at r1;refine⟨b,r1.1,?_⟩;cases b with
  |true=>exact(if_pos rfl).mpr (tE.later S g1 q)
  |false=>exact(if_neg (by decide)).mpr (q.scal g1 ka)
 |_=>exact q.elim
def BH(T:Tb)(W:Nat->St->Jm)(f:PV->Jo)(r:V->Hp->VK->Prop):Prop:=
 ∀(B F L:Je) (Y:St) (H:Hp) (Q:VK) (F':Je) (H':Hp) (x:PV) (v:V) (fx:Jh),Gr F H F' H'->Rel T F' B L H' x v fx->(∀a∈fx,¬F' a)->fx.Nodup->(∀a∈fx,H a=none)->GE T W B F L Y H Q (f x)->r v H' Q
theorem tE.mir1(hm:BH T W f r)(h:tE T W (mUn f m) Y H Q):tUn r (tE T W m) Y H Q:=by obtain⟨Z,F,env,fp,S,q⟩:=h;unfold mUn at q;refine tE.bq S λx v H1 F1 f1 e1 g1 r1 n1 d1 w1=>?_;rw[e1]at q;exact hm Z.B F (Own fp) Y H Q F1 H1 x v f1 g1 r1 n1 d1 w1 q
def p6:PV->Jo
 |.int i=>.ok (.int (-i))
 |_=>.stuck
theorem oj(ha:SE X T W a m):SE X T W (.UnaryOp .USub a pos) (mUn p6 m):=PE.wk (BU (pos:=pos) vO ha) λY H Q h=>tE.mir1 (λB F L Y H Q F' H' x v fx g r _ _ _ q=>by
 cases x with
 |int i=>unfold Rel at r;exact⟨i,r.1,q.scal g fR⟩
 |_=>exact q.elim) h
def bw(k:Nat):List Nat->Jn->Option PV
 |j::ks,v::vs=>if j=k then some v else bw k ks vs
 |_,_=>none
def Fl.Jt:Fl->Bool
 |.own=>true
 |_=>false
def ao(k:Nat):PV->Jo
 |.obj f _ ks vs=>match bw k ks vs with
  |some v=>if f.Jt&&v.has Fl.Jt then .stuck else .ok v
  |none=>.stuck
 |_=>.stuck
mutual
theorem Rel.Jy:∀{x:PV}{v:V}{fp:Jh},x.has Fl.Jt=false->Rel T F B L H x v fp->fp=[]
 |.non,_,_,_,h|.bl _,_,_,_,h|.int _,_,_,_,h|.str _,_,_,_,h=>by unfold Rel at h;exact h.2
 |.lst f xs,_,fp,hp,h=>by
  unfold Rel at h;simp only[PV.has,or_eq_false_iff]at hp;obtain⟨a,vs,fp',e,hl,hr,hf⟩:=h;cases f with
  |own=>exact absurd hp.1 (by decide)
  |frz|bor|lnt|mod=>exact hf.2
 |.tup xs,_,fp,hp,h=>by unfold Rel at h;simp only[PV.has]at hp;obtain⟨a,vs,e,hl,hr⟩:=h;exact RelL.Jy hp hr
 |.obj f c ks xs,_,fp,hp,h=>by
  unfold Rel at h;simp only[PV.has,or_eq_false_iff]at hp;obtain⟨a,dx,vs,fp',e,hl,hk,hr,hf,ha⟩:=h;cases f with
  |own=>exact absurd hp.1 (by decide)
  |frz|bor|lnt|mod=>exact hf.2
 |.exc c,_,fp,hp,h=>by unfold Rel at h;obtain⟨a,_,_,e⟩:=h;exact e
 |.box k xs,_,fp,hp,h=>by unfold Rel at h;obtain⟨a,vs,e,hl,hr⟩:=h;exact RelL.Jy hp hr
theorem RelL.Jy:∀{xs:Jn}{vs:Jl}{fp:Jh},hasL Fl.Jt xs=false->RelL T F B L H xs vs fp->fp=[]
 | [],_,_,_,h=>by unfold RelL at h;exact h.2
 |x::xs,_,fp,hp,h=>by unfold RelL at h;simp only[hasL,or_eq_false_iff]at hp;obtain⟨v,ws,f1,f2,e,h1,h2,rfl⟩:=h;rw[Rel.Jy hp.1 h1,RelL.Jy hp.2 h2];rfl
end
theorem RelL.get:∀{xs:Jn}{vs:Jl}{fp:Jh}{i:Nat}{x:PV},RelL T F B L H xs vs fp->xs[i]?=some x->∃v f,vs[i]?=some v/\Rel T F B L H x v f/\f.Sublist fp
 | [],_,_,_,_,_,e=>by simp at e
 |y::xs,_,fp,0,x,h,e=>by
  unfold RelL at h
  grind
 |y::xs,_,fp,i+1,x,h,e=>by unfold RelL at h;obtain⟨v,ws,f1,f2,rfl,h1,h2,rfl⟩:=h;obtain⟨w,f,e1,r,s⟩:=RelL.get (i:=i) h2 (by simpa using e);exact⟨w,f,by simpa using e1,r,s.trans (List.sublist_append_right _ _)⟩
theorem qw:∀{ks:List Nat}{xs:Jn}{vs:Jl}{fp:Jh}{x:PV},RelL T F B L H xs vs fp->bw k ks xs=some x->∃v f,((ks.map T.att).zip vs).lookup (T.att k)=some v/\Rel T F B L H x v f/\f.Sublist fp
 | [],_,_,_,_,_,e|j::ks,[],_,_,_,_,e=>by simp[bw]at e
 |j::ks,y::xs,_,fp,x,h,e=>by
  unfold RelL at h;obtain⟨v,ws,f1,f2,rfl,h1,h2,rfl⟩:=h;unfold bw at e;by_cases hj:j=k
  .rw[if_pos hj]at e;cases e;subst hj;exact⟨v,f1,by simp,h1,List.sublist_append_left _ _⟩
  .rw[if_neg hj]at e;obtain⟨w,f,e1,r,s⟩:=qw (ks:=ks) h2 e;refine⟨w,f,?_,r,s.trans (List.sublist_append_right _ _)⟩;have:(T.att k==T.att j)=false:=by rw[beq_eq_false_iff_ne];exact λz=>hj (T.inj _ _ z).symm
   rw[map_cons,zip_cons_cons,List.lookup_cons,this];exact e1
theorem zX(hK:X.K=T.K)(hf:T.att k=f)(hc:∀c<T.nc,Cls T.K (T.cls c))(hn:∀c<T.nc,fu T.K (T.cls c) f)(h:tE T W (mUn (ao k) m) Y H Q):FQ X.K (tE T W m) f Y H Q:=by
 obtain⟨Z,F,env,fp,S,q⟩:=h;unfold mUn at q;refine tE.bq S λx v H1 F1 f1 e1 g1 r1 n1 d1 w1=>?_;rw[e1]at q;cases x with
 |obj fl c ks xs=>
  simp only[Res.Jz,ao]at q;cases e2:bw k ks xs with
  |none=>rw[e2]at q;exact q.elim
  |some y=>
   rw[e2]at q;dsimp only at q;unfold Rel at r1;obtain⟨a,dx,vs,fp',rfl,hl,hk,hr,hfl,_⟩:=r1;obtain⟨w,f',l1,l2,l3⟩:=qw hr e2;have e0:f'=[]:=by
    cases fl with
    |own=>
     simp only[Fl.Jt,Bool.true_and]at q;by_cases ho:y.has Fl.Jt=true
     .rw[if_pos ho]at q;exact q.elim
     .exact Rel.Jy (by simpa using ho) l2
    |frz|bor|lnt|mod=>obtain⟨rfl,_⟩:=hfl;exact List.sublist_nil.mp l3
   subst e0;by_cases hb:(fl.Jt&&y.has Fl.Jt)=true
   .rw[if_pos hb]at q;exact q.elim
   .rw[if_neg hb]at q;rw[hK];exact⟨a,_,dx,_,w,rfl,hl,hc c hk.2,hn c hk.2,by rw[<- hf];exact l1,q.scal g1 l2⟩
 |_=>exact q.elim
theorem Ag(hK:X.K=T.K)(hf:T.att k=f)(hc:∀c<T.nc,Cls T.K (T.cls c))(hn:∀c<T.nc,fu T.K (T.cls c) f)(he:SE X T W e m)(hb:attributeBase e f X.env (eval e X.env)=eval e X.env:=by rfl) :
  SE X T W (.Attribute e f pos) (mUn (ao k) m):=PE.wk (C3 (pos:=pos) he hb) λY H Q h=>zX hK hf hc hn h
end
end PR
namespace L2
open PySem PySem.Spec
theorem dX.there(x:dX P w H h a o):∃u,h.get? a=some u:=by
 cases o with
 |lst xs=>obtain⟨_,_,_,_,e⟩:=x;exact⟨_,e⟩
 |tup xs=>obtain⟨_,_,_,o,e,_⟩:=x;exact⟨_,e⟩
 |dK kvs|dT kvs=>obtain⟨_,_,_,_,o,_,_,e,_⟩:=x;exact⟨_,e⟩
 |set S n=>obtain⟨o,_,_,_,e,_⟩:=x;exact⟨_,e⟩
 |ins C dx fs=>obtain⟨_,_,_,e,_⟩:=x;exact⟨_,e⟩
 |own y=>exact x
 |xd fs=>obtain⟨_,⟨_,_,_,e,_⟩,_⟩:=x;exact⟨_,e⟩
 |rng lo hi=>obtain⟨_,_,_,e⟩:=x;exact⟨_,e⟩
 |frz ob u=>obtain⟨e,_⟩:=x;exact⟨_,e⟩
 |tbl ps=>obtain⟨_,e,_⟩:=x;exact⟨_,e⟩
 |met f y=>exact⟨_,(show h.get? a=some _ from x)⟩
 |ext φ=>obtain⟨_,q,_⟩:=x;exact q
end L2
namespace PR
open PySem PySem.Spec L2
structure Fly(P:Program)(w:World)(outer:List Env)(H:Hp)(s:Shared)(cls:Value)(H':Hp)(e:Value)(s':Shared):Prop where
 os:s'.os=s.os
 bare:PyProof.Rows.AllBare s'.gens
 un:Un (frs outer) [] H H' s.heap s'.heap
 hok:HOk P w H' s'.heap
 fly:∃x a0 Bh,e=.ref x/\Heap.FlyingW Bh outer x cls a0 s'.heap/\(∀b o u,H' b=some u->s'.heap.get? b=some o->Bh.get? b=some o)/\
  (∀b o o',s'.heap.get? b=some o->s.heap.get? b=some o'->b∉frs outer->Bh.get? b=some o)
def CXP(P:Program)(w:World):CXT:=λouter H s E e s'=>∃cls H',Fly P w outer H s cls H' e s'/\E cls none H'
def XF(X:Cx)(T:Tb)(W:Nat->St->Jm):Prop:=∀(js:Jd) (Y:St) (H:Hp) (s:Shared) (c:Nat) (H':Hp) (e:Value) (s':Shared),L2.Inv X js Y H s->Fly X.prog X.w X.stack H s (.ref (T.xcl c)) H' e s'->W c Y H'->X.xe e s'
def XM(X:Cx)(T:Tb)(W:Nat->St->Jm):Prop:=∀(js:Jd) (Y:St) (H:Hp) (s:Shared) (c:Nat) (h':Heap) (e:Addr) (vs:Jg),L2.Inv X js Y H s->Heap.MadeExcOf s.heap h' e (.ref (T.xcl c)) vs->W c Y H->X.xe (.ref e) {s with heap:=h'}
section
variable{P:Program}{w:World}{K:PySem.W.Frag}{mg:Jb}{base:Heap}{N:Ji}{qual:Str}{scope:Scope}{f:Addr}{cd:Value}{A:Around}{outer:List Env}{s:Shared}{H:Hp}{E:XK}
theorem Be{H:Hp}{h h' Bh:Heap}(ok:HOk P w H h)(k:∀b o u,H b=some u->h.get? b=some o->Bh.get? b=some o)(st:Bh.StaysIn h'):HOk P w H h':=λa o e=>
 (ok a o e).stay (λb u hb q=>by
  rcases hb with rfl|hb
  .exact st _ _ (k b u _ e q)
  .exact st _ _ (k b u _ hb q)) (λ_ q=>q) λ_ _ _ q=>q
theorem nQ(I:L2.Inv X js Y H1 s1)(hst:X.stack=X.env::X.outer)(hex:X.ex=[])(hfrm:X.env.frame=some X.env.locals)
  (hos:os2=s1.os) (hb:PyProof.Rows.AllBare g2) (u2:Un (frs X.stack) [] H1 H2 s1.heap h2) (ok:HOk X.prog X.w H2 h2) (tr:∀b o u,H2 b=some u->h2.get? b=some o->Bh.get? b=some o)
  (ol:∀b o o',h2.get? b=some o->s1.heap.get? b=some o'->b∉frs X.stack->Bh.get? b=some o) (fl:Heap.FlyingW Bh X.outer x cls a0 h') (up:h2.UpToSlots h') :
  Fly X.prog X.w X.outer X.H₀ X.s₀ cls H2 (.ref x) ⟨h',g2,d2,t2,os2⟩:=by
 have u1:=I.base;rw[hex]at u1;have hfs:frs X.stack=X.env.locals::frs X.outer:=by rw[hst];show List.filterMap _ _=_;rw[List.filterMap_cons,hfrm];rfl
 have u:Un (frs X.stack) [] X.H₀ H2 X.s₀.heap h2:=(u1.mono (λb hb=>by rw[hfs];exact mem_cons_of_mem _ hb) λ_ z=>z).trans u2;have neL:∀b o,X.s₀.heap.get? b=some o->b≠X.env.locals:=λb o e=>Nat.ne_of_lt (Nat.lt_of_lt_of_le (lt_size e) I.ok.above);have nst:∀b o,X.s₀.heap.get? b=some o->b∉frs X.outer->b∉frs X.stack:=λb o e hn hb=>by
  rw[hfs]at hb;rcases mem_cons.mp hb with z|z
  .exact neL b o e z
  .exact hn z
 have data:∀b o,X.s₀.heap.get? b=some o->b∈frs X.outer->∀vs,o.data≠.fields vs:=λb o e hb vs z=>by obtain⟨_,o',ho',hd'⟩:=I.ok.funs.mem hb;rw[e]at ho';cases ho';exact hd' vs z
 refine⟨hos.trans I.os,hb,⟨λb o e n hf _=>?_,λb o e n hf _=>?_,u.free,λb o e _=>?_,u.tups,u.frzs,u.tbls⟩,Be ok tr fl.1,⟨x,a0,Bh,rfl,fl,λb o v e q=>?_,λb o o' e q hf=>?_⟩⟩
 .have q:=u.keep b o e n (nst b o e hf) (by simp);obtain⟨o1,e1⟩:=u1.there b o e (by simp);exact fl.1 b o (ol b o o1 q e1 (nst b o e hf))
 .obtain⟨sl,q⟩:=u.slot b o e n (by rw[hfs];exact mem_cons_of_mem _ hf) (by simp);obtain⟨sl',q'⟩:=up b _ q (data b o e hf);exact⟨sl',q'⟩
 .by_cases hf:b∈frs X.outer
  .obtain⟨_,o2,ho2,_⟩:=fl.2.2.1.mem hf;exact⟨o2,ho2⟩
  .obtain⟨o1,e1⟩:=u1.there b o e (by simp);obtain⟨o2,e2⟩:=u2.there b o1 e1 (by simp);exact⟨o2,fl.1 b o2 (ol b o2 o1 e2 e1 (nst b o e hf))⟩
 .have hlt:=ok.lt e;obtain⟨o2,e2⟩:∃o2,h2.get? b=some o2:=by have x:=ok b v e;exact dX.there x
  have:=fl.1 b o2 (tr b o2 v e e2);rw[q]at this;cases this;exact tr b o v e e2
 .obtain⟨o1,e1⟩:=u1.there b o' q (by simp);obtain⟨o2,e2⟩:=u2.there b o1 e1 (by simp);have hB:=ol b o2 o1 e2 e1 (nst b o' q hf);have:=fl.1 b o2 hB;rw[e]at this;cases this;exact hB
end
section
variable{P:Program}{w:World}{K:PySem.W.Frag}{mg:Jb}{base:Heap}{N:Ji}{qual:Str}{scope:Scope}{f:Addr}{cd:Value}{A:Around}{outer:List Env}{s:Shared}{H:Hp}{E:XK}{T:Tb}
abbrev WD(T:Tb)(E:XK):Nat->St->Jm:=λc _ H=>E (.ref (T.xcl c)) none H
theorem Cb:XF (ef (CXP P w) P w K mg base N qual scope f cd A outer s H E) T (WD T E):=by intro js Y H1 s1 c H2 e s2 I fl hW;obtain⟨x,a0,Bh,rfl,fly,tr,ol⟩:=fl.fly;refine wpAny_leaves_onW (L:=s.heap.objs.size) I.ok.frames rfl fly λh' fly' up=>?_;obtain⟨h2,g2,d2,t2,os2⟩:=s2;exact⟨_,H2,nQ I rfl rfl rfl fl.os fl.bare fl.un fl.hok tr ol fly' up,hW⟩
theorem b0:XM (ef (CXP P w) P w K mg base N qual scope f cd A outer s H E) T (WD T E):=by
 intro js Y H1 s1 c h2 e vs I mx hW;have hin:∀env ∈(ef (CXP P w) P w K mg base N qual scope f cd A outer s H E).stack,∀b,env.frame=some b->b∈frs (ef (CXP P w) P w K mg base N qual scope f cd A outer s H E).stack:=λenv he b hb=>List.mem_filterMap.mpr ⟨env,he,hb⟩;refine wpAny_leaves_madeW (base:=hideAll s1.heap (frs (ef (CXP P w) P w K mg base N qual scope f cd A outer s H E).stack)) (h:=s1.heap) (L:=s.heap.objs.size) I.ok.frames rfl (λb o q=>PySem.W.of_hideAll _ q) (PySem.W.funFrames_hide I.stack hin) mx λh' t fly' _ _ up=>?_;obtain⟨h1,g1,d1,t1,os1⟩:=s1;have fresh:∀b o,h1.get? b=some o->h2.get? b=some o:=mx.keeps;have nfr:∀b u,H1 b=some u->b∉frs (ef (CXP P w) P w K mg base N qual scope f cd A outer s H E).stack:=λb u e hb=>by rw[I.stkFree b hb]at e;cases e
 refine⟨_,H1,nQ I rfl rfl rfl rfl I.bare (h2:=h2) (Bh:=hideAll h1 (frs (ef (CXP P w) P w K mg base N qual scope f cd A outer s H E).stack)) (Un.kept fresh) (I.hok.kept fresh) (λb o u e q=>?_) (λb o o' e q hb=>?_) fly' up,hW⟩
 .obtain⟨o1,e1⟩:=dX.there (I.hok b u e);have:=fresh b o1 e1;rw[q]at this;cases this;exact hideAll_get _ e1 (nfr b u e)
 .have:=fresh b o' q;rw[e]at this;cases this;exact hideAll_get _ q hb
end
structure IR(X:Cx)(x:Str)(C:Addr):Prop where
 bm:X.mg x=some (.ref C)
 obj:∃bm N nm q bs hdct sn sub ab col dd k0 k1 k2 k3 k5 mN,X.base.get? C=some (excClassObj nm q C N bs bm hdct sn sub ab col dd k0 k1 k2 k3 k5 "ValueError.__new__")/\X.base.Ns N mN/\mN "__init__"=none /\
  OwnTail X.base [.type "ValueError",.type "Exception",.type "BaseException",.type "object"] bm
section
variable{X:Cx}{T:Tb}{W:Nat->St->Jm}
theorem vV(O:IR X x (T.xcl c))(hx:XM X T W)(hc:X.calm=true)(hg:Gl X x)(ha:SA X T W (e::es) ms)(hne:∀env pvs,ms env=.ok pvs->pvs.length<=100)(hd:(x ==("__debug__":Str))=false:=by decide)
  (he:starEach (e::es) X.env=(false,eval e X.env)::starEach es X.env:=by rfl) (hpl:(backTo cpos (starEach es X.env)).any (·.1)=false:=by rfl) :
  SS X T W (.Raise (some (.Call (.Name x np) (e::es) [] cpos)) none pos) (λenv=>match ms env with
   |.ok _=>.exc c env
   |.exc k=>.exc k env
   |.stuck=>.stuck):=by
 intro js s Y H D I h;obtain⟨Z,F,env,fp,S,q⟩:=h;dsimp only at q;obtain⟨tl,N,nm,qn,bs,hdct,sn,sub,ab,col,dd,k0,k1,k2,k3,k5,mN,hC,hN,hni,TL⟩:=O.obj;refine wpAny_Raise_call_subT (C:=T.xcl c) (nm:=nm) (q:=qn) (N:=N) (bs:=bs) (bm:=tl) (hdct:=hdct) (sn:=sn) (sub:=sub) (ab:=ab) (col:=col) (dd:=dd) (k0:=k0) (k1:=k1) (k2:=k2) (k3:=k3) (k5:=k5)
  PySem.F.excBase_ValueError (mN:=mN) (TL.hasType PySem.F.excBase_ValueError.hasBase) (I.ok.hd hc) (by rw[he];show(false ||(backTo cpos (starEach es X.env)).any (·.1))=false;rw[hpl];rfl) hni (jR I hg O.bm ⟨rfl,?_⟩ hd)
 have h2:=ha cpos js s Y H (λvs H'=>vs.length <= 100/\W c Y H') I (tA.bind S (λk e H' x=>by rw [e] at q;exact q F H' Y fp (S.grow (Gr.same S.hp.ft x))) (λe=>by rw [e] at q;exact q) λpvs vs H' F' f e g r _ _ _=>by
  rw[e]at q;exact⟨by rw[<- r.length];exact hne env pvs e,q F' H' Y fp (S.grow g)⟩)
 rw[he]at h2 ⊢;refine Calls.evalArgs_plain (wpAny_mono h2 (λvs s₂ h₂=>?_) λ_ _ y=>y);obtain⟨vs',H',I2,rv,hl,hw⟩:=h₂;refine⟨rfl,?_,I2.bk _ _ hC,hN.keeps I2.bk,TL.keeps I2.bk,λh' e' mx=>hx js Y H' s₂ c h' e' vs I2 mx hw⟩;rw[<- rv.length,sizeLine_eq];omega
end
def aB(m:Jn->Jo)(xs:Jn):Jo:=match m (mapL Fl.Jq xs)with
 |.ok v=>if v.has Fl.Jv then .stuck else .ok v
 |.exc c=>.exc c
 |.stuck=>.stuck
def bf(n:Nat)(m:MS)(args:Jn):Jo:=match m (args.map some++replicate (n-args.length) none)with
 |.next _=>.ok .non
 |.ret v=>.ok v
 |.exc c _=>.exc c
 |_=>.stuck
def GF(T:Tb)(Z:Zn)(Q:VK)(E:XK):Jo->Prop
 |.ok pv=>∀F H v f,cC T Z F H->Rel T F Z.B NoL H pv v f->f.Nodup->(∀a∈f,¬F a)->(∀a∈f,Z.H0 a=none\/Z.fp0 a)->Q v H
 |.exc c=>∀H,(∀a o,Z.H0 a=some o->¬Z.fp0 a->H a=some o)->E (.ref (T.xcl c)) none H
 |.stuck=>False
structure vI(T:Tb)(F B:Je)(H:Hp)(pvs:Jn)(vs:Jl)(f:Jh):Prop where
 rel:RelL T F B NoL H pvs vs f
 nd:f.Nodup
 nf:∀a∈f,¬F a
 bo:(∀a,B a->(∃o,H a=some o)/\a∉f)/\BG T H (·∈f)
 ft:∀a,F a->∃o,H a=some o
def spM(T:Tb)(n:Nat)(m:Jn->Jo):Sp:=λvs H Q E=>vs.length=n/\∃pvs F B f,vI T F B H pvs vs f/\GF T ⟨H,F,(·∈f),B,none⟩ Q E (m pvs)
theorem RelL.split:∀{xs:Jn}{vs:Jl}{f:Jh},RelL T F B L H xs vs f->f.Nodup ->
  ∃g:Nat->Jh,(∀(i:Nat) x v,xs[i]?=some x->vs[i]?=some v->Rel T F B L H x v (g i))/\(∀i,(g i).Nodup)/\(∀i j,i≠j->∀a∈g i,a∉g j)/\∀i a,a∈g i->a∈f
 | [],_,_,_,_=>⟨λ_=>[],λi x v e=>by simp at e,λ_=>nodup_nil,λ_ _ _ _ z=>(nomatch z),λ_ _ z=>(nomatch z)⟩
 |x::xs,_,_,h,nd=>by
  unfold RelL at h;obtain⟨v,ws,f1,f2,rfl,h1,h2,rfl⟩:=h;obtain⟨n1,n2,n3⟩:=nodup_append.mp nd;obtain⟨g,g1,g2,g3,g4⟩:=RelL.split h2 n2;refine⟨λi=>match i with|0=>f1|j+1=>g j,λi y u e1 e2=>?_,λi=>?_,λi j hij a ha=>?_,λi a ha=>?_⟩
  .cases i with
   |zero=>simp at e1 e2;subst e1 e2;exact h1
   |succ i=>exact g1 i y u (by simpa using e1) (by simpa using e2)
  .cases i with
   |zero=>exact n1
   |succ i=>exact g2 i
  .grind
  grind
section
variable{P:Program}{w:World}{K:PySem.W.Frag}{mg:Jb}{base:Heap}{T:Tb}
theorem kL(N:Ji)(R:vI T F B H pvs vs f)(pin:Option V)(hpin:∀v,pin=some v->vs[0]?=some v/\∃fl c ks xs,pvs[0]?=some (.obj fl c ks xs)) :
  ∃fp,aA T ⟨H,F,(·∈f),B,pin⟩ F H (L2.start N vs) (pvs.map some++replicate (N.length-pvs.length) none) fp:=by
 obtain⟨g,g1,g2,g3,g4⟩:=R.rel.split R.nd;have hl:=R.rel.length;refine⟨g,⟨R.bo,λ_ _ h _=>h,λ_ h=>h,λ_ h=>.inl h,R.ft⟩,?_,λi pv e=>?_,g2,g3,λi a ha=>⟨R.nf a (g4 i a ha),R.rel.there a (g4 i a ha)⟩,λi a ha=>.inr (g4 i a ha),λi a ha=>R.rel.chg a (g4 i a ha),λv hv=>?_⟩
 .unfold L2.start;simp[hl]
 .by_cases hi:i<pvs.length
  .rw[getElem?_append_left (by simpa using hi),getElem?_map]at e;obtain⟨x,e1,e2⟩:=map_eq_some_iff.mp e;cases e2;obtain⟨v,_,ev,_⟩:=R.rel.get e1;refine⟨v,?_,g1 i pv v e1 ev⟩;unfold L2.start;rw[getElem?_append_left (by simpa[<- hl]using hi),getElem?_map,ev];rfl
  .rw[getElem?_append_right (by simpa using hi),getElem?_replicate]at e;split at e<;>cases e
 .obtain⟨h1,fl,c,ks,xs,h2⟩:=hpin v hv;have hl0:0<vs.length:=(List.getElem?_eq_some_iff.mp h1).1;have hp0:0<pvs.length:=(List.getElem?_eq_some_iff.mp h2).1;unfold L2.start dR;rw[getElem?_append_left (by simpa using hl0),getElem?_append_left (by simpa using hp0),getElem?_map,getElem?_map,h1,h2];exact⟨rfl,rfl⟩
theorem Hl(F:Fun K x qual st f fd)(S:dC N ps (aC st))
  (body:∀ (cdv:Value) (A:Around) (outer:List Env) (s:Shared) (H:Hp) (E:XK),er k (A.deeper (PyProof.Rows.envOfC qual (aC st) s.heap.objs.size f cdv)) ->
   SSs (ef (CXP P w) P w K mg base N qual (aC st) f cdv A outer s H E) T (WD T E) (bB st) m):da P w K mg base (CXP P w) (k+1) f fd ps (spM T ps.length (bf N.length m)):=by
 obtain⟨oc,od,kV,doc,pm,an,cdv,ct,osl,rfl,lk,hcd⟩:=F.ex;refine xT lk hcd S (λvs H Q E h=>h.1) λA outer s H vs Q E hr hsp=>⟨_,body cdv A outer s H E hr,?_⟩
 obtain⟨_,pvs,F,B,fl,R,q⟩:=hsp;obtain⟨fp,S0⟩:=kL N R none (λ_ h=>nomatch h);refine⟨_,F,_,fp,S0,?_⟩;unfold bf at q;cases e:m (pvs.map some++replicate (N.length-pvs.length) none)with
 |next e'=>rw[e]at q;exact λF' H' σ' fp' S'=>q F' H' .non [] S'.hp FZ nodup_nil (λ_ z=>(nomatch z)) (λ_ z=>(nomatch z))
 |ret v=>rw[e]at q;exact q
 |brk e'|cont e'=>rw[e]at q;exact q.elim
 |exc c e'=>rw[e]at q;exact λF' H' σ' fp' S'=>q H' S'.hp.keep
 |stuck=>rw[e]at q;exact q.elim
end
theorem xc(hB:∀a,B a->B' a)(hL:∀a,L a->B' a):Mp T Fl.Jq (λ_=>false) (λx=>x) (λ_=>True) F B L H F B' L' H:=
 ⟨λf a vs _ c h=>by
  cases f with
  |bor=>exact⟨hB a h.1,h.2⟩
  |lnt=>exact⟨hL a h.1,.inl h.2⟩
  | _=>exact h,λf a _ c h=>⟨by
  cases f with
  |bor=>exact hB a h
  |lnt=>exact hL a h
  |_=>exact h,λ_ q=>q⟩,λf a x y h=>by cases f<;>exact h,rfl,λ_ _=>rfl,λ_ _ q _=>q⟩
theorem RelL.Jq(hB:∀a,B a->B' a)(hL:∀a,L a->B' a)(h:RelL T F B L H x v fo):RelL T F B' L' H (mapL Fl.Jq x) v fo:=(xc hB hL).rels (has_noL x) (λ_ _=>True.intro) h
theorem Rel.noB(hp:x.has Fl.Jv=false)(h:Rel T F B L H x v fo):Rel T F B' L H x v fo:=by
 have:=(xh (p:=Fl.Jv) (B':=B') (λ_ _ q=>q) (λz=>(nomatch z))).rel hp (λ_ _=>True.intro) h
 rwa [lg]at this
theorem RelL.append:∀{xs ys:Jn}{vs us:Jl}{f g:Jh},RelL T F B L H xs vs f->RelL T F B L H ys us g->RelL T F B L H (xs++ys) (vs++us) (f++g)
 | [],_,_,_,_,_,h,r=>by unfold RelL at h;obtain⟨rfl,rfl⟩:=h;exact r
 |x::xs,_,_,_,_,_,h,r=>by unfold RelL at h;obtain⟨v,ws,f1,f2,rfl,h1,h2,rfl⟩:=h;show RelL T F B L H (x::(xs++_)) (v::(ws++_)) _;unfold RelL;exact⟨v,_,f1,_,rfl,h1,RelL.append h2 r,by rw[List.append_assoc]⟩
section
variable{X:Cx}{T:Tb}{W:Nat->St->Jm}{Z:Zn}{F F1:Je}{H H1:Hp}{Y:St}{env:En}{fp:Nat->Jh}
theorem v6
  (G:da X.prog X.w X.K X.mg X.base (CXP X.prog X.w) k f fd ps (spM T ps.length m)) (hr:er k X.A) (hb:fe X.K fd ps ds) (hd:a5 dvs ds) (hdp:∀F B L H,RelL T F B L H dps dvs []) (hx:XF X T W)
  (S:aA T Z F H Y env fp) (g:Gr F H F1 H1) (r:RelL T F1 Z.B (Own fp) H1 xs vs fx) (nf:∀a∈fx,¬F1 a) (nd:fx.Nodup) (new:∀a∈fx,H a=none) (q:GE T W Z.B F (Own fp) Y H Q (aB m (xs++dps)))
  (I1:L2.Inv X js Y H1 s1) (rv:a5 vs us) (hlen:vs.length+dvs.length=ps.length):wpAny (model X.prog X.w) X.A (call (.ref f) us) (EP X js Y Q) X.xe s1:=by
 have r2:a5 (vs++dvs) (us++ds):=rv.append hd;have hl:(us++ds).length=ps.length:=by rw[<- r2.length,length_append];exact hlen
 have rr:RelL T F1 Z.B (Own fp) H1 (xs++dps) (vs++dvs) fx:=by
  have:=RelL.append r (hdp F1 Z.B (Own fp) H1)
  rwa [append_nil]at this
 have hBo:∀a,Z.B a->(∃o,H1 a=some o)/\a∉fx:=λa h=>by obtain⟨⟨o,h1⟩,h2⟩:=S.hp.bo.1 a h;have h3:=S.hp.keep a o h1 h2;exact⟨⟨o,g.ext a o h3⟩,λz=>by rw[new a z]at h3;cases h3⟩
 have hOw:∀a,Own fp a->(∃o,H1 a=some o)/\a∉fx:=λa hz1=>by obtain⟨i,hi⟩:=hz1;obtain⟨_,o,ho⟩:=S.dis i a hi;exact⟨⟨o,g.ext a o ho⟩,λz=>by rw[new a z]at ho;cases ho⟩
 have R:vI T F1 (λa=>(∃o,H1 a=some o)/\a∉fx) H1 (mapL Fl.Jq (xs++dps)) (vs++dvs) fx:=⟨RelL.Jq hBo hOw rr,nd,nf,⟨λa h=>h,S.tbo g.ext λa z=>.inl (new a z)⟩,g.dom⟩
 refine wpAny_call (codeAny_mono (G.run X.A X.stack s1 H1 ⟨us,[]⟩ (us ++ ds) (vs ++ dvs) Q (λcls _ H'=>∃ c,cls=.ref (T.xcl c)/\W c Y H') hr I1.env0 (hb s1 us I1.kIn hl) r2
  ⟨by rw[r2.length,hl],_,F1,_,fx,R,?_⟩) λrs s' hq=>?_)
 .unfold aB at q;cases e:m (mapL Fl.Jq (xs++dps))with
  |ok v=>
   rw[e]at q;dsimp only at q;intro F2 H2 u f2 hp2 r3 nd2 nf2 new2;by_cases hbr:v.has Fl.Jv=true
   .rw[if_pos hbr]at q;exact q.elim
   .rw[if_neg hbr]at q;have hbr':v.has Fl.Jv=false:=by simpa using hbr
    refine q u H2 F2 f2 ⟨λa o h=>hp2.keep a o (g.ext a o h) λz=>(by rw[new a z]at h;cases h),λa h=>hp2.f0 a (g.mono a h),λa h=>?_,hp2.ft⟩ ?_ nf2 nd2 λa ha=>?_
    .rcases hp2.fn a h with z|z|z
     .exact g.only a z
     .exact .inr (g.ext.free z)
     .exact .inr (new a z)
    .exact Rel.tr (λ_ h=>h) (λ_ h=>h) (λ_ h=>h.elim) (λ_ _ h _=>h) (λ_ _ _ h=>h) (Rel.noB (B':=Z.B) hbr' r3)
    .rcases new2 a ha with z|z
     .exact g.ext.free z
     .exact new a z
  |exc c=>rw[e]at q;exact λH' h=>⟨c,rfl,q H' λa o z=>h a o (g.ext a o z) λz'=>by rw[new a z']at z;cases z⟩
  |stuck=>rw[e]at q;exact q.elim
 .cases rs with
  |error e=>obtain⟨cls,H',fl,c,rfl,hw⟩:=hq;exact hx js Y H1 s1 c H' e s' I1 fl hw
  |ok fl=>
   cases fl with
   |ret u=>exact I1.after hq
   |next|brk|cont=>exact False.elim hq
theorem Af
  (G:da X.prog X.w X.K X.mg X.base (CXP X.prog X.w) k f fd ps (spM T ps.length m)) (hr:er k X.A) (hg:Gl X x) (hm:X.mg x=some (.ref f)) (hk:PySem.W.keepIn X.K (.ref f)=true) (hb:fe X.K fd ps ds) (hd:a5 dvs ds) (hdp:∀F B L H,RelL T F B L H dps dvs []) (hx:XF X T W)
  (hn:∀env xs,ms env=.ok xs->xs.length+dvs.length=ps.length) (ha:SA X T W (e::es) ms)
  (hdb:(x ==("__debug__":Str))=false:=by decide) (he:starEach (e::es) X.env=(false,eval e X.env)::starEach es X.env:=by rfl) (hpl:(backTo pos (starEach es X.env)).any (·.1)=false:=by rfl) :
  SE X T W (.Call (.Name x p) (e::es) [] pos) (ap (λxs=>aB m (xs++dps)) ms):=by
 intro js s Y H Q I h;obtain⟨Z,F,env,fp,S,q⟩:=h;unfold ap at q;refine wpAny_Call_Name_kw (jR I hg hm ?_ hdb);refine callWith_K (h₀:=X.base) I.ok.mod.kin hk (thn (ha pos js s Y H (λvs H1=>∀ us s1,L2.Inv X js Y H1 s1->a5 vs us->wpAny (model X.prog X.w) X.A (call (.ref f) us) (EP X js Y Q) X.xe s1) I
  (tA.bq S λxs vs H1 F1 f1 e1 g1 r1 n1 d1 w1 us s1 I1 rv=>?_)) λus s1 ⟨vs,H1,I1,r,q1⟩=>⟨I1.kIn,q1 us s1 I1 r⟩) he hpl
 rw[e1]at q;exact v6 G hr hb hd hdp hx S g1 r1 n1 d1 w1 q I1 rv (by rw[<- r1.length];exact hn env xs e1)
def fv(X:Cx)(T:Tb)(k:Nat)(mn:Str)(ps:Ji)(ds:Jg)(disp:Nat->Option (Jn->Jo)):Prop:=
 ∀c m,c<T.nc->disp c=some m->∃f fd,BI X.K (T.cls c) mn f/\fe X.K fd ps ds/\da X.prog X.w X.K X.mg X.base (CXP X.prog X.w) k f fd ps (spM T ps.length m)
def t_(disp:Nat->Option (Jn->Jo))(dps:Jn)(o:ME)(ms:MA):ME:=λenv=>(o env).bind λov=>match ov with
 |.obj _ c _ _=>match disp c with
  |some m=>(ms env).bind λxs=>aB m ((ov::xs)++ dps)
  |none=>.stuck
 |_=>.stuck
theorem kS(hm:∀k,T.att k≠mn):∀(ks:List Nat) (vs:Jl),((ks.map T.att).zip vs).lookup mn=none
 | [],_|j::ks,[]=>rfl
 |j::ks,v::vs=>by rw[map_cons,zip_cons_cons,List.lookup_cons,show(mn==T.att j)=false by rw[beq_eq_false_iff_ne];exact(hm j).symm];exact kS hm ks vs
theorem t8
  (hK:X.K=T.K) (hc:∀c<T.nc,Cls T.K (T.cls c)) (hm:∀k,T.att k≠mn) (D:fv X T k mn ps ds disp) (e:disp c=some m) (r:Rel T F1 B L H1 (.obj fl c ks xs) v f1) (I1:L2.Inv X js Y H1 s1) (ru:bO v u)
  (h:∀a f fd,u=.ref a->PySem.W.keepIn X.K (.ref f)=true->fe X.K fd ps ds->da X.prog X.w X.K X.mg X.base (CXP X.prog X.w) k f fd ps (spM T ps.length m)->Q (.ref f,[.ref a]) s1) :
  wpAny (model X.prog X.w) X.A (getMethod u mn pl) Q X.xe s1:=by
 unfold Rel at r;obtain⟨a,dx,vs,fp',rfl,hl,hk,hr,_,_⟩:=r;obtain⟨f,fd,M,hb,G⟩:=D c m hk.2 e;obtain rfl:u=Value.ref a:=ru;refine sA I1 hl (by rw[hK];exact hc c hk.2) M (kS hm _ _) (h a f fd rfl M.kp hb G)
theorem Aa
  (hK:X.K=T.K) (hc:∀c<T.nc,Cls T.K (T.cls c)) (hm:∀k,T.att k≠mn) (D:fv X T k mn ps ds disp) (hr:er k X.A) (hd:a5 dvs ds) (hdp:∀F B L H,RelL T F B L H dps dvs []) (hx:XF X T W)
  (hn:∀env xs,ms env=.ok xs->xs.length+1+dvs.length=ps.length) (ho:SE X T W o mo) (ha:SA X T W (e::es) ms)
  (hst:starEach (e::es) X.env=(false,eval e X.env)::starEach es X.env:=by rfl) (hpl:(backTo pos (starEach es X.env)).any (·.1)=false:=by rfl)
  (ht:eval (.Call (.Attribute o mn apos) (e::es) [] pos) X.env=(do
   let ov <- eval o X.env
   standAt apos.atName
   let(f,first) <- holding [ov] (getMethod ov mn pl)
   callWith pos f first (backTo pos (starEach (e::es) X.env)) (backToKw pos (keywordEach [] X.env))):=by rfl) :
  SE X T W (.Call (.Attribute o mn apos) (e::es) [] pos) (t_ disp dps mo ms):=by
 intro js s Y H Q I h;obtain⟨Z,F,env,fp,S,q⟩:=h;unfold t_ at q;refine methodCall_KW (pl:=pl) (thn (ho js s Y H (λv H1=>∃ ov F1 f1,mo env=.ok ov/\Gr F H F1 H1/\Rel T F1 Z.B (Own fp) H1 ov v f1/\(∀ a ∈ f1,¬ F1 a)/\f1.Nodup/\∀ a ∈ f1,H a=none) I
  (tE.bq S λov v H1 F1 f1 e1 g1 r1 n1 d1 w1=>⟨ov,F1,f1,e1,g1,r1,n1,d1,w1⟩)) λu s1 zz=>?_) ht
 obtain⟨v,H1,I1,ru,ov,F1,f1,e1,g1,r1,n1,d1,w1⟩:=zz;rw[e1]at q;simp only[Res.Jz]at q;by_cases hobj:∃fl c ks xs m,ov=.obj fl c ks xs/\disp c=some m
 .obtain⟨fl,c,ks,ys,m,rfl,em⟩:=hobj;dsimp only at q;rw[em]at q;dsimp only at q;refine t8 hK hc hm D em r1 I1 ru λa f fd eu hkp hb G=>?_;subst eu;refine callWith_K (first:=[.ref a]) (h₀:=X.base) I.ok.mod.kin hkp (thn (ha pos js s1 Y H1 (λvs H2=>∀ us s2,L2.Inv X js Y H2 s2->a5 vs us->wpAny (model X.prog X.w) X.A (call (.ref f) (.ref a::us)) (EP X js Y Q) X.xe s2) I1
   (tA.bind (S.grow g1) (λc e=>by rw[e]at q;exact λH' x=>q H' (g1.ext.trans x)) (λe=>by rw[e]at q;exact q) λxs vs H2 F2 f2 e2 g2 r2 n2 d2 w2 us s2 I2 rv=>?_)) λus s2 ⟨vs,H2,I2,r,q2⟩=>⟨I2.kIn,q2 us s2 I2 r⟩) hst hpl
  rw[e2]at q;simp only[Res.Jz]at q;have nn:∀b∈f1,¬F2 b:=λb hb z=>by
   rcases g2.only b z with z|z
   .exact n1 b hb z
   .obtain⟨oo,hoo⟩:=r1.there b hb;rw[hoo]at z;cases z
  refine v6 (xs:=.obj fl c ks ys::xs) (vs:=v::vs) (us:=.ref a::us) (fx:=f1++f2) G hr hb hd hdp hx S (g1.trans g2) (by unfold RelL;exact⟨v,vs,f1,f2,rfl,r1.ext g2.ext g2.mono,r2,rfl⟩) (λb hb=>?_) ?_ (λb hb=>?_) q I2 (.cons ru rv) ?_
  .rcases mem_append.mp hb with hb|hb
   .exact nn b hb
   .exact n2 b hb
  .refine nodup_append.mpr ⟨d1,d2,λb hb c hc z=>?_⟩;subst z;obtain⟨oo,hoo⟩:=r1.there b hb;rw[w2 b hc]at hoo;cases hoo
  .rcases mem_append.mp hb with hb|hb
   .exact w1 b hb
   .exact g1.ext.free (w2 b hb)
  .have:=hn env xs e2;rw[length_cons,<- r2.length];exact this
 .exfalso;cases ov with
  |obj fl c ks ys=>
   cases em:disp c with
   |none=>simp only[em]at q;exact q
   |some m=>exact hobj ⟨fl,c,ks,ys,m,rfl,em⟩
  |_=>exact q
end
def hV(ms:MA)(n:Nat):Prop:=∀env xs,ms env=.ok xs->xs.length=n
theorem eZ:hV am 0:=λ_ _ h=>by cases h;rfl
theorem dU(h:hV ms n):hV (ae m ms) (n+1):=λenv xs e=>by
 unfold ae at e;cases e1:m env with
 |ok x=>
  rw[e1]at e;simp only[Res.Jz]at e;cases e2:ms env with
  |ok ys=>rw[e2]at e;simp only[Res.Jz]at e;cases e;rw[length_cons,h env ys e2]
  |exc c|stuck=>rw[e2]at e;cases e
 |exc c|stuck=>rw[e1]at e;cases e
def aW:PV->Option (Jn)
 |.lst _ xs|.tup xs=>some xs
 |_=>none
section
variable{X:Cx}{T:Tb}{W:Nat->St->Jm}{Z:Zn}{F F1 B L:Je}{H H1:Hp}{Y:St}{env:En}{fp:Nat->Jh}{D:Ends}
theorem Rel.seq(r:Rel T F B L H x v fx)(e:aW x=some xs):∃a vs fx',v=.ref a/\(SqL T.K H a vs\/SqT T.K H a vs)/\RelL T F B L H xs vs fx'/\fx'.Sublist fx:=by
 cases x with
 |lst f ys=>
  cases e;unfold Rel at r;obtain⟨a,vs,fp',rfl,hl,hr,hf⟩:=r;refine⟨a,vs,fp',rfl,.inl hl.sq,hr,?_⟩;cases f with
  |own=>obtain rfl:fx=a::fp':=hf;exact List.sublist_cons_self _ _
  |frz|bor|lnt|mod=>obtain⟨rfl,rfl⟩:=hf;exact Sublist.refl _
 |tup ys=>cases e;unfold Rel at r;obtain⟨a,vs,rfl,hl,hr⟩:=r;exact⟨a,vs,fx,rfl,.inr hl,hr,Sublist.refl _⟩
 |_=>cases e
theorem GE.newL(q:GE T W B F L Y H Q (.ok (.lst .own ys)))(g:Gr F H F1 H1)(r:RelL T F1 B L H1 ys vs fx)(nf:∀a∈fx,¬F1 a)(nd:fx.Nodup)(new:∀a∈fx,H a=none) :
  ∀p,H1 p=none->Q (.ref p) (upd H1 p (.lst vs)):=λp hp=>by
 refine q (.ref p) (upd H1 p (.lst vs)) F1 (p::fx) (g.trans (Gr.same g.dom (Ext.upd hp))) ?_ (λa ha=>?_) ?_ (λa ha=>?_)
 .unfold Rel;exact⟨p,vs,fx,rfl,cw,r.ext (Ext.upd hp) λ_ h=>h,rfl⟩
 .grind[cG,aA,cC,Gr]
 .refine nodup_cons.mpr ⟨λz=>?_,nd⟩;obtain⟨o,ho⟩:=r.there p z;rw[hp]at ho;cases ho
 .rcases mem_cons.mp ha with rfl|ha
  .exact g.ext.free hp
  .exact new a ha
theorem GE.newT(q:GE T W B F L Y H Q (.ok (.tup ys)))(g:Gr F H F1 H1)(r:RelL T F1 B L H1 ys vs fx)(nf:∀a∈fx,¬F1 a)(nd:fx.Nodup)(new:∀a∈fx,H a=none) :
  ∀p,H1 p=none->Q (.ref p) (upd H1 p (.tup vs)):=λp hp=>by
 refine q (.ref p) (upd H1 p (.tup vs)) F1 fx (g.trans (Gr.same g.dom (Ext.upd hp))) ?_ nf nd new;unfold Rel;exact⟨p,vs,rfl,SqT.of cw,r.ext (Ext.upd hp) λ_ h=>h⟩
theorem BN(h:n<=1000):n<=sizeLine:=by rw[sizeLine_eq];omega
def fE(ms:MA):ME:=λenv=>(ms env).bind λxs=>.ok (.lst .own xs)
def eX(ms:MA):ME:=λenv=>(ms env).bind λxs=>.ok (.tup xs)
theorem Cz(ha:SA X T W es ms)(hn:hV ms n)(hs:n<=1000:=by decide):SE X T W (.List es pos) (fE ms):=PE.wk (C2 (pos:=pos) ha) λY H Q hz1=>by obtain⟨Z,F,env,fp,S,q⟩:=hz1;unfold fE at q;refine tA.bq S λxs vs H1 F1 f1 e1 g1 r1 n1 d1 w1=>?_;rw[e1]at q;exact⟨BN (by rw[<- r1.length,hn env xs e1];exact hs),GE.newL q g1 r1 n1 d1 w1⟩
theorem Cu{x1}(ha:SA X T W es ms)(hn:hV ms n)(hs:n<=1000:=by decide):SE X T W (.Tuple es x1 pos) (eX ms):=PE.wk (CY (pos:=pos) ha) λY H Q hz1=>by obtain⟨Z,F,env,fp,S,q⟩:=hz1;unfold eX at q;refine tA.bq S λxs vs H1 F1 f1 e1 g1 r1 n1 d1 w1=>?_;rw[e1]at q;exact⟨BN (by rw[<- r1.length,hn env xs e1];exact hs),GE.newT q g1 r1 n1 d1 w1⟩
def p1(f:PV->Jo):Jn->Jo
 | [x]=>f x
 |_=>.stuck
theorem RelL.one(r:RelL T F B L H [x] vs f):∃v,vs=[v]/\Rel T F B L H x v f:=by unfold RelL at r;obtain⟨v,ws,f1,f2,rfl,h1,h2,rfl⟩:=r;unfold RelL at h2;obtain⟨rfl,rfl⟩:=h2;exact⟨v,rfl,by rwa [append_nil]⟩
def cz:PV->Jo:=λx=>match aW x with
 |some xs=>.ok (.int xs.length)
 |none=>.stuck
theorem AU(hK:X.K=T.K):Mir T W (p1 cz) (λxs H Q=>∃p ys,xs=[.ref p]/\(SqL X.K H p ys\/SqT X.K H p ys)/\Q (.int ys.length) H):=by
 intro B F L Y H Q F' H' xs vs fx g r _ _ _ q
 match xs,r,q with
 | [x],r,q=>
  obtain⟨v,rfl,r1⟩:=r.one;simp only[p1,cz]at q;cases e:aW x with
  |none=>rw[e]at q;exact q.elim
  |some ys=>rw[e]at q;obtain⟨a,ws,fx',rfl,hs,hr,_⟩:=r1.seq e;exact⟨a,ws,rfl,by rw[hK];exact hs,q.scal g (by rw[<- hr.length];exact fR)⟩
 | [],_,q|_::_::_,_,q=>exact q.elim
theorem b8(hK:X.K=T.K)(hg:Gl X "len")(hm:X.mg "len"=none)(ha:SE X T W e m)(he:starEach [e] X.env=[(false,eval e X.env)]:=by rfl):SE X T W (.Call (.Name "len" p) [e] [] pos) (ap (p1 cz) (ae m am)):=
 gh pf (AU hK) hg hm PySem.boot_len (aa ha af he) (he:=he)
def kO:PV->Jo:=λx=>match aW x with
 |some xs=>.ok (.lst .own xs)
 |none=>.stuck
theorem xm(hK:X.K=T.K):Mir T W (p1 kO) (λxs H Q=>∃p ys,xs=[.ref p]/\(SqL X.K H p ys\/SqT X.K H p ys)/\∀l,H l=none->Q (.ref l) (upd H l (.lst ys))):=by
 intro B F L Y H Q F' H' xs vs fx g r nf nd new q
 match xs,r,q with
 | [x],r,q=>
  obtain⟨v,rfl,r1⟩:=r.one;simp only[p1,kO]at q;cases e:aW x with
  |none=>rw[e]at q;exact q.elim
  |some ys=>rw[e]at q;obtain⟨a,ws,fx',rfl,hs,hr,sl⟩:=r1.seq e;exact⟨a,ws,rfl,by rw[hK];exact hs,GE.newL q g hr (λb hb=>nf b (sl.subset hb)) (nd.sublist sl) (λb hb=>new b (sl.subset hb))⟩
 | [],_,q|_::_::_,_,q=>exact q.elim
theorem tm(hK:X.K=T.K)(hg:Gl X "list")(hm:X.mg "list"=none)(hv:bootBuiltins "list"=some (.type "list"))(ha:SE X T W e m)(he:starEach [e] X.env=[(false,eval e X.env)]:=by rfl):SE X T W (.Call (.Name "list" p) [e] [] pos) (ap (p1 kO) (ae m am)):=
 nD pd (xm hK) hg hm hv (aa ha af he) (he:=he)
def eG:PV->Jo:=λx=>match aW x with
 |some xs=>.ok (.tup xs)
 |none=>.stuck
theorem u_(hK:X.K=T.K):Mir T W (p1 eG) (λxs H Q=>∃p ys,xs=[.ref p]/\((SqL X.K H p ys/\∀l,H l=none->Q (.ref l) (upd H l (.tup ys)))\/(SqT X.K H p ys/\Q (.ref p) H))):=by
 intro B F L Y H Q F' H' xs vs fx g r nf nd new q
 match xs,r,q with
 | [x],r,q=>
  obtain⟨v,rfl,r1⟩:=r.one;simp only[p1,eG]at q;cases x with
  |lst f ys=>
   simp only[aW]at q;unfold Rel at r1;obtain⟨a,ws,fp',rfl,hl,hr,hf⟩:=r1;have sl:fp'.Sublist fx:=by
    cases f with
    |own=>obtain rfl:fx=a::fp':=hf;exact List.sublist_cons_self _ _
    |frz|bor|lnt|mod=>obtain⟨rfl,rfl⟩:=hf;exact Sublist.refl _
   exact⟨a,ws,rfl,.inl ⟨by rw[hK];exact hl.sq,GE.newT q g hr (λb hb=>nf b (sl.subset hb)) (nd.sublist sl) (λb hb=>new b (sl.subset hb))⟩⟩
  |tup ys=>simp only[aW]at q;have r2:=r1;unfold Rel at r2;obtain⟨a,ws,rfl,hs,hr⟩:=r2;exact⟨a,ws,rfl,.inr ⟨by rw[hK];exact hs,q _ _ _ fx g r1 nf nd new⟩⟩
  |_=>exact q.elim
 | [],_,q|_::_::_,_,q=>exact q.elim
theorem iq(hK:X.K=T.K)(hg:Gl X "tuple")(hm:X.mg "tuple"=none)(hv:bootBuiltins "tuple"=some (.type "tuple"))(ha:SE X T W e m)(he:starEach [e] X.env=[(false,eval e X.env)]:=by rfl):SE X T W (.Call (.Name "tuple" p) [e] [] pos) (ap (p1 eG) (ae m am)):=
 nD m5 (u_ hK) hg hm hv (aa ha af he) (he:=he)
def aH:PV->PV->Jo
 |x,.int i=>match aW x with
  |some xs=>match atI xs i with
   |some y=>if x.has Fl.Jt&&y.has Fl.Jt then .stuck else .ok y
   |none=>.stuck
  |none=>.stuck
 |_,_=>.stuck
theorem BE(r:RelL T F B L H xs vs f)(e:atI xs i=some y):∃v f',atI vs i=some v/\Rel T F B L H y v f'/\f'.Sublist f:=by
 unfold atI at e ⊢;rw[<- r.length];cases e1:ixN xs.length i with
 |none=>rw[e1]at e;cases e
 |some j=>rw[e1]at e;exact r.get e
theorem AW(hK:X.K=T.K):j6 T W aH (λx y H Q=>CI X.K x y H Q \/(CG X.K x y H Q\/CH x y H Q)):=by
 intro B F L Y H Q F' H' x y v u fx fy g rx ry nf nd new q;cases y with
 |int i=>
  unfold Rel at ry;obtain⟨rfl,rfl⟩:=ry;simp only[aH]at q;cases e:aW x with
  |none=>rw[e]at q;exact q.elim
  |some xs=>
   rw[e]at q;dsimp only at q;obtain⟨a,ws,fx',rfl,hs,hr,sl⟩:=rx.seq e;cases e2:atI xs i with
   |none=>rw[e2]at q;exact q.elim
   |some z=>
    rw[e2]at q;dsimp only at q;obtain⟨w,f',h1,h2,h3⟩:=BE hr e2;have e0:f'=[]:=by
     by_cases ho:x.has Fl.Jt=true
     .by_cases hz:z.has Fl.Jt=true
      .rw[ho,hz]at q;exact q.elim
      .exact Rel.Jy (by simpa using hz) h2
     .have:=Rel.Jy (by simpa using ho) rx;subst this;exact List.sublist_nil.mp (h3.trans sl)
    subst e0;by_cases hb:(x.has Fl.Jt&&z.has Fl.Jt)=true
    .rw[if_pos hb]at q;exact q.elim
    .rw[if_neg hb]at q;rcases hs with hs|hs
     .exact .inl ⟨a,ws,i,w,rfl,rfl,by rw[hK];exact hs,h1,q.scal g h2⟩
     .exact .inr (.inl ⟨a,ws,i,w,rfl,rfl,by rw[hK];exact hs,h1,q.scal g h2⟩)
 |_=>exact q.elim
theorem CA(hK:X.K=T.K)(ha:SE X T W a ma)(hb:SE X T W b mb)(hs:lw b):SE X T W (.Subscript a b pos) (mOp aH ma mb):=
 FY D2 (AW hK) ha hb hs
abbrev MO:=En->Res (Jj)
def fW:MO:=λ_=>.ok none
def jP(m:ME):MO:=λenv=>(m env).bind fun
 |.int i=>.ok (some i)
 |_=>.stuck
def ig(xs:Jn)(lo hi:Jj):Jn:=(xs.drop (HT.sIx xs.length 0 lo)).take (HT.sIx xs.length xs.length hi-HT.sIx xs.length 0 lo)
def gU(o:ME)(lo hi:MO):ME:=λenv=>(o env).bind λx=>(lo env).bind λl=>(hi env).bind λh=>match x with
 |.lst _ xs=>.ok (.lst .own (ig xs l h))
 |_=>.stuck
theorem RelL.drop:∀{xs:Jn}{vs:Jl}{f:Jh} (n:Nat),RelL T F B L H xs vs f->∃f',RelL T F B L H (xs.drop n) (vs.drop n) f'/\f'.Sublist f
 |xs,vs,f,0,h=>⟨f,h,Sublist.refl _⟩
 | [],vs,f,n+1,h=>by unfold RelL at h;obtain⟨rfl,rfl⟩:=h;exact⟨[],by simp[RelL],Sublist.refl _⟩
 |x::xs,_,_,n+1,h=>by unfold RelL at h;obtain⟨v,ws,f1,f2,rfl,h1,h2,rfl⟩:=h;obtain⟨f',r,s⟩:=RelL.drop n h2;exact⟨f',by simpa using r,s.trans (List.sublist_append_right _ _)⟩
theorem RelL.take:∀{xs:Jn}{vs:Jl}{f:Jh} (n:Nat),RelL T F B L H xs vs f->∃f',RelL T F B L H (xs.take n) (vs.take n) f'/\f'.Sublist f
 |xs,vs,f,0,h=>⟨[],by simp[RelL],List.nil_sublist _⟩
 | [],vs,f,n+1,h=>by unfold RelL at h;obtain⟨rfl,rfl⟩:=h;exact⟨[],by simp[RelL],Sublist.refl _⟩
 |x::xs,_,_,n+1,h=>by unfold RelL at h;obtain⟨v,ws,f1,f2,rfl,h1,h2,rfl⟩:=h;obtain⟨f',r,s⟩:=RelL.take n h2;refine⟨f1++f',?_,Sublist.append (Sublist.refl _) s⟩;rw[List.take_succ_cons,List.take_succ_cons];unfold RelL;exact⟨v,_,f1,f',rfl,h1,r,rfl⟩
def tO(T:Tb)(W:Nat->St->Jm)(m:MO):TO:=λY H Q=>∃Z F env fp,aA T Z F H Y env fp/\match m env with
 |.ok o=>∀H' F',Gr F H F' H'->Q o H'
 |.exc c=>∀H',Ext H H'->W c Y H'
 |.stuck=>False
abbrev SO(X:Cx)(T:Tb)(W:Nat->St->Jm)(e:Option Expr)(m:MO):Prop:=PO X e (tO T W m)
theorem jy:SO X T W none fW:=λjs s Y H Q I ⟨Z,F,env,fp,S,q⟩=>Au js s Y H Q I (q H F (Gr.refl S.hp.ft))
theorem jx(h:SE X T W e m):SO X T W (some e) (jP m):=λjs s Y H Q I ⟨Z,F,env,fp,S,q⟩=>At h js s Y H Q I (by
 unfold jP at q;refine tE.bq S λx v H1 F1 f1 e1 g1 r1 n1 d1 w1=>?_;rw[e1]at q;cases x with
 |int i=>unfold Rel at r1;exact⟨i,r1.1,q H1 F1 g1⟩
 |_=>exact q.elim)
theorem ir(hK:X.K=T.K)(he:SE X T W e m)(hl:SO X T W lo ml)(hu:SO X T W hi mh):SE X T W (.Subscript e (.Slice lo hi none p2) pos) (gU m ml mh):=
 PE.wk (wA (pos:=pos) (p2:=p2) z5 he hl hu) λY H Q hz1=>by
  obtain⟨Z,F,env,fp,S,q⟩:=hz1;unfold gU at q;refine tE.bq S λx v H1 F1 f1 e1 g1 r1 n1 d1 w1=>?_;rw[e1]at q;simp only[Res.Jz]at q;refine⟨Z,F1,env,fp,S.grow g1,?_⟩;cases e2:ml env with
  |exc c=>rw[e2]at q;exact λH' x=>q H' (g1.ext.trans x)
  |stuck=>rw[e2]at q;exact q
  |ok l=>
   rw[e2]at q;intro H2 F2 g2;refine⟨Z,F2,env,fp,(S.grow g1).grow g2,?_⟩;simp only[Res.Jz]at q;cases e3:mh env with
   |exc c=>rw[e3]at q;exact λH' x=>q H' ((g1.ext.trans g2.ext).trans x)
   |stuck=>rw[e3]at q;exact q
   |ok h=>
    rw[e3]at q;intro H3 F3 g3;simp only[Res.Jz]at q;cases x with
    |lst f xs=>
     have g:=(g1.trans g2).trans g3;have r3:=(r1.ext (g2.trans g3).ext (g2.trans g3).mono)
     have nf3:∀a∈f1,¬F3 a:=λa ha z=>by
      rcases(g2.trans g3).only a z with z|z
      .exact n1 a ha z
      .obtain⟨o,ho⟩:=r1.there a ha;rw[ho]at z;cases z
     unfold Rel at r3;obtain⟨a,ws,fp',rfl,hll,hr,hf⟩:=r3;have sl:fp'.Sublist f1:=by
      cases f with
      |own=>obtain rfl:f1=a::fp':=hf;exact List.sublist_cons_self _ _
      |frz|bor|lnt|mod=>obtain⟨rfl,rfl⟩:=hf;exact Sublist.refl _
     obtain⟨f4,h4,s4⟩:=RelL.drop (HT.sIx xs.length 0 l) hr;obtain⟨f5,h5,s5⟩:=RelL.take (HT.sIx xs.length xs.length h-HT.sIx xs.length 0 l) h4;have sl2:=(s5.trans s4).trans sl;refine⟨a,ws,rfl,by rw[hK];exact hll.sq,?_⟩;unfold yK;rw[<- hr.length];exact GE.newL q g h5 (λb hb=>nf3 b (sl2.subset hb)) (d1.sublist sl2) (λb hb=>w1 b (sl2.subset hb))
    |_=>exact q.elim
def BS(K:PySem.W.Frag):R2:=λx y H Q=>∃l b xs zs,x=.ref l/\y=.ref b/\Rd H l (.lst xs)/\Rd H b (.lst zs)/\xs.length+zs.length<=sizeLine/\∀p,H p=none->Q (.ref p) (upd H p (.lst (xs++zs)))
theorem AF:OpR X (binaryOp .Add) (BS K):=by
 intro js s Y H x y v u Q I rx ry h;obtain⟨l,b,xs,zs,rfl,rfl,hH,hB,hz,q⟩:=h;cases rx;cases ry;obtain⟨z,its,n,r,e⟩:=hH.ok I.hok;obtain⟨z2,its2,n2,r2,e2⟩:=hB.ok I.hok;have hl:=r.length;have hl2:=r2.length;refine PySem.P.add_list e e2 ?_ (by rw[size_toArray,size_toArray];omega);have ea:its.toArray++its2.toArray=(its++its2).toArray:=by simp
 rw[ea];exact⟨.ref _,_,I.lnew (t':=s.toks) (r.append r2) (by rw[length_append];omega),rfl,q _ I.fresh⟩
def aL:PV->PV->Jo
 |.int i,.int j=>.ok (.int (i+j))
 |.lst f xs,.lst g ys=>if f=.mod\/g=.mod\/¬xs.length+ys.length<=10000000 then .stuck else .ok (.lst .own (xs++ys))
 |_,_=>.stuck
theorem mS.rd(h:mS T F B L H f a vs)(n:f≠.mod):Rd H a (.lst vs):=by
 cases f with
 |own=>exact .inl h
 |lnt=>exact .inl h.2
 |frz|bor=>exact h.2
 |mod=>exact absurd rfl n
theorem q8.sub(hf:q8 f a fp' fx):fp'.Sublist fx:=by
 cases f with
 |own=>obtain rfl:fx=a::fp':=hf;exact List.sublist_cons_self _ _
 |frz|bor|lnt|mod=>obtain⟨rfl,rfl⟩:=hf;exact Sublist.refl _
theorem xi:j6 T W aL (λx y H Q=>(rI0 λi j=>.int (i+j)) x y H Q\/BS T.K x y H Q):=by
 intro B F L Y H Q F' H' x y v u fx fy g rx ry nf nd new q;cases x with
 |int i=>
  cases y with
  |int j=>unfold Rel at rx ry;exact .inl ⟨i,j,rx.1,ry.1,q.scal g fR⟩
  |_=>exact q.elim
 |lst f xs=>
  cases y with
  |lst f' ys=>
   simp only[aL]at q;by_cases hc:f=.mod\/f'=.mod\/¬xs.length+ys.length<=10000000
   .rw[if_pos hc]at q;exact q.elim
   .rw[if_neg hc]at q;unfold Rel at rx ry;obtain⟨a,vs,fp1,rfl,hl1,hr1,hf1⟩:=rx;obtain⟨b,us,fp2,rfl,hl2,hr2,hf2⟩:=ry;have sl:=Sublist.append hf1.sub hf2.sub;have h3:xs.length+ys.length<=10000000:=by
     rcases Nat.lt_or_ge 10000000 (xs.length+ys.length)with z|z
     .exact absurd (.inr (.inr ())) hc
     .exact z
    refine .inr ⟨a,b,vs,us,rfl,rfl,hl1.rd λz=>hc (.inl z),hl2.rd λz=>hc (.inr (.inl z)),by rw[<- hr1.length,<- hr2.length,sizeLine_eq];omega,?_⟩;exact GE.newL q g (RelL.append hr1 hr2) (λb hb=>nf b (sl.subset hb)) (nd.sublist sl) (λb hb=>new b (sl.subset hb))
  |_=>exact q.elim
 |_=>exact q.elim
theorem OpR.or(h:OpR X f r)(h':OpR X f r'):OpR X f (λx y H Q=>r x y H Q\/r' x y H Q):=by
 intro js s Y H x y v u Q I rx ry q;rcases q with q|q
 .exact h js s Y H x y v u Q I rx ry q
 .exact h' js s Y H x y v u Q I rx ry q
theorem aO(ha:SE X T W a ma)(hb:SE X T W b mb):SE X T W (.BinOp a .Add b pos) (mOp aL ma mb):=nB (OpR.or Db AF) xi ha hb
end
mutual
def PV.data:PV->PyData
 |.non=>.none
 |.bl b=>.bool b
 |.int i=>.int i
 |.str x=>.str x
 |.lst _ xs=>.list (dataL xs)
 |.tup xs=>.tuple (dataL xs)
 |.obj _ _ _ _|.exc _|.box _ _=>.dict []
def dataL:Jn->List PyData
 | []=>[]
 |x::xs=>x.data::dataL xs
end
def shp(x:PV):Bool:=SeqAt.shaped x.data
section
variable{X:Cx}{T:Tb}{W:Nat->St->Jm}{Z:Zn}{F F1 B L:Je}{H H1:Hp}{Y:St}{env:En}{fp:Nat->Jh}{D:Ends}{js:Jd}{s:Shared}
mutual
theorem Rel.reads(hK:X.K=T.K)(I:L2.Inv X js Y H s):∀{x:PV}{v:V}{f:Jh}{u:Value},Rel T F B L H x v f->bO v u->x.data.canLay0=true->∃as,Reads s.heap u x.data as
 |.non,_,_,_,r,ru,_=>by unfold Rel at r;obtain⟨rfl,_⟩:=r;cases ru;exact⟨[],.none⟩
 |.bl b,_,_,_,r,ru,_=>by unfold Rel at r;obtain⟨rfl,_⟩:=r;cases ru;exact⟨[],.bool b⟩
 |.int i,_,_,_,r,ru,_=>by unfold Rel at r;obtain⟨rfl,_⟩:=r;obtain⟨t,rfl⟩:=ru;exact⟨[],.int i t⟩
 |.str x,_,_,_,r,ru,_=>by unfold Rel at r;obtain⟨rfl,_⟩:=r;obtain⟨t,rfl⟩:=ru;exact⟨[],.str x t⟩
 |.lst f xs,_,_,_,r,ru,hc=>by unfold Rel at r;obtain⟨a,vs,fp',rfl,hl,hr,_⟩:=r;cases ru;obtain⟨its,rv,⟨o,n,ho,hcl,_,hd⟩,_⟩:=I.list (by rw[hK];exact hl.sq);obtain⟨as,ra⟩:=RelL.reads hK I hr rv (by simpa[PV.data,PyData.canLay0]using hc);exact⟨_,.list ho hcl hd (by simpa using ra)⟩
 |.tup xs,_,_,_,r,ru,hc=>by unfold Rel at r;obtain⟨a,vs,rfl,hl,hr⟩:=r;cases ru;obtain⟨its,rv,⟨o,ho,hcl,n,hd⟩,_⟩:=I.tuple (by rw[hK];exact hl);obtain⟨as,ra⟩:=RelL.reads hK I hr rv (by simpa[PV.data,PyData.canLay0]using hc);exact⟨_,.tuple ho hcl hd (by simpa using ra)⟩
 |.obj _ _ _ _,_,_,_,_,_,hc|.exc _,_,_,_,_,_,hc|.box _ _,_,_,_,_,_,hc=>by simp[PV.data,PyData.canLay0]at hc
theorem RelL.reads(hK:X.K=T.K)(I:L2.Inv X js Y H s):∀{xs:Jn}{vs:Jl}{f:Jh}{us:Jg},RelL T F B L H xs vs f->a5 vs us->PyData.canLayAll0 (dataL xs)=true->∃as,ReadsAll s.heap us (dataL xs) as
 | [],_,_,_,r,ru,_=>by unfold RelL at r;obtain⟨rfl,_⟩:=r;cases ru;exact⟨[],.nil⟩
 |x::xs,_,_,_,r,ru,hc=>by
  unfold RelL at r;obtain⟨v,ws,f1,f2,rfl,h1,h2,_⟩:=r;cases ru with
  |cons r1 r2=>simp only[dataL,PyData.canLayAll0,and_eq_true]at hc;obtain⟨as,ra⟩:=Rel.reads hK I h1 r1 hc.1;obtain⟨bs,rb⟩:=RelL.reads hK I h2 r2 hc.2;exact⟨_,.cons ra rb⟩
end
def pEq:PV->PV->Jo:=λx y=>if shp x&&shp y then .ok (.bl (PyData.eqv x.data y.data))else .stuck
def pNe:PV->PV->Jo:=λx y=>if shp x&&shp y then .ok (.bl (!PyData.eqv x.data y.data))else .stuck
def wd(X:Cx)(T:Tb)(g:PyData->PyData->Bool):R2:=λv u H Q=>∃x y F B L fx fy,Rel T F B L H x v fx/\Rel T F B L H y u fy/\shp x=true/\shp y=true/\Q (.bl (g x.data y.data)) H
theorem wI(hK:X.K=T.K)(hu:X.A.units+64<cLine):OpR X (compareOp .Eq) (wd X T λa b=>PyData.eqv a b):=by intro js s Y H v u v' u' Q I rv ru h;obtain⟨x,y,F,B,L,fx,fy,rx,ry,hx,hy,q⟩:=h;obtain⟨as,ra⟩:=rx.reads hK I rv (SeqAt.canLay_of_shaped hx);obtain⟨bs,rb⟩:=ry.reads hK I ru (SeqAt.canLay_of_shaped hy);exact PyProof.Rows.eq_dataH ra rb hx hy hu ⟨.bl _,H,I,rfl,q⟩
theorem wH(hK:X.K=T.K)(hu:X.A.units+64<cLine):OpR X (compareOp .NotEq) (wd X T λa b=>!PyData.eqv a b):=by intro js s Y H v u v' u' Q I rv ru h;obtain⟨x,y,F,B,L,fx,fy,rx,ry,hx,hy,q⟩:=h;obtain⟨as,ra⟩:=rx.reads hK I rv (SeqAt.canLay_of_shaped hx);obtain⟨bs,rb⟩:=ry.reads hK I ru (SeqAt.canLay_of_shaped hy);exact PyProof.Rows.ne_dataH ra rb hx hy hu ⟨.bl _,H,I,rfl,q⟩
theorem jM:j6 T W (λx y=>if shp x&&shp y then .ok (.bl (g x.data y.data))else .stuck) (wd X T g):=by
 intro B F L Y H Q F' H' x y v u fx fy gr rx ry nf nd new q;dsimp only at q;by_cases hc:(shp x&&shp y)=true
 .rw[if_pos hc]at q;rw[and_eq_true]at hc;exact⟨x,y,F',B,L,fx,fy,rx,ry,hc.1,hc.2,q.scal gr ka⟩
 .rw[if_neg hc]at q;exact q.elim
variable{a b:Expr}{ma mb:ME}{pos:Pos}
theorem pQ(hK:X.K=T.K)(hu:X.A.units+64<cLine)(ha:SE X T W a ma)(hb:SE X T W b mb):SE X T W (.Compare a [.Eq] [b] pos) (mOp pEq ma mb):=oq (wI hK hu) jM ha hb (fj _)
theorem BO(hK:X.K=T.K)(hu:X.A.units+64<cLine)(ha:SE X T W a ma)(hb:SE X T W b mb):SE X T W (.Compare a [.NotEq] [b] pos) (mOp pNe ma mb):=oq (wH hK hu) (jM (g:=λa b=>!PyData.eqv a b)) ha hb (fj _)
theorem cJ(hK:X.K=T.K)(hu:X.A.units+64<cLine)(ha:SE X T W a ma)(hb:SE X T W b mb):ST X T W (.Compare a [.Eq] [b] pos) (ax (mOp pEq ma mb)):=fZ (wI hK hu) jM ha hb (fj _)
theorem st_ne(hK:X.K=T.K)(hu:X.A.units+64<cLine)(ha:SE X T W a ma)(hb:SE X T W b mb):ST X T W (.Compare a [.NotEq] [b] pos) (ax (mOp pNe ma mb)):=fZ (wH hK hu) (jM (g:=λa b=>!PyData.eqv a b)) ha hb (fj _)
theorem fU(ha:SE X T W a ma)(hb:SE X T W b mb):ST X T W (.Compare a [.Lt] [b] pos) (ax (mOp pLt ma mb)):=fZ BW (ki λ_ _ _ _ _ _=>ka) ha hb (fj _)
theorem fV(ha:SE X T W a ma)(hb:SE X T W b mb):ST X T W (.Compare a [.Gt] [b] pos) (ax (mOp pGt ma mb)):=fZ Gk (ki λ_ _ _ _ _ _=>ka) ha hb (fj _)
theorem pN(ha:SE X T W a ma)(hb:SE X T W b mb):ST X T W (.Compare a [.GtE] [b] pos) (ax (mOp pGe ma mb)):=fZ Gm (ki λ_ _ _ _ _ _=>ka) ha hb (fj _)
def inL(x:PV)(ys:Jn):Bool:=ys.any λy=>PyData.eqv y.data x.data
def pIn:PV->PV->Jo:=λx y=>match aW y with
 |some ys=>if shp x&&ys.all shp then .ok (.bl (inL x ys))else .stuck
 |none=>.stuck
def dF:PV->PV->Jo:=λx y=>match aW y with
 |some ys=>if shp x&&ys.all shp then .ok (.bl (!inL x ys))else .stuck
 |none=>.stuck
theorem qF(hK:X.K=T.K)(I:L2.Inv X js Y H s)(hu:A.units+64<cLine)(rx:Rel T F B L H x v fx)(ry:Rel T F B L H y u fy)(rv:bO v v')(ru:bO u u')(hx:shp x=true)(hy:shp y=true) :
  SeqAt.EqAt A s v' u' (PyData.eqv x.data y.data):=by
 obtain⟨as,ra⟩:=rx.reads hK I rv (SeqAt.canLay_of_shaped hx);obtain⟨bs,rb⟩:=ry.reads hK I ru (SeqAt.canLay_of_shaped hy);exact SeqAt.eqAt_reads _ _ A s v' u' as bs ra rb (SeqAt.canLay_of_shaped hx) (SeqAt.canLay_of_shaped hy) (SeqAt.room_of_shaped hx hu)
theorem jU(hK:X.K=T.K)(I:L2.Inv X js Y H s)(hu:A.units+64<cLine)(rx:Rel T F B L H x v fx)(rv:bO v v')(hx:shp x=true) :
  ∀{ys:Jn}{us:Jl}{fy:Jh}{us':Jg},RelL T F B L H ys us fy->a5 us us'->ys.all shp=true->∃e:Value->Bool,(∀w∈us',SeqAt.EqAt A s w v' (e w))/\us'.any e=inL x ys:=by
 intro ys us fy us' r rv' hs;have one:∀(ys:Jn) (us:Jl) (fy:Jh) (us':Jg),RelL T F B L H ys us fy->a5 us us'->ys.all shp=true->∀w∈us',∃b,SeqAt.EqAt A s w v' b/\(b=true->inL x ys=true):=by
  intro ys
  induction ys with
  |nil=>intro us fy us' r rv' _ w hw;unfold RelL at r;obtain⟨rfl,_⟩:=r;cases rv';cases hw
  |cons y ys ih=>
   intro us fy us' r rv' hs w hw;unfold RelL at r;obtain⟨u,ws,f1,f2,rfl,h1,h2,_⟩:=r;cases rv' with
   |cons r1 r2=>
    rw[all_cons,and_eq_true]at hs;rcases mem_cons.mp hw with rfl|hw
    .exact⟨_,qF hK I hu h1 rx r1 rv hs.1 hx,λz=>by simp[inL,z]⟩
    .obtain⟨b,h3,h4⟩:=ih ws f2 _ h2 r2 hs.2 w hw;exact⟨b,h3,λz=>by have:=h4 z;unfold inL at this ⊢;simp[this]⟩
 have some_:∀(ys:Jn) (us:Jl) (fy:Jh) (us':Jg),RelL T F B L H ys us fy->a5 us us'->ys.all shp=true->inL x ys=true->∃w∈us',SeqAt.EqAt A s w v' true:=by
  intro ys
  induction ys with
  |nil=>intro us fy us' r rv' _ h;simp[inL]at h
  |cons y ys ih=>
   intro us fy us' r rv' hs h;unfold RelL at r;obtain⟨u,ws,f1,f2,rfl,h1,h2,_⟩:=r;cases rv' with
   |cons r1 r2=>
    rw[all_cons,and_eq_true]at hs;by_cases hy:PyData.eqv y.data x.data=true
    .refine⟨_,mem_cons_self,?_⟩;have:=qF hK I hu h1 rx r1 rv hs.1 hx
     rwa [hy]at this
    .have h':inL x ys=true:=by unfold inL at h ⊢;rw[any_cons]at h;simpa[hy]using h
     grind
 by_cases hin:inL x ys=true
 .obtain⟨w0,hw0,q0⟩:=some_ ys us fy us' r rv' hs hin;refine⟨λw=>@decide (SeqAt.EqAt A s w v' true) (Classical.propDecidable _),λw hw=>?_,?_⟩
  .obtain⟨b,h1,_⟩:=one ys us fy us' r rv' hs w hw;by_cases ht:SeqAt.EqAt A s w v' true
   .simp only[ht,decide_true]
   .simp only[ht,decide_false];cases b with
    |true=>exact absurd h1 ht
    |false=>exact h1
  .rw[hin,List.any_eq_true];exact⟨w0,hw0,by simp[q0]⟩
 .have hin':inL x ys=false:=by simpa using hin
  refine⟨λ_=>false,λw hw=>?_,by rw[hin'];simp⟩
  grind
def CJ(X:Cx)(T:Tb)(neg:Bool):R2:=λv u H Q=>∃x ys a vs F B L fx fy,u=.ref a/\(SqL T.K H a vs\/SqT T.K H a vs)/\Rel T F B L H x v fx/\RelL T F B L H ys vs fy/\shp x=true/\ys.all shp=true/\Q (.bl (if neg then !inL x ys else inL x ys)) H
theorem Da(hK:X.K=T.K)(hu:X.A.units+66<cLine):OpR X (compareOp .In) (CJ X T false):=by
 intro js s Y H v u v' u' Q I rv ru h;obtain⟨x,ys,a,vs,F,B,L,fx,fy,rfl,hs,rx,ry,hx,hy,q⟩:=h;cases ru;have hu1:X.A.in1.units+64<cLine:=by show X.A.units+1+64<cLine;omega
 rcases hs with hs|hs
 .obtain⟨its,r,pl,_⟩:=I.list (by rw[hK];exact hs);obtain⟨e,h1,h2⟩:=jU hK I hu1 rx rv hx ry r hy;refine SeqAt.in_listAt e pl.isList (λw hw=>h1 w (by simpa using hw)) ⟨.bl _,H,I,rfl,?_⟩;rw[show its.toArray.any e=its.any e by simp,h2];exact q
 .obtain⟨its,r,pl,_⟩:=I.tuple (by rw[hK];exact hs);obtain⟨e,h1,h2⟩:=jU hK I hu1 rx rv hx ry r hy;refine SeqAt.in_tupleAt e pl (λw hw=>h1 w (by simpa using hw)) ⟨.bl _,H,I,rfl,?_⟩;rw[show its.toArray.any e=its.any e by simp,h2];exact q
theorem uZ(hK:X.K=T.K)(hu:X.A.units+66<cLine):OpR X (compareOp .NotIn) (CJ X T true):=by
 intro js s Y H v u v' u' Q I rv ru h;obtain⟨x,ys,a,vs,F,B,L,fx,fy,rfl,hs,rx,ry,hx,hy,q⟩:=h;cases ru;have hu1:X.A.in1.units+64<cLine:=by show X.A.units+1+64<cLine;omega
 rcases hs with hs|hs
 .obtain⟨its,r,pl,_⟩:=I.list (by rw[hK];exact hs);obtain⟨e,h1,h2⟩:=jU hK I hu1 rx rv hx ry r hy;refine SeqAt.notIn_listAt e pl.isList (λw hw=>h1 w (by simpa using hw)) ⟨.bl _,H,I,rfl,?_⟩;rw[show its.toArray.any e=its.any e by simp,h2];exact q
 .obtain⟨its,r,pl,_⟩:=I.tuple (by rw[hK];exact hs);obtain⟨e,h1,h2⟩:=jU hK I hu1 rx rv hx ry r hy;refine SeqAt.notIn_tupleAt e pl (λw hw=>h1 w (by simpa using hw)) ⟨.bl _,H,I,rfl,?_⟩;rw[show its.toArray.any e=its.any e by simp,h2];exact q
theorem xo:j6 T W (λx y=>match aW y with
 |some ys=>if shp x&&ys.all shp then .ok (.bl (if neg then !inL x ys else inL x ys))else .stuck
 |none=>.stuck) (CJ X T neg):=by
 intro B F L Y H Q F' H' x y v u fx fy gr rx ry nf nd new q;dsimp only at q;cases e:aW y with
 |none=>rw[e]at q;exact q.elim
 |some ys=>
  rw[e]at q;dsimp only at q;by_cases hc:(shp x&&ys.all shp)=true
  .rw[if_pos hc]at q;rw[and_eq_true]at hc;obtain⟨a,ws,f',rfl,hs,hr,_⟩:=ry.seq e;exact⟨x,ys,a,ws,F',B,L,fx,f',rfl,hs,rx,hr,hc.1,hc.2,q.scal gr ka⟩
  .rw[if_neg hc]at q;exact q.elim
theorem pM(hK:X.K=T.K)(hu:X.A.units+66<cLine)(ha:SE X T W a ma)(hb:SE X T W b mb)(hk:behindInMarks .In b=false:=by with_unfolding_all rfl):ST X T W (.Compare a [.In] [b] pos) (ax (mOp pIn ma mb)):=fZ (Da hK hu) (xo (neg:=false)) ha hb hk
theorem ik(hK:X.K=T.K)(hu:X.A.units+66<cLine)(ha:SE X T W a ma)(hb:SE X T W b mb)(hk:behindInMarks .NotIn b=false:=by with_unfolding_all rfl):ST X T W (.Compare a [.NotIn] [b] pos) (ax (mOp dF ma mb)):=fZ (uZ hK hu) (xo (neg:=true)) ha hb hk
def PV.isNon:PV->Bool
 |.non=>true
 |_=>false
def lL:PV->PV->Jo
 |x,.non=>.ok (.bl x.isNon)
 |_,_=>.stuck
def i6:PV->PV->Jo
 |x,.non=>.ok (.bl (!x.isNon))
 |_,_=>.stuck
theorem Rel.isNon(r:Rel T F B L H x v f):decide (v=.non)=x.isNon:=by
 cases x with
 |non|bl b|int i|str i=>unfold Rel at r;rw[r.1];rfl
 |lst f xs=>unfold Rel at r;obtain⟨a,_,_,rfl,_⟩:=r;rfl
 |tup xs=>unfold Rel at r;obtain⟨a,_,rfl,_⟩:=r;rfl
 |obj f c ks xs=>unfold Rel at r;obtain⟨a,_,_,_,rfl,_⟩:=r;rfl
 |exc c=>unfold Rel at r;obtain⟨a,rfl,_⟩:=r;rfl
 |box k xs=>unfold Rel at r;obtain⟨a,vs,rfl,_⟩:=r;rfl
theorem AV:j6 T W lL (λx y H Q=>y=.non/\Q (.bl (decide (x=.non))) H):=by
 intro B F L Y H Q F' H' x y v u fx fy gr rx ry nf nd new q;cases y with
 |non=>unfold Rel at ry;refine⟨ry.1,?_⟩;rw[rx.isNon];exact GE.scal (pv:=.bl x.isNon) (by simpa[lL]using q) gr ka
 |_=>simp only[lL]at q;exact q.elim
theorem xj:j6 T W i6 (λx y H Q=>y=.non/\Q (.bl (!decide (x=.non))) H):=by
 intro B F L Y H Q F' H' x y v u fx fy gr rx ry nf nd new q;cases y with
 |non=>unfold Rel at ry;refine⟨ry.1,?_⟩;rw[rx.isNon];exact GE.scal (pv:=.bl (!x.isNon)) (by simpa[i6]using q) gr ka
 |_=>simp only[i6]at q;exact q.elim
theorem rm(ha:SE X T W a ma)(hb:SE X T W b mb):ST X T W (.Compare a [.Is] [b] pos) (ax (mOp lL ma mb)):=fZ C_ AV ha hb (fj _)
theorem sY(ha:SE X T W a ma)(hb:SE X T W b mb):ST X T W (.Compare a [.IsNot] [b] pos) (ax (mOp i6 ma mb)):=fZ AD xj ha hb (fj _)
end
abbrev TgM:=PV->En->Option En
abbrev sK:=Jn->En->Option En
def tgN(i:Nat):TgM:=λv env=>if aT i env then some (env.set i (some v))else none
def dJ:sK:=λvs env=>match vs with
 | []=>some env
 |_=>none
def aZ(t:TgM)(u:sK):sK:=λvs env=>match vs with
 |v::r=>match t v env with
  |some e=>u r e
  |none=>none
 | []=>none
def tgT(n:Nat)(u:sK):TgM:=λv env=>match v with
 |.tup xs=>if xs.length=n then u xs env else none
 |_=>none
structure vH(Z:Zn)(F:Je)(fp:Nat->Jh)(f:Jh):Prop where
 nd:f.Nodup
 nf:∀a∈f,¬F a
 new:∀a∈f,Z.H0 a=none\/Z.fp0 a
 dj:∀a∈f,∀j,a∉fp j
theorem vH.nil:vH Z F fp []:=⟨nodup_nil,λ_ z=>(nomatch z),λ_ z=>(nomatch z),λ_ z=>(nomatch z)⟩
def GG(T:Tb)(Z:Zn)(F:Je)(H:Hp)(Q:St->Jm):Option En->Prop
 |some e=>∀Y fp,aA T Z F H Y e fp->Q Y H
 |none=>False
def tG(T:Tb)(m:TgM):TG:=λv Y H Q=>∃Z F env fp pv f,aA T Z F H Y env fp/\Rel T F Z.B NoL H pv v f/\vH Z F fp f/\GG T Z F H Q (m pv env)
def tGs(T:Tb)(m:sK):TGs:=λvs Y H Q=>∃Z F env fp pvs f,aA T Z F H Y env fp/\RelL T F Z.B NoL H pvs vs f/\vH Z F fp f/\GG T Z F H Q (m pvs env)
abbrev SG(X:Cx)(T:Tb)(tg:Expr)(m:TgM):Prop:=PG X tg (tG T m)
abbrev SGs(X:Cx)(T:Tb)(ts:List Expr)(m:sK):Prop:=PGs X ts (tGs T m)
section
variable{X:Cx}{T:Tb}{W:Nat->St->Jm}{Z:Zn}{F F1 B L:Je}{H H1:Hp}{Y:St}{env:En}{fp:Nat->Jh}{D:Ends}
theorem PG.wk(h:PG X tg t)(w:∀v Y H Q,t' v Y H Q->t v Y H Q):PG X tg t':=λjs s Y H v u Q I r q=>h js s Y H v u Q I r (w v Y H Q q)
theorem PGs.wk(h:PGs X ts t)(w:∀v Y H Q,t' v Y H Q->t v Y H Q):PGs X ts t':=λjs s Y H v u Q I r q=>h js s Y H v u Q I r (w v Y H Q q)
theorem z7(hN:X.N.Nodup)(hi:X.N[i]?=some x)(hx:Loc X.env.scope x)(hf:X.fn x=true\/X.env.scope.names.lookup x=some .local:=by first|exact .inl rfl|exact .inr rfl|assumption):SG X T (.Name x pos) (tgN i):=
 PG.wk (tQ (pos:=pos) hN hi hx hf) λv Y H Q hz1=>by
  obtain⟨Z,F,env,fp,pv,f,S,r,fr,q⟩:=hz1;unfold tgN at q;by_cases ho:aT i env=true
  .rw[if_pos ho]at q;exact q _ _ (S.put r fr.nd fr.nf fr.new (λa ha j _=>fr.dj a ha j) ho)
  .rw[if_neg ho]at q;exact q.elim
theorem dA:SGs X T [] dJ:=PGs.wk Ax λvs Y H Q hz1=>by
 obtain⟨Z,F,env,fp,pvs,f,S,r,fr,q⟩:=hz1;cases pvs with
 |nil=>unfold RelL at r;exact⟨r.1,q Y fp S⟩
 |cons x xs=>exact q.elim
theorem ba(hN:X.N.Nodup)(hi:X.N[i]?=some x)(hx:Loc X.env.scope x)(h2:SGs X T es u)
  (hs:(assignEach (.Name x pos::es) X.env).map (·.2)=assign (.Name x pos) X.env::(assignEach es X.env).map (·.2):=by rfl)
  (hf:X.fn x=true\/X.env.scope.names.lookup x=some .local:=by first|exact .inl rfl|exact .inr rfl|assumption):SGs X T (.Name x pos::es) (aZ (tgN i) u):=
 PGs.wk (wz (tQ (pos:=pos) hN hi hx hf) h2 hs) λvs Y H Q hz1=>by
  obtain⟨Z,F,env,fp,pvs,f,S,r,fr,q⟩:=hz1;cases pvs with
  |nil=>exact q.elim
  |cons y ys=>
   unfold RelL at r;obtain⟨v,ws,f1,f2,rfl,r1,r2,rfl⟩:=r;obtain⟨n1,n2,n3⟩:=nodup_append.mp fr.nd;by_cases ho:aT i env=true
   case neg=>simp only[aZ,tgN,if_neg ho]at q;exact q.elim
   simp only[aZ,tgN,if_pos ho]at q;refine⟨v,ws,rfl,Z,F,env.set i (some y),cG fp i f1,ys,f2,S.put r1 n1 (λa ha=>fr.nf a (mem_append_left _ ha)) (λa ha=>fr.new a (mem_append_left _ ha)) (λa ha j _=>fr.dj a (mem_append_left _ ha) j) ho,r2,⟨n2,λa ha=>fr.nf a (mem_append_right _ ha),λa ha=>fr.new a (mem_append_right _ ha),λa ha j=>?_⟩,q⟩;unfold cG;split
   .exact λz=>n3 a z a ha rfl
   .exact fr.dj a (mem_append_right _ ha) j
theorem eC(hK:X.K=T.K)(hc:X.calm=true)(h:SGs X T es u)(hn:(assignEach es X.env).length=n:=by rfl)(hst:(assignEach es X.env).findIdx? (·.1)=none:=by rfl):SG X T (.Tuple es k pos) (tgT n u):=
 PG.wk (CV (pos:=pos) (k:=k) hc h hn hst) λv Y H Q hz1=>by
  obtain⟨Z,F,env,fp,pv,f,S,r,fr,q⟩:=hz1;cases pv with
  |tup xs=>
   unfold Rel at r;obtain⟨a,vs,rfl,hl,hr⟩:=r;simp only[tgT]at q;by_cases hx:xs.length=n
   .rw[if_pos hx]at q;exact⟨a,vs,rfl,by rw[hK];exact hl,by rw[<- hr.length];exact hx,Z,F,env,fp,xs,f,S,hr,fr,q⟩
   .rw[if_neg hx]at q;exact q.elim
  |_=>exact q.elim
def xA(tg:TgM)(e:ME):MS:=λenv=>match e env with
 | .ok v=>if v.Jw then (match tg v env with
  |some e'=>.next e'
  |none=>.stuck)else .stuck
 |.exc k=>.exc k env
 |.stuck=>.stuck
theorem Co(he:SE X T W e m)(hg:SG X T tg g)(hs:swapsWithSole [tg] e pos.line X.env=pure false:=by rfl)(hw:swappedStores [tg] e X.env=pure none:=by rfl)
  (h1:(assignEach [tg] X.env).map (·.2)=[assign tg X.env]:=by rfl):SS X T W (.Assign [tg] e pos) (xA g m):=PS.wk (wp (pos:=pos) he hg hs hw h1) λD Y H hz1=>by
 obtain⟨Z,F,env,fp,S,q⟩:=hz1;unfold xA at q;refine tE.bind S (λc e H' x=>?_) (λe=>by rw[e]at q;exact q) λpv v H1 F1 f e g r h1 h2 h3=>?_
 .rw[e]at q;exact q F H' Y fp (S.grow (Gr.same S.hp.ft x))
 .rw[e]at q;dsimp only at q;split at q
  .rename_i hl
   refine⟨Z,F1,env,fp,pv,f,S.grow g,Rel.noL (by simpa[PV.Jw]using hl) r,⟨h2,h1,S.hp.newE h3,λa ha j hj=>?_⟩,?_⟩
   .obtain⟨_,o,ho⟩:=S.dis j a hj;rw[h3 a ha]at ho;cases ho
   .split at q
    .rename_i e' he'
     rw[he'];exact λσ' fp' S'=>q F1 H1 σ' fp' S'
    .exact q.elim
  .exact q.elim
abbrev MI:=En->Res (Jn)
def ItR(T:Tb)(F B:Je)(Ow:Je)(H1:Hp)(J:It)(xs:Jn):Prop:=
 ∀H2,(∀a o,H1 a=some o->¬Ow a->H2 a=some o)->(∀(i:Nat) x,xs[i]?=some x->J.go i H2/\∀v H3,J.yld i H2 v H3->Ext H2 H3/\Rel T F B NoL H3 x v [])/\J.stop xs.length H2
theorem ItR.of0(h:∀H2,(∀a o,H1 a=some o->¬Ow a->H2 a=some o)->(∀(i:Nat) x,xs[i]?=some x->J.go i H2/\∀v H3,J.yld i H2 v H3->H3=H2/\Rel T F B NoL H2 x v [])/\J.stop xs.length H2):ItR T F B Ow H1 J xs:=λH2 hk=>by obtain⟨a,b⟩:=h H2 hk;refine⟨λi x e=>⟨(a i x e).1,λv H3 hy=>?_⟩,b⟩;obtain⟨rfl,r⟩:=(a i x e).2 v H3 hy;exact⟨Ext.refl,r⟩
def GI(T:Tb)(W:Nat->St->Jm)(B F Ow:Je)(Y:St)(H:Hp)(R:It->Jm):Res (Jn)->Prop
 |.ok xs=>∀J H1 F1,Gr F H F1 H1->ItR T F1 B Ow H1 J xs->R J H1
 |.exc c=>∀H',Ext H H'->W c Y H'
 |.stuck=>False
def tI(T:Tb)(W:Nat->St->Jm)(m:MI):TI:=λY H R=>∃Z F env fp,aA T Z F H Y env fp/\GI T W Z.B F (Own fp) Y H R (m env)
abbrev SI(X:Cx)(T:Tb)(W:Nat->St->Jm)(tg iter:Expr)(m:MI):Prop:=PI X tg iter (tI T W m)
theorem wx(hl:PE X l tl):PI X tg l (λY H R=>tl Y H λx H1=>∃a,x=.ref a/\((∃xs,SqL X.K H1 a xs/\R (Itl X.K a) H1)\/ ∃xs,SqT X.K H1 a xs/\R (Itt X.K a) H1)):=by
 intro js s Y H R I h;refine thn (hl js s Y H _ I h) λv s1 hz1=>?_;obtain⟨x,H1,I1,r1,q1⟩:=hz1;obtain⟨a,e,q⟩:=q1;subst e;cases r1;rcases q with⟨xs,hq,q⟩ |⟨xs,hq,q⟩
 .obtain⟨its,rv,p,hz⟩:=I1.list hq;refine wpAny_pyIter_list p.isList ?_;refine⟨s1.heap.objs.size,[s1.heap.objs.size],_,_,H1,rfl,I1.kept (t':=s1.toks) λb o e=>get?_push_of_some _ e,uC a _,⟨_,get?_push_size _ rfl,rfl,rfl⟩,λb hb=>?_,q⟩;have e:b=s1.heap.objs.size:=by simpa using hb
  subst e;exact I1.fpOk (Nat.le_refl _) (I1.hok.fresh (Nat.le_refl _))
 .obtain⟨its,rv,p,hz⟩:=I1.tuple hq;refine wpAny_pyIter_tuple (show s1.heap.IsTuple a its.toArray from p) ?_;refine⟨s1.heap.objs.size,[s1.heap.objs.size],_,_,H1,rfl,I1.kept (t':=s1.toks) λb o e=>get?_push_of_some _ e,rh a _,⟨_,get?_push_size _ rfl,rfl,rfl⟩,λb hb=>?_,q⟩;have e:b=s1.heap.objs.size:=by simpa using hb
  subst e;exact I1.fpOk (Nat.le_refl _) (I1.hok.fresh (Nat.le_refl _))
def fk(xs:Jn):Bool:=!hasL Fl.Jt xs&&!hasL Fl.Ju xs
def eY(m:ME):MI:=λenv=>(m env).bind λx=>match x with
 |.lst f xs=>if !f.Ju&&fk xs then .ok xs else .stuck
 |.tup xs=>if fk xs then .ok xs else .stuck
 |_=>.stuck
theorem gX{H2:Hp}{Ow:Je}(hF:∀a,F1 a->¬Ow a)(hB:∀a,B a->¬Ow a)(hO:∀a o,Ow a->H1 a=some o->Chg o)(hk:∀a o,H1 a=some o->¬Ow a->H2 a=some o){xs:Jn}{vs:Jl}(r:RelL T F1 B NoL H1 xs vs []){i:Nat}{x:PV}{v:V}(e:xs[i]?=some x)(ev:vs[i]?=some v):Rel T F1 B NoL H2 x v []:=by
 obtain⟨w,f,e1,r1,sl⟩:=r.get e;rw[ev]at e1;cases e1;obtain rfl:=List.sublist_nil.mp sl;refine Rel.tr (λ_ h=>h) (λ_ h=>h) (λ_ h=>h) (λa o q h=>hk a o q ?_) (λ_ z=>(nomatch z)) r1;rcases h with h|h|h|h
 .exact hF a h
 .exact hB a h
 .exact h.elim
 .intro z;have:=hO a o z q;cases o with
  |lst _|ins _ _ _=>exact h
  |_=>exact this
theorem aA.bow(S:aA T Z F H Y env fp):∀a,Z.B a->¬Own fp a:=λa h hz1=>by
 obtain⟨i,hi⟩:=hz1;obtain⟨⟨o,h1⟩,h2⟩:=S.hp.bo.1 a h;rcases S.new i a hi with z|z
 .rw[h1]at z;cases z
 .exact h2 z
theorem aA.fow(S:aA T Z F H Y env fp):∀a,F a->¬Own fp a:=λa h ⟨i,hi⟩=>(S.dis i a hi).1 h
theorem aA.oow(S:aA T Z F H Y env fp):∀a o,Own fp a->H a=some o->Chg o:=λa o hz1 e=>by obtain⟨i,hi⟩:=hz1;obtain⟨o',h1,h2⟩:=S.ch i a hi;rw[e]at h1;cases h1;exact h2
theorem eV(h:fk xs=true)(r:RelL T F B L H xs vs f):f=[]/\RelL T F B NoL H xs vs f:=by simp only[fk,and_eq_true,not_eq_true']at h;exact⟨RelL.Jy h.1 r,RelL.noL h.2 r⟩
theorem fJ(hK:X.K=T.K)(he:SE X T W e m):SI X T W tg e (eY m):=λjs s Y H R I h=>wx he js s Y H R I (by
 obtain⟨Z,F,env,fp,S,q⟩:=h;unfold eY at q;refine tE.bq S λx v H1 F1 f1 e1 g1 r1 n1 d1 w1=>?_;rw[e1]at q;simp only[Res.Jz]at q;have S1:=S.grow g1;rw[hK];cases x with
 |lst f xs=>
  dsimp only at q;by_cases hc:(!f.Ju&&fk xs)=true
  .rw[if_pos hc]at q;rw[and_eq_true]at hc;unfold Rel at r1;obtain⟨a,vs,fp',rfl,hl,hr,hf⟩:=r1;obtain⟨rfl,hr'⟩:=eV hc.2 hr;refine⟨a,rfl,.inl ⟨vs,hl.sq,q _ H1 F1 g1 (ItR.of0 λH2 hk=>?_)⟩⟩;have na:f≠.mod->∀o,H1 a=some o->H2 a=some o:=λhn o ho=>by
    refine hk a o ho ?_;cases f with
    |own=>rintro⟨i,hi⟩;obtain⟨_,o',ho'⟩:=S.dis i a hi;obtain rfl:f1=[a]:=hf;rw[w1 a mem_cons_self]at ho';cases ho'
    |frz=>exact S1.fow a hl.1
    |bor=>exact S1.bow a hl.1
    |lnt=>exact absurd hc.1 (by decide)
    |mod=>exact absurd rfl hn
   have hl2:SqL T.K H2 a vs:=by
    by_cases hn:f=.mod
    .subst hn;exact .inr hl
    .exact .inl (Rd.tr (na hn) (hl.rd hn))
   refine⟨λi x ex=>?_,⟨vs,hl2,by rw[hr.length];exact Nat.le_refl _⟩⟩;obtain⟨v,_,ev,_,_⟩:=hr.get ex;refine⟨⟨vs,v,hl2,ev⟩,λw H3 hy=>⟨hy.1,?_⟩⟩;have e3:=hy.2 vs hl2;exact gX S1.fow S1.bow S1.oow hk hr' ex e3
  .rw[if_neg hc]at q;exact q.elim
 |tup xs=>
  dsimp only at q;by_cases hc:fk xs=true
  .rw[if_pos hc]at q;unfold Rel at r1;obtain⟨a,vs,rfl,hl,hr⟩:=r1;obtain⟨rfl,hr'⟩:=eV hc hr;refine⟨a,rfl,.inr ⟨vs,hl,q _ H1 F1 g1 (ItR.of0 λH2 hk=>?_)⟩⟩;have hl2:SqT T.K H2 a vs:=SqT.tr (λo ho hfx=>hk a o ho λz=>by
    have:=S1.oow a o z ho;cases o with
    |lst _|ins _ _ _=>exact hfx
    |_=>exact this) hl
   refine⟨λi x ex=>?_,⟨vs,hl2,by rw[hr.length];exact Nat.le_refl _⟩⟩;obtain⟨v,_,ev,_,_⟩:=hr.get ex;refine⟨⟨vs,v,hl2,ev⟩,λw H3 hy=>⟨hy.1,?_⟩⟩;exact gX S1.fow S1.bow S1.oow hk hr' ex (hy.2 vs hl2)
  .rw[if_neg hc]at q;exact q.elim
 |_=>exact q.elim)
def dv(lo:Int)(n:Nat):Jn:=(range n).map λk=>.int (lo+(k:Nat))
def inR(i:Int):Bool:=decide (-(2 ^ 62)<= i/\i<2 ^ 62)
def bY(ms:MA):MI:=λenv=>(ms env).bind λxs=>match xs with
 | [.int n]=>if inR n then .ok (dv 0 n.toNat)else .stuck
 |_=>.stuck
def kQ(ms:MA):MI:=λenv=>(ms env).bind λxs=>match xs with
 | [.int i,.int j]=>if inR i&&inR j then .ok (dv i (j-i).toNat)else .stuck
 |_=>.stuck
theorem ub:ItR T F1 B Ow H1 (Itr lo n) (dv lo n):=by
 apply ItR.of0;intro H2 _;refine⟨λi x ex=>?_,by simp[dv,Itr]⟩;have hi:i<n:=by have:=(List.getElem?_eq_some_iff.mp ex).1;simpa[dv]using this
 refine⟨hi,λv H3 hy=>⟨hy.1,?_⟩⟩;obtain⟨_,rfl⟩:=hy;have:x=.int (lo+(i:Nat)):=by simp[dv,hi]at ex;exact ex.symm
 subst this;exact fR
theorem cU(hg:Gl X "range")(hm:X.mg "range" = none)(ha:SA X T W [a] ms)(hs:starEach [a] X.env=[(false,eval a X.env)]:=by rfl):SI X T W tg (.Call (.Name "range" p) [a] [] pos) (bY ms):=λjs s Y H R I h=>nG hg hm ha hs js s Y H R I (by
 obtain⟨Z,F,env,fp,S,q⟩:=h;unfold bY at q;refine tA.bq S λxs vs H1 F1 f1 e1 g1 r1 n1 d1 w1=>?_;rw[e1]at q;simp only[Res.Jz]at q;split at q
 .rename_i n
  split at q
  .rename_i hc
   obtain⟨v,rfl,r2⟩:=r1.one;unfold Rel at r2;obtain⟨rfl,_⟩:=r2;have hc':-(2 ^ 62)<= n/\n<2 ^ 62:=by simpa[inR]using hc
   exact⟨n,rfl,hc'.1,hc'.2,q _ H1 F1 g1 ub⟩
  .exact q.elim
 .exact q.elim)
theorem nv(hg:Gl X "range")(hm:X.mg "range"=none)(ha:SA X T W [a,b] ms)(hs:starEach [a,b] X.env=[(false,eval a X.env),(false,eval b X.env)]:=by rfl)(hs2:starEach [b] X.env=[(false,eval b X.env)]:=by rfl) :
  SI X T W tg (.Call (.Name "range" p) [a,b] [] pos) (kQ ms):=λjs s Y H R I h=>uV hg hm ha hs hs2 js s Y H R I (by
 obtain⟨Z,F,env,fp,S,q⟩:=h;unfold kQ at q;refine tA.bq S λxs vs H1 F1 f1 e1 g1 r1 n1 d1 w1=>?_;rw[e1]at q;simp only[Res.Jz]at q;split at q
 .rename_i i j
  split at q
  .rename_i hc
   unfold RelL at r1;obtain⟨v,ws,f1,f2,rfl,h1,h2,_⟩:=r1;obtain⟨v2,rfl,h3⟩:=h2.one;unfold Rel at h1 h3;obtain⟨rfl,_⟩:=h1;obtain⟨rfl,_⟩:=h3;have hc':(-(2 ^ 62)<= i/\i<2 ^ 62)/\(-(2 ^ 62)<= j/\j<2 ^ 62):=by simpa[inR]using hc
   exact⟨i,j,rfl,⟨hc'.1.1,hc'.1.2,hc'.2.1,hc'.2.2⟩,q _ H1 F1 g1 ub⟩
  .exact q.elim
 .exact q.elim)
def cF(it:MI)(tg:TgM)(body:MS):MS:=λenv=>match it env with
 | .ok xs=>mZ (λx e=>match tg x e with
  |some e'=>body e'
  |none=>.stuck) xs env
 |.exc c=>.exc c env
 |.stuck=>.stuck
theorem bM(hp:PassesOwn (model X.prog X.w) X.A X.env X.xe)(hc:X.calm=true)(hi:SI X T W tg iter mi)(hg:SG X T tg g)(hb:SSs X T W body mb)
  (hs:∀x,foldedSetIterable iter X.env x=pure x:=by intro _;rfl):SS X T W (.For tg iter body [] pos) (cF mi g mb):=PS.wk (CP (pos:=pos) hp hc hi hg hb hs) λD Y H hz1=>by
 obtain⟨Z,F,env,fp,S,q⟩:=hz1;unfold cF at q;refine⟨Z,F,env,fp,S,?_⟩;cases em:mi env with
 |exc c=>rw[em]at q;exact λH' x=>q F H' Y fp (S.grow (Gr.same S.hp.ft x))
 |stuck=>rw[em]at q;exact q
 |ok xs=>
  rw[em]at q;dsimp only at q;intro J H1 F1 g1 it;have S1:=S.grow g1;generalize hbd:(λ(x:PV) (e:En)=>match g x e with
   |some e'=>mb e'
   |none=>Out.stuck)=bd at q
  refine⟨λi m σ2 H2=>m=xs.length-i/\i<=xs.length/\∃F2 env2 fp2,aA T (Z.re F1 H1 fp) F2 H2 σ2 env2 fp2/\GS T W Z D (mZ bd (xs.drop i) env2),⟨xs.length,by simp,zero_le _,F1,env,fp,S1.enter,q⟩,?_⟩;rintro i m σ2 H2 ⟨rfl,hi,F2,env2,fp2,S2,q2⟩;obtain⟨go,stop⟩:=it H2 S2.hp.keep;by_cases hlt:i<xs.length
  .have hx:xs[i]?=some xs[i]:=by simp[hlt]
   obtain⟨g1',yl⟩:=go i _ hx;refine .inr ⟨g1',λσ3 H3=>∃F3 env3 fp3,aA T (Z.re F1 H1 fp) F3 H3 σ3 env3 fp3/\GS T W Z D (mZ bd (xs.drop (i+1)) env3),λσ3 H3 h3=>⟨xs.length-(i+1),by omega,rfl,hlt,h3⟩,λv H3 hy=>?_⟩;obtain⟨ex3,r⟩:=yl v H3 hy;rw[List.drop_eq_getElem_cons hlt]at q2;unfold mZ at q2;rw[<- hbd]at q2;dsimp only at q2;refine⟨Z.re F1 H1 fp,F2,env2,fp2,xs[i],[],S2.grow (Gr.same S2.hp.ft ex3),r.ext Ext.refl S2.hp.f0,vH.nil,?_⟩;cases eg:g xs[i] env2 with
   |none=>rw[eg]at q2;exact q2
   |some e'=>
    rw[eg]at q2;dsimp only at q2;intro σ' fp' S';refine⟨Z.re F1 H1 fp,F2,e',fp',S',?_⟩;cases eb:mb e' with
    |next e2|cont e2=>rw[eb]at q2;exact λF3 H3 σ3 fp3 S3=>⟨F3,e2,fp3,S3,by rw[<- hbd];exact q2⟩
    |brk e2=>rw[eb]at q2;exact λF3 H3 σ3 fp3 S3=>q2 F3 H3 σ3 fp3 (S1.leave S3)
    |ret v=>rw[eb]at q2;exact λF3 H3 v f hp r nd nf new=>q2 F3 H3 v f (cC.leave S1 hp) r nd nf λa ha=>S1.newL (new a ha)
    |exc c e2=>rw[eb]at q2;exact λF3 H3 σ3 fp3 S3=>q2 F3 H3 σ3 fp3 (S1.leave S3)
    |stuck=>rw[eb]at q2;exact q2
  .have e:i=xs.length:=by omega
   subst e;rw[List.drop_length]at q2;exact .inl ⟨stop,q2 F2 H2 σ2 fp2 (S1.leave S2)⟩
end
end PR
namespace L2
open PySem PySem.Spec
def eO(cells:List (Str×Addr)):List (Str×NameKind)->List (Str×Addr)->List (Str×Addr)
 | [],acc=>acc
 | (n,k)::r,acc=>if (k == .free)=true then (match cells.lookup n with
  |some c=>eO cells r ((n,c)::acc)
  |none=>eO cells r acc)else eO cells r acc
theorem jl:∀(names:List (Str×NameKind)) (acc:List (Str×Addr)),(∀y∈names,y.2=.free->∃c,env.cells.lookup y.1=some c)->
  (forIn names acc λ(x:Str × NameKind) (cs:List (Str × Addr))=>match x with
   |(name,kind)=>if(kind==.free)=true then do let c <- cellOf env name;pure (ForInStep.yield ((name,c)::cs))else pure (ForInStep.yield cs):Sem (List (Str×Addr)))=pure (eO env.cells names acc)
 | [],acc,_=>by simp[eO]
 |(n,k)::r,acc,h=>by
  rw[List.forIn_cons];by_cases hk:(k==NameKind.free)=true
  .obtain⟨c,hc⟩:=h (n,k) mem_cons_self (by simpa using hk);dsimp only at hc;simp only[hk,if_true,cellOf,hc,pure_bind];rw[eO,if_pos hk,hc];exact jl r _ λy hy=>h y (mem_cons_of_mem _ hy)
  .simp only[hk,false_eq_true,if_false,pure_bind];rw[eO,if_neg hk];exact jl r _ λy hy=>h y (mem_cons_of_mem _ hy)
theorem m4(h:∀y∈scope.names,y.2=.free->∃c,env.cells.lookup y.1=some c):closureFor scope env=pure (eO env.cells scope.names []):=by unfold closureFor;simp only[];rw[<- jl scope.names [] h];simp
theorem gF{cells:List (Str×Addr)}:∀{names:List (Str×NameKind)}{acc:List (Str×Addr)},(∀p∈acc,cells.lookup p.1=some p.2)->∀p∈eO cells names acc,cells.lookup p.1=some p.2
 | [],_,h=>h
 |(n,k)::r,acc,h=>by
  unfold eO;split
  .split
   .rename_i c hc
    exact gF (by grind)
   .exact gF h
  .exact gF h
theorem jZ:∀{names:List (Str×NameKind)}{acc:List (Str×Addr)}{p:Str×Addr},p∈acc->p∈eO cells names acc
 | [],_,_,h=>h
 |(n,k)::r,acc,p,h=>by
  unfold eO;split
  .split
   .exact jZ (mem_cons_of_mem _ h)
   .exact jZ h
  .exact jZ h
theorem iQ{cells:List (Str×Addr)}{x:Str}{c:Addr}(hc:cells.lookup x=some c):∀{names:List (Str×NameKind)}{acc:List (Str×Addr)},(x,NameKind.free)∈ names->(x,c)∈ eO cells names acc
 | [],_,h=>nomatch h
 |(n,k)::r,acc,h=>by
  unfold eO;rcases mem_cons.mp h with e|h
  .cases e;rw[if_pos (by rfl),hc];exact jZ mem_cons_self
  .split
   .split
    .exact iQ hc h
    .exact iQ hc h
   .exact iQ hc h
theorem i_{cells l:List (Str×Addr)}(h:∀p∈l,cells.lookup p.1=some p.2){x:Str}{c:Addr}(m:(x,c)∈ l):l.lookup x=some c:=by
 induction l with
 |nil=>cases m
 |cons p r ih=>
  grind
theorem gE{cells:List (Str×Addr)}{names:List (Str×NameKind)}{x:Str}{c:Addr}(h:(eO cells names []).lookup x=some c):cells.lookup x=some c:=
 gF (names:=names) (acc:=[]) (λ_ z=>nomatch z) (x,c) (PySem.mem_of_lookup h)
theorem mH:∀(names:List (Str×NameKind)) (a:Nat) (l acc:List (Str×Addr)),cellsFrom a names (l++acc)=cellsFrom a names l++acc
 | [],_,_,_=>rfl
 |(n,k)::r,a,l,acc=>by
  unfold cellsFrom;split
  .exact mH r (a+1) ((n,a)::l) acc
  .exact mH r a l acc
theorem mG:∀{names:List (Str×NameKind)}{a:Nat}{l:List (Str×Addr)}{p:Str×Addr},p∈cellsFrom a names l->p∈l \/(a<=p.2/\(p.1,NameKind.cell)∈ names)
 | [],_,_,_,h=>.inl h
 |(n,k)::r,a,l,p,h=>by
  unfold cellsFrom at h;split at h
  .rename_i hk
   have hk:k=.cell:=by simpa using hk
   subst hk;rcases mG h with h|h
   .grind
   .exact .inr ⟨by omega,mem_cons_of_mem _ h.2⟩
  .rcases mG h with h|h
   .exact .inl h
   .exact .inr ⟨h.1,mem_cons_of_mem _ h.2⟩
theorem o6:∀{names:List (Str×NameKind)}{a:Nat}{l:List (Str×Addr)}{x:Str},((x,NameKind.cell)∈ names \/(l.lookup x).isSome=true)->((cellsFrom a names l).lookup x).isSome=true
 | [],_,_,_,h=>h.resolve_left (λz=>nomatch z)
 |(n,k)::r,a,l,x,h=>by
  unfold cellsFrom;split
  .rename_i hk
   have hk:k=.cell:=by simpa using hk
   subst hk;refine o6 ?_
   grind
  .rename_i hk
   refine o6 ?_
   grind
theorem mI:∀{names:List (Str×NameKind)}{a:Nat}{l:List (Str×Addr)},(∀p∈l,p.2<a)->(l.Pairwise λx y=>x.2≠y.2)->(cellsFrom a names l).Pairwise λx y=>x.2≠y.2
 | [],_,_,_,h=>h
 |(n,k)::r,a,l,hl,h=>by
  unfold cellsFrom;split
  .refine mI (λp hp=>?_) (pairwise_cons.mpr ⟨λy hy e=>?_,h⟩)
   .grind
   .have e':a=y.2:=e;exact Nat.lt_irrefl _ (Nat.lt_of_lt_of_eq (hl y hy) e')
  .exact mI hl h
theorem lV{α:Type}{x:Str}:∀{l m:List (Str×α)},(l++m).lookup x=(l.lookup x).or (m.lookup x)
 | [],m=>by simp
 |(n,c)::l,m=>by
  grind
abbrev qP(X:Cx)(scope:Scope)(C:Addr):List (Str×Addr):=cellsFrom (C+1) scope.names (eO X.env.cells scope.names [])
theorem mK{X:Cx}{scope:Scope}{C:Addr}{x:Str}{c:Addr}(h:(qP X scope C).lookup x=some c):(C+1<=c/\(x,NameKind.cell)∈ scope.names/\(x,c)∈ cellsFrom (C+1) scope.names [])\/(eO X.env.cells scope.names []).lookup x=some c:=by
 unfold qP at h;rw[show eO X.env.cells scope.names []=[]++ eO X.env.cells scope.names []from rfl,mH,lV]at h;cases e:(cellsFrom (C+1) scope.names []).lookup x with
 |some d=>
  rw[e]at h;cases h;have m:=PySem.mem_of_lookup e;rcases mG m with z|z
  .cases z
  .exact .inl ⟨z.1,z.2,m⟩
 |none=>rw[e]at h;exact .inr (by simpa using h)
theorem Ex(hx:(x,NameKind.cell)∉ scope.names)(h:(eO X.env.cells scope.names []).lookup x=some c):(qP X scope C).lookup x=some c:=by
 unfold qP;rw[show eO X.env.cells scope.names []=[]++ eO X.env.cells scope.names []from rfl,mH,lV];cases e:(cellsFrom (C+1) scope.names []).lookup x with
 |some d=>
  rcases mG (PySem.mem_of_lookup e)with z|z
  .cases z
  .exact absurd z.2 hx
 |none=>simpa using h
theorem qb{M:Model}{A:Around}{E:Ja}{s:Shared}{scope:Scope}{globals:Addr}{closure:List (Str×Addr)}{qual:Str}{func:Option Addr}{code:Value}{outer:Env}{builtins:Addr}{Q:Env->Shared->Prop}
  (hQ:∀ h',h'.Ns s.heap.objs.size (λ_=>none)->(∀ b o,s.heap.get? b=some o->h'.get? b=some o)->(∀ n c,(n,c) ∈ cellsFrom (s.heap.objs.size+1) scope.names []->h'.IsCell c none) ->
   Q (newEnv scope s.heap.objs.size globals (cellsFrom (s.heap.objs.size+1) scope.names closure) qual func code (some outer) builtins) {s with heap:=h'}) :
  wpAny M A (newFunctionEnv scope globals closure [] qual func code (some outer) builtins) Q E s:=by
 simp only[newFunctionEnv,Option.isSome_some,if_true];refine wpAny_bind (wpAny_alloc ?_);refine wpAny_bind (wpAny_layCells _ (λname kind cells=>by cases hkc:kind==NameKind.cell<;>simp[hkc]) _ _ _ _ ?_);have ok:=cellsFrom_ok scope.names (s.heap.push {cls:=.type "dict",data:=.dict #[]}) (s.heap.objs.size+1) [] ⟨λ_ _ hm=>(nomatch hm),Pairwise.nil⟩ (by rw[size_push];exact Nat.le_refl _);rw[size_push]at ok;rw[show({s with heap:=s.heap.push {cls:=.type "dict",data:=.dict #[]}}:Shared).heap.objs.size=s.heap.objs.size+1 from size_push ..];refine wpAny_bind ?_;rw[List.forIn_nil];exact wpAny_pure (wpAny_pure (hQ _ ((Heap.Ns.new s.heap (.type "dict")).keeps (pushCells_keeps _ _)) (λb o e=>pushCells_keeps _ _ b o (get?_push_of_some _ e)) λn c hm=>(ok.empty n c hm).1))
def cxC(X:Cx)(scope:Scope)(C:Addr)(N:Ji)(s:Shared)(H:Hp)(ex:Jh):Cx:=
 {X with env:=compEnvC scope (qP X scope C) C X.env,N:=N,s₀:=s,H₀:=H,outer:=X.stack,stack:=X.stack,ex:=ex,fn:=λx=>scope.names.lookup x==some .cell,pn:=[],xe:=λ_ _=>False}
structure eQ(X:Cx)(scope:Scope)(caps:List Nat)(N tn:Ji):Prop where
 kind:scope.kind=.function
 cel:∀y∈scope.names,y.2=.cell->scope.names.lookup y.1=some .cell
 names:∀y∈scope.names,y.2=.local->scope.names.lookup y.1=some .local
 free:∀y∈scope.names,y.2=.free->X.env.kindOf y.1=some .cell\/X.env.kindOf y.1=some .free
 eN:N=caps.map (λi=>X.N.getD i "")++ tn
 capN:∀i∈caps,i<X.N.length
 capF:∀i∈caps,∀x,X.N[i]?=some x->(x,NameKind.free)∈ scope.names/\scope.names.lookup x=some .free
 nd:N.Nodup
theorem jE{scope:Scope}{env:Env}{x:Str}{k:NameKind}(h:(relabel scope env).names.lookup x=some k)(hc:k=.cell\/k=.free):(x,NameKind.free)∈ scope.names \/(x,NameKind.cell)∈ scope.names:=by
 have m:=PySem.mem_of_lookup h;obtain⟨⟨n,k0⟩,hm,e⟩:=mem_map.mp m
 grind
theorem jF{scope:Scope}{env:Env}{x:Str}:∀{names:List (Str×NameKind)},names.lookup x=some .free ->
  (names.map λ(n,k)=>if(k==NameKind.free&&env.scope.kind==.function&&env.kindOf n==some .cell)then(n,NameKind.cell)else(n,k)).lookup x=some .cell \/
  (names.map λ(n,k)=>if(k==NameKind.free&&env.scope.kind==.function&&env.kindOf n==some .cell)then(n,NameKind.cell)else(n,k)).lookup x=some .free
 | [],h=>by simp at h
 |(n,k)::r,h=>by
  show List.lookup x ((if(k==NameKind.free&&env.scope.kind==.function&&env.kindOf n==some .cell)=true then(n,NameKind.cell)else(n,k))::_)=_\/List.lookup x ((if(k==NameKind.free&&env.scope.kind==.function&&env.kindOf n==some .cell)=true then(n,NameKind.cell)else(n,k))::_)=_;have ih:=@jF scope env x r
  grind
section
variable{X:Cx}{scope:Scope}{caps:List Nat}{N tn:Ji}{js:Jd}{Y:St}{H:Hp}{s:Shared}{fp:Jh}{C:Addr}
theorem o3(cs:eQ X scope caps N tn)(I:Inv X js Y H s)(hf:∀b∈fp,mU X js H b)(hlt:∀b∈fp,b<s.heap.objs.size)(hC:s.heap.objs.size<=C):(cxC X scope C N s H fp).Ok where
 mod:=I.ok.mod
 kind:=by show(relabel scope X.env).kind=_;exact cs.kind
 glob:=I.ok.glob
 blt:=I.ok.blt
 above:=hC
 inj:=λx y c h1 h2=>by
  have old:∀z,(eO X.env.cells scope.names []).lookup z=some c->c<s.heap.objs.size:=λz hz=>let⟨_,hv⟩:=I.cell z c (gE hz);hv.lt
  rcases mK h1 with⟨l1,_,m1⟩|h1<;>rcases mK h2 with⟨l2,_,m2⟩|h2
  .exact name_of_addr (mI (l:=[]) (λ_ z=>nomatch z) Pairwise.nil) m1 m2
  .grind
  .grind
  .exact I.ok.inj x y c (gE h1) (gE h2)
 has:=λx hx=>by
  have hx:(relabel scope X.env).names.lookup x=some .cell \/(relabel scope X.env).names.lookup x=some .free:=hx;have m:(x,NameKind.free)∈ scope.names \/(x,NameKind.cell)∈ scope.names:=by
   rcases hx with h|h
   .exact jE h (.inl rfl)
   .exact jE h (.inr rfl)
  refine Option.isSome_iff_exists.mp (o6 (l:=eO X.env.cells scope.names []) ?_);rcases m with m|m
  .obtain⟨c,hc⟩:=I.ok.has x (cs.free _ m rfl);exact .inr (by rw[i_ (gF (acc:=[]) λ_ z=>nomatch z) (iQ hc m)];rfl)
  .exact .inl m
 cab:=λx c h hc=>by
  have h':(scope.names.lookup x==some NameKind.cell)=true:=h;have hx:scope.names.lookup x=some .cell:=by simpa using h'
  have hs:s.heap.objs.size<=C:=hC;have hc:(qP X scope C).lookup x=some c:=hc;obtain⟨d,hd⟩:=Option.isSome_iff_exists.mp (o6 (a:=C+1) (l:=[]) (.inl (PySem.mem_of_lookup hx)));unfold qP at hc;rw[show eO X.env.cells scope.names []=[]++ eO X.env.cells scope.names []from rfl,mH,lV,hd]at hc;cases hc;rcases mG (PySem.mem_of_lookup hd)with z|z
  .cases z
  .exact Nat.le_trans hs (Nat.le_trans (le_succ _) z.1)
 hd:=I.ok.hd
 frames:=I.ok.frames
 stk:=.inl rfl
 exf:=λb hb=>⟨Nat.ne_of_lt (Nat.lt_of_lt_of_le (hlt b hb) hC),λx c h=>by
  rcases mK h with⟨l1,_,_⟩|h
  .exact λz=>absurd (Nat.lt_of_lt_of_le (hlt b hb) (Nat.le_trans hC (Nat.le_trans (le_succ _) l1))) (by rw[z];exact Nat.lt_irrefl _)
  .exact(hf b hb).2.2.2.2.1 x c (gE h)⟩
 bs:=I.bs
 bsz:=Nat.le_trans I.ok.bsz I.sz
 noex:=λb o e hb=>by
  rcases(hf b hb).2.2.2.1 with z|z
  .exact I.ok.noex b o e z
  .exact absurd (Nat.lt_of_lt_of_le (lt_size e) (Nat.le_trans I.ok.bsz z)) (Nat.lt_irrefl _)
 exfs:=λb hb hs=>by
  rcases mem_cons.mp (I.stkSub b hs)with z|z
  .exact(hf b hb).2.1 z
  .exact(hf b hb).2.2.1 z
 funs:=I.stack
 frf:=I.stkFree
def o7(caps:List Nat)(k:Nat)(Y:St):St:=caps.map (λi=>(Y[i]?).join)++ replicate k none
theorem xI(cs:eQ X scope caps N tn)(I:Inv X js Y H s)(hf:∀b∈fp,mU X js H b)(hlt:∀b∈fp,b<s.heap.objs.size)
  (hns:h₁.Ns (s.heap.objs.size+1) λ_=>none) (hD:h₁.get? s.heap.objs.size=some {cls:=.type "list",data:=.seq ([]:Jg).toArray}) (old:∀b o,s.heap.get? b=some o->h₁.get? b=some o)
  (hcl:∀n c,(n,c)∈ cellsFrom (s.heap.objs.size+1+1) scope.names []->h₁.IsCell c none) :
  Inv (cxC X scope (s.heap.objs.size+1) N s H fp) [] (o7 caps tn.length Y) (upd H s.heap.objs.size (.lst [])) {s with heap:=h₁,toks:=t}:=by
 have fresh:∀b,s.heap.objs.size<=b->H b=none:=λb hb=>I.hok.fresh hb;have neD:s.heap.objs.size+1≠s.heap.objs.size:=Nat.succ_ne_self _;have ltc:∀x c,(eO X.env.cells scope.names []).lookup x=some c->∃v,s.heap.IsCell c v:=λx c h=>I.cell x c (gE h);refine⟨o3 cs I hf hlt (le_succ _),rfl,I.bare,Un.laid old (Nat.le_refl _) (fresh _ (Nat.le_refl _)),⟨_,hns,λi y v h1 h2 h3=>?_⟩,λx c h=>?_,?_,λx c h=>?_,λp hp=>absurd (show p ∈([]:Jd)from hp) (by simp),?_,?_⟩
 .have hi:i<caps.length:=by
   unfold o7 at h2;by_cases hi:i<caps.length
   .exact hi
   .rw[getElem?_append_right (by simpa using hi),getElem?_replicate]at h2;split at h2<;>cases h2
  unfold o7 at h2;rw[getElem?_append_left (by simpa using hi),getElem?_map]at h2;obtain⟨j,hj,e2⟩:=map_eq_some_iff.mp h2;have hjc:j∈caps:=List.mem_of_getElem? hj;have hjN:=cs.capN j hjc;have hy:X.N[j]?=some y:=by
   have h1':N[i]?=some y:=h1;rw[cs.eN,getElem?_append_left (by simpa using hi),getElem?_map,hj]at h1';have:X.N.getD j ""=y:=by simpa using h1'
   rw[<- this];simp[hjN]
  have hσ:Y[j]?=some (some v):=by
   cases e:Y[j]? with
   |none=>rw[e]at e2;cases e2
   |some w=>rw[e]at e2;simp only[Option.join_some]at e2;rw[e2]
  obtain⟨m0,hn0,hl⟩:=I.loc;obtain⟨hm,hlk⟩:=cs.capF j hjc y hy;have hk:=cs.free _ hm rfl;dsimp only at hk;have hvis:Vis X.env.scope y:=by
   rcases hk with z|z
   .exact .inr (.inl z)
   .exact .inr (.inr z)
  obtain⟨u,ru,lk⟩:=hl j y v hy hσ hvis;refine⟨u,ru,.inr ?_⟩;rcases lk with⟨z,_⟩ |⟨_,c,hc,hcell⟩
  .rcases hk with w|w
   .rw[z]at w;cases w
   .rw[z]at w;cases w
  .refine⟨jF (scope:=scope) hlk,c,Ex (λz=>?_) (i_ (gF (acc:=[]) λ_ z=>nomatch z) (iQ hc hm)),hcell.keeps old⟩;have:=cs.cel _ z rfl;rw[hlk]at this;cases this
 .rcases mK h with⟨_,_,m⟩|h
  .exact⟨none,hcl x c m⟩
  .obtain⟨v,hv⟩:=ltc x c h;exact⟨v,hv.keeps old⟩
 .show upd H _ _ (s.heap.objs.size+1)=none;rw[aV neD];exact fresh _ (le_succ _)
 .rcases mK h with⟨l1,_,_⟩|h2
  .rw[aV (Nat.ne_of_gt (Nat.lt_of_lt_of_le (Nat.lt_succ_of_lt (Nat.lt_succ_self _)) l1))];exact .inl (fresh _ (Nat.le_trans (Nat.le_succ_of_le (le_succ _)) l1))
  .obtain⟨v,hv⟩:=ltc x c h2;rw[aV (Nat.ne_of_lt hv.lt)];exact(I.freeC x c (gE h2)).imp (λz=>z) λq=>⟨Bool.eq_false_iff.mpr λe=>Nat.lt_irrefl _ (Nat.lt_of_lt_of_le hv.lt ((o3 cs I hf hlt (le_succ _)).cab x c e h)),q.2⟩
 .exact I.hok.laid old (Nat.le_refl _) ⟨zero_le _,[],_,.nil,hD⟩
 .show(o7 caps tn.length Y).length=N.length;rw[cs.eN];simp[o7]
end
end L2
namespace PR
open PySem PySem.Spec L2
section
def Fl.Js:Fl->Fl
 |.own|.lnt=>.bor
 |f=>f
def PV.Js(x:PV):PV:=x.Jx Fl.Js
theorem u9(hB:∀a,B a->B' a)(hL:∀a,L a->B' a):Mp T Fl.Js (λ_=>false) (λ_=>[]) B' F B L H F B' L' H:=
 ⟨λf a vs _ c h=>by
  cases f with
  |own=>exact⟨c rfl,.inl h⟩
  |bor=>exact⟨hB a h.1,h.2⟩
  |lnt=>exact⟨hL a h.1,.inl h.2⟩
  | _=>exact h,λf a _ c h=>⟨by
  cases f with
  |own=>exact c rfl
  |bor=>exact hB a h
  |lnt=>exact hL a h
  |_=>exact h,λ_ q=>q⟩,λf a x y h=>by cases f<;>exact⟨rfl,rfl⟩,rfl,λ_ _=>rfl,λ_ _ q _=>q⟩
theorem Rel.Js(hB:∀a,B a->B' a)(hL:∀a,L a->B' a)(hp:∀a∈fo,B' a)(h:Rel T F B L H x v fo):Rel T F B' L' H (x.Jx Fl.Js) v []:=(u9 hB hL).rel (l9 x) hp h
mutual
theorem jo:∀x:PV,(x.Jx Fl.Js).has Fl.Jt=false
 |.non|.bl _|.int _|.str _=>rfl
 |.lst f xs=>by simp only[PV.Jx,PV.has,borrow_ownL xs,Bool.or_false];cases f<;>rfl
 |.tup xs=>by simp only[PV.Jx,PV.has,borrow_ownL xs]
 |.obj f c ks xs=>by simp only[PV.Jx,PV.has,borrow_ownL xs,Bool.or_false];cases f<;>rfl
 |.exc _=>rfl
 |.box k xs=>by simp only[PV.Jx,PV.has,borrow_ownL xs]
theorem borrow_ownL:∀xs:Jn,hasL Fl.Jt (mapL Fl.Js xs)=false
 | []=>rfl
 |x::xs=>by simp only[mapL,hasL,jo x,borrow_ownL xs,Bool.or_false]
end
def ItC(T:Tb)(F B L:Je)(H1:Hp)(J:It)(xs:Jn):Prop:=
 ∀H2,Ext H1 H2->(∀(i:Nat) x,xs[i]?=some x->J.go i H2/\∀v H3,J.yld i H2 v H3->Ext H2 H3/\∃f,(∀a∈f,∃o,H1 a=some o)/\Rel T F B L H3 x v f)/\J.stop xs.length H2
theorem ItC.of0(h:∀H2,Ext H1 H2->(∀(i:Nat) x,xs[i]?=some x->J.go i H2/\∀v H3,J.yld i H2 v H3->H3=H2/\∃f,Rel T F B L H1 x v f)/\J.stop xs.length H2):ItC T F B L H1 J xs:=λH2 hk=>by obtain⟨a,b⟩:=h H2 hk;refine⟨λi x e=>⟨(a i x e).1,λv H3 hy=>?_⟩,b⟩;obtain⟨rfl,f,r⟩:=(a i x e).2 v H3 hy;exact⟨Ext.refl,f,λa ha=>r.there a ha,r.ext hk λ_ h=>h⟩
def GIc(T:Tb)(W:Nat->St->Jm)(B F L:Je)(Y:St)(H:Hp)(R:It->Jm):Res (Jn)->Prop
 |.ok xs=>∀J H1 F1,Gr F H F1 H1->ItC T F1 B L H1 J xs->R J H1
 |.exc c=>∀H',Ext H H'->W c Y H'
 |.stuck=>False
def tIc(T:Tb)(W:Nat->St->Jm)(m:MI):TI:=λY H R=>∃Z F env fp,aA T Z F H Y env fp/\GIc T W Z.B F (Own fp) Y H R (m env)
abbrev SIc(X:Cx)(T:Tb)(W:Nat->St->Jm)(tg iter:Expr)(m:MI):Prop:=PI X tg iter (tIc T W m)
def bu(m:ME):MI:=λenv=>(m env).bind λx=>match aW x with
 |some xs=>.ok xs
 |none=>.stuck
section
variable{X:Cx}{T:Tb}{W:Nat->St->Jm}{Z:Zn}{F F1 B L:Je}{H H1:Hp}{Y:St}{env:En}{fp:Nat->Jh}{D:Ends}
theorem br(hK:X.K=T.K)(he:SE X T W e m):SIc X T W tg e (bu m):=λjs s Y H R I h=>wx he js s Y H R I (by
 obtain⟨Z,F,env,fp,S,q⟩:=h;unfold bu at q;refine tE.bq S λx v H1 F1 f1 e1 g1 r1 n1 d1 w1=>?_;rw[e1]at q;simp only[Res.Jz]at q;cases es:aW x with
 |none=>rw[es]at q;exact q.elim
 |some xs=>
  rw[es]at q;obtain⟨a,vs,f',rfl,hs,hr,_⟩:=r1.seq es;refine⟨a,rfl,?_⟩;rw[hK];rcases hs with hs|hs
  .refine .inl ⟨vs,hs,q _ H1 F1 g1 (ItC.of0 λH2 hx=>?_)⟩;have h2:SqL T.K H2 a vs:=by
    rcases hs with z|z
    .exact .inl (Rd.tr (λo q=>hx a o q) z)
    .exact .inr z
   refine⟨λi x ex=>?_,⟨vs,h2,by rw[hr.length];exact Nat.le_refl _⟩⟩;obtain⟨v,f,ev,rv,_⟩:=hr.get ex;refine⟨⟨vs,v,h2,ev⟩,λw H3 hy=>⟨hy.1,f,?_⟩⟩;have:=hy.2 vs h2;rw[ev]at this;cases this;exact rv
  .refine .inr ⟨vs,hs,q _ H1 F1 g1 (ItC.of0 λH2 hx=>?_)⟩;have h2:SqT T.K H2 a vs:=SqT.tr (λo q _=>hx a o q) hs;refine⟨λi x ex=>?_,⟨vs,h2,by rw[hr.length];exact Nat.le_refl _⟩⟩;obtain⟨v,f,ev,rv,_⟩:=hr.get ex;refine⟨⟨vs,v,h2,ev⟩,λw H3 hy=>⟨hy.1,f,?_⟩⟩;have:=hy.2 vs h2;rw[ev]at this;cases this;exact rv)
theorem A9:ItC T F1 B L H1 (Itr lo n) (dv lo n):=by
 apply ItC.of0;intro H2 _;refine⟨λi x ex=>?_,by simp[dv,Itr]⟩;have hi:i<n:=by have:=(List.getElem?_eq_some_iff.mp ex).1;simpa[dv]using this
 refine⟨hi,λv H3 hy=>⟨hy.1,[],?_⟩⟩;obtain⟨_,rfl⟩:=hy;have:x=.int (lo+(i:Nat)):=by simp[dv,hi]at ex;exact ex.symm
 subst this;exact fR
theorem b7(hg:Gl X "range")(hm:X.mg "range" = none)(ha:SA X T W [a] ms)(hs:starEach [a] X.env=[(false,eval a X.env)]:=by rfl):SIc X T W tg (.Call (.Name "range" p) [a] [] pos) (bY ms):=λjs s Y H R I h=>nG hg hm ha hs js s Y H R I (by
 obtain⟨Z,F,env,fp,S,q⟩:=h;unfold bY at q;refine tA.bq S λxs vs H1 F1 f1 e1 g1 r1 n1 d1 w1=>?_;rw[e1]at q;simp only[Res.Jz]at q;split at q
 .rename_i n
  split at q
  .rename_i hc
   obtain⟨v,rfl,r2⟩:=r1.one;unfold Rel at r2;obtain⟨rfl,_⟩:=r2;have hc':-(2 ^ 62)<= n/\n<2 ^ 62:=by simpa[inR]using hc
   exact⟨n,rfl,hc'.1,hc'.2,q _ H1 F1 g1 A9⟩
  .exact q.elim
 .exact q.elim)
abbrev WF:Nat->St->Jm:=λ_ _ _=>False
def STs(X:Cx)(T:Tb)(W:Nat->St->Jm)(ifs:List Expr)(m:MT):Prop:=
 ∀(js:Jd) (s:Shared) (Y:St) (H:Hp) (Q:Bool->Jm),L2.Inv X js Y H s->tT T W m Y H Q ->
  wpAny (model X.prog X.w) X.A (forIn ifs true λc r=>if r=true then do let ok <- isTrue c X.env (eval c X.env);pure (ForInStep.yield ok)else pure (ForInStep.yield r)) (TP X js Y Q) X.xe s
def bp:MT:=λ_=>.ok true
theorem bj:STs X T W [] bp:=λjs s Y H Q I ⟨Z,F,env,fp,S,q⟩=>wpAny_tests_nil ⟨H,I,q H F (Gr.refl S.hp.ft)⟩
theorem cY(h:ST X T W c m):STs X T W [c] m:=λjs s Y H Q I q=>wpAny_tests_one (h js s Y H Q I q)
structure hG(g:TgM)(k:Nat):Prop where
 keep:∀x env e',g x env=some e'->e'.length=env.length/\∀j<k,e'[j]?=env[j]?
 own:∀x env e',g x env=some e'->x.has Fl.Jt=false->∀(j:Nat) pv,e'[j]?=some (some pv)->env[j]?=some (some pv)\/ pv.has Fl.Jt=false
structure lv(g:sK)(k:Nat):Prop where
 keep:∀x env e',g x env=some e'->e'.length=env.length/\∀j<k,e'[j]?=env[j]?
 own:∀x env e',g x env=some e'->hasL Fl.Jt x=false->∀(j:Nat) pv,e'[j]?=some (some pv)->env[j]?=some (some pv)\/ pv.has Fl.Jt=false
theorem vQ(h:k<=i):hG (tgN i) k:=by
 refine⟨λx env e' e=>?_,λx env e' e hx j pv hj=>?_⟩
 .unfold tgN at e;split at e
  .cases e;exact⟨by simp,λj hj=>getElem?_set_ne ()⟩
  .cases e
 .unfold tgN at e;split at e
  .cases e;by_cases hij:i=j
   .subst hij;have hl:i<env.length:=by have:=(List.getElem?_eq_some_iff.mp hj).1;simpa using this
    rw[getElem?_set_self hl]at hj;cases hj;exact .inr hx
   .rw[getElem?_set_ne hij]at hj;exact .inl hj
  .cases e
theorem gg:lv dJ k:=by
 refine⟨λx env e' e=>?_,λx env e' e _ j pv hj=>?_⟩
 .cases x with
  |nil=>cases e;exact⟨rfl,λ_ _=>rfl⟩
  |cons _ _=>cases e
 .cases x with
  |nil=>cases e;exact .inl hj
  |cons _ _=>cases e
theorem cv(h1:hG g k)(h2:lv u k):lv (aZ g u) k:=by
 refine⟨λx env e' e=>?_,λx env e' e hx j pv hj=>?_⟩
 .cases x with
  |nil=>cases e
  |cons y ys=>
   simp only[aZ]at e;cases e1:g y env with
   |none=>rw[e1]at e;cases e
   |some e2=>rw[e1]at e;obtain⟨l1,k1⟩:=h1.keep y env e2 e1;obtain⟨l2,k2⟩:=h2.keep ys e2 e' e;exact⟨l2.trans l1,λj hj=>(k2 j hj).trans (k1 j hj)⟩
 .cases x with
  |nil=>cases e
  |cons y ys=>
   simp only[hasL,or_eq_false_iff]at hx;simp only[aZ]at e;cases e1:g y env with
   |none=>rw[e1]at e;cases e
   |some e2=>
    rw[e1]at e;rcases h2.own ys e2 e' e hx.2 j pv hj with z|z
    .exact h1.own y env e2 e1 hx.1 j pv z
    .exact .inr z
theorem iS(h:lv u k):hG (tgT n u) k:=by
 refine⟨λx env e' e=>?_,λx env e' e hx j pv hj=>?_⟩
 .cases x with
  |tup xs=>
   simp only[tgT]at e;split at e
   .exact h.keep xs env e' e
   .cases e
  |_=>cases e
 .cases x with
  |tup xs=>
   simp only[tgT]at e;simp only[PV.has]at hx;split at e
   .exact h.own xs env e' e hx j pv hj
   .cases e
  |_=>cases e
def bN(caps:List Nat)(k:Nat)(env:En):En:=caps.map (λi=>((env[i]?).join).map PV.Js)++ replicate k none
def d_(g:TgM)(mc:MT)(me:ME)(env:En):Jn->Res (Jn)
 | []=>.ok []
 |x::xs=>match g x.Js env with
  |none=>.stuck
  |some e=>(mc e).bind λb=>if b then(me e).bind λy=>if y.has Fl.Jv||y.has Fl.Ju then .stuck else(d_ g mc me env xs).bind λys=>.ok (y::ys)else d_ g mc me env xs
def aM(caps:List Nat)(k:Nat)(mi:MI)(g:TgM)(mc:MT)(me:ME):ME:=λenv=>(mi env).bind λxs=>if xs.length <= 10000000 then (match d_ g mc me (bN caps k env) xs with
 |.ok ys=>.ok (.lst .own ys)
 |_=>.stuck)else .stuck
end
section
variable{prog:Program}{w:World}{A:Around}{R:Result->Shared->Prop}{s:Shared}
theorem o5(I:Nat->Shared->Prop)
  (turn:∀ n s,I n s->wpAny (model prog w) A (pyNext it) (λr s₁=>match r with
   |none=>R (.ok .next) s₁
   | some v=>wpAny (model prog w) A (letOwnedTupleGo target it v) (λ_ s₁'=>wpAny (model prog w) A (assign target env v) (λ_ s₂=>
     wpAny (model prog w) A (forIn ifs true λc r=>if r=true then do let ok <- isTrue c env (eval c env);pure (ForInStep.yield ok) else pure (ForInStep.yield r)) (λok s₃=>
      if ok=true then wpAny (model prog w) A (eval elt env) (λx s₄=>
       wpAny (model prog w) A (call (.builtin "list.append") [acc,x]) (λ_ s₅=>∃m,m<n/\I m s₅) (notedBy (model prog w) A env λe s'=>R (.error e) s') s₄) (notedBy (model prog w) A env λe s'=>R (.error e) s') s₃
      else ∃m,m<n/\I m s₃) (notedBy (model prog w) A env λe s'=>R (.error e) s') s₂) (notedBy (model prog w) A env λe s'=>R (.error e) s') s₁') (notedBy (model prog w) A env λe s'=>R (.error e) s') s₁) (notedBy (model prog w) A env λe s'=>R (.error e) s') s)
  (n:Nat) (h:I n s) :
  codeAny (model prog w) A (.compLoop (.ListComp elt [⟨target,iter,ifs,0⟩] scope pos) 0 it acc env) R s:=by
 refine codeAny_loop rfl I (λn s hI=>?_) n h;show wpAny _ A ((compTurn (.ListComp elt [⟨target,iter,ifs,0⟩] scope pos) 0 it acc env).onRaise (λx=>do noteFrame x env;theTreesLotGoes x)) _ _ s;refine wpAny_noted ?_;rw[compTurn_list];refine wpAny_bind (wpAny_standAt (wpAny_bind (wpAny_mono (turn n s hI) (λr s₁ h₁=>?_) λ_ _ h'=>h')));cases r with
 |none=>exact wpAny_pure h₁
 |some v=>
  refine wpAny_bind (wpAny_mono h₁ (λ_ s₁' h₁'=>?_) λ_ _ h'=>h');refine wpAny_bind (wpAny_mono h₁' (λ_ s₂ h₂=>wpAny_bind (wpAny_mono h₂ (λok s₃ h₃=>?_) λ_ _ h'=>h')) λ_ _ h'=>h');cases ok with
  |false=>exact wpAny_pure ⟨rfl,h₃⟩
  |true=>exact wpAny_bind (wpAny_bind (wpAny_mono h₃ (λx s₄ h₄=>wpAny_bind (wpAny_mono h₄ (λ_ s₅ h₅=>wpAny_pure (wpAny_pure ⟨rfl,h₅⟩)) λ_ _ h'=>h')) λ_ _ h'=>h'))
end
end
section
section
variable{X:Cx}{T:Tb}{W:Nat->St->Jm}{Z:Zn}{F F1 B L:Je}{H H1:Hp}{Y:St}{env:En}{fp:Nat->Jh}{D:Ends}
theorem aA.wk(S:aA T Z F H Y env fp)(hpin:Z.pin=none)(hl:e2.length=env.length)(h:∀(i:Nat) pv,e2[i]?=some (some pv)->env[i]?=some (some pv)):aA T Z F H Y e2 fp:=
 ⟨S.hp,S.len.trans hl.symm,λi pv e=>S.rel i pv (h i pv e),S.nd,S.dj,S.dis,S.new,S.ch,λv hv=>by rw[hpin]at hv;cases hv⟩
theorem aA.Jy(S:aA T Z F H Y env fp)(h:∀(i:Nat) pv,env[i]?=some (some pv)->pv.has Fl.Jt=false):aA T Z F H Y env (λ_=>[]):=
 ⟨S.hp,S.len,λi pv e=>by
  obtain⟨v,h1,h2⟩:=S.rel i pv e;have:=Rel.Jy (h i pv e) h2;rw[this]at h2;exact⟨v,h1,h2⟩,λ_=>nodup_nil,λ_ _ _ _ z=>(nomatch z),λ_ _ z=>(nomatch z),λ_ _ z=>(nomatch z),λ_ _ z=>(nomatch z),S.pn⟩
theorem aA.updD(S:aA T Z F H Y env (λ_=>[]))(hF:¬F Dd)(h0:Z.H0 Dd=none)(hD:H Dd=some o)(hfx:¬jb o):aA T Z F (upd H Dd o') Y env (λ_=>[]):=by
 have ne:∀a u,H a=some u->(F a\/Z.B a\/NoL a\/jb u)->a≠Dd:=(by grind[cG,aA,cC,Gr])
 refine⟨⟨S.hp.bo,λa u e n=>?_,S.hp.f0,S.hp.fn,λa h=>?_⟩,S.len,λi pv e=>?_,S.nd,S.dj,λ_ _ z=>(nomatch z),S.new,λ_ _ z=>(nomatch z),S.pn⟩
 .have:a≠Dd:=λz=>by rw[z,h0]at e;cases e
  rw[aV this];exact S.hp.keep a u e n
 .obtain⟨u,e⟩:=S.hp.ft a h;exact⟨u,by rw[aV (show a≠Dd from λz=>hF (by rw[<- z];exact h))];exact e⟩
 .obtain⟨v,h1,h2⟩:=S.rel i pv e;refine⟨v,h1,Rel.tr (λ_ h=>h) (λ_ h=>h) (λ_ h=>h) (λa u q h=>?_) (λ_ z=>(nomatch z)) h2⟩;rw[aV (ne a u q h)];exact q
def zC(F:Je)(H:Hp):Zn:=⟨H,F,λ_=>False,λa=>∃o,H a=some o,none⟩
theorem vx(S:aA T Z F H Y env fp)(hD:H Dd=none)(hFD:¬F Dd) :
  aA T (zC F H) F (upd H Dd (.lst [])) (o7 caps k Y) (bN caps k env) (λ_=>[]):=by
 have ext:Ext H (upd H Dd (.lst [])):=Ext.upd hD;refine⟨⟨⟨λa h=>⟨h,λz=>z⟩,S.tbo Ext.refl λ_ z=>False.elim z⟩,λa o h _=>ext a o h,λ_ h=>h,λ_ h=>.inl h,λa h=>let⟨o,e⟩:=S.hp.ft a h;⟨o,ext a o e⟩⟩,by simp[o7,bN],λi pv e=>?_,λ_=>nodup_nil,λ_ _ _ _ z=>(nomatch z),λ_ _ z=>(nomatch z),λ_ _ z=>(nomatch z),λ_ _ z=>(nomatch z),λ_ h=>(nomatch h)⟩;unfold bN at e;unfold o7;by_cases hi:i<caps.length
 .rw[getElem?_append_left (by simpa using hi),getElem?_map]at e ⊢;obtain⟨j,hj,e2⟩:=map_eq_some_iff.mp e;rw[hj];obtain⟨pv0,e3,rfl⟩:=map_eq_some_iff.mp e2;have e4:env[j]?=some (some pv0):=by
   cases e5:env[j]? with
   |none=>rw[e5]at e3;cases e3
   |some w=>rw[e5]at e3;simp only[Option.join_some]at e3;rw[e3]
  obtain⟨v,h1,h2⟩:=S.rel j pv0 e4;refine⟨v,by simp[h1],?_⟩;refine Rel.Js (B:=λa=>∃o,H a=some o) (L:=NoL) (λ_ h=>h) (λ_ h=>h.elim) (λa ha=>(S.dis j a ha).2) ?_;exact Rel.tr (λ_ h=>h) (λa h=>let⟨⟨o,h1⟩,h2⟩:=S.hp.bo.1 a h;⟨o,S.hp.keep a o h1 h2⟩) (λ_ h=>h) (λa o q _=>ext a o q) (λa _ o q=>ext a o q) h2
 .rw[getElem?_append_right (by simpa using hi),getElem?_replicate]at e;split at e<;>cases e
set_option maxHeartbeats 1000000 in
theorem nU
  (cs:eQ X scope caps N tn) (hc:X.calm=true) (hi:SIc X T W tg iter mi) (hk:hG g caps.length)
  (hb:∀C s H ex,SG (cxC X scope C N s H ex) T tg g/\STs (cxC X scope C N s H ex) T WF ifs mc/\SE (cxC X scope C N s H ex) T WF elt me)
  (hs:∀x,foldedSetIterable iter X.env x=pure x) (I:L2.Inv X js Y H s) (h:tE T W (aM caps tn.length mi g mc me) Y H Q)
  (hfin:∀(Dd C:Addr) (H':Hp) (s6:Shared) (m:Jb),Q (.ref Dd) H'->L2.Inv X js Y H' s6->s6.heap.Ns C m->H' C=none->C≠X.env.locals->C∉X.fs->X.s₀.heap.objs.size<=C->(∀x c,X.env.cells.lookup x=some c->c≠C)->(∀p∈X.pn++js,p.1≠C)->compPost (model X.prog X.w) X.A X.xe use Q' (.ref Dd) C (.ok .next) s6) :
  wpAny (model X.prog X.w) X.A (comprehension (.ListComp elt [⟨tg,iter,ifs,0⟩] scope pos) scope X.env p' (newList []) false (eval iter X.env) use) Q' X.xe s:=by
 obtain⟨Z,F,env,fp,S,q⟩:=h;unfold aM at q;refine wpAny_comprehension_free (use:=use) rfl hs (m4 λy hy hf=>I.ok.has y.1 (cs.free y hy hf)) cs.kind cs.names ?_;refine thn (hi js s Y H (λJ H1=>∃F1 xs,mi env=.ok xs/\Gr F H F1 H1/\ItC T F1 Z.B (Own fp) H1 J xs) I ⟨Z,F,env,fp,S,?_⟩) λxv s1 h1=>thn h1 λitv s2 h2=>?_
 .cases em:mi env with
  |ok xs=>exact λJ H1 F1 g1 it=>⟨F1,xs,rfl,g1,it⟩
  |exc c|stuck=>rw[em]at q;exact q
 obtain⟨it,fpi,tn_,J,H2,rfl,I2,Tn,st2,f2,F1,xs,em,g1,itc⟩:=h2;rw[em]at q;simp only[Res.Jz]at q;split at q
 case isFalse=>exact q.elim
 rename_i hlen
 cases ec:d_ g mc me (bN caps tn.length env) xs with
 |exc c|stuck=>rw[ec]at q;exact q.elim
 |ok full=>
 rw[ec]at q;dsimp only at q;have S2:=S.grow g1;have hlt:∀b∈fpi,b<s2.heap.objs.size:=λb hb=>by obtain⟨o,ho,_⟩:=Tn.obj 0 _ st2 b hb;exact lt_size ho
 refine PySem.wpAny_newObj_type (qb λh₁ hns₁ hsb₁ hcl₁=>?_);dsimp only at hns₁ hsb₁ hcl₁ ⊢;generalize hH2:s2.heap.push {cls:=.type "list",dict:=none,data:=.seq ([]:Jg).toArray}=P2 at hns₁ hsb₁ hcl₁ ⊢;have hC:P2.objs.size=s2.heap.objs.size+1:=by rw[<- hH2,size_push]
 have old:∀b o,s2.heap.get? b=some o->h₁.get? b=some o:=λb o e=>hsb₁ b o (hH2▸get?_push_of_some _ e);have hDo:h₁.get? s2.heap.objs.size=some {cls:=.type "list",data:=.seq ([]:Jg).toArray}:=hsb₁ _ _ (hH2▸get?_push_size _ rfl);rw[hC]at hns₁ hcl₁;have inv0:=xI (t:=s2.toks) cs I2 f2 hlt hns₁ hDo old hcl₁;have hDH:H2 s2.heap.objs.size=none:=I2.hok.fresh (Nat.le_refl _);have hDF:¬F1 s2.heap.objs.size:=λz=>by obtain⟨o,e⟩:=g1.dom _ z;rw[hDH]at e;cases e
 have SB:=vx (caps:=caps) (k:=tn.length) S2 hDH hDF;obtain⟨hgN,hts,hel⟩:=hb (s2.heap.objs.size+1) s2 H2 fpi;have never:∀{α:Type}{t:Sem α}{Qa:α->Shared->Prop}{E':Ja}{s':Shared},wpAny (model X.prog X.w) X.A t Qa (λ_ _=>False) s'->wpAny (model X.prog X.w) X.A t Qa E' s':=λh=>wpAny_mono h (λ_ _ x=>x) λ_ _ z=>z.elim;have fpok:∀{H':Hp}{pins':Jd},(∀p∈pins',p.1∉fpi)->(∀b∈fpi,H' b=none)->∀b∈fpi,mU (cxC X scope (s2.heap.objs.size+1) N s2 H2 fpi) pins' H' b:=λ{H' pins'} hp hn b hb=>by
  refine⟨hn b hb,Nat.ne_of_lt (Nat.lt_succ_of_lt (hlt b hb)),(o3 cs I2 f2 hlt (le_succ _)).exfs b hb,.inl hb,((o3 cs I2 f2 hlt (le_succ _)).exf b hb).2,λp hp' z=>?_⟩;rcases mem_append.mp hp' with w|w
  .exact absurd (show p ∈([]:Jd)from w) (by simp)
  .exact hp p w (z▸hb)
 have key:∀s4:Shared,L2.Inv (cxC X scope (s2.heap.objs.size+1) N s2 H2 fpi) [] (o7 caps tn.length Y) (upd H2 s2.heap.objs.size (.lst [])) s4->tn_ 0 s4.heap ->
   codeAny (model X.prog X.w) X.A (.compLoop (.ListComp elt [⟨tg,iter,ifs,0⟩] scope pos) 0 (.ref it) (.ref s2.heap.objs.size) (compEnvC scope (qP X scope (s2.heap.objs.size+1)) (s2.heap.objs.size+1) X.env))
    (compPost (model X.prog X.w) X.A X.xe use Q' (.ref s2.heap.objs.size) (s2.heap.objs.size+1)) s4:=by
  intro s4 inv4 st4;refine o5 (λn s'=>∃ (i:Nat) (σ':St) (H':Hp) (Fi:Je) (ys zs:Jn) (vs:Jl) (f:Jh),n=xs.length - i/\i <= xs.length/\L2.Inv (cxC X scope (s2.heap.objs.size+1) N s2 H2 fpi) [] σ' H' s'/\tn_ i s'.heap/\(∀ b ∈ fpi,H' b=none) /\
   aA T (zC F1 H2) Fi H' σ' (bN caps tn.length env) (λ_=>[])/\H' s2.heap.objs.size=some (.lst vs)/\RelL T Fi Z.B (Own fp) H' ys vs f/\f.Nodup/\(∀a∈f,¬Fi a/\H2 a=none/\a≠s2.heap.objs.size)/\¬Fi s2.heap.objs.size/\ys.length<=i /\
   d_ g mc me (bN caps tn.length env) (xs.drop i)=.ok zs/\full=ys++zs) ?_ xs.length ?_
  case refine_2=>
   refine⟨0,_,_,F1,[],full,[],[],by simp,zero_le _,inv4,st4,λb hb=>?_,SB,cw,by unfold RelL;exact⟨rfl,rfl⟩,nodup_nil,λ_ z=>(nomatch z),hDF,zero_le _,ec,rfl⟩;rw[aV (Nat.ne_of_lt (hlt b hb))];exact(f2 b hb).1
  rintro n s5 ⟨i,σ',H',Fi,ys,zs,vs,f,rfl,hil,inv5,st5,fr5,SI5,hD5,ry,nd5,nf5,nFD,hyl,ecl,efull⟩;have ext5:Ext H2 H':=λa o e=>SI5.hp.keep a o e λz=>z;have gr5:Gr F1 H2 Fi H':=⟨ext5,SI5.hp.f0,λa h=>by
   rcases SI5.hp.fn a h with z|z|z
   .exact .inl z
   .exact .inr z
   .exact z.elim,SI5.hp.ft⟩
  obtain⟨go,stop⟩:=itc H' ext5;by_cases hlt5:i<xs.length
  .have hx:xs[i]?=some xs[i]:=by simp[hlt5]
   obtain⟨g5,yl⟩:=go i _ hx;rw[List.drop_eq_getElem_cons hlt5]at ecl;unfold d_ at ecl;cases eg:g xs[i].Js (bN caps tn.length env)with
   |none=>rw[eg]at ecl;cases ecl
   |some e'=>
   rw[eg]at ecl;dsimp only at ecl;refine thn (Tn.item (cxC X scope (s2.heap.objs.size+1) N s2 H2 fpi) rfl rfl rfl hc i [] s5 σ' H' _ inv5 (fpok (λ_ z=>absurd z (by simp)) fr5) st5 g5) λr s6 hz1=>?_;obtain⟨u,hr,h6⟩:=hz1;subst hr;refine thn h6 λ_ s7 hz1=>?_;obtain⟨v,H7,inv7,rv,yy,st7,fr7⟩:=hz1;obtain⟨ex7,fx,tx,rx⟩:=yl v H7 yy
   replace SI5:=SI5.grow (Gr.same SI5.hp.ft ex7)
   replace ry:=ry.ext ex7 λ_ h=>h
   replace hD5:=ex7 _ _ hD5
   replace gr5:=gr5.trans (Gr.same gr5.dom ex7)
   replace ext5:=gr5.ext
   have pinv:=inv7.pinned (fpok (λ_ z=>absurd z (by simp)) fr7) (Tn.obj _ _ st7);have rxb:Rel T Fi (zC F1 H2).B NoL H7 xs[i].Js v []:=by refine Rel.Js (B:=λa=>∃o,H2 a=some o) (L:=Own fp) (λ_ h=>h) (λa ⟨j,hj⟩=>(S2.dis j a hj).2) (λa ha=>tx a ha) ?_;exact Rel.tr SI5.hp.f0 (λa h=>let⟨⟨o,h1⟩,h2⟩:=S2.hp.bo.1 a h;⟨o,S2.hp.keep a o h1 h2⟩) (λ_ h=>h) (λa o q _=>q) (λa _ o q=>q) rx
   refine never (thn (hgN _ s7 σ' H7 v u (λσ8 H8=>H8=H7/\∃fp8,aA T (zC F1 H2) Fi H7 σ8 e' fp8) pinv rv ⟨zC F1 H2,Fi,bN caps tn.length env,λ_=>[],xs[i].Js,[],SI5,rxb,vH.nil,?_⟩) λ_ s8 ⟨σ8,H8,inv8,e8,fp8,S8⟩=>?_)
   .rw[eg];exact λσ8 fp8 S8=>⟨rfl,fp8,S8⟩
   subst e8;obtain⟨kl,kk⟩:=hk.keep _ _ _ eg;have capOwn:∀(j:Nat) pv,(bN caps tn.length env)[j]?=some (some pv)->pv.has Fl.Jt=false:=λj pv ej=>by
    unfold bN at ej;by_cases hj:j<caps.length
    .rw[getElem?_append_left (by simpa using hj),getElem?_map]at ej;obtain⟨jj,_,e2⟩:=map_eq_some_iff.mp ej;obtain⟨pv0,_,rfl⟩:=map_eq_some_iff.mp e2;exact jo pv0
    .rw[getElem?_append_right (by simpa using hj),getElem?_replicate]at ej;split at ej<;>cases ej
   have S8':aA T (zC F1 H2) Fi H8 σ8 e' (λ_=>[]):=S8.Jy λj pv ej=>by
    rcases hk.own _ _ _ eg (jo _) j pv ej with z|z
    .exact capOwn j pv z
    .exact z
   have back:∀{F9:Je}{H9:Hp},aA T (zC F1 H2) F9 H9 σ8 e' (λ_=>[])->aA T (zC F1 H2) F9 H9 σ8 (bN caps tn.length env) (λ_=>[]):=λS9=>S9.wk rfl kl.symm λj pv ej=>by
    have hj:j<caps.length:=by
     by_cases hj:j<caps.length
     .exact hj
     .unfold bN at ej;rw[getElem?_append_right (by simpa using hj),getElem?_replicate]at ej;split at ej<;>cases ej
    rw[kk j hj];exact ej
   have pinback:∀{H9:Hp}{s9:Shared},L2.Inv (cxC X scope (s2.heap.objs.size+1) N s2 H2 fpi) ([]++ lH fpi s7.heap) σ8 H9 s9->L2.Inv (cxC X scope (s2.heap.objs.size+1) N s2 H2 fpi) [] σ8 H9 s9/\tn_ (i+1) s9.heap/\∀b∈fpi,H9 b=none:=λ{H9 s9} i9=>
    ⟨i9.unpinned,Tn.keep _ _ _ st7 λb hb o e=>(i9.pin (b,o) (mem_append_right _ (mem_append_right _ (gS hb e)))).1,λb hb=>by
     obtain⟨o,e,_⟩:=Tn.obj _ _ st7 b hb;exact(i9.pin (b,o) (mem_append_right _ (mem_append_right _ (gS hb e)))).2.1⟩
   cases emc:mc e' with
   |exc c|stuck=>rw[emc]at ecl;cases ecl
   |ok bb=>
   rw[emc]at ecl;simp only[Res.Jz]at ecl;refine never (thn (hts _ s8 σ8 H8 (λb H9=>b=bb/\∃F9,Gr Fi H8 F9 H9) inv8 ⟨zC F1 H2,Fi,e',λ_=>[],S8',?_⟩) λok s9 ⟨H9,inv9,eb,F9,g9⟩=>?_)
   .rw[emc];exact λH9 F9 g9=>⟨rfl,F9,g9⟩
   subst eb;have S9:=S8'.grow g9;have ry9:=ry.ext g9.ext g9.mono;have nf9:∀a∈f,¬F9 a:=λa ha z=>by
    rcases g9.only a z with z|z
    .exact(nf5 a ha).1 z
    .obtain⟨o,e⟩:=ry.there a ha;rw[e]at z;cases z
   have nFD9:¬F9 s2.heap.objs.size:=λz=>by
    rcases g9.only _ z with z|z
    .exact nFD z
    .rw[hD5]at z;cases z
   cases ok with
   |false=>simp only[false_eq_true,if_false]at ecl ⊢;obtain⟨i10,st10,fr10⟩:=pinback inv9;exact⟨xs.length-(i+1),by omega,i+1,σ8,H9,F9,ys,zs,vs,f,rfl,hlt5,i10,st10,fr10,back S9,g9.ext _ _ hD5,ry9,nd5,λa ha=>⟨nf9 a ha,(nf5 a ha).2⟩,nFD9,by omega,ecl,efull⟩
   |true=>
    simp only[if_true]at ecl ⊢;cases eme:me e' with
    |exc c|stuck=>rw[eme]at ecl;cases ecl
    |ok y=>
    rw[eme]at ecl;simp only[Res.Jz]at ecl;split at ecl
    case isTrue=>cases ecl
    rename_i hyb
    simp only[or_eq_true,not_or,Bool.not_eq_true]at hyb;cases ecr:d_ g mc me (bN caps tn.length env) (xs.drop (i+1))with
    |exc c|stuck=>rw[ecr]at ecl;cases ecl
    |ok zs'=>
    rw[ecr]at ecl;simp only[Res.Jz]at ecl;cases ecl;refine never (thn (hel _ s9 σ8 H9 (λv' H10=>∃F10 f10,Gr F9 H9 F10 H10/\Rel T F10 (zC F1 H2).B (Own λ_=>[]) H10 y v' f10/\(∀a∈f10,¬F10 a)/\f10.Nodup/\∀a∈f10,H9 a=none) inv9 ⟨zC F1 H2,F9,e',λ_=>[],S9,?_⟩) λw s10 ⟨v',H10,inv10,rw10,F10,f10,g10,r10,n10,d10,w10⟩=>?_)
    .rw[eme];exact λv' H10 F10 f10 g10 r10 n10 d10 w10=>⟨F10,f10,g10,r10,n10,d10,w10⟩
    have hvl:vs.length<sizeLine:=by have h1:=ry.length;have h2:sizeLine=16777216:=sizeLine_eq;omega
    have hD10:H10 s2.heap.objs.size=some (.lst vs):=g10.ext _ _ (g9.ext _ _ hD5);refine never (thn (nM _ s10 σ8 H10 (.ref s2.heap.objs.size) [v'] (.ref s2.heap.objs.size) [w] (λ_ H11=>H11=upd H10 s2.heap.objs.size (.lst (vs++[v']))) inv10 rfl (.cons rw10 .nil) ⟨s2.heap.objs.size,vs,v',rfl,rfl,hD10,hvl,rfl⟩) λ_ s11 zz=>?_);obtain⟨_,H11,inv11,_,e11⟩:=zz;subst e11;obtain⟨i12,st12,fr12⟩:=pinback inv11;have S10:=S9.grow g10;have nFD10:¬F10 s2.heap.objs.size:=λz=>by
     rcases g10.only _ z with z|z
     .exact nFD9 z
     .rw[g9.ext _ _ hD5]at z;cases z
    have ry10:=ry9.ext g10.ext g10.mono;have ryy:RelL T F10 Z.B (Own fp) (upd H10 s2.heap.objs.size (.lst (vs++[v']))) (ys++[y]) (vs++[v']) (f++f10):=by
     have ry1:Rel T F10 Z.B (Own fp) H10 y v' f10:=Rel.noL hyb.2 (Rel.noB (B':=Z.B) hyb.1 r10);have all:RelL T F10 Z.B (Own fp) H10 (ys++[y]) (vs++[v']) (f++f10):=RelL.append ry10 (by unfold RelL;exact⟨v',[],f10,[],rfl,ry1,by unfold RelL;exact⟨rfl,rfl⟩,by simp⟩);refine RelL.tr (λ_ h=>h) (λ_ h=>h) (λ_ h=>h) (λa o e h=>?_) (λa ha o e=>?_) all
     .refine(aV λz=>?_).trans e;subst z;rcases h with h|h|h|h
      .exact nFD10 h
      .obtain⟨⟨o',h1⟩,h2⟩:=S2.hp.bo.1 _ h;rw[S2.hp.keep _ o' h1 h2]at hDH;cases hDH
      .obtain⟨j,hj⟩:=h;obtain⟨_,o',ho'⟩:=S2.dis j _ hj;rw[hDH]at ho';cases ho'
      .rw[hD10]at e;cases e;exact h
     .refine(aV λz=>?_).trans e;subst z;rcases mem_append.mp ha with ha|ha
      .exact(nf5 _ ha).2.2 rfl
      .have:=w10 _ ha;rw[g9.ext _ _ hD5]at this;cases this
    have nf10:∀a∈f,¬F10 a:=λa ha z=>by
     rcases g10.only a z with z|z
     .exact nf9 a ha z
     .obtain⟨o,e⟩:=ry9.there a ha;rw[e]at z;cases z
    refine⟨xs.length-(i+1),by omega,i+1,σ8,_,F10,ys++[y],zs',vs++[v'],f++f10,rfl,hlt5,i12,st12,fr12,back (S10.updD nFD10 hDH hD10 (λz=>z)),cw,ryy,?_,λa ha=>?_,nFD10,by simp;omega,ecr,by rw[efull,List.append_assoc];rfl⟩
    .refine nodup_append.mpr ⟨nd5,d10,λa ha b hb z=>?_⟩;subst z;obtain⟨o,e⟩:=ry9.there a ha;rw[w10 a hb]at e;cases e
    .rcases mem_append.mp ha with ha|ha
     .exact⟨nf10 a ha,(nf5 a ha).2⟩
     .refine⟨n10 a ha,?_,λz=>?_⟩
      .have:=w10 a ha;exact ext5.free (g9.ext.free this)
      .subst z;have:=w10 _ ha;rw[g9.ext _ _ hD5]at this;cases this
  .have e:i=xs.length:=by omega
   subst e;rw[List.drop_length]at ecl;unfold d_ at ecl;cases ecl;rw[append_nil]at efull;subst efull;refine thn (Tn.done (cxC X scope (s2.heap.objs.size+1) N s2 H2 fpi) rfl rfl rfl hc xs.length [] s5 σ' H' _ inv5 (fpok (λ_ z=>absurd z (by simp)) fr5) st5 stop) λr s6 hz1=>?_;obtain⟨hr,inv6⟩:=hz1;subst hr;obtain⟨m,hn,_⟩:=id inv6.loc;have hlc:X.env.locals<s2.heap.objs.size+1:=Nat.lt_succ_of_lt I2.lt;have iX:L2.Inv X js Y H' s6:=I2.call' inv6.os inv6.base inv6.hok inv6.bare λb hb=>⟨(f2 b hb).2.2.2.1,(f2 b hb).2.1,(f2 b hb).2.2.2.2.1,(f2 b hb).2.2.2.2.2⟩
   refine hfin _ (s2.heap.objs.size+1) H' s6 m ?_ iX hn inv6.free (Nat.ne_of_gt hlc) (I2.nofs (le_succ _)) (Nat.le_trans I2.sz (le_succ _)) (λx c e z=>?_) (λp hp z=>?_)
   case refine_2=>
    obtain⟨v,hv⟩:=I2.cell x c e;rw[z]at hv;exact absurd hv.lt (Nat.not_lt.mpr (le_succ _))
   case refine_3=>
    have:=lt_size (I2.pin p hp).1;rw[z]at this;exact absurd this (Nat.not_lt.mpr (le_succ _))
   refine q (.ref s2.heap.objs.size) H' Fi (s2.heap.objs.size::f) (g1.trans gr5) ?_ (λa ha=>?_) ?_ (λa ha=>?_)
   .unfold Rel;exact⟨_,vs,f,rfl,hD5,ry,rfl⟩
   .grind
   .exact nodup_cons.mpr ⟨λz=>(nf5 _ z).2.2 rfl,nd5⟩
   .rcases mem_cons.mp ha with rfl|ha
    .exact g1.ext.free hDH
    .exact g1.ext.free (nf5 a ha).2.1
 have st0:tn_ 0 h₁:=Tn.keep _ _ _ st2 λb _ o e=>old b o e;have lp:=key _ inv0 st0;simp only[hC];exact codeAny_compStart_list lp (Tn.self _ 0 _ _ _ st0 lp)
theorem Ae
  (cs:eQ X scope caps N tn) (hc:X.calm=true) (hi:SIc X T W tg iter mi) (hk:hG g caps.length)
  (hb:∀C s H ex,SG (cxC X scope C N s H ex) T tg g/\STs (cxC X scope C N s H ex) T WF ifs mc/\SE (cxC X scope C N s H ex) T WF elt me)
  (hs:∀x,foldedSetIterable iter X.env x=pure x:=by intro _;rfl):SE X T W (.ListComp elt [⟨tg,iter,ifs,0⟩] scope pos) (aM caps tn.length mi g mc me):=by
 intro js s Y H Q I h;rw[eval_ListComp];refine nU cs hc hi hk hb hs I h λDd C H' s6 m hq iX hn hCn hCl hCf hC0 hCc hCp=>⟨m,hn,λh' hs'=>⟨.ref Dd,H',?_,rfl,hq⟩⟩
 exact iX.turned (t':=s6.toks) (λb o hb e=>(hs'.2 b hb).trans e) hCn hCl (.inr hC0) hCc hCp
theorem zY
  (cs:eQ X scope caps N tn) (hc:X.calm=true) (hN:X.N.Nodup) (hy:X.N[i]?=some y) (hx:Loc X.env.scope y) (hi:SIc X T W tg iter mi) (hk:hG g caps.length)
  (hb:∀C s H ex,SG (cxC X scope C N s H ex) T tg g/\STs (cxC X scope C N s H ex) T WF ifs mc/\SE (cxC X scope C N s H ex) T WF elt me)
  (hsw:swapsWith (.ListComp elt [⟨tg,iter,ifs,0⟩] scope pos) (some (.Name y py)) spos.line X.env=pure true:=by rfl)
  (hs:∀x,foldedSetIterable iter X.env x=pure x:=by intro _;rfl)
  (hf:X.fn y=true\/X.env.scope.names.lookup y=some .local:=by first|exact .inl rfl|exact .inr rfl|assumption) :
  SS X T W (.Assign [.Name y py] (.ListComp elt [⟨tg,iter,ifs,0⟩] scope pos) spos) (aN i (aM caps tn.length mi g mc me)):=by
 intro js s Y H D I h;obtain⟨Z,F,env,fp,S,q⟩:=h;unfold aN at q;rw[exec_Assign_Name_used _ _ _ _ hsw];refine wpAny_bind (wpAny_standAt (wpAny_bind ?_));show wpAny _ X.A (do let _ <- comprehension (.ListComp elt [⟨tg,iter,ifs,0⟩] scope pos) scope X.env _ (newList []) false (eval iter X.env) (some (assign (.Name y py) X.env))) _ _ s;refine wpAny_bind (wpAny_mono (nU (use:=some (assign (.Name y py) X.env)) (Q':=λ_ s'=>SP X js D .next s') (Q:=λv H1=>D.nx (Y.set i (some v)) H1) cs hc hi hk hb hs I ?_ λDd C H' s6 m hq iX hn hCn hCl hCf hC0 hCc hCp=>?_) (λ_ s' hq=>wpAny_pure (wpAny_pure hq)) λ_ _ e=>e)
 .refine tE.bind S (λc e H' x=>?_) (λe=>by rw[e]at q;exact q) λpv v H1 F1 f e g r h1 h2 h3=>?_
  .rw[e]at q;exact q F H' Y fp (S.grow (Gr.same S.hp.ft x))
  .rw[e]at q;simp only at q;split at q
   .rename_i hl
    rw[and_eq_true]at hl;exact q F1 H1 _ _ (S.putN g hl.2 r hl.1 h1 h2 h3)
   .exact q.elim
 .refine wpAny_assign_Name (nr (v:=.ref Dd) (u:=.ref Dd) iX hN hy hx rfl (λs7 i7 ⟨a,hsa,ha⟩=>?_) hf);have hCa:C≠a:=by
   rcases ha with ha|ha
   .rw[ha];exact hCl
   .exact λz=>hCc y a ha z.symm
  refine⟨m,hn.sameBut hsa hCa,λh' hs'=>⟨_,H',?_,hq⟩⟩;exact i7.turned (t':=s7.toks) (λb o hb e=>(hs'.2 b hb).trans e) hCn hCl (.inr hC0) hCc hCp
end
def GFI(T:Tb)(Z:Zn)(v0:V)(Q:VK)(E:XK):Jo->Prop
 |.ok pv=>∀F H f,cC T Z F H->Rel T F Z.B NoL H pv v0 f->f.Nodup->(∀a∈f,¬F a)->(∀a∈f,Z.H0 a=none\/Z.fp0 a)->Q .non H
 |.exc c=>∀H,(∀a o,Z.H0 a=some o->¬Z.fp0 a->H a=some o)->E (.ref (T.xcl c)) none H
 |.stuck=>False
def spI(T:Tb)(n:Nat)(m:Jn->Jo):Sp:=λvs H Q E=>vs.length=n/\∃v0 pvs F B f,vs[0]?=some v0/\vI T F B H pvs vs f/\(∃fl c ks xs,pvs[0]?=some (.obj fl c ks xs))/\GFI T ⟨H,F,(·∈f),B,some v0⟩ v0 Q E (m pvs)
def i4(n:Nat)(m:MS)(args:Jn):Jo:=match m (args.map some++replicate (n-args.length) none)with
 |.next e=>match e[0]? with
  |some (some o)=>.ok o
  |_=>.stuck
 |.exc c _=>.exc c
 |_=>.stuck
section
variable{P:Program}{w:World}{K:PySem.W.Frag}{mg:Jb}{base:Heap}{T:Tb}
theorem D8(F:Fun K x qual st f fd)(S:dC N ps (aC st))
  (body:∀ (cdv:Value) (A:Around) (outer:List Env) (s:Shared) (H:Hp) (E:XK),er k (A.deeper (PyProof.Rows.envOfC qual (aC st) s.heap.objs.size f cdv)) ->
   SSs (ef (CXP P w) P w K mg base N qual (aC st) f cdv A outer s H E) T (WD T E) (bB st) m):da P w K mg base (CXP P w) (k+1) f fd ps (spI T ps.length (i4 N.length m)):=by
 obtain⟨oc,od,kV,doc,pm,an,cdv,ct,osl,rfl,lk,hcd⟩:=F.ex;refine xT lk hcd S (λvs H Q E h=>h.1) λA outer s H vs Q E hr hsp=>⟨_,body cdv A outer s H E hr,?_⟩
 obtain⟨_,v0,pvs,F,B,fl,hv0,R,hob,q⟩:=hsp;obtain⟨fp,S0⟩:=kL N R (some v0) (λv hv=>by cases hv;exact⟨hv0,hob⟩);refine⟨_,F,_,fp,S0,?_⟩;unfold i4 at q;cases e:m (pvs.map some++replicate (N.length-pvs.length) none)with
 |next e'=>
  rw[e]at q;dsimp only at q;intro F' H' σ' fp' S';obtain⟨h1,_⟩:=S'.pn v0 rfl;cases e0:e'[0]? with
  |none=>rw[e0]at q;exact q.elim
  |some o0=>
   cases o0 with
   |none=>rw[e0]at q;exact q.elim
   |some o=>rw[e0]at q;obtain⟨v,h2,r⟩:=S'.rel 0 o e0;rw[h1]at h2;cases h2;exact q F' H' (fp' 0) S'.hp r (S'.nd 0) (λa ha=>(S'.dis 0 a ha).1) (S'.new 0)
 |ret v|brk e'|cont e'=>rw[e]at q;exact q.elim
 |exc c e'=>rw[e]at q;exact λF' H' σ' fp' S'=>q H' S'.hp.keep
 |stuck=>rw[e]at q;exact q.elim
end
section
variable{X:Cx}{T:Tb}{W:Nat->St->Jm}{Z:Zn}{F F1 B L:Je}{H H1:Hp}{Y:St}{env:En}{fp:Nat->Jh}{D:Ends}
theorem CB
  (M:Mk X.K (T.cls c) f) (hcn:c<T.nc) (G:da X.prog X.w X.K X.mg X.base (CXP X.prog X.w) k f fd ps (spI T ps.length m)) (hr:er (k+1) X.A) (hb:fe X.K fd ps ds) (hd:a5 dvs ds) (hdp:∀F B L H,RelL T F B L H dps dvs []) (hx:XF X T W)
  (S:aA T Z F H Y env fp) (g:Gr F H F1 H1) (r:RelL T F1 Z.B (Own fp) H1 xs vs fx) (nf:∀a∈fx,¬F1 a) (nd:fx.Nodup) (new:∀a∈fx,H a=none) (q:GE T W Z.B F (Own fp) Y H Q (aB m (.obj .own c [] []::(xs++dps))))
  (I1:L2.Inv X js Y H1 s1) (rv:a5 vs us) (hlen:vs.length+dvs.length+1=ps.length):wpAny (model X.prog X.w) X.A (call (.ref (T.cls c)) us) (EP X js Y Q) X.xe s1:=by
 have hxn:H1 (s1.heap.objs.size+1)=none:=I1.hok.fresh (le_succ _);have hdn:H1 s1.heap.objs.size=none:=I1.hok.fresh (Nat.le_refl _);have hne:s1.heap.objs.size≠s1.heap.objs.size+1:=Nat.ne_of_lt (Nat.lt_succ_self _);generalize hH2:upd (upd H1 s1.heap.objs.size (.own (s1.heap.objs.size+1))) (s1.heap.objs.size+1) (.ins (T.cls c) s1.heap.objs.size [])=H2;have ext2:Ext H1 H2:=by rw[<- hH2];exact(Ext.upd hdn).trans (Ext.upd (by rw[aV hne.symm];exact hxn))
 have free2:∀a,H2 a=none->H1 a=none:=λa h=>ext2.free h;have hx2:H2 (s1.heap.objs.size+1)=some (.ins (T.cls c) s1.heap.objs.size []):=by rw[<- hH2];exact cw
 have I2:=L2.Inv.made (C:=T.cls c) I1;rw[hH2]at I2;have r2:a5 (V.ref (s1.heap.objs.size+1)::(vs++dvs)) (Value.ref (s1.heap.objs.size+1)::(us++ds)):=.cons rfl (rv.append hd);have hl:(Value.ref (s1.heap.objs.size+1)::us++ds).length=ps.length:=by have e:=r2.length;simp only[length_cons,length_append]at e hlen ⊢;omega
 have rr:RelL T F1 Z.B (Own fp) H1 (xs++dps) (vs++dvs) fx:=by
  have:=RelL.append r (hdp F1 Z.B (Own fp) H1)
  rwa [append_nil]at this
 have nx:s1.heap.objs.size+1∉fx:=λz=>by obtain⟨o,ho⟩:=r.there _ z;rw[hxn]at ho;cases ho
 have hBo:∀a,Z.B a->(∃o,H2 a=some o)/\a ∉(s1.heap.objs.size+1)::fx:=λa h=>by
  obtain⟨⟨o,h1⟩,h2⟩:=S.hp.bo.1 a h;have h3:=S.hp.keep a o h1 h2;refine⟨⟨o,ext2 a o (g.ext a o h3)⟩,λz=>?_⟩;rcases mem_cons.mp z with z|z
  .rw[z]at h3;rw[g.ext _ _ h3]at hxn;cases hxn
  .rw[new a z]at h3;cases h3
 have hOw:∀a,Own fp a->(∃o,H2 a=some o)/\a ∉(s1.heap.objs.size+1)::fx:=λa hz1=>by
  obtain⟨i,hi⟩:=hz1;obtain⟨_,o,ho⟩:=S.dis i a hi;refine⟨⟨o,ext2 a o (g.ext a o ho)⟩,λz=>?_⟩;rcases mem_cons.mp z with z|z
  .rw[z]at ho;rw[g.ext _ _ ho]at hxn;cases hxn
  .rw[new a z]at ho;cases ho
 have nF:¬F1 (s1.heap.objs.size+1):=λz=>by obtain⟨o,ho⟩:=g.dom _ z;rw[hxn]at ho;cases ho
 have R:vI T F1 (λa=>(∃o,H2 a=some o)/\a ∉(s1.heap.objs.size+1)::fx) H2 (.obj .own c [] []::mapL Fl.Jq (xs++dps)) (.ref (s1.heap.objs.size+1)::(vs++dvs)) ((s1.heap.objs.size+1)::fx):=by
  refine⟨?_,nodup_cons.mpr ⟨nx,nd⟩,λa ha=>?_,⟨λa h=>h,S.tbo (g.ext.trans ext2) λa z=>.inl ((mem_cons.mp z).elim (λz=>by rw[z];exact g.ext.free hxn) (new a))⟩,λa h=>let⟨o,ho⟩:=g.dom a h;⟨o,ext2 a o ho⟩⟩
  .unfold RelL;refine⟨_,_,[s1.heap.objs.size+1],fx,rfl,?_,RelL.Jq hBo hOw (rr.ext ext2 λ_ h=>h),rfl⟩;unfold Rel;exact⟨_,s1.heap.objs.size,[],[],rfl,by simpa using hx2,⟨rfl,hcn⟩,by unfold RelL;exact⟨rfl,rfl⟩,rfl,True.intro⟩
  .rcases mem_cons.mp ha with rfl|ha
   .exact nF
   .exact nf a ha
 have newx:∀a ∈(s1.heap.objs.size+1)::fx,H a=none:=λa ha=>by
  rcases mem_cons.mp ha with rfl|ha
  .exact g.ext.free hxn
  .exact new a ha
 refine wpAny_call (xt (f:=f) I1.kIn M.makes M.init (beq_iff_eq.mp M.fn) (codeAny_mono (G.run _ X.stack _ _ ⟨Value.ref (s1.heap.objs.size+1)::us,[]⟩ (Value.ref (s1.heap.objs.size+1)::(us ++ ds)) _ (λv H3=>v=.non/\Q (.ref (s1.heap.objs.size+1)) H3) (λcls _ H'=>∃ c,cls=.ref (T.xcl c)/\W c Y H') (hr.make (T.cls c) us [])
  (I2.env0.make (T.cls c) us []) (hb _ (Value.ref (s1.heap.objs.size+1)::us) I2.kIn hl) r2 ⟨by rw[r2.length];exact hl,_,_,F1,_,_,rfl,R,⟨.own,c,[],[],rfl⟩,?_⟩) λrs s' hq'=>?_))
 .unfold aB at q;have e0:mapL Fl.Jq (PV.obj .own c [] []::(xs++dps))=.obj .own c [] []::mapL Fl.Jq (xs++dps):=by simp[mapL,PV.Jx,Fl.Jq]
  rw[e0]at q;cases e:m (.obj .own c [] []::mapL Fl.Jq (xs++dps))with
  |ok v=>
   rw[e]at q;dsimp only at q;intro F3 H3 f3 hp3 r3 nd3 nf3 new3;refine⟨rfl,?_⟩;by_cases hbr:v.has Fl.Jv=true
   .rw[if_pos hbr]at q;exact q.elim
   .rw[if_neg hbr]at q;have hbr':v.has Fl.Jv=false:=by simpa using hbr
    refine q _ H3 F3 f3 ⟨λa o h=>hp3.keep a o (ext2 a o (g.ext a o h)) λz=>(by rw[newx a z]at h;cases h),λa h=>hp3.f0 a (g.mono a h),λa h=>?_,hp3.ft⟩ ?_ nf3 nd3 λa ha=>?_
    .rcases hp3.fn a h with z|z|z
     .exact g.only a z
     .exact .inr (g.ext.free (free2 a z))
     .exact .inr (newx a z)
    .exact Rel.tr (λ_ h=>h) (λ_ h=>h) (λ_ h=>h.elim) (λ_ _ h _=>h) (λ_ _ _ h=>h) (Rel.noB (B':=Z.B) hbr' r3)
    .rcases new3 a ha with z|z
     .exact g.ext.free (free2 a z)
     .exact newx a z
  |exc c'=>rw[e]at q;exact λH' h=>⟨c',rfl,q H' λa o z=>h a o (ext2 a o (g.ext a o z)) λz'=>by rw[newx a z']at z;cases z⟩
  |stuck=>rw[e]at q;exact q.elim
 .cases rs with
  |error e=>obtain⟨cls,H',fl,c',rfl,hw⟩:=hq';exact hx js Y H2 _ c' H' e s' I2 fl hw
  |ok fl=>
   cases fl with
   |ret u=>obtain⟨v,H',I3,rv',ev,q3⟩:=I2.after hq';subst ev;exact⟨rv',⟨V.ref (s1.heap.objs.size+1),H',I3,rfl,q3⟩⟩
   |next|brk|cont=>exact False.elim hq'
theorem Ad
  (M:Mk X.K (T.cls c) f) (hcn:c<T.nc) (G:da X.prog X.w X.K X.mg X.base (CXP X.prog X.w) k f fd ps (spI T ps.length m)) (hr:er (k+1) X.A) (hg:Gl X x) (hm:X.mg x=some (.ref (T.cls c))) (hb:fe X.K fd ps ds) (hd:a5 dvs ds) (hdp:∀F B L H,RelL T F B L H dps dvs []) (hx:XF X T W)
  (hn:hV ms n) (hps:n+dvs.length+1=ps.length) (ha:SA X T W (e::es) ms)
  (hdb:(x ==("__debug__":Str))=false:=by decide) (he:starEach (e::es) X.env=(false,eval e X.env)::starEach es X.env:=by rfl) (hpl:(backTo pos (starEach es X.env)).any (·.1)=false:=by rfl) :
  SE X T W (.Call (.Name x p) (e::es) [] pos) (ap (λxs=>aB m (.obj .own c [] []::(xs++dps))) ms):=by
 intro js s Y H Q I h;obtain⟨Z,F,env,fp,S,q⟩:=h;unfold ap at q;refine wpAny_Call_Name_kw (jR I hg hm ?_ hdb);refine callWith_K (h₀:=X.base) I.ok.mod.kin M.kp (thn (ha pos js s Y H (λvs H1=>∀ us s1,L2.Inv X js Y H1 s1->a5 vs us->wpAny (model X.prog X.w) X.A (call (.ref (T.cls c)) us) (EP X js Y Q) X.xe s1) I
  (tA.bq S λxs vs H1 F1 f1 e1 g1 r1 n1 d1 w1 us s1 I1 rv=>?_)) λus s1 ⟨vs,H1,I1,r,q1⟩=>⟨I1.kIn,q1 us s1 I1 r⟩) he hpl
 rw[e1]at q;exact CB M hcn G hr hb hd hdp hx S g1 r1 n1 d1 w1 q I1 rv (by rw[<- r1.length,hn env xs e1];exact hps)
theorem aA.mut(S:aA T Z F H Y env fp)(hi:i<env.length)(hv:Y[i]?=some (some v))(ha:a∈fp i)(r:Rel T F Z.B NoL (upd H a o') pv' v f')(nd:f'.Nodup)(nf:∀b∈f',¬F b)
  (new:∀b∈f',Z.H0 b=none\/Z.fp0 b) (dj:∀b∈f',∀j,j≠i->b∉fp j) (ho:i=0->dR env=true->∃fl c ks xs,pv'=.obj fl c ks xs):aA T Z F (upd H a o') Y (env.set i (some pv')) (cG fp i f'):=by
 obtain⟨oa,hoa,hch⟩:=S.ch i a ha;have nFa:¬F a:=(S.dis i a ha).1;have nBa:¬Z.B a:=λz=>S.bow a z ⟨i,ha⟩;have ne:∀b u,H b=some u->(F b\/Z.B b\/NoL b\/jb u)->b≠a:=λb u e h z=>by
  subst z;rcases h with h|h|h|h
  .exact nFa h
  .exact nBa h
  .exact h
  .rw[hoa]at e;cases e;cases oa with
   |lst _|ins _ _ _=>exact h
   |_=>exact hch
 have nz:∀b u,Z.H0 b=some u->¬Z.fp0 b->b≠a:=(by grind[cG,aA,cC,Gr])
 have nj:∀j,j≠i->∀b∈fp j,b≠a:=λj hj b hb z=>by subst z;exact S.dj j i hj _ hb ha
 refine⟨⟨S.hp.bo,λb u e n=>by rw[aV (nz b u e n)];exact S.hp.keep b u e n,S.hp.f0,S.hp.fn,λb h=>?_⟩,by rw[length_set,S.len],λj pv e=>?_,λj=>?_,λj k hjk b hb=>?_,λj b hb=>?_,λj b hb=>?_,λj b hb=>?_,λw hw=>?_⟩
 .obtain⟨u,e⟩:=S.hp.ft b h;exact⟨u,by rw[aV (show b≠a from λz=>nFa (by rw[<- z];exact h))];exact e⟩
 .by_cases hj:j=i
  .subst hj;rw[getElem?_set_self hi]at e;cases e;refine⟨v,hv,?_⟩;unfold cG;rw[if_pos rfl];exact r
  .rw[getElem?_set_ne (Ne.symm hj)]at e;obtain⟨w,h1,h2⟩:=S.rel j pv e;refine⟨w,h1,?_⟩;unfold cG;rw[if_neg hj];exact Rel.tr (λ_ h=>h) (λ_ h=>h) (λ_ h=>h) (λb u q h=>by rw[aV (ne b u q h)];exact q) (λb hb u q=>by rw[aV (nj j hj b hb)];exact q) h2
 .unfold cG;split
  .exact nd
  .exact S.nd j
 .grind[cG,aA,cC,Gr]
 .unfold cG at hb;by_cases h1:j=i
  .rw[if_pos h1]at hb;exact⟨nf b hb,r.there b hb⟩
  .rw[if_neg h1]at hb;obtain⟨n,u,e⟩:=S.dis j b hb;exact⟨n,u,by rw[aV (nj j h1 b hb)];exact e⟩
 .unfold cG at hb;by_cases h1:j=i
  .rw[if_pos h1]at hb;exact new b hb
  .rw[if_neg h1]at hb;exact S.new j b hb
 .unfold cG at hb;by_cases h1:j=i
  .rw[if_pos h1]at hb;exact r.chg b hb
  .rw[if_neg h1]at hb;obtain⟨u,e,c⟩:=S.ch j b hb;exact⟨u,by rw[aV (nj j h1 b hb)];exact e,c⟩
 .obtain⟨h1,h2⟩:=S.pn w hw;refine⟨h1,?_⟩;by_cases hi0:i=0
  .obtain⟨fl,c,ks,xs,e⟩:=ho hi0 h2;subst hi0 e;unfold dR;rw[getElem?_set_self hi]
  .unfold dR at h2 ⊢;rw[getElem?_set_ne hi0];exact h2
def gz(i k:Nat)(e:ME):MS:=λenv=>match e env with
 | .ok v=>(match env[i]? with
  |some (some (.obj .own c ks vs))=>if v.Jw&&!ks.contains k&&decide (ks.length<900)then .next (env.set i (some (.obj .own c (ks++[k]) (vs++[v]))))else .stuck
  |_=>.stuck)
 |.exc c=>.exc c env
 |.stuck=>.stuck
theorem pX:∀{ks:List Nat}{ws:Jl},ks.contains k=false->ks.length=ws.length->gL (T.att k) y ((ks.map T.att).zip ws)=((ks++[k]).map T.att).zip (ws++[y])
 | [],[],_,_=>rfl
 |j::ks,w::ws,h,hl=>by simp only[List.contains_cons,or_eq_false_iff,beq_eq_false_iff_ne]at h;show gL (T.att k) y ((T.att j,w)::(ks.map T.att).zip ws)=(T.att j,w)::((ks++[k]).map T.att).zip (ws++[y]);unfold gL;rw[if_neg (λz=>h.1 (T.inj _ _ z).symm),pX h.2 (by simpa using hl)]
 | [],_::_,_,hl|_::_,[],_,hl=>by simp at hl
theorem Cn(hK:X.K=T.K)(hf:T.att k=f)(hc:∀c<T.nc,Cls T.K (T.cls c))(hn:∀c<T.nc,fu T.K (T.cls c) f)(hN:X.N[i]?=some x)(hv:Vis X.env.scope x)(he:SE X T W e m)
  (hs:swapsWith e (some (.Attribute (.Name x px) f pos')) pos.line X.env=pure false:=by rfl) (hd:(x ==("__debug__":Str))=false:=by decide) (hcd:(x ==("__classdict__":Str))=false:=by decide) :
  SS X T W (.Assign [.Attribute (.Name x px) f pos'] e pos) (gz i k m):=PS.wk (CQ (pos:=pos) (pos':=pos') (kf (pos:=px) hN hv hd hcd) he hs) λD Y H hz1=>by
 obtain⟨Z,F,env,fp,S,q⟩:=hz1;unfold gz at q;refine tE.bind S (λc e H' x=>?_) (λe=>by rw[e]at q;exact q) λpv v H1 F1 f1 e g r h1 h2 h3=>?_
 .rw[e]at q;exact q F H' Y fp (S.grow (Gr.same S.hp.ft x))
 .rw[e]at q;dsimp only at q;split at q
  .rename_i c ks vs eo
   split at q
   .rename_i hcnd
    simp only[and_eq_true,not_eq_true',decide_eq_true_eq]at hcnd;obtain⟨⟨hln,hkn⟩,hkl⟩:=hcnd;have S1:=S.grow g;obtain⟨vo,ho1,ho2⟩:=S1.rel i _ eo;have ho3:=ho2;unfold Rel at ho3;obtain⟨a,dx,ws,fp',rfl,hl,hk,hr,hfl,_⟩:=ho3;have hfl':fp i=a::fp':=hfl;have hil:i<env.length:=(List.getElem?_eq_some_iff.mp eo).1;refine⟨_,ho1,a,_,dx,_,rfl,hl,by rw[hK];exact hc c hk.2,by rw[hK];exact hn c hk.2,?_,?_⟩
    .have:=hr.length;rw[List.length_zip,length_map];omega
    .rw[<- hf,pX hkn (by rw[<- hr.length];exact hk.1)];have ha:a∈fp i:=by rw[hfl'];exact mem_cons_self
     have nd:(a::fp').Nodup:=by rw[<- hfl'];exact S1.nd i
     have old:∀b∈f1,∀j,b∉fp j:=λb hb j hj=>by obtain⟨_,o,e⟩:=S.dis j b hj;rw[h3 b hb]at e;cases e
     have hrv:Rel T F1 Z.B NoL H1 pv v f1:=Rel.noL (by simpa[PV.Jw]using hln) r;have nea:∀b u,H1 b=some u->(F1 b\/Z.B b\/NoL b\/jb u)->b≠a:=λb u e h z=>by
      subst z;rcases h with h|h|h|h
      .exact(S1.dis i _ ha).1 h
      .exact S1.bow _ h ⟨i,ha⟩
      .exact h
      .rw[hl]at e;cases e;exact h
     refine q F1 _ Y _ (S1.mut (f':=a::(fp'++f1)) hil ho1 ha ?_ ?_ (λb hb=>?_) (λb hb=>?_) (λb hb j hj=>?_) λ_ _=>⟨_,_,_,_,rfl⟩)
     .unfold Rel;have hrr:RelL T F1 Z.B NoL H1 (vs++[pv]) (ws++[v]) (fp'++f1):=RelL.append hr (by unfold RelL;exact⟨v,[],f1,[],rfl,hrv,by unfold RelL;exact⟨rfl,rfl⟩,by simp⟩);refine⟨a,dx,ws++[v],fp'++f1,rfl,cw,⟨by simp[hk.1],hk.2⟩,?_,rfl,True.intro⟩;refine RelL.tr (λ_ h=>h) (λ_ h=>h) (λ_ h=>h) (λb u e h=>by rw[aV (nea b u e h)];exact e) (λb hb u e=>?_) hrr;refine(aV λz=>?_).trans e
      grind
     .grind
     .grind[cG,aA,cC,Gr]
     .rcases mem_cons.mp hb with rfl|hb
      .exact S1.new i _ ha
      .rcases mem_append.mp hb with hb|hb
       .exact S1.new i b (by rw[hfl'];exact mem_cons_of_mem _ hb)
       .exact S.hp.newE h3 b hb
     grind[cG,aA,cC,Gr]
   .exact q.elim
  .exact q.elim
theorem aA.mutL{i:Nat}{xs ys:Jn}{ws us:Jl}{a:Addr}{v:V}{f' fp':Jh}(S:aA T Z F H Y env fp)(eo:env[i]?=some (some (.lst .own xs)))(hv:Y[i]?=some (some (.ref a)))(hfp:fp i=a::fp')(r:RelL T F Z.B NoL H ys us f')(nd:f'.Nodup)
  (hf:∀b∈f',(b∈fp')\/(¬F b/\(Z.H0 b=none\/Z.fp0 b)/\∀j,b∉fp j)) (hl:H a=some (.lst ws)):aA T Z F (upd H a (.lst us)) Y (env.set i (some (.lst .own ys))) (cG fp i (a::f')):=by
 have ha:a∈fp i:=by rw[hfp];exact mem_cons_self
 have ndi:(a::fp').Nodup:=by rw[<- hfp];exact S.nd i
 have sub:∀b∈fp',b∈fp i:=λb hb=>by rw[hfp];exact mem_cons_of_mem _ hb
 have na:∀b∈f',b≠a:=(by grind)
 have hil:i<env.length:=(List.getElem?_eq_some_iff.mp eo).1;have nea:∀b u,H b=some u->(F b\/Z.B b\/NoL b\/jb u)->b≠a:=λb u e h z=>by
  subst z;rcases h with h|h|h|h
  .exact(S.dis i _ ha).1 h
  .exact S.bow _ h ⟨i,ha⟩
  .exact h
  .rw[hl]at e;cases e;exact h
 refine S.mut hil hv ha ?_ (nodup_cons.mpr ⟨λz=>na a z rfl,nd⟩) (λb hb=>?_) (λb hb=>?_) (λb hb j hj=>?_) λh0 h1=>?_
 .unfold Rel;exact⟨a,us,f',rfl,cw,RelL.tr (λ_ h=>h) (λ_ h=>h) (λ_ h=>h) (λb u e h=>by rw[aV (nea b u e h)];exact e) (λb hb u e=>by rw[aV (na b hb)];exact e) r,rfl⟩
 .rcases mem_cons.mp hb with rfl|hb
  .exact(S.dis i _ ha).1
  .rcases hf b hb with h|h
   .exact(S.dis i b (sub b h)).1
   .exact h.1
 .grind[cG,aA,cC,Gr]
 .grind[cG,aA,cC,Gr]
 .subst h0;unfold dR at h1;rw[eo]at h1;cases h1
theorem aA.lst{i:Nat}{xs:Jn}(S:aA T Z F H Y env fp)(eo:env[i]?=some (some (.lst .own xs))):∃a ws fp',Y[i]?=some (some (.ref a))/\H a=some (.lst ws)/\RelL T F Z.B NoL H xs ws fp'/\fp i=a::fp':=by obtain⟨v,h1,h2⟩:=S.rel i _ eo;unfold Rel at h2;obtain⟨a,ws,fp',rfl,hl,hr,hf⟩:=h2;exact⟨a,ws,fp',h1,hl,hr,hf⟩
theorem aA.beside{f1:Jh}(S:aA T Z F H Y env fp)(g:Gr F H F1 H1)(h1:∀ a ∈ f1,¬ F1 a)(h3:∀ a ∈ f1,H a=none):∀ b ∈ f1,¬ F1 b/\(Z.H0 b=none \/ Z.fp0 b)/\∀ j,b ∉ fp j:=λb hb=>⟨h1 b hb,S.hp.newE h3 b hb,λj hj=>by
 obtain⟨_,o,e⟩:=S.dis j b hj;rw[h3 b hb]at e;cases e⟩
def dP(i:Nat)(e:ME):MS:=λenv=>match e env with
 | .ok v=>(match env[i]? with
  |some (some (.lst .own xs))=>if v.Jw&&decide (xs.length<10000000)then .next (env.set i (some (.lst .own (xs++[v]))))else .stuck
  |_=>.stuck)
 | .exc c=>(match env[i]? with
  |some (some (.lst .own _))=>.exc c env
  |_=>.stuck)
 |.stuck=>.stuck
theorem uF{i:Nat}{x:Str}{e:Expr}{m:ME}{pos px apos cpos:Pos}(hK:X.K=T.K)(hN:X.N[i]?=some x)(hv:Vis X.env.scope x)(he:SE X T W e m)
  (hs:swapsWith (.Call (.Attribute (.Name x px) "append" apos) [e] [] cpos) none pos.line X.env=pure false:=by rfl) (hst:starEach [e] X.env=[(false,eval e X.env)]:=by rfl)
  (hfew:((backTo cpos (starEach [e] X.env)).all (λx=>!x.1)&&(backToKw cpos (keywordEach [] X.env)).all (λx=>x.1.isSome)&&decide ([e].length+([]:List Keyword).length+(if([]:List Keyword).isEmpty then 0 else 1)<30))=true:=by rfl)
  (hline:(apos.endLine==cpos.line)=true:=by rfl) (hd:(x ==("__debug__":Str))=false:=by decide) (hcd:(x ==("__classdict__":Str))=false:=by decide) :
  SS X T W (.Expr (.Call (.Attribute (.Name x px) "append" apos) [e] [] cpos) pos) (dP i m):=
 PS.wk (ow (pos:=pos) (Gc (cpos:=cpos) (apos:=apos) PySem.F.plainAttrs_list PySem.F.slot_list_append PySem.F.type_list_append nM (kf (pos:=px) hN hv hd hcd) (aa he af hst) rfl hfew hline hst) hs) λD Y H hz1=>by
  obtain⟨Z,F,env,fp,S,q⟩:=hz1;unfold dP at q;cases em:m env with
  |stuck=>rw[em]at q;exact q.elim
  |exc c=>
   rw[em]at q;dsimp only at q;split at q
   .rename_i xs eo
    obtain⟨a,ws,fp',h1,hl,hr,hf⟩:=S.lst eo;refine⟨_,h1,.inl ⟨rfl,ws,by rw[hK];exact SqL.of hl⟩,Z,F,env,fp,S,?_⟩;unfold ae;rw[em];exact λH' x=>q F H' Y fp (S.grow (Gr.same S.hp.ft x))
   .exact q.elim
  |ok v=>
   rw[em]at q;dsimp only at q;split at q
   .rename_i xs eo
    split at q
    .rename_i hc
     simp only[and_eq_true,decide_eq_true_eq]at hc;obtain⟨a,ws,fp',h1,hl,hr,hf⟩:=S.lst eo;refine⟨_,h1,.inl ⟨rfl,ws,by rw[hK];exact SqL.of hl⟩,Z,F,env,fp,S,?_⟩;unfold ae am;rw[em];intro vs H1 F1 f1 g r n1 d1 w1;obtain⟨u,rfl,ru⟩:=r.one;have S1:=S.grow g;have hl1:=g.ext a _ hl;refine⟨a,ws,u,rfl,rfl,hl1,?_,?_⟩
     .rw[<- hr.length,sizeLine_eq];omega
     .have rone:RelL T F1 Z.B NoL H1 [v] [u] f1:=by unfold RelL;exact⟨u,[],f1,[],rfl,Rel.noL (by simpa[PV.Jw]using hc.1) ru,by unfold RelL;exact⟨rfl,rfl⟩,by simp⟩
      refine q F1 _ Y _ (S1.mutL (v:=u) eo h1 hf (RelL.append (hr.ext g.ext g.mono) rone) ?_ (λb hb=>?_) hl1)
      .have ndi:(a::fp').Nodup:=by rw[<- hf];exact S.nd i
       refine nodup_append.mpr ⟨(nodup_cons.mp ndi).2,d1,λb hb b' hb' z=>?_⟩;subst z;exact(S.beside g n1 w1 b hb').2.2 i (by rw[hf];exact mem_cons_of_mem _ hb)
      .rcases mem_append.mp hb with hb|hb
       .exact .inl hb
       .exact .inr (S.beside g n1 w1 b hb)
    .exact q.elim
   .exact q.elim
def f9(i:Nat)(k e:ME):MS:=λenv=>match e env with
 | .ok v=>(match env[i]? with
  | some (some (.lst .own xs))=>(match k env with
   | .ok (.int j)=>(match ixN xs.length j with
    |some n=>if v.Jw then .next (env.set i (some (.lst .own (xs.set n v))))else .stuck
    |none=>.stuck)
   |_=>.stuck)
  |_=>.stuck)
 |.exc c=>.exc c env
 |.stuck=>.stuck
theorem RelL.set{y:PV}{w:V}{g:Jh}(ry:Rel T F B L H y w g):∀{xs:Jn}{vs:Jl}{f:Jh} (n:Nat),RelL T F B L H xs vs f->(f++g).Nodup->∃f',RelL T F B L H (xs.set n y) (vs.set n w) f'/\f'.Nodup/\∀b∈f',b∈f\/b∈g
 | [],vs,f,n,h,nd=>by unfold RelL at h;obtain⟨rfl,rfl⟩:=h;exact⟨[],by simp[RelL],nodup_nil,λ_ z=>(nomatch z)⟩
 |x::xs,_,_,0,h,nd=>by
  unfold RelL at h;obtain⟨v,ws,f1,f2,rfl,h1,h2,rfl⟩:=h;obtain⟨n1,n2,n3⟩:=nodup_append.mp nd;obtain⟨m1,m2,m3⟩:=nodup_append.mp n1;refine⟨g++f2,?_,(by grind),λb hb=>?_⟩
  .rw[List.set_cons_zero,List.set_cons_zero];unfold RelL;exact⟨w,ws,g,f2,rfl,ry,h2,rfl⟩
  grind
 |x::xs,_,_,n+1,h,nd=>by
  unfold RelL at h;obtain⟨v,ws,f1,f2,rfl,h1,h2,rfl⟩:=h;obtain⟨n1,n2,n3⟩:=nodup_append.mp nd;obtain⟨m1,m2,m3⟩:=nodup_append.mp n1;obtain⟨f',r,d,s⟩:=RelL.set ry n h2 (nodup_append.mpr ⟨m2,n2,λa ha b hb=>n3 a (mem_append_right _ ha) b hb⟩);refine⟨f1++f',?_,nodup_append.mpr ⟨m1,d,λa ha b hb z=>?_⟩,λb hb=>?_⟩
  .rw[List.set_cons_succ,List.set_cons_succ];unfold RelL;exact⟨v,_,f1,f',rfl,h1,r,rfl⟩
  .grind
  grind
theorem jv{i:Nat}{x:Str}{k e:Expr}{mk me:ME}{pos px tpos:Pos}(hN:X.N[i]?=some x)(hv:Vis X.env.scope x)(hk:SE X T W k mk)(he:SE X T W e me)
  (ha:∀ v,assign (.Subscript (.Name x px) k tpos) X.env v=(do
   let ov <- holding [v] (eval (.Name x px) X.env)
   let iv <- holding [v,ov] (eval k X.env)
   standAt tpos
   holding [v,ov,iv] (setItem ov iv v)
   release [v,ov,iv] []):=by intro _;rfl)
  (hs:swapsWithSole [.Subscript (.Name x px) k tpos] e pos.line X.env=pure false:=by rfl) (hw:swappedStores [.Subscript (.Name x px) k tpos] e X.env=pure none:=by rfl)
  (h1:(assignEach [.Subscript (.Name x px) k tpos] X.env).map (·.2)=[assign (.Subscript (.Name x px) k tpos) X.env]:=by rfl) (hd:(x ==("__debug__":Str))=false:=by decide) (hcd:(x ==("__classdict__":Str))=false:=by decide) :
  SS X T W (.Assign [.Subscript (.Name x px) k tpos] e pos) (f9 i mk me):=
 PS.wk (wp (pos:=pos) he (CW (pos:=tpos) (kf (pos:=px) hN hv hd hcd) hk vZ ha) hs hw h1) λD Y H hz1=>by
  obtain⟨Z,F,env,fp,S,q⟩:=hz1;unfold f9 at q;refine tE.bind S (λc e H' x=>?_) (λe=>by rw[e]at q;exact q) λpv v H1 F1 f1 e g r n1 d1 w1=>?_
  .rw[e]at q;exact q F H' Y fp (S.grow (Gr.same S.hp.ft x))
  .rw[e]at q;dsimp only at q;split at q
   .rename_i xs eo
    have S1:=S.grow g;obtain⟨a,ws,fp',h1,hl,hr,hf⟩:=S1.lst eo;cases ek:mk env with
    |stuck|exc c=>rw[ek]at q;exact q.elim
    |ok kv=>
     rw[ek]at q;refine⟨_,h1,Z,F1,env,fp,S1,?_⟩;rw[ek];intro u H2 F2 f2 g2 r2 _ _ _;cases kv with
     |int j=>
      dsimp only at q;unfold Rel at r2;obtain⟨rfl,_⟩:=r2;cases en:ixN xs.length j with
      |none=>rw[en]at q;exact q.elim
      |some n=>
       rw[en]at q;dsimp only at q;split at q
       .rename_i hln
        have S2:=S1.grow g2;have hr2:=hr.ext g2.ext g2.mono;have ndi:(a::fp').Nodup:=by rw[<- hf];exact S.nd i
        have g12:=g.trans g2;have nn:∀b∈f1,¬F2 b:=λb hb z=>by
         rcases g2.only b z with z|z
         .exact n1 b hb z
         .obtain⟨o,ho⟩:=r.there b hb;rw[ho]at z;cases z
        obtain ⟨f',r',nd',sub'⟩:=RelL.set (T:=T) (Rel.noL (L':=NoL) (by simpa [PV.Jw] using hln) (r.ext g2.ext g2.mono)) n hr2 (nodup_append.mpr ⟨(nodup_cons.mp ndi).2,d1,λb hb b' hb' z=>by
         subst z;exact(S.beside g12 nn w1 b hb').2.2 i (by rw[hf];exact mem_cons_of_mem _ hb)⟩)
        refine⟨a,ws,j,n,rfl,rfl,g2.ext a _ hl,by rw[<- hr.length];exact en,?_⟩;refine q F2 _ Y _ (S2.mutL (v:=v) eo h1 hf r' nd' (λb hb=>?_) (g2.ext a _ hl));rcases sub' b hb with h|h
        .exact .inl h
        .exact .inr (S.beside g12 nn w1 b h)
       .exact q.elim
     |_=>exact q.elim
   .exact q.elim
end
def AI(i:Nat):Str:=⟨#[1114112+i]⟩
def jc(l:Ji)(i:Nat):Str:=match l[i]? with
 |some x=>x
 |none=>AI i
def ke(x:Str):Bool:=x.cps.all λc=>decide (c<1114112)
theorem f8(i:Nat):ke (AI i)=false:=by simp[ke,AI]
theorem vE(nd:l.Nodup)(h:l.all ke=true)(i j:Nat)(e:jc l i=jc l j):i=j:=by
 have pl:∀(i:Nat) x,l[i]?=some x->ke x=true:=λi x hx=>all_eq_true.mp h x (List.mem_of_getElem? hx);unfold jc at e;cases ei:l[i]? with
 |some x=>
  cases ej:l[j]? with
  |some y=>rw[ei,ej]at e;dsimp only at e;subst e;obtain⟨h1,e1⟩:=List.getElem?_eq_some_iff.mp ei;obtain⟨h2,e2⟩:=List.getElem?_eq_some_iff.mp ej;exact(getElem_inj nd).mp (e1.trans e2.symm)
  |none=>rw[ei,ej]at e;dsimp only at e;have:=pl i x ei;rw[e,f8]at this;cases this
 |none=>
  cases ej:l[j]? with
  |some y=>rw[ei,ej]at e;dsimp only at e;have:=pl j y ej;rw[<- e,f8]at this;cases this
  |none=>rw[ei,ej]at e;dsimp only at e;simpa[AI]using e
theorem qY(hp:ke m=true)(hm:m∉l)(k:Nat):jc l k≠m:=by
 unfold jc;cases e:l[k]? with
 |some x=>exact λz=>hm (z▸List.mem_of_getElem? e)
 |none=>intro z;dsimp only at z;rw[<- z,f8]at hp;cases hp
structure Ctx(X:Cx)(T:Tb)(W:Nat->St->Jm)(k:Nat):Prop where
 hK:X.K=T.K
 calm:X.calm=true
 room:er k X.A
 xf:XF X T W
 po:PassesOwn (model X.prog X.w) X.A X.env X.xe
theorem Ctx.hu(c:Ctx X T W k):X.A.units+64<cLine:=c.room.units
theorem Ctx.hu2(c:Ctx X T W k):X.A.units+66<cLine:=by have:=c.room.un;omega
theorem o4
  (hr:er k (A.deeper (PyProof.Rows.envOfC qual scope s.heap.objs.size f cd))):Ctx (ef (CXP P w) P w T.K mg base N qual scope f cd A outer s H E) T (WD T E) k:=⟨rfl,rfl,hr,Cb,PassesOwn.leaving⟩
theorem Ctx.comp(c:Ctx X T W k):Ctx (cxC X scope C N s H ex) T WF k:=⟨c.hK,c.calm,c.room,λ_ _ _ _ _ _ _ _ _ _ h=>h.elim,PassesOwn.never⟩
def mF(scD scope:Scope)(NX:Ji)(caps:List Nat)(N tn:Ji):Bool:=
 decide (scope.kind=.function)&&scope.names.all (λy=>decide (y.2=.cell->scope.names.lookup y.1=some .cell))&&scope.names.all (λy=>decide (y.2=.local->scope.names.lookup y.1=some .local)) &&
 scope.names.all (λy=>decide (y.2=.free->scD.names.lookup y.1=some .cell\/scD.names.lookup y.1=some .free))&&decide (N=caps.map (λi=>NX.getD i "")++ tn)&&caps.all (λi=>decide (i<NX.length)) &&
 caps.all (λi=>match NX[i]? with|some x=>decide ((x,NameKind.free)∈ scope.names/\scope.names.lookup x=some .free)|none=>false)&&decide N.Nodup
theorem By(h:mF scD scope NX caps N tn=true)(hs:X.env.scope=scD)(hN:X.N=NX):eQ X scope caps N tn:=by simp only[mF,and_eq_true,decide_eq_true_eq,all_eq_true]at h;obtain⟨⟨⟨⟨⟨⟨⟨h1,h2⟩,h3⟩,h4⟩,h5⟩,h6⟩,h7⟩,h9⟩:=h;subst hs hN;refine⟨h1,h2,h3,h4,h5,h6,λi hi x hx=>?_,h9⟩;have:=h7 i hi;rw[hx]at this;simpa using this
section
variable{X:Cx}{T:Tb}{W:Nat->St->Jm}
theorem sv(i:Nat)(hN:X.N[i]?=some x:=by rfl)(hv:Vis X.env.scope x:=by first|exact Or.inl rfl|exact Or.inr (Or.inl rfl)|exact Or.inr (Or.inr rfl))(hd:(x ==("__debug__":Str))=false:=by decide)
  (hcd:(x ==("__classdict__":Str))=false:=by decide):SE X T W (.Name x pos) (ac i):=Ct hN hv hd hcd
def tyP:PV->String
 |.non=>"NoneType"
 |.bl _=>"bool"
 |.int _=>"int"
 |.str _=>"str"
 |.lst _ _=>"list"
 |.tup _=>"tuple"
 |_=>""
def k6(t c:String):Bool:=t==c ||(t=="bool"&&c=="int")
def p7(c:String):PV->Jo:=λx=>if tyP x="" then .stuck else .ok (.bl (k6 (tyP x) c))
def pG(m:ME)(c:String):ME:=λenv=>(m env).bind (p7 c)
def vG(K:PySem.W.Frag)(c:String):Prop:=∀t∈["NoneType","bool","int","str","list","tuple"],kitOne K (.type t) (.type c)=some (k6 t c)
theorem A_(hK:X.K=T.K)(hc:vG T.K c)(I:L2.Inv X js Y H s)(r:Rel T F B L H x v f)(ru:bO v u)(hx:tyP x≠"")
  (h:∀tk,Q (.bool (k6 (tyP x) c)) {s with toks:=tk}):wpAny (model X.prog X.w) A (call (.builtin "isinstance") [u,.type c]) Q E s:=by
 have kin:T.K.In s.heap:=by rw[<- hK];exact I.kIn
 cases x with
 |non=>unfold Rel at r;obtain⟨rfl,_⟩:=r;cases ru;exact kia_one PySem.W.kitx_none kin True.intro (hc _ (by simp)) (λz=>nomatch z) h
 |bl b=>unfold Rel at r;obtain⟨rfl,_⟩:=r;cases ru;exact kia_one PySem.W.kitx_bool kin True.intro (hc _ (by simp)) (λz=>nomatch z) h
 |int i=>unfold Rel at r;obtain⟨rfl,_⟩:=r;obtain⟨t,rfl⟩:=ru;exact kia_one PySem.W.kitx_int kin True.intro (hc _ (by simp)) (λz=>nomatch z) h
 |str i=>unfold Rel at r;obtain⟨rfl,_⟩:=r;obtain⟨t,rfl⟩:=ru;exact kia_one PySem.W.kitx_str kin True.intro (hc _ (by simp)) (λz=>nomatch z) h
 |lst f xs=>unfold Rel at r;obtain⟨a,vs,fp',rfl,hl,hr,_⟩:=r;cases ru;obtain⟨its,_,⟨o,n,ho,hcl,_,_⟩,_⟩:=I.list (by rw[hK];exact hl.sq);exact kia_one PySem.W.kitx_list kin ⟨_,ho,hcl⟩ (hc _ (by simp)) (λz=>nomatch z) h
 |tup xs=>unfold Rel at r;obtain⟨a,vs,rfl,hl,hr⟩:=r;cases ru;obtain⟨its,_,⟨o,ho,hcl,_⟩,_⟩:=I.tuple (by rw[hK];exact hl);exact kia_one PySem.W.kitx_tuple kin ⟨_,ho,hcl⟩ (hc _ (by simp)) (λz=>nomatch z) h
 |obj f c ks xs|exc c|box k xs=>exact absurd rfl hx
theorem lC(hK:X.K=T.K)(hc:vG T.K c)(hg:Gl X "isinstance")(hm:X.mg "isinstance"=none)(hb:bootBuiltins "isinstance"=some (.builtin "isinstance"))(hgc:Gl X cn)(hmc:X.mg cn=none)(hvc:bootBuiltins cn=some (.type c))(he:SE X T W e m)
  (hcn:cn≠"__name__":=by decide) (hcd:(cn ==("__debug__":Str))=false:=by decide) (hst:starEach [e,.Name cn pc] X.env=[(false,eval e X.env),(false,eval (.Name cn pc) X.env)]:=by rfl)
  (hst2:starEach [.Name cn pc] X.env=[(false,eval (.Name cn pc) X.env)]:=by rfl):SE X T W (.Call (.Name "isinstance" p) [e,.Name cn pc] [] pos) (pG m c):=by
 have ht:PE X (.Name cn pc) (tC (.ty c)):=AA hgc hmc hvc rfl hcn hcd;have hcall:fQ X (.builtin "isinstance") (λvs H Q=>∃v x F B L f,vs=[v,.ty c]/\Rel T F B L H x v f/\tyP x≠"" /\ Q (.bl (k6 (tyP x) c)) H):=by
  intro js s Y H vs us Q I rv h;obtain⟨v,x,F,B,L,f,rfl,r,hx,q⟩:=h;cases rv with
  |cons r1 r2=>
   cases r2 with
   |cons r3 r4=>cases r4;cases r3;exact A_ hK hc I r r1 hx λtk=>⟨.bl _,H,I.tok tk,rfl,q⟩
 have hargs:PA X [e,.Name cn pc] (sT (tE T W m) (sT (tC (.ty c)) Ch)):=eR he (eR ht iA hst2) (by rw[hst,hst2]);refine PE.wk (lI (pos:=pos) (p:=p) hcall hg hm hb hargs (he:=by rw[hst,hst2]) (hpl:=by rw[hst2];rfl)) λY H Q hz1=>?_;obtain⟨Z,F,env,fp,S,q⟩:=hz1;unfold pG at q;refine tE.bq S λx v H1 F1 f1 e1 g1 r1 n1 d1 w1=>?_;rw[e1]at q;simp only[Res.Jz,p7]at q;by_cases hx:tyP x=""
 .rw[if_pos hx]at q;exact q.elim
 .rw[if_neg hx]at q;exact⟨v,x,F1,Z.B,Own fp,f1,rfl,r1,hx,q.scal g1 ka⟩
end
theorem v4(hg:Gl X x)(hm:X.mg x=some (.int i t))(hd:(x ==("__debug__":Str))=false:=by decide):SE X T W (.Name x pos) (mC (.int i)):=
 lA (v:=.int i) (Ay hg hm ⟨t,rfl⟩ hd) λ_ _ _ _=>fR
end
end PR
namespace PR
open PySem PySem.Spec
structure IV(K:PySem.W.Frag)(C:Addr):Prop where
 ga:PySem.W.findIn K (.ref C) "__getattribute__"=some (some (.builtin "BaseException.__getattribute__"))
 gt:PySem.W.findIn K (.ref C) "__getattr__"=some none
 ca:PySem.W.findIn K (.ref C) "__class__"=some (some (.builtin "object.__class__"))
 sb:mroIn K C (.type "BaseException")=some true
 so:mroIn K C (.type "object")=some true
 cl:(clsIn K C).isSome=true
end PR
namespace PR
open PySem PySem.Spec L2
theorem iw(F B L:Je)(H:Hp):RelL T F B L H [] [] []:=by unfold RelL;exact⟨rfl,rfl⟩
def bU(disp:Nat->Option (Jn->Jo))(o:ME)(ms:MA):ME:=λenv=>(o env).bind λov=>match ov with
 |.obj _ c _ _=>match disp c with
  |some m=>(ms env).bind λxs=>aB m (ov::xs)
  |none=>.stuck
 |_=>.stuck
theorem AZ(disp:Nat->Option (Jn->Jo))(o:ME)(ms:MA):t_ disp [] o ms=bU disp o ms:=by
 funext env;unfold t_ bU;congr 1;funext ov;cases ov with
 |obj f c ks vs=>simp only[append_nil,List.cons_append]<;>rfl
 |_=>rfl
def je(c:Nat)(m:Jn->Jo)(ms:MA):ME:=ap (λxs=>aB m (.obj .own c [] []::xs)) ms
section
variable{X:Cx}{T:Tb}{W:Nat->St->Jm}
theorem pR
  (G:da X.prog X.w X.K X.mg X.base (CXP X.prog X.w) k f fd ps (spM T ps.length m)) (cx:Ctx X T W kk) (hk:k<=kk) (hg:Gl X x) (hm:X.mg x=some (.ref f)) (hkp:PySem.W.keepIn X.K (.ref f)=true) (hb:fe X.K fd ps [])
  (hn:hV ms n) (hps:n=ps.length) (ha:SA X T W (e::es) ms)
  (hdb:(x ==("__debug__":Str))=false:=by decide) (he:starEach (e::es) X.env=(false,eval e X.env)::starEach es X.env:=by rfl) (hpl:(backTo pos (starEach es X.env)).any (·.1)=false:=by rfl) :
  SE X T W (.Call (.Name x p) (e::es) [] pos) (ap (aB m) ms):=by
 have h:=Af (dvs:=[]) (dps:=[]) (p:=p) (pos:=pos) G (cx.room.mono hk) hg hm hkp hb .nil iw cx.xf (λenv xs q=>by rw[hn env xs q];exact hps) ha hdb he hpl;simpa using h
theorem Cy
  (cx:Ctx X T W kk) (hc:∀c<T.nc,Cls T.K (T.cls c)) (hm:∀k,T.att k≠mn) (D:fv X T k mn ps [] disp) (hk:k<=kk)
  (hn:hV ms n) (hps:n+1=ps.length) (ho:SE X T W o mo) (ha:SA X T W (e::es) ms)
  (hst:starEach (e::es) X.env=(false,eval e X.env)::starEach es X.env:=by rfl) (hpl:(backTo pos (starEach es X.env)).any (·.1)=false:=by rfl)
  (ht:eval (.Call (.Attribute o mn apos) (e::es) [] pos) X.env=(do
   let ov <- eval o X.env
   standAt apos.atName
   let(f,first) <- holding [ov] (getMethod ov mn pl)
   callWith pos f first (backTo pos (starEach (e::es) X.env)) (backToKw pos (keywordEach [] X.env))):=by rfl) :
  SE X T W (.Call (.Attribute o mn apos) (e::es) [] pos) (bU disp mo ms):=by
 rw[<- AZ];exact Aa (pl:=pl) (dvs:=[]) (dps:=[]) cx.hK hc hm D (cx.room.mono hk) .nil iw cx.xf (λenv xs q=>by rw[hn env xs q];exact hps) ho ha hst hpl ht
theorem Ab
  (cx:Ctx X T W kk) (hc:∀c<T.nc,Cls T.K (T.cls c)) (hm:∀k,T.att k≠mn) (D:fv X T k mn ps [] disp) (hk:k<=kk) (hps:ps.length=1) (ho:SE X T W o mo)
  (ht:eval (.Call (.Attribute o mn apos) [] [] pos) X.env=(do
   let ov <- eval o X.env
   standAt apos.atName
   let(f,first) <- holding [ov] (getMethod ov mn pl)
   callWith pos f first (backTo pos (starEach [] X.env)) (backToKw pos (keywordEach [] X.env))):=by rfl) :
  SE X T W (.Call (.Attribute o mn apos) [] [] pos) (bU disp mo am):=by
 intro js s Y H Q I h;obtain⟨Z,F,env,fp,S,q⟩:=h;unfold bU at q;refine methodCall_KW (pl:=pl) (thn (ho js s Y H (λv H1=>∃ ov F1 f1,mo env=.ok ov/\Gr F H F1 H1/\Rel T F1 Z.B (Own fp) H1 ov v f1/\(∀ a ∈ f1,¬ F1 a)/\f1.Nodup/\∀ a ∈ f1,H a=none) I
  (tE.bq S λov v H1 F1 f1 e1 g1 r1 n1 d1 w1=>⟨ov,F1,f1,e1,g1,r1,n1,d1,w1⟩)) λu s1 zz=>?_) ht
 obtain⟨v,H1,I1,ru,ov,F1,f1,e1,g1,r1,n1,d1,w1⟩:=zz;rw[e1]at q;simp only[Res.Jz]at q;by_cases hobj:∃fl c ks xs m,ov=.obj fl c ks xs/\disp c=some m
 .obtain⟨fl,c,ks,ys,m,rfl,em⟩:=hobj;dsimp only at q;rw[em]at q;simp only[am,Res.Jz]at q;refine t8 cx.hK hc hm D em r1 I1 ru λa f fd eu hkp hb G=>?_;subst eu;refine PySem.W.callWith_K0 (first:=[.ref a]) I1.kIn hkp ?_;exact v6 (xs:=[.obj fl c ks ys]) (vs:=[v]) (us:=[.ref a]) (fx:=f1) (dvs:=[]) (dps:=[]) G (cx.room.mono hk) hb .nil iw cx.xf S g1 (by unfold RelL;exact⟨v,[],f1,[],rfl,r1,iw _ _ _ _,by simp⟩) n1 d1 w1 (by simpa using q) I1 (.cons ru .nil) (by simp[hps])
 .exfalso;cases ov with
  |obj fl c ks ys=>
   cases em:disp c with
   |none=>simp only[em]at q;exact q
   |some m=>exact hobj ⟨fl,c,ks,ys,m,rfl,em⟩
  |_=>exact q
theorem Cw
  (M:Mk X.K (T.cls c) f) (hcn:c<T.nc) (G:da X.prog X.w X.K X.mg X.base (CXP X.prog X.w) k f fd ps (spI T ps.length m)) (cx:Ctx X T W kk) (hk:k+1<=kk) (hg:Gl X x) (hm:X.mg x=some (.ref (T.cls c))) (hb:fe X.K fd ps [])
  (hn:hV ms n) (hps:n+1=ps.length) (ha:SA X T W (e::es) ms)
  (hdb:(x ==("__debug__":Str))=false:=by decide) (he:starEach (e::es) X.env=(false,eval e X.env)::starEach es X.env:=by rfl) (hpl:(backTo pos (starEach es X.env)).any (·.1)=false:=by rfl) :
  SE X T W (.Call (.Name x p) (e::es) [] pos) (je c m ms):=by
 have h:=Ad (dvs:=[]) (dps:=[]) (p:=p) (pos:=pos) M hcn G (cx.room.mono hk) hg hm hb .nil iw cx.xf hn hps ha hdb he hpl;unfold je;simpa using h
end
theorem Bj(X:K.In h)(q:excIn K C [.type "ValueError",.type "Exception",.type "BaseException",.type "object"] "ValueError.__new__"=true) :
  ∃bm N nm q bs hdct sn sub ab col dd k0 k1 k2 k3 k5 mN,h.get? C=some (excClassObj nm q C N bs bm hdct sn sub ab col dd k0 k1 k2 k3 k5 "ValueError.__new__")/\h.Ns N mN/\mN "__init__"=none /\
   OwnTail h [.type "ValueError",.type "Exception",.type "BaseException",.type "object"] bm:=by
 unfold excIn at q;split at q
 .rename_i dd cd sl ho
  split at q
  .rename_i C' bm k0 k1 k2 k3 n k5 hm hs
   simp only[and_eq_true,beq_iff_eq,not_eq_true']at q;obtain⟨⟨⟨⟨⟨rfl,rfl⟩,hdel⟩,ht⟩,hok⟩,hni⟩:=q;cases cd;cases sl;dsimp only at hm hdel hok hni hs;subst hm hdel hs;exact⟨bm,_,_,_,_,_,_,_,_,_,dd,k0,k1,k2,k3,k5,_,X _ _ ho,.of_isNs (PySem.W.isNs_of_in X hok),PySem.W.nsMap_none_of_in X hok hni,PySem.W.tail_of_in X ht⟩
  .cases q
 .cases q
def bA(c:Nat)(ms:MA):MS:=λenv=>match ms env with
 |.ok _=>.exc c env
 |.exc k=>.exc k env
 |.stuck=>.stuck
theorem uE(cx:Ctx X T W k)(hm:X.mg x=some (.ref (T.xcl c)))(hB:T.K.In X.base)
  (hE:excIn T.K (T.xcl c) [.type "ValueError",.type "Exception",.type "BaseException",.type "object"] "ValueError.__new__"=true) (hx:XM X T W) (hg:Gl X x) (hn:hV ms n) (hn2:n<=100) (ha:SA X T W (e::es) ms)
  (hd:(x ==("__debug__":Str))=false:=by decide)
  (he:starEach (e::es) X.env=(false,eval e X.env)::starEach es X.env:=by rfl) (hpl:(backTo cpos (starEach es X.env)).any (·.1)=false:=by rfl) :
  SS X T W (.Raise (some (.Call (.Name x np) (e::es) [] cpos)) none pos) (bA c ms):=
 vV (np:=np) (cpos:=cpos) (pos:=pos) ⟨hm,Bj hB hE⟩ hx cx.calm hg ha (λenv pvs q=>by rw[hn env pvs q];exact hn2) hd he hpl
structure Scr(fl:Fl):Prop where
 is:fl=.frz\/fl=.mod
theorem Scr.Jp(h:Scr fl):fl.Jp=fl:=by rcases h.is with rfl|rfl<;>rfl
theorem Scr.Jq(h:Scr fl):fl.Jq=fl:=by rcases h.is with rfl|rfl<;>rfl
theorem Scr.Js(h:Scr fl):fl.Js=fl:=by rcases h.is with rfl|rfl<;>rfl
theorem j_:∀ns:Jf,RelL T F B L H (ns.map PV.int) (ns.map V.int) []
 | []=>iw _ _ _ _
 |n::ns=>by rw[map_cons,map_cons];unfold RelL;exact⟨_,_,[],[],rfl,fR,j_ ns,rfl⟩
def s_(K:PySem.W.Frag)(tb:Addr->Option (Jk):=λ_=>none):Sp:=λvs H Q _=>(∀b ps,tb b=some ps->H b=some (.tbl ps))/\∃(a:Addr) (ns:Jf),vs=[.ref a]/\SqL K H a (ns.map V.int)/\ns.length<=63/\∀v H',v=.bl true->Q v H'
theorem DV(G:da P w T.K mg base (CXP P w) k f fd [x] (spM T 1 m))
  (h:∀(fl:Fl) (ns:Jf),Scr fl->ns.length<=63->m [.lst fl (ns.map .int)]=.ok (.bl true)):da P w T.K mg base (CXP P w) k f fd [x] (s_ T.K T.tb):=by
 refine G.imp λvs H Q E q=>?_;obtain⟨hT,a,ns,rfl,hS,hl,hQ⟩:=q;have hTb:BG T H (· ∈([]:Jh)):=λb ps h=>⟨hT b ps h,λz=>nomatch z⟩
 have fin:∀fl,Scr fl->∀Z:Zn,GF T Z Q E (m [.lst fl (ns.map .int)]):=λfl hf Z=>by rw[h fl ns hf hl];intro F H' v f' _ r _ _ _;unfold Rel at r;exact hQ v H' r.1
 refine⟨rfl,?_⟩;rcases hS with hS|hS
 .refine⟨[.lst .frz (ns.map .int)],(·=a),λ_=>False,[],⟨?_,nodup_nil,λ_ z=>(nomatch z),⟨λ_ z=>False.elim z,hTb⟩,λb hb=>?_⟩,fin _ ⟨.inl rfl⟩ _⟩
  .unfold RelL;refine⟨_,_,[],[],rfl,?_,iw _ _ _ _,rfl⟩;unfold Rel;exact⟨a,_,[],rfl,⟨rfl,hS⟩,j_ ns,rfl,rfl⟩
  .subst hb;rcases hS with e |⟨o,e⟩
   .exact⟨_,e⟩
   .exact⟨_,e⟩
 .refine⟨[.lst .mod (ns.map .int)],λ_=>False,λ_=>False,[],⟨?_,nodup_nil,λ_ z=>(nomatch z),⟨λ_ z=>False.elim z,hTb⟩,λ_ z=>z.elim⟩,fin _ ⟨.inr rfl⟩ _⟩;unfold RelL;refine⟨_,_,[],[],rfl,?_,iw _ _ _ _,rfl⟩;unfold Rel;exact⟨a,_,[],rfl,hS,j_ ns,rfl,rfl⟩
theorem xE{l:PySem.W.OpenLaw}{k:Nat}{x:Str}{q:Program}{loose:Ji}{XP:(Jb)->Heap->Prop}{YP:World->Heap->Prop}{d:DefRec}{K:Params->PySem.W.Frag}(hn:l.most=some 63)(hdf:d.params.defaults=[])(hr:er k callerA)
  (hY:∀(w:World) (h:Heap),YP w h->(K w.params).In h)
  (F:∀ (w:World) (mg:Jb) (fa:Addr) (h:Heap),(K w.params).In h->h.Ns mainGlobals mg->mg d.name=some (.ref fa) ->
   ∃fd:FuncData,(∀(s:Shared) (u:Value),BindsTo s fd ⟨[u],[]⟩ [(x,u)])/\∀base:Heap,(K w.params).In base->base.Ns mainGlobals mg->da l.prog w (K w.params) mg base (CXP l.prog w) k fa fd [x] (s_ (K w.params))) :
  PySem.W.WalkO q loose XP YP l.row.toRowW d [] (λf vs=>PySem.call f vs):=
 L2.zT (n:=63) (k:=k) (x:=x) (CX:=λw=>CXP l.prog w) (sp:=λw=>s_ (K w.params)) hn (by decide) hdf hr hY F (λ_ _ a ns hl _ hS=>⟨λ_ _ z=>(nomatch z),a,ns,rfl,hS,hl,λ_ _ z=>z⟩) λ_ _ _ _ _ ⟨_,_,_,z⟩=>z
theorem A7:vG K "int":=by intro t ht;simp only[mem_cons,not_mem_nil,or_false]at ht;rcases ht with rfl|rfl|rfl|rfl|rfl|rfl<;>kernel_rfl
theorem xG:vG K "bool":=by intro t ht;simp only[mem_cons,not_mem_nil,or_false]at ht;rcases ht with rfl|rfl|rfl|rfl|rfl|rfl<;>kernel_rfl
theorem qo:vG K "list":=by intro t ht;simp only[mem_cons,not_mem_nil,or_false]at ht;rcases ht with rfl|rfl|rfl|rfl|rfl|rfl<;>kernel_rfl
theorem vf:vG K "tuple":=by intro t ht;simp only[mem_cons,not_mem_nil,or_false]at ht;rcases ht with rfl|rfl|rfl|rfl|rfl|rfl<;>kernel_rfl
theorem dL:bootBuiltins "isinstance"=some (.builtin "isinstance"):=by decide +kernel
theorem EH:bootBuiltins "int"=some (.type "int"):=by decide +kernel
theorem BC:bootBuiltins "bool"=some (.type "bool"):=by decide +kernel
theorem j0:bootBuiltins "list"=some (.type "list"):=by decide +kernel
theorem gG:bootBuiltins "tuple"=some (.type "tuple"):=by decide +kernel
def vq(K:PySem.W.Frag)(C:Addr):Bool:=
 decide (PySem.W.findIn K (.ref C) "__getattribute__"=some (some (.builtin "BaseException.__getattribute__")))&&decide (PySem.W.findIn K (.ref C) "__getattr__"=some none) &&
 decide (PySem.W.findIn K (.ref C) "__class__"=some (some (.builtin "object.__class__")))&&decide (mroIn K C (.type "BaseException")=some true)&&decide (mroIn K C (.type "object")=some true)&&(clsIn K C).isSome &&
 excIn K C [.type "ValueError",.type "Exception",.type "BaseException",.type "object"] "ValueError.__new__"
theorem Bk(h:vq K C=true):IV K C/\excIn K C [.type "ValueError",.type "Exception",.type "BaseException",.type "object"] "ValueError.__new__"=true:=by simp only[vq,and_eq_true,decide_eq_true_eq]at h;obtain⟨⟨⟨⟨⟨⟨h1,h2⟩,h3⟩,h4⟩,h5⟩,h6⟩,h7⟩:=h;exact⟨⟨h1,h2,h3,h4,h5,h6⟩,h7⟩
def Aw(l:Jh)(i:Nat):Addr:=l.getD i (l.headD 0)
def p4(l:List Bool)(i:Nat):Bool:=l.getD i (l.headD false)
theorem ww{α:Type}{f:Addr->Option α}{g:α->Bool}{l:Jh}{bs:List Bool}{r:Bool->Option α}(hl:l≠[])(h:l.map f=bs.map r)(i:Nat):f (Aw l i)=r (p4 bs i):=by
 have hlen:l.length=bs.length:=by simpa using congrArg List.length h
 unfold Aw p4;rw[getD_eq_getElem?_getD,getD_eq_getElem?_getD];have key:∀j,(l[j]?).map f=(bs[j]?).map r:=λj=>by rw[<- getElem?_map,<- getElem?_map,h]
 cases e:l[i]? with
 |some C=>
  have:=key i;rw[e]at this;cases e2:bs[i]? with
  |some b=>rw[e2]at this;simpa using this
  |none=>rw[e2]at this;simp at this
 |none=>
  have hb:bs[i]?=none:=by rw[List.getElem?_eq_none_iff]at e ⊢;omega
  rw[hb];cases l with
  |nil=>exact absurd rfl hl
  |cons a l=>
   cases bs with
   |nil=>simp at hlen
   |cons b bs=>simpa using key 0
theorem sQ:∀(xs:Jl) (ys:Jg),xs.length=ys.length->(∀(i:Nat) x y,xs[i]?=some x->ys[i]?=some y->bO x y)->a5 xs ys
 | [],[],_,_=>.nil
 |x::xs,y::ys,hl,h=>.cons (h 0 x y rfl rfl) (sQ xs ys (by simpa using hl) λi a b e1 e2=>h (i+1) a b (by simpa using e1) (by simpa using e2))
 | [],_::_,hl,_|_::_,[],hl,_=>by simp at hl
def bH:Jn->Option (Jf)
 | []=>some []
 |.int i::xs=>(bH xs).map (i::·)
 |_::_=>none
def nS(ns:Jf):Nat:=(firstMet (λi=>ns.getD i 0) ns.length).length
def iU:PV->Jo
 |.lst _ xs=>match bH xs with
  |some ns=>if decide (ns.length<=1000)then .ok (.int (nS ns))else .stuck
  |none=>.stuck
 |_=>.stuck
section
variable{X:Cx}{T:Tb}{W:Nat->St->Jm}{Z:Zn}{F F1 B L:Je}{H H1:Hp}{Y:St}{env:En}{fp:Nat->Jh}
theorem cE:∀{xs:Jn}{vs:Jl}{f:Jh}{ns:Jf},bH xs=some ns->RelL T F B L H xs vs f->vs=ns.map V.int
 | [],_,_,_,e,r=>by cases e;unfold RelL at r;exact r.1
 |.int i::xs,_,_,ns,e,r=>by
  unfold RelL at r;obtain⟨v,ws,f1,f2,rfl,h1,h2,rfl⟩:=r;simp only[bH]at e;cases e2:bH xs with
  |none=>rw[e2]at e;cases e
  |some ms=>rw[e2]at e;cases e;unfold Rel at h1;rw[h1.1,cE e2 h2];rfl
 |.non::_,_,_,_,e,_|.bl _::_,_,_,_,e,_|.str _::_,_,_,_,e,_|.lst _ _::_,_,_,_,e,_|.tup _::_,_,_,_,e,_|.obj _ _ _ _::_,_,_,_,e,_|.exc _::_,_,_,_,e,_|.box _ _::_,_,_,_,e,_=>by simp[bH]at e
theorem gH:∀{ns:Jf}{its:Jg},a5 (ns.map V.int) its->PyProof.Rows.IntsAre its ns
 | [],_,r=>by cases r;exact .nil
 |n::ns,_,r=>by
  cases r with
  |cons h t=>obtain⟨tk,rfl⟩:=h;exact .cons _ _ (gH t)
theorem m6(hc:X.calm=true):fQ X (.type "set") (λxs H Q=>∃p ns,xs=[.ref p]/\SqL X.K H p (ns.map V.int)/\ns.length<=1000/\∀r S,H r=none->Q (.ref r) (upd H r (.set S (nS ns)))):=by
 intro js s Y H xs us Q I rv h;obtain⟨p,ns,rfl,hS,hl,q⟩:=h;obtain⟨u,rfl,rx⟩:=fw rv;cases rx;obtain⟨its,r',pl,hz⟩:=I.list hS;have hlen:=r'.length;rw[length_map]at hlen;refine call_set_list (I.ok.hd hc) pl.isList (ns:=ns) (by simpa using gH r') (by simp only[size_toArray,<- hlen];unfold scanBound;omega) λh' tk hs kp=>?_;have e:its.toArray.size=ns.length:=by simp[hlen]
 rw[e]at hs;exact⟨.ref s.heap.objs.size,_,I.laid (t':=tk) (o:=.set (λk'=>(firstMet (λi=>ns.getD i 0) ns.length).any (·==k')) (nS ns)) (λb o e=>kp b o (lt_size e) e) (Nat.le_refl _) hs,rfl,q _ _ (I.hok.fresh (Nat.le_refl _))⟩
theorem m7:fQ X (.builtin "len") (λxs H Q=>∃r S n,xs=[.ref r]/\H r=some (.set S n)/\Q (.int n) H):=by intro js s Y H xs us Q I rv h;obtain⟨r,S,n,rfl,hr,q⟩:=h;obtain⟨u,rfl,rx⟩:=fw rv;cases rx;obtain⟨o,es,ep,t,ho,hex,hd,_,_,hb,hf,hn⟩:=I.hok r _ hr;have hb':es.size<4096:=hb;exact call_len_set ho hex hd hf () ⟨.int n,H,I.tok _,⟨s.toks+1,by rw[hn]⟩,q⟩
theorem EF:bootBuiltins "set"=some (.type "set"):=by decide +kernel
theorem nC(hK:X.K=T.K)(hc:X.calm=true)(hg:Gl X "len")(hm:X.mg "len"=none)(hg2:Gl X "set")(hm2:X.mg "set"=none)(he:SE X T W e m)
  (hs:starEach [e] X.env=[(false,eval e X.env)]:=by rfl)
  (hs2:starEach [.Call (.Name "set" p2) [e] [] pos2] X.env=[(false,eval (.Call (.Name "set" p2) [e] [] pos2) X.env)]:=by rfl) :
  SE X T W (.Call (.Name "len" p) [.Call (.Name "set" p2) [e] [] pos2] [] pos) (mUn iU m):=by
 refine PE.wk (lI (p:=p) (pos:=pos) m7 hg hm boot_len (eR (nH (p:=p2) (pos:=pos2) (m6 hc) hg2 hm2 EF (eR he iA (by rw[hs];rfl)) (he:=by rw[hs];rfl) (hpl:=rfl)) iA (by rw[hs2];rfl)) (he:=by rw[hs2];rfl) (hpl:=rfl)) λY H Q hz1=>?_;obtain⟨Z,F,env,fp,S,q⟩:=hz1;unfold mUn at q;refine tE.bq S λx v H1 F1 f1 e1 g1 r1 n1 d1 w1=>?_;rw[e1]at q;cases x with
 |lst fl xs=>
  simp only[Res.Jz,iU]at q;cases en:bH xs with
  |none=>rw[en]at q;exact q.elim
  |some ns=>
   rw[en]at q;dsimp only at q;unfold Rel at r1;obtain⟨a,vs,fp',rfl,hl,hr,_⟩:=r1;by_cases hn:decide (ns.length<=1000)=true
   .rw[if_pos hn]at q;have hv:=cE en hr;subst hv;exact⟨a,ns,rfl,by rw[hK];exact hl.sq,of_decide_eq_true hn,λr S hr=>⟨r,S,_,rfl,cw,q.scal (g1.trans (Gr.same g1.dom (Ext.upd hr))) fR⟩⟩
   .rw[if_neg hn]at q;exact q.elim
 |_=>exact q.elim
end
def gx:Jf->Int
 | []=>0
 | [a]=>a
 |a::b::l=>min a (gx (b::l))
def c_:Jf->Int
 | []=>0
 | [a]=>a
 |a::b::l=>max a (c_ (b::l))
theorem gw:∀{l:Jf},l≠[]->gx l∈l/\∀x∈l,gx l<=x
 | [],h=>absurd rfl h
 | [a],_=>by simp[gx]
 |a::b::l,_=>by
  obtain⟨h1,h2⟩:=gw (l:=b::l) (by simp);unfold gx
  grind
theorem iE:∀{l:Jf},l≠[]->c_ l∈l/\∀x∈l,x<=c_ l
 | [],h=>absurd rfl h
 | [a],_=>by simp[c_]
 |a::b::l,_=>by
  obtain⟨h1,h2⟩:=iE (l:=b::l) (by simp);unfold c_;refine⟨?_,λx hx=>?_⟩
  .rcases Int.le_total a (c_ (b::l))with h|h
   .rw[Int.max_eq_right h];exact mem_cons_of_mem _ h1
   .rw[Int.max_eq_left h];exact mem_cons_self
  .rcases mem_cons.mp hx with rfl|hx
   .exact Int.le_max_left _ _
   .exact Int.le_trans (h2 x hx) (Int.le_max_right _ _)
section
variable{X:Cx}{T:Tb}{W:Nat->St->Jm}{Z:Zn}{F F1 B L:Je}{H H1:Hp}{Y:St}{env:En}{fp:Nat->Jh}{js:Jd}{s:Shared}
theorem iJ{h':Heap}{t:Nat}(I:L2.Inv X js Y H s)(k:∀b o,s.heap.get? b=some o->h'.get? b=some o):L2.Inv X js Y H {s with heap:=h',toks:=t}:=I.un (Un.kept k) (I.hok.kept k)
theorem dQ{its:Jg}{ns:Jf}(r:a5 (ns.map V.int) its):∀(i:Nat) (v:Value),its.toArray[i]?=some v->∃t,v=.int (ns.getD i 0) t:=by
 intro i v e;have e':its[i]?=some v:=by simpa using e
 have hi:i<ns.length:=by have h1:=(List.getElem?_eq_some_iff.mp e').1;have h2:=r.length;rw[length_map]at h2;omega
 have:∀{ns:Jf}{its:Jg}{i:Nat}{v:Value},a5 (ns.map V.int) its->its[i]?=some v->∃t,v=.int (ns.getD i 0) t:=by
  intro ns
  induction ns with
  |nil=>intro its i v r e;cases r;simp at e
  |cons n ns ih=>
   intro its i v r e;cases r with
   |cons h t=>
    obtain⟨tk,rfl⟩:=h;cases i with
    |zero=>simp at e;exact⟨tk,by rw[<- e];rfl⟩
    |succ i=>obtain⟨tk',h'⟩:=ih t (by simpa using e);exact⟨tk',by rw[h'];rfl⟩
 exact this r e'
theorem qU{ns:Jf}(h:0<ns.length):ns.getD (argBest (λi j=>decide (ns.getD i 0<ns.getD j 0)) (ns.length-1)) 0=gx ns:=by
 obtain⟨h1,h2⟩:=argBest_lt (λi=>ns.getD i 0) (ns.length-1);obtain⟨m1,m2⟩:=gw (l:=ns) (by intro z;simp[z]at h);refine Int.le_antisymm ?_ (m2 _ ?_)
 .obtain⟨i,hi,e⟩:=getElem_of_mem m1;have:=h2 i ()
  grind
 .rw[getD_eq_getElem?_getD,getElem?_eq_getElem ()];exact List.getElem_mem _
theorem qV{ns:Jf}(h:0<ns.length):ns.getD (argBest (λi j=>decide (ns.getD i 0>ns.getD j 0)) (ns.length-1)) 0=c_ ns:=by
 obtain⟨h1,h2⟩:=argBest_gt (λi=>ns.getD i 0) (ns.length-1);obtain⟨m1,m2⟩:=iE (l:=ns) (by intro z;simp[z]at h);refine Int.le_antisymm (m2 _ ?_) ?_
 .rw[getD_eq_getElem?_getD,getElem?_eq_getElem ()];exact List.getElem_mem _
 .obtain⟨i,hi,e⟩:=getElem_of_mem m1;have:=h2 i ()
  grind
theorem ij{n:Nat}{l I:Addr}(hl:l<n)(e:I=n):∀b∈[I,l],b<n+1:=(by grind)
theorem eU{h h':Heap}{o:Obj}(hk:∀b u,b∉[h.objs.size]->(h.push o).get? b=some u->h'.get? b=some u):∀b u,h.get? b=some u->h'.get? b=some u:=λb u e=>
 hk b u (λhm=>by
  rcases mem_cons.mp hm with z|z
  .exact absurd (z▸lt_size e) (Nat.lt_irrefl _)
  .cases z) (get?_push_of_some _ e)
theorem o_(hc:X.calm=true):fQ X (.builtin "min") (λxs H Q=>∃p ns,xs=[.ref p]/\(SqL X.K H p (ns.map V.int)\/ SqT X.K H p (ns.map V.int))/\0<ns.length/\Q (.int (gx ns)) H):=by
 intro js s Y H xs us Q I rv h;obtain⟨p,ns,rfl,hq,hn,q⟩:=h;obtain⟨u,rfl,rx⟩:=fw rv;cases rx;have hh:=I.ok.hd hc;have key:∀{its:Jg},a5 (ns.map V.int) its->∀{v:Value}{h':Heap}{tk:Nat},its.toArray[argBest (λi j=>decide (ns.getD i 0<ns.getD j 0)) (its.toArray.size-1)]?=some v->(∀b o,s.heap.get? b=some o->h'.get? b=some o)->EP X js Y Q v {s with heap:=h',toks:=tk}:=by
  intro its r v h' tk hv k;have hl:its.toArray.size=ns.length:=by have:=r.length;simpa using this.symm
  rw[hl]at hv;obtain⟨t,rfl⟩:=dQ r _ _ hv;rw[qU hn];exact⟨.int _,H,iJ I k,⟨t,rfl⟩,q⟩
 rcases hq with hq|hq
 .obtain⟨its,r,pl,hz⟩:=I.list hq;have hl:its.toArray.size=ns.length:=by have:=r.length;simpa using this.symm
  obtain⟨o,ho,hcl,n,hd⟩:=pl.isList;have hlt:=lt_size ho;refine call_min_walk (wpAny_pyIter_list pl.isList ?_);refine⟨_,_,_,_,_,_,_,rfl,Walks.list (A:=X.A.in1) hh _ p (Nat.ne_of_lt hlt) its.toArray,⟨⟨_,get?_push_size _ rfl,rfl,rfl⟩,pl.isList.push _⟩,λb hb=>?_,by omega,CmpOf.ints_lt (λi=>ns.getD i 0) (dQ r),λv h' tk hP hk=>key r hP (eU hk)⟩;show b <(s.heap.push _).objs.size;rw[size_push];exact ij hlt rfl b hb
 .obtain⟨its,r,pl,hz⟩:=I.tuple hq;have hl:its.toArray.size=ns.length:=by have:=r.length;simpa using this.symm
  have pt:s.heap.IsTuple p its.toArray:=pl;obtain⟨o,ho,hcl,n,hd⟩:=pl;have hlt:=lt_size ho;refine call_min_walk (wpAny_pyIter_tuple pt ?_);refine⟨_,_,_,_,_,_,_,rfl,Walks.tuple (A:=X.A.in1) hh _ p (Nat.ne_of_lt hlt) its.toArray,⟨⟨_,get?_push_size _ rfl,rfl,rfl⟩,pt.push _⟩,λb hb=>?_,by omega,CmpOf.ints_lt (λi=>ns.getD i 0) (dQ r),λv h' tk hP hk=>key r hP (eU hk)⟩;show b <(s.heap.push _).objs.size;rw[size_push];exact ij hlt rfl b hb
theorem pb(hc:X.calm=true):fQ X (.builtin "max") (λxs H Q=>∃p ns,xs=[.ref p]/\(SqL X.K H p (ns.map V.int)\/ SqT X.K H p (ns.map V.int))/\0<ns.length/\Q (.int (c_ ns)) H):=by
 intro js s Y H xs us Q I rv h;obtain⟨p,ns,rfl,hq,hn,q⟩:=h;obtain⟨u,rfl,rx⟩:=fw rv;cases rx;have hh:=I.ok.hd hc;have key:∀{its:Jg},a5 (ns.map V.int) its->∀{v:Value}{h':Heap}{tk:Nat},its.toArray[argBest (λi j=>decide (ns.getD i 0>ns.getD j 0)) (its.toArray.size-1)]?=some v->(∀b o,s.heap.get? b=some o->h'.get? b=some o)->EP X js Y Q v {s with heap:=h',toks:=tk}:=by
  intro its r v h' tk hv k;have hl:its.toArray.size=ns.length:=by have:=r.length;simpa using this.symm
  rw[hl]at hv;obtain⟨t,rfl⟩:=dQ r _ _ hv;rw[qV hn];exact⟨.int _,H,iJ I k,⟨t,rfl⟩,q⟩
 rcases hq with hq|hq
 .obtain⟨its,r,pl,hz⟩:=I.list hq;have hl:its.toArray.size=ns.length:=by have:=r.length;simpa using this.symm
  obtain⟨o,ho,hcl,n,hd⟩:=pl.isList;have hlt:=lt_size ho;refine call_max_walk (wpAny_pyIter_list pl.isList ?_);refine⟨_,_,_,_,_,_,_,rfl,Walks.list (A:=X.A.in1) hh _ p (Nat.ne_of_lt hlt) its.toArray,⟨⟨_,get?_push_size _ rfl,rfl,rfl⟩,pl.isList.push _⟩,λb hb=>?_,by omega,CmpOf.ints_gt (λi=>ns.getD i 0) (dQ r),λv h' tk hP hk=>key r hP (eU hk)⟩;show b <(s.heap.push _).objs.size;rw[size_push];exact ij hlt rfl b hb
 .obtain⟨its,r,pl,hz⟩:=I.tuple hq;have hl:its.toArray.size=ns.length:=by have:=r.length;simpa using this.symm
  have pt:s.heap.IsTuple p its.toArray:=pl;obtain⟨o,ho,hcl,n,hd⟩:=pl;have hlt:=lt_size ho;refine call_max_walk (wpAny_pyIter_tuple pt ?_);refine⟨_,_,_,_,_,_,_,rfl,Walks.tuple (A:=X.A.in1) hh _ p (Nat.ne_of_lt hlt) its.toArray,⟨⟨_,get?_push_size _ rfl,rfl,rfl⟩,pt.push _⟩,λb hb=>?_,by omega,CmpOf.ints_gt (λi=>ns.getD i 0) (dQ r),λv h' tk hP hk=>key r hP (eU hk)⟩;show b <(s.heap.push _).objs.size;rw[size_push];exact ij hlt rfl b hb
def dw(g:Jf->Int):PV->Jo:=λx=>match aW x with
 |some xs=>match bH xs with
  |some ns=>if ns.isEmpty then .stuck else .ok (.int (g ns))
  |none=>.stuck
 |none=>.stuck
theorem qd(hK:X.K=T.K):Mir T W (p1 (dw g)) (λxs H Q=>∃p ns,xs=[.ref p]/\(SqL X.K H p (ns.map V.int)\/ SqT X.K H p (ns.map V.int))/\0<ns.length/\Q (.int (g ns)) H):=by
 intro B F L Y H Q F' H' xs vs fx gr r nf nd new q
 match xs,r,q with
 | [x],r,q=>
  obtain⟨v,rfl,rv⟩:=RelL.one r;simp only[p1,dw]at q;cases e:aW x with
  |none=>rw[e]at q;exact q.elim
  |some ys=>
   rw[e]at q;dsimp only at q;cases e2:bH ys with
   |none=>rw[e2]at q;exact q.elim
   |some ns=>
    rw[e2]at q;dsimp only at q;obtain⟨a,us,fx',rfl,hs,hr,_⟩:=rv.seq e;have hu:=cE e2 hr;subst hu;cases ns with
    |nil=>exact q.elim
    |cons n ns=>exact⟨a,_,rfl,by rw[hK];exact hs,by simp,q.scal gr fR⟩
 | [],_,q=>exact q.elim
 |_::_::_,_,q=>simp only[p1]at q;exact q.elim
theorem sI:bootBuiltins "min"=some (.builtin "min"):=by decide +kernel
theorem yP:bootBuiltins "max"=some (.builtin "max"):=by decide +kernel
theorem tj(hK:X.K=T.K)(hc:X.calm=true)(hg:Gl X "min")(hm:X.mg "min"=none)(ha:SE X T W e m)(he:starEach [e] X.env=[(false,eval e X.env)]:=by rfl):SE X T W (.Call (.Name "min" p) [e] [] pos) (ap (p1 (dw gx)) (ae m am)):=
 gh (o_ hc) (qd hK) hg hm sI (aa ha af (by rw[he];rfl)) (he:=by rw[he];rfl) (hpl:=rfl)
theorem on(hK:X.K=T.K)(hc:X.calm=true)(hg:Gl X "max")(hm:X.mg "max"=none)(ha:SE X T W e m)(he:starEach [e] X.env=[(false,eval e X.env)]:=by rfl):SE X T W (.Call (.Name "max" p) [e] [] pos) (ap (p1 (dw c_)) (ae m am)):=
 gh (pb hc) (qd hK) hg hm yP (aa ha af (by rw[he];rfl)) (he:=by rw[he];rfl) (hpl:=rfl)
def gN(g:Int->Int->Int):Jn->Jo
 | [.int i,.int j]=>.ok (.int (g i j))
 |_=>.stuck
theorem va{g:Int->Int->Int}{g':Int->Int->Int}(hg:∀i j,g' i j=g i j):Mir T W (gN g) (λxs H Q=>∃i j,xs=[.int i,.int j]/\Q (.int (g' i j)) H):=by
 intro B F L Y H Q F' H' xs vs fx gr r nf nd new q
 match xs,r,q with
 | [x,y],r,q=>
  cases x with
  |int i=>
   cases y with
   |int j=>unfold RelL at r;obtain⟨v,ws,f1,f2,rfl,h1,h2,rfl⟩:=r;obtain⟨u,rfl,h3⟩:=RelL.one h2;unfold Rel at h1 h3;obtain⟨rfl,_⟩:=h1;obtain⟨rfl,_⟩:=h3;exact⟨i,j,rfl,by rw[hg];exact q.scal gr fR⟩
   |_=>exact q.elim
  |_=>exact q.elim
 | [],_,q=>exact q.elim
 | [x],_,q=>cases x<;>exact q.elim
 |x::y::z::l,_,q=>cases x<;>cases y<;>exact q.elim
theorem om(hc:X.calm=true)(hg:Gl X "min")(hm:X.mg "min"=none)(ha:SA X T W [a,b] ms)(he:starEach [a,b] X.env=[(false,eval a X.env),(false,eval b X.env)]:=by rfl)(he2:starEach [b] X.env=[(false,eval b X.env)]:=by rfl) :
  SE X T W (.Call (.Name "min" p) [a,b] [] pos) (ap (gN min) ms):=
 gh (vz hc) (va λi j=>by simp only[Int.min_def];split<;>split<;>omega) hg hm sI ha (he:=by rw[he,he2]) (hpl:=by rw[he2];rfl)
end
end PR
namespace PR
open PySem PySem.W PyProof.Rows
structure Ord(N:Nat)(lt:Nat->Nat->Bool):Prop where
 tr:∀i j k,i<N->j<N->k<N->lt i j=true->lt j k=true->lt i k=true
 tot:∀i j,i<N->j<N->i≠j->lt i j=false->lt j i=true
 irr:∀i,i<N->lt i i=false
structure Plc(N:Nat)(p:Array Nat):Prop where
 pm:p.toList.Perm (range N)
abbrev at_(p:Array Nat)(i:Nat):Nat:=p.getD i 0
section
variable{N:Nat}{lt:Nat->Nat->Bool}{p:Array Nat}
theorem Plc.sz(P:Plc N p):p.size=N:=by simpa using P.pm.length_eq
theorem Plc.get(P:Plc N p)(h:i<N):p[i]?=some (at_ p i):=by
 have:i<p.size:=by rw[P.sz];exact h
 simp[at_,this]
theorem Plc.bd(P:Plc N p)(h:i<N):at_ p i<N:=by
 have hm:at_ p i∈p.toList:=by have:=P.get h;exact Array.mem_toList_iff.mpr (Array.mem_of_getElem? this)
 simpa using P.pm.mem_iff.mp hm
theorem Plc.inj(P:Plc N p)(hi:i<N)(hj:j<N)(e:at_ p i=at_ p j):i=j:=by
 have nd:p.toList.Nodup:=P.pm.nodup_iff.mpr nodup_range;have h1:=P.get hi;have h2:=P.get hj;rw[e]at h1;have h1':p.toList[i]?=some (at_ p j):=by simpa using h1
 have h2':p.toList[j]?=some (at_ p j):=by simpa using h2
 obtain⟨a1,b1⟩:=List.getElem?_eq_some_iff.mp h1';obtain⟨a2,b2⟩:=List.getElem?_eq_some_iff.mp h2';exact(getElem_inj nd).mp (b1.trans b2.symm)
def Asc(lt:Nat->Nat->Bool)(p:Array Nat)(n:Nat):Prop:=∀a b,a<b->b<n->lt (at_ p a) (at_ p b)=true
def Dsc(lt:Nat->Nat->Bool)(p:Array Nat)(n:Nat):Prop:=∀a b,a<b->b<n->lt (at_ p b) (at_ p a)=true
theorem Asc.more(O:Ord N lt)(P:Plc N p)(h:Asc lt p n)(h1:1<=n)(hn:n<N)(hl:lt (at_ p (n-1)) (at_ p n)=true):Asc lt p (n+1):=λa b hab hb=>by
 by_cases hbn:b<n
 .exact h a b hab hbn
 .obtain rfl:b=n:=by omega
  by_cases ha:a=b-1
  .rw[ha];exact hl
  .exact O.tr _ _ _ (P.bd ()) (P.bd ()) (P.bd ()) (h a (b-1) () ()) hl
theorem Dsc.more(O:Ord N lt)(P:Plc N p)(h:Dsc lt p n)(h1:1<=n)(hn:n<N)(hl:lt (at_ p n) (at_ p (n-1))=true):Dsc lt p (n+1):=λa b hab hb=>by
 by_cases hbn:b<n
 .exact h a b hab hbn
 .obtain rfl:b=n:=by omega
  by_cases ha:a=b-1
  .rw[ha];exact hl
  .exact O.tr _ _ _ (P.bd ()) (P.bd ()) (P.bd ()) hl (h a (b-1) () ())
theorem Dsc.rev(P:Plc N p)(h:Dsc lt p n)(hn:n<=N):Asc lt (kas_rev p 0 n) n/\Plc N (kas_rev p 0 n):=by
 have hp:(kas_rev p 0 n).toList.Perm p.toList:=Array.perm_iff_toList_perm.mp (mirror_perm _ _ _ _);have P':Plc N (kas_rev p 0 n):=⟨hp.trans P.pm⟩
 have ix:∀k,k<n->at_ (kas_rev p 0 n) k=at_ p (n-1-k):=λk hk=>by
  have e:=getElem?_mirror_all (xs:=p) (i:=0) (j:=n) (by rw[P.sz];exact hn) k;have h1:(kas_rev p 0 n)[k]?=p[0+n-1-k]?:=by unfold kas_rev;rw[e,if_pos ⟨by omega,hk⟩]
  rw[P'.get (),show 0+n-1-k=n-1-k by omega,P.get ()]at h1;exact Option.some.inj h1
 refine⟨λa b hab hb=>?_,P'⟩;rw[ix a (),ix b hb];exact h _ _ () ()
variable{cmp:Nat->Nat->(Bool->Shared->Prop)->Shared->Prop}{s:Shared}
abbrev Cmp(N:Nat)(lt:Nat->Nat->Bool)(cmp:Nat->Nat->(Bool->Shared->Prop)->Shared->Prop)(s:Shared):Prop:=∀(i j:Nat) (C:Bool->Shared->Prop),i<N->j<N->C (lt i j) s->cmp i j C s
theorem sJ(O:Ord N lt)(C:Cmp N lt cmp s)(P:Plc N p):∀(f n:Nat) (Q:Nat->Shared->Prop),1<=n->n+f=N->Asc lt p n->(∀m,n<=m->m<=N->Asc lt p m->(m<N->lt (at_ p m) (at_ p (m-1))=true)->Q m s)->(kas_asc p f n).kasWp cmp Q s
 |0,n,Q,h1,hn,ha,k=>k n (Nat.le_refl _) () ha ()
 |f+1,n,Q,h1,hn,ha,k=>by
  refine C _ _ _ (P.bd ()) (P.bd ()) ?_;cases e:lt (at_ p n) (at_ p (n-1))with
  |true=>exact k n (Nat.le_refl _) () ha λ_=>e
  |false=>have hl:=O.tot _ _ (P.bd ()) (P.bd ()) (λz=>by have:=P.inj () () z;omega) e;exact sJ O C P f (n+1) Q () () (ha.more O P h1 () hl) λm hm=>k m ()
theorem yH(O:Ord N lt)(C:Cmp N lt cmp s)(P:Plc N p):∀(f n:Nat) (Q:Array Nat×Nat×Nat->Shared->Prop),1<=n->n+f=N->Dsc lt p n->(∀m,n<=m->m<=N->Dsc lt p m->Q (p,m,0) s)->(kas_desc f p n 0).kasWp cmp Q s
 |0,n,Q,h1,hn,ha,k=>k n (Nat.le_refl _) () ha
 |f+1,n,Q,h1,hn,ha,k=>by
  refine C _ _ _ (P.bd ()) (P.bd ()) ?_;cases e:lt (at_ p n) (at_ p (n-1))with
  |true=>exact yH O C P f (n+1) Q () () (ha.more O P h1 () e) λm hm=>k m ()
  |false=>have hl:=O.tot _ _ (P.bd ()) (P.bd ()) (λz=>by have:=P.inj () () z;omega) e;refine C _ _ _ (P.bd ()) (P.bd ()) ?_;have e2:lt (p.getD (n-1) 0) (p.getD n 0)=true:=hl;rw[e2];exact k n (Nat.le_refl _) () ha
theorem yL(O:Ord N lt)(C:Cmp N lt cmp s)(P:Plc N p)(h2:2<=N)(Q:Nat×Array Nat->Shared->Prop)(k:∀m p',1<=m->m<=N->Plc N p'->Asc lt p' m->Q (m,p') s):(kas_count N p).kasWp cmp Q s:=by
 unfold kas_count;rw[KasT.kasWp_bind];refine sJ O C P (N-1) 1 _ (Nat.le_refl _) () (λa b _ hb=>by omega) λn h1 hn ha hs=>?_;by_cases e:n=N
 .rw[if_pos (by simpa using e)];exact k n p h1 hn P ha
 .rw[if_neg (by simpa using e)];by_cases hn1:n>1
  .rw[if_pos hn1];refine C _ _ _ (P.bd ()) (P.bd ()) ?_;have e2:lt (p.getD 0 0) (p.getD (n-1) 0)=true:=ha 0 (n-1) () ();rw[e2];exact k n p h1 hn P ha
  .rw[if_neg hn1];obtain rfl:n=1:=by omega
   unfold kas_descPart;rw[KasT.kasWp_bind];refine yH O C P (N-2) 2 _ () () (λa b hab hb=>?_) λm hm1 hm2 hd=>?_
   .obtain rfl:a=0:=by omega
    obtain rfl:b=1:=by omega
    exact hs ()
   .dsimp only;rw[if_neg (Nat.lt_irrefl 0)];obtain⟨ha',P'⟩:=hd.rev P hm2;unfold kas_tail3;rw[KasT.kasWp_bind];exact sJ O C P' (N-m) m _ () () ha' λn' h1' hn' ha'' _=>k n' _ () hn' P' ha''
theorem lG(O:Ord N lt)(C:Cmp N lt cmp s)(P:Plc N p)(hk:k<N)(ha:Asc lt p k):∀(f l r:Nat) (Q:Nat->Shared->Prop),l<=r->r<=k->r-l<=f->(∀a,a<l->lt (at_ p a) (at_ p k)=true)->(∀a,r<=a->a<k->lt (at_ p k) (at_ p a)=true)->
  (∀m,m<=k->(∀a,a<m->lt (at_ p a) (at_ p k)=true)->(∀a,m<=a->a<k->lt (at_ p k) (at_ p a)=true)->Q m s)->(kas_place p k f l r).kasWp cmp Q s
 |0,l,r,Q,h1,h2,h3,h4,h5,q=>by
  obtain rfl:l=r:=by omega
  exact q l h2 h4 h5
 |f+1,l,r,Q,h1,h2,h3,h4,h5,q=>by
  unfold kas_place;by_cases e:l >= r
  .rw[if_pos e];obtain rfl:l=r:=by omega
   exact q l h2 h4 h5
  .rw[if_neg e];have hm:(l+r) / 2<r:=by omega
   have hm2:l <=(l+r) / 2:=by omega
   refine C _ _ _ (P.bd hk) (P.bd ()) ?_;cases e2:lt (at_ p k) (at_ p ((l+r) / 2))with
   |true=>
    refine lG O C P hk ha f l ((l+r) / 2) Q hm2 () () h4 (λa h6 h7=>?_) q;by_cases hae:a=(l+r) / 2
    .rw[hae];exact e2
    .exact O.tr _ _ _ (P.bd hk) (P.bd ()) (P.bd ()) e2 (ha _ a () h7)
   |false=>
    have hl:=O.tot _ _ (P.bd hk) (P.bd ()) (λz=>by have:=P.inj hk () z;omega) e2;refine lG O C P hk ha f ((l+r) / 2+1) r Q () h2 () (λa h6=>?_) h5 q;by_cases hae:a=(l+r) / 2
    .rw[hae];exact hl
    .exact O.tr _ _ _ (P.bd ()) (P.bd ()) (P.bd hk) (ha a _ () ()) hl
theorem yO(O:Ord N lt)(C:Cmp N lt cmp s):∀(f k:Nat) (p:Array Nat) (Q:Array Nat->Shared->Prop),Plc N p->Asc lt p k->k+f=N->(∀p',Plc N p'->Asc lt p' N->Q p' s)->(kas_bin f p k).kasWp cmp Q s
 |0,k,p,Q,P,ha,hk,q=>q p P (by rw[<- hk];exact ha)
 |f+1,k,p,Q,P,ha,hk,q=>by
  unfold kas_bin;rw[KasT.kasWp_bind];refine lG O C P () ha k 0 k _ (zero_le _) (Nat.le_refl _) () (λ_ z=>absurd z (not_lt_zero _)) (λa h1 h2=>by omega) λm hm h1 h2=>?_;have P':Plc N (bubble p k (k-m)):=⟨(Array.perm_iff_toList_perm.mp (bubble_perm _ _ _)).trans P.pm⟩
  have ix:=getElem?_bubble (xs:=p) (src:=k) (by rw[P.sz];omega) (k-m) ();have g:∀i,i<k+1->at_ (bubble p k (k-m)) i=if i=m then at_ p k else if m<i then at_ p (i-1)else at_ p i:=λi hi=>by
   have e:=ix i;rw[P'.get ()]at e;have hkm:k-(k-m)=m:=by omega
   rw[hkm]at e;by_cases c1:i=m
   .rw[if_pos c1];rw[if_pos c1,P.get ()]at e;exact Option.some.inj e
   .rw[if_neg c1]at e ⊢;by_cases c2:m<i
    .rw[if_pos c2];rw[if_pos ⟨c2,by omega⟩,P.get ()]at e;exact Option.some.inj e
    .rw[if_neg c2];rw[if_neg (λz=>c2 z.1),P.get ()]at e;exact Option.some.inj e
  refine yO O C f (k+1) _ Q P' (λa b hab hb=>?_) () q;rw[g a (),g b hb];by_cases a1:a=m
  .rw[if_pos a1,if_neg (),if_pos ()];exact h2 (b-1) () ()
  .rw[if_neg a1];by_cases a2:m<a
   .rw[if_pos a2,if_neg (),if_pos ()];exact ha _ _ () ()
   .rw[if_neg a2];by_cases b1:b=m
    .rw[if_pos b1];exact h1 a ()
    .rw[if_neg b1];by_cases b2:m<b
     .rw[if_pos b2];by_cases hh:a=b-1
      .omega
      .exact ha _ _ () ()
     .rw[if_neg b2];exact ha _ _ hab ()
theorem zZ(O:Ord N lt)(C:Cmp N lt cmp s)(h2:2<=N)(Q:Array Nat->Shared->Prop)(q:∀p,Plc N p->Asc lt p N->Q p s):(kas_sort N).kasWp cmp Q s:=by
 unfold kas_sort;rw[KasT.kasWp_bind];refine yL O C (p:=List.toArray (range N)) ⟨by simp⟩ h2 _ λm p' h1 hm P ha=>?_;dsimp only;by_cases e:m<N
 .rw[if_pos e,Nat.max_eq_left h1];exact yO O C (N-m) m p' Q P ha () q
 .rw[if_neg e];obtain rfl:m=N:=by omega
  exact q p' P ha
end
end PR
namespace PR
open PySem PySem.Spec L2 PyProof.Rows PySem.W
section
variable{prog:Program}{w:World}{A:Around}{E:Ja}{s:Shared}
def lN(vs:Jg)(p:Array Nat):Jk:=(p.toList.map λi=>vs.getD i Value.none).toArray
theorem uT(N:Nat):Plc N (range N).toArray:=⟨by simp⟩
theorem kP:lN vs (range vs.length).toArray=vs.toArray:=by unfold lN;congr 1;refine ext_getElem (by simp) λi h1 h2=>?_;simp[h2]
theorem zS:∀{vs:Jg},vs.length<2->(vs.toArray.zip vs.toArray).map (·.2)=vs.toArray
 | [],_|[v],_=>by simp
theorem vc{κ:SortKind}(ho:s.heap.get? a=some (seqObj "list" vs.toArray n))(h64:vs.length<64)
  (hK:2<=vs.length->∀s':Shared,(∀b o,b≠a->s.heap.get? b=some o->s'.heap.get? b=some o)->Ord vs.length lt/\(∀Q:SortKind->Shared->Prop,Q κ s'->wpAny (model prog w) A (keyKind' vs.toArray) Q E s')/\Cmp vs.length lt (kas_ask prog w A κ vs) s')
  (h:∀p,Plc vs.length p->Asc lt p vs.length->P (.done (.ret .none)) {s with heap:=sortedHeap s.heap a vs (lN vs p)}) :
  wpAny (model prog w) A (Builtin.«list.sort» ⟨[.ref a],[]⟩) P E s:=by
 have lo:=lt_size ho;obtain⟨e1,g1⟩:∃e1,(s.heap.update a (Obj.mapSeq λ_=>#[])).get? a=some (seqObj "list" #[] e1):=⟨_,get?_update_seq ho (λ_=>#[])⟩
 have g6:(((s.heap.update a (Obj.mapSeq λ_=>#[])).push (seqObj "tuple" vs.toArray 0)).push (seqObj "list" #[] 0)).get? a=some (seqObj "list" #[] e1):=get?_push_of_some _ (get?_push_of_some _ g1);have kp:∀b o,b≠a->s.heap.get? b=some o->(((s.heap.update a (Obj.mapSeq λ_=>#[])).push (seqObj "tuple" vs.toArray 0)).push (seqObj "list" #[] 0)).get? b=some o:=λb o hb q=>
  get?_push_of_some _ (get?_push_of_some _ ((Heap.get?_update_ne _ _ _ _ hb).trans q))
 rw[list_sort_plain];refine wpAny_bind (listItems_at ho rfl (wpAny_bind (listUpdate_at ho rfl (wpAny_bind (seqEpoch_at g1 rfl (wpAny_bind (wpAny_newTuple (wpAny_bind (wpAny_newList (wpAny_holding ?_))))))))))<;>try (simp only[size_toArray,sizeLine_eq];omega)
 show wpAny (model prog w) A _ P E {s with heap:=((s.heap.update a (Obj.mapSeq λ_=>#[])).push (seqObj "tuple" vs.toArray 0)).push (seqObj "list" #[] 0)};dsimp only;by_cases h2:vs.toArray.size<2
 .have h2':vs.length<2:=by simpa using h2
  rw[if_pos h2,if_pos h2];refine wpAny_bind (wpAny_pure ?_);rw[StateT.run_pure];refine wpAny_bind (wpAny_pure ?_);dsimp only;have e3:(arrOf (SortSt.mk' general' (vs.toArray.zip vs.toArray) #[] 7 none)).map (·.2)=lN vs (range vs.length).toArray:=by rw[kP];show(vs.toArray.zip vs.toArray).map (·.2)=vs.toArray;exact zS h2'
  rw[e3];refine wpAny_bind (seqEpoch_at g6 rfl (wpAny_bind (listUpdate_at g6 rfl ?_ (zero_le _) (by rw[kP];simp only[size_toArray,sizeLine_eq];omega))));simp only[bne_self_eq_false,false_eq_true,if_false];exact wpAny_pure (h _ (uT _) λx y hxy hy=>by omega)
 .have h2':2<=vs.length:=by simp at h2;omega
  rw[if_neg h2,if_neg h2];obtain⟨O,hk,C⟩:=hK h2' {s with heap:=((s.heap.update a (Obj.mapSeq λ_=>#[])).push (seqObj "tuple" vs.toArray 0)).push (seqObj "list" #[] 0)} kp;refine wpAny_bind (hk _ ?_);refine wpAny_bind (wpAny_mono (kat_run (κ:=κ) (ks:=vs) (vs:=vs) (Q:=λst' s'=>∃ p:Array Nat,arrOf st'=p.map (kas_item (vs.toArray.zip vs.toArray))/\failedOf st'=none/\Plc vs.length p/\Asc lt p vs.length/\s'=_) rfl h2' h64
   (λp st' s' _ a2 a3 a4=>⟨p,a2,a3,a4⟩) (zZ O C h2' _ λp c1 c2=>⟨c1,c2,rfl⟩)) ?_ λ_ _ e=>e)
  rintro⟨⟨⟩,st'⟩ s' ⟨p,har,hf,c1,c2,rfl⟩;dsimp only;have e3:=kat_snds (ks:=vs) (vs:=vs) rfl har;rw[e3];refine wpAny_bind (seqEpoch_at g6 rfl (wpAny_bind (listUpdate_at g6 rfl ?_ (zero_le _) (by
   rw[size_toArray,length_map,Array.length_toList,c1.sz,sizeLine_eq];omega))))
  rw[hf];simp only[bne_self_eq_false,false_eq_true,if_false];exact wpAny_pure (h _ c1 c2)
theorem rq{κ:SortKind}(hl:s.heap.IsList l vs.toArray)(h64:vs.length<64)
  (hK:2<=vs.length->∀s':Shared,(∀b o,s.heap.get? b=some o->s'.heap.get? b=some o)->Ord vs.length lt/\(∀(E:Ja) (Q:SortKind->Shared->Prop),Q κ s'->wpAny (model prog w) A.in1.in1 (keyKind' vs.toArray) Q E s')/\Cmp vs.length lt (kas_ask prog w A.in1.in1 κ vs) s')
  (h:∀p,Plc vs.length p->Asc lt p vs.length->Q (.ref (s.heap.objs.size+1)) {s with heap:=sortedAll s.heap vs (lN vs p)}) :
  wpAny (model prog w) A (call (.builtin "sorted") [.ref l]) Q E s:=by
 refine Calls.call_function_entry kind_sorted plain_sorted entry_sorted (args_sorted1 _) ?_;unfold Builtin.«sorted»;have sz:((s.heap.push (seqObj "list" #[] 0)).update s.heap.objs.size (Obj.mapSeq (·++vs.toArray))).objs.size=s.heap.objs.size+1:=(Heap.size_update _ _ _).trans (size_push' _ _);refine wpAny_bind (m:=checkCount "sorted" 1 1 _) (wpAny_pure (wpAny_bind (collect_list hl (wpAny_bind (wpAny_newList ?_ (by rw[sizeLine_eq];omega))) (by rw[sizeLine_eq];omega))));have g:(((s.heap.push (seqObj "list" #[] 0)).update s.heap.objs.size (Obj.mapSeq (·++vs.toArray))).push (seqObj "list" vs.toArray 0)).get? (s.heap.objs.size+1)=some (seqObj "list" vs.toArray 0):=sz▸get?_push_size _ rfl;have kp:∀b o,s.heap.get? b=some o->(((s.heap.push (seqObj "list" #[] 0)).update s.heap.objs.size (Obj.mapSeq (·++vs.toArray))).push (seqObj "list" vs.toArray 0)).get? b=some o:=λb o q=>
  get?_push_of_some _ ((Heap.get?_update_ne _ _ _ _ (Nat.ne_of_lt (lt_size q))).trans (get?_push_of_some _ q))
 show wpAny _ _ _ _ _ {s with heap:=((s.heap.push (seqObj "list" #[] 0)).update s.heap.objs.size (Obj.mapSeq (·++vs.toArray))).push (seqObj "list" vs.toArray 0)};rw[sz];refine wpAny_bind (wpAny_holding (wpAny_call_entry slot_list_sort ⟨_,g,rfl⟩ entry_list_sort ?body (args_list_sort _)));refine vc (κ:=κ) (lt:=lt) g h64 (λh2 s' k'=>?_) λp c1 c2=>⟨_,rfl,wpAny_pure ⟨_,rfl,h p c1 c2⟩⟩
 obtain⟨O,hk,C⟩:=hK h2 s' λb o q=>k' b o (Nat.ne_of_lt (Nat.lt_succ_of_lt (lt_size q))) (kp b o q);exact⟨O,λQ q=>hk _ Q q,C⟩
def fA(x y:Int×Int):Bool:=decide (x.1<y.1) ||(x.1==y.1&&decide (x.2<y.2))
theorem jd(h1:fA x y=true)(h2:fA y z=true):fA x z=true:=by simp only[fA,or_eq_true,and_eq_true,decide_eq_true_eq,beq_iff_eq]at *;omega
theorem pZ(x:Int×Int):fA x x=false:=by simp[fA]
theorem pY(h:x≠y):fA x y=true\/fA y x=true:=by
 obtain⟨a,b⟩:=x;obtain⟨c,d⟩:=y;have:a≠c\/b≠d:=by
  by_cases e:a=c
  .right;intro e2;exact h (by rw[e,e2])
  .exact .inl e
 simp only[fA,or_eq_true,and_eq_true,decide_eq_true_eq,beq_iff_eq];omega
def c9(h:Heap):Jg->Jc->Prop
 | [],[]=>True
 |v::vs,x::ps=>(∃a o n t u,v=.ref a/\h.get? a=some o/\o.cls=.type "tuple" /\ o.data=.seq #[.int x.1 t,.int x.2 u] n)/\c9 h vs ps
 |_,_=>False
theorem c9.len:∀{vs:Jg}{ps:Jc},c9 h vs ps->vs.length=ps.length
 | [],[],_=>rfl
 |_::_,_::_,q=>by simp[q.2.len]
theorem c9.kept(k:∀b o,h.get? b=some o->h'.get? b=some o):∀{vs:Jg}{ps:Jc},c9 h vs ps->c9 h' vs ps
 | [],[],_=>trivial
 |_::_,_::_,⟨⟨a,o,n,t,u,e1,e2,e3⟩,q⟩=>⟨⟨a,o,n,t,u,e1,k _ _ e2,e3⟩,q.kept k⟩
theorem c9.at:∀{vs:Jg}{ps:Jc},c9 h vs ps->∀i,i<ps.length->∃a o n t u,vs.getD i Value.none=.ref a/\h.get? a=some o/\o.data=.seq #[.int (ps.getD i (0,0)).1 t,.int (ps.getD i (0,0)).2 u] n
 |_::_,_::_,⟨⟨a,o,n,t,u,e1,e2,e3⟩,q⟩,0,_=>⟨a,o,n,t,u,by simp[e1],e2,by simpa using e3.2⟩
 |v::vs,x::ps,⟨_,q⟩,i+1,hi=>by have:=q.at i (by simpa using hi);simpa using this
 | [],[],_,i,hi=>by simp at hi
theorem c9.firsts:∀{vs:Jg}{ps:Jc},c9 h vs ps->∃fs,KatTups h vs fs/\fs.length=ps.length/\∀v∈fs,∃i t,v=.int i t
 | [],[],_=>⟨[],.nil,rfl,λv hv=>by cases hv⟩
 |_::_,_::_,⟨⟨a,o,n,t,u,e1,e2,e3,e4⟩,q⟩=>by
  obtain⟨fs,h1,h2,h3⟩:=q.firsts;subst e1;refine⟨_::fs,.cons e2 e3 e4 rfl h1,by simp[h2],λv hv=>?_⟩;rcases mem_cons.mp hv with rfl|hv
  .exact⟨_,_,rfl⟩
  .exact h3 v hv
theorem uW{ps:Jc}(hd:ps.Nodup):Ord ps.length (λi j=>fA (ps.getD i (0,0)) (ps.getD j (0,0))):=by
 refine⟨λi j k _ _ _ h1 h2=>jd h1 h2,λi j hi hj hn h=>?_,λi _=>pZ _⟩;have:ps.getD i (0,0)≠ ps.getD j (0,0):=by simp only[getD_eq_getElem?_getD,getElem?_eq_getElem hi,getElem?_eq_getElem hj,getD_some];exact λe=>hn ((getElem_inj hd).mp e)
 rcases pY this with q|q
 .rw[q]at h;cases h
 .exact q
theorem nL(h:Q (decide (x<y)) s):wpAny (model prog w) A (oneLt' b (.int x t) (.int y u)) Q E s:=by
 cases b with
 |true=>exact oneLt_int h
 |false=>exact kat_one _ _ (wpAny_lt_int h)
theorem uX(hp:c9 s.heap vs ps):Cmp vs.length (λi j=>fA (ps.getD i (0,0)) (ps.getD j (0,0))) (kas_ask prog w A (tuples' true) vs) s:=by
 intro i j C hi hj q;rw[hp.len]at hi hj;obtain⟨a,o,n,t,u,e1,e2,e3⟩:=hp.at i hi;obtain⟨a',o',n',t',u',e1',e2',e3'⟩:=hp.at j hj;unfold kas_ask;rw[e1,e1'];dsimp only at q;generalize ps.getD i (0,0)=x at *;generalize ps.getD j (0,0)=y at *;refine kat_lt e2 e3 e2' e3' (kat_cons (wpAny_eqBool_int (kat_go (λh1=>kat_yes (kat_cons (wpAny_eqBool_int (kat_go (λh2=>kat_yes (kat_nil ?_)) λh2=>kat_no (nL ?_))))) λh1=>kat_no (nL ?_))))
 .simp only[beq_iff_eq]at h1 h2;have:fA x y=false:=by simp[fA,h1,h2]
  rw[this]at q;exact q
 .simp only[beq_iff_eq]at h1;have:fA x y=decide (x.2<y.2):=by simp[fA,h1]
  rw[this]at q;exact q
 .have:fA x y=decide (x.1<y.1):=by simp[fA,h1]
  rw[this]at q;exact q
theorem rV(hp:c9 s.heap vs ps)(h2:2<=vs.length){Q:SortKind->Shared->Prop}(q:Q (tuples' true) s):wpAny (model prog w) A (keyKind' vs.toArray) Q E s:=by obtain⟨fs,h1,hl,hi⟩:=hp.firsts;refine kat_kind (T:=.type "int") h1 (by rw[hl,<- hp.len];omega) (λv hv=>?_) rfl q;obtain⟨i,t,rfl⟩:=hi v hv;exact Looks.of_pure rfl
theorem n9(hl:s.heap.IsList l vs.toArray)(h64:vs.length<64)(hp:c9 s.heap vs ps)(hd:ps.Nodup)
  (h:∀p,Plc vs.length p->Asc (λi j=>fA (ps.getD i (0,0)) (ps.getD j (0,0))) p vs.length->Q (.ref (s.heap.objs.size+1)) {s with heap:=sortedAll s.heap vs (lN vs p)}) :
  wpAny (model prog w) A (call (.builtin "sorted") [.ref l]) Q E s:=
 rq hl h64 (λh2 s' k=>⟨hp.len▸uW hd,λE Q q=>rV (hp.kept k) h2 q,uX (hp.kept k)⟩) h
end
end PR
namespace PR
open PySem PySem.Spec L2 PyProof.Rows
def ss(x:Int):Jf->Jf
 | []=>[x]
 |y::l=>if x<=y then x::y::l else y::ss x l
def jw:Jf->Jf
 | []=>[]
 |x::l=>ss x (jw l)
theorem ky(x:Int):∀l,(ss x l).Perm (x::l)
 | []=>.refl _
 |y::l=>by
  unfold ss;split
  .exact .refl _
  .exact((ky x l).cons y).trans (.swap x y l)
theorem fI:∀l,(jw l).Perm l
 | []=>.refl _
 |x::l=>(ky x _).trans ((fI l).cons x)
theorem qu(x:Int):∀{l:Jf},l.Pairwise (·<=·)->(ss x l).Pairwise (·<=·)
 | [],_=>by simp[ss]
 |y::l,h=>by
  obtain⟨h1,h2⟩:=pairwise_cons.mp h;unfold ss;split
  .refine pairwise_cons.mpr ⟨λz hz=>?_,h⟩;rcases mem_cons.mp hz with rfl|hz
   .assumption
   .have:=h1 z hz;omega
  .refine pairwise_cons.mpr ⟨λz hz=>?_,qu x h2⟩;rcases mem_cons.mp ((ky x l).mem_iff.mp hz)with rfl|hz
   .omega
   .exact h1 z hz
theorem nu:∀l,(jw l).Pairwise (·<=·)
 | []=>.nil
 |x::l=>qu x (nu l)
theorem rA{l l':Jf}(h1:l'.Perm l)(h2:l'.Pairwise (·<=·)):l'=jw l:=
 List.Perm.eq_of_pairwise (λa b _ _ x y=>Int.le_antisymm x y) h2 (nu l) (h1.trans (fI l).symm)
def sr(x:Int×Int):Jc->Jc
 | []=>[x]
 |y::l=>if fA x y then x::y::l else y::sr x l
def dg:Jc->Jc
 | []=>[]
 |x::l=>sr x (dg l)
theorem kx(x:Int×Int):∀l,(sr x l).Perm (x::l)
 | []=>.refl _
 |y::l=>by
  unfold sr;split
  .exact .refl _
  .exact((kx x l).cons y).trans (.swap x y l)
theorem db:∀l,(dg l).Perm l
 | []=>.refl _
 |x::l=>(kx x _).trans ((db l).cons x)
theorem qr(x:Int×Int):∀{l:Jc},x∉l->l.Pairwise (λa b=>fA a b=true)->(sr x l).Pairwise (λa b=>fA a b=true)
 | [],_,_=>by simp[sr]
 |y::l,hn,h=>by
  obtain⟨h1,h2⟩:=pairwise_cons.mp h;unfold sr;split
  .refine pairwise_cons.mpr ⟨λz hz=>?_,h⟩;rcases mem_cons.mp hz with rfl|hz
   .assumption
   .exact jd ‹_› (h1 z hz)
  .refine pairwise_cons.mpr ⟨λz hz=>?_,qr x (λz=>hn (mem_cons_of_mem _ z)) h2⟩;rcases mem_cons.mp ((kx x l).mem_iff.mp hz)with rfl|hz
   .rcases pY (x:=y) (y:=z) (λe=>hn (e▸mem_cons_self))with q|q
    .exact q
    .contradiction
   .exact h1 z hz
theorem nt:∀{l:Jc},l.Nodup->(dg l).Pairwise (λa b=>fA a b=true)
 | [],_=>.nil
 |x::l,h=>by obtain⟨h1,h2⟩:=nodup_cons.mp h;exact qr x (λz=>h1 ((db l).mem_iff.mp z)) (nt h2)
theorem rz(hd:l.Nodup)(h1:l'.Perm l)(h2:l'.Pairwise (λa b=>fA a b=true)):l'=dg l:=
 List.Perm.eq_of_pairwise (λa b _ _ x y=>by
  have:=jd x y;rw[pZ]at this;cases this) h2 (nt hd) (h1.trans (db l).symm)
theorem uQ{α:Type}(l:List α)(d:α):(range l.length).map (λi=>l.getD i d)=l:=by refine ext_getElem (by simp) λi h1 h2=>?_;simp[h2]
theorem uS{ps:Jc}{p:Array Nat}(hd:ps.Nodup)(P:Plc ps.length p)(a:Asc (λi j=>fA (ps.getD i (0,0)) (ps.getD j (0,0))) p ps.length):p.toList.map (λi=>ps.getD i (0,0))=dg ps:=by
 refine rz hd (by have:=P.pm.map (λi=>ps.getD i (0,0));rwa [uQ]at this) ?_;refine List.pairwise_iff_getElem.mpr λi j hi hj hij=>?_;have hs:=P.sz;have hi':i<p.size:=by simpa using hi
 have hj':j<p.size:=by simpa using hj
 have:=a i j hij ();simpa[at_,Array.getD,hi',hj']using this
def PrH(K:PySem.W.Frag)(H:Hp):Jl->Jc->Prop
 | [],[]=>True
 |v::vs,x::ps=>(∃a,v=.ref a/\SqT K H a [.int x.1,.int x.2])/\PrH K H vs ps
 |_,_=>False
theorem PrH.len{K:PySem.W.Frag}{H:Hp}:∀{vs:Jl}{ps:Jc},PrH K H vs ps->vs.length=ps.length
 | [],[],_=>rfl
 |_::_,_::_,q=>by simp[q.2.len]
section
variable{X:Cx}{T:Tb}{W:Nat->L2.St->Jm}{Z:Zn}{F F1 B L:Je}{H H1:Hp}{Y:L2.St}{env:En}{fp:Nat->Jh}{js:Jd}{s:Shared}
theorem PrH.at(I:L2.Inv X js Y H s):∀{vs:Jl}{its:Jg}{ps:Jc},PrH X.K H vs ps->a5 vs its->c9 s.heap its ps
 | [],_,[],_,r=>by cases r;trivial
 |_::_,_,_::_,⟨⟨a,e,h⟩,q⟩,r=>by
  cases r with
  |cons h1 h2=>
   subst e;cases h1;refine⟨?_,q.at I h2⟩;obtain⟨its,r,pl,_⟩:=I.tuple h;obtain⟨u,r2,rfl,⟨t,rfl⟩,r3⟩:∃u r2,its=u::r2/\bO _ u/\a5 _ r2:=by cases r with|cons a b=>exact⟨_,_,rfl,a,b⟩
   obtain⟨u',rfl,⟨t',rfl⟩⟩:=fw r3;obtain⟨o,ho,hcl,n,hd⟩:=pl;exact⟨a,o,n,t,t',rfl,ho,hcl,hd⟩
theorem vN{vs:Jl}{its:Jg}(r:a5 vs its)(q:List Nat)(hq:∀i∈q,i<vs.length):a5 (q.map λi=>vs.getD i .non) (q.map λi=>its.getD i Value.none):=by
 induction q with
 |nil=>exact .nil
 |cons i q ih=>
  refine .cons ?_ (ih λj hj=>hq j (mem_cons_of_mem _ hj));have hi:=hq i mem_cons_self;have:∀{vs:Jl}{its:Jg}{i:Nat},a5 vs its->i<vs.length->bO (vs.getD i .non) (its.getD i Value.none):=by
   intro vs its i r
   induction r generalizing i with
   |nil=>intro h;simp at h
   |cons a b ih=>
    intro h;cases i with
    |zero=>simpa using a
    |succ i=>simpa using ih (by simpa using h)
  exact this r hi
theorem oQ:∀{ns:Jf}{its:Jg},PyProof.Rows.IntsAre its ns->a5 (ns.map V.int) its:=by
 intro ns its h
 induction h with
 |nil=>exact .nil
 |cons=>exact .cons ⟨_,rfl⟩ ‹_›
theorem qQ:fQ X (.builtin "sorted") (λxs H Q=>∃ p ys,xs=[.ref p]/\SqL X.K H p ys/\ys.length < 64 /\
    ((∃ ns,ys=ns.map V.int/\∀ l,H l=none->Q (.ref l) (upd H l (.lst ((jw ns).map V.int)))) \/
     (∃ps,PrH X.K H ys ps/\ps.Nodup/\∀l (q:List Nat),H l=none->q.Perm (range ys.length)->q.map (λi=>ps.getD i (0,0))=dg ps->Q (.ref l) (upd H l (.lst (q.map λi=>ys.getD i .non)))))):=by
  intro js s Y H xs us Q I rv h;obtain⟨p,ys,rfl,hq,h64,h⟩:=h;obtain⟨u,rfl,rx⟩:=fw rv;cases rx;obtain⟨its,r,pl,hz⟩:=I.list hq;have hlen:=r.length;have hfr:=I.hok.fresh (le_succ s.heap.objs.size);rcases h with⟨ns,rfl,q⟩ |⟨ps,hp,hd,q⟩
  . refine sorted_ints pl.isList (gH r) () λout ns' a1 a2 a3=>?_;obtain⟨c,hc⟩:=sortedAll_at s.heap its out;have e:=rA a2 a3;subst e;refine⟨.ref (s.heap.objs.size+1),_,I.laid (λb o=>sortedAll_old) (le_succ _) ?_,rfl,q _ hfr⟩;refine⟨?_,out.toList,c,oQ a1,by simpa using hc⟩;rw[sizeLine_eq];simp[(fI ns).length_eq]at h64 ⊢;omega
  . refine n9 pl.isList () (hp.at I r) hd λp P a=>?_;obtain⟨c,hc⟩:=sortedAll_at s.heap its (lN its p);have hl:=hp.len;have pm:p.toList.Perm (range ys.length):=by rw[hlen];exact P.pm
    refine⟨.ref (s.heap.objs.size+1),_,I.laid (λb o=>sortedAll_old) (le_succ _) ?_,rfl,q _ p.toList hfr pm (uS hd (by rw[<- hl,hlen];exact P) (by rw[<- hl,hlen];exact a))⟩;refine⟨?_,_,c,vN r p.toList (λi hi=>by simpa using pm.mem_iff.mp hi),hc⟩;rw[sizeLine_eq];simp[P.sz,<- hlen];omega
end
end PR
namespace PR
open PySem PySem.Spec L2
def prV(x:Int×Int):PV:=.tup [.int x.1,.int x.2]
def lK:PV->Option (Int×Int)
 |.tup [.int a,.int b]=>some (a,b)
 |_=>none
def iz:Jn->Option (Jc)
 | []=>some []
 |x::xs=>match lK x,iz xs with
  |some y,some ys=>some (y::ys)
  |_,_=>none
def fC:PV->Jo
 | .lst _ xs=>if decide (xs.length < 64) then (match bH xs with
  |some ns=>.ok (.lst .own ((jw ns).map .int))
  |none=>match iz xs with
   |some ps=>if decide ps.Nodup then .ok (.lst .own ((dg ps).map prV))else .stuck
   |none=>.stuck)else .stuck
 |_=>.stuck
section
variable{X:Cx}{T:Tb}{W:Nat->St->Jm}{Z:Zn}{F F1 B L:Je}{H H1:Hp}{Y:St}{env:En}{fp:Nat->Jh}
theorem uY(e:lK x=some y):x=prV y:=by
 unfold lK at e;split at e
 .cases e;rfl
 .cases e
theorem lJ:∀{xs:Jn}{vs:Jl}{f:Jh}{ps:Jc},iz xs=some ps->RelL T F B L H xs vs f->PrH T.K H vs ps/\f=[]
 | [],_,_,_,e,r=>by cases e;unfold RelL at r;obtain⟨rfl,rfl⟩:=r;exact⟨trivial,rfl⟩
 |x::xs,_,_,ps,e,r=>by
  unfold RelL at r;obtain⟨v,ws,f1,f2,rfl,h1,h2,rfl⟩:=r;unfold iz at e;cases e1:lK x with
  |none=>rw[e1]at e;cases e
  |some y=>
   cases e2:iz xs with
   |none=>rw[e1,e2]at e;cases e
   |some ys=>rw[e1,e2]at e;cases e;obtain⟨q,rfl⟩:=lJ e2 h2;have:=uY e1;subst this;unfold prV Rel at h1;obtain⟨a,us,rfl,hs,hr⟩:=h1;unfold RelL at hr;obtain⟨v1,w1,g1,g2,rfl,k1,k2,rfl⟩:=hr;obtain⟨v2,rfl,k3⟩:=RelL.one k2;unfold Rel at k1 k3;obtain⟨rfl,rfl⟩:=k1;obtain⟨rfl,rfl⟩:=k3;exact⟨⟨⟨a,rfl,hs⟩,q⟩,rfl⟩
theorem PrH.rel:∀{vs:Jl}{ps:Jc},PrH T.K H vs ps->RelL T F B L H (ps.map prV) vs []
 | [],[],_=>iw _ _ _ _
 |_::_,x::ps,⟨⟨a,e,h⟩,q⟩=>by subst e;rw[map_cons];unfold RelL;refine⟨_,_,[],[],rfl,?_,q.rel,rfl⟩;unfold prV Rel;refine⟨a,_,rfl,h,?_⟩;unfold RelL;refine⟨_,_,[],[],rfl,fR,?_,rfl⟩;unfold RelL;exact⟨_,_,[],[],rfl,fR,iw _ _ _ _,rfl⟩
theorem PrH.get:∀{vs:Jl}{ps:Jc},PrH K H vs ps->∀i,i<vs.length->∃a,vs.getD i .non=.ref a/\SqT K H a [.int (ps.getD i (0,0)).1,.int (ps.getD i (0,0)).2]
 |_::_,_::_,⟨h,q⟩,0,_=>by simpa using h
 |_::_,_::_,⟨_,q⟩,i+1,hi=>by simpa using q.get i (by simpa using hi)
 | [],[],_,_,hi=>by simp at hi
theorem PrH.map(h:PrH K H vs ps)(q:List Nat)(hq:∀i∈q,i<vs.length):PrH K H (q.map λi=>vs.getD i .non) (q.map λi=>ps.getD i (0,0)):=by
 induction q with
 |nil=>trivial
 |cons i q ih=>exact⟨h.get i (hq i mem_cons_self),ih λj hj=>hq j (mem_cons_of_mem _ hj)⟩
theorem tD(ns:Jf):RelL T F B L H (ns.map PV.int) (ns.map V.int) []:=by
 induction ns with
 |nil=>exact iw _ _ _ _
 |cons a l ih=>rw[map_cons,map_cons];unfold RelL;exact⟨_,_,[],[],rfl,fR,ih,rfl⟩
theorem RelL.len2:∀{xs:Jn}{vs:Jl}{f:Jh},RelL T F B L H xs vs f->xs.length=vs.length
 | [],_,_,r=>by unfold RelL at r;rw[r.1];rfl
 |x::xs,_,_,r=>by unfold RelL at r;obtain⟨v,ws,f1,f2,rfl,_,h2,_⟩:=r;simp[h2.len2]
theorem r8(hK:X.K=T.K):Mir T W (p1 fC) (λxs H Q=>∃ p ys,xs=[.ref p]/\SqL X.K H p ys/\ys.length < 64 /\
    ((∃ ns,ys=ns.map V.int/\∀ l,H l=none->Q (.ref l) (upd H l (.lst ((jw ns).map V.int)))) \/
     (∃ps,PrH X.K H ys ps/\ps.Nodup/\∀l (q:List Nat),H l=none->q.Perm (range ys.length)->q.map (λi=>ps.getD i (0,0))=dg ps->Q (.ref l) (upd H l (.lst (q.map λi=>ys.getD i .non)))))):=by
  intro B F L Y H Q F' H' xs vs fx g r nf nd new q
  match xs,r,q with
  | [x],r,q=>
    obtain⟨v,rfl,r1⟩:=r.one;simp only[p1]at q;cases x with
    |lst f xs=>
      unfold Rel at r1;obtain⟨a,ws,fp',rfl,hl,hr,_⟩:=r1;simp only[fC]at q;by_cases hn:decide (xs.length<64)=true
      . rw[if_pos hn]at q;refine⟨a,ws,rfl,by rw[hK];exact hl.sq,by rw[<- hr.len2];exact of_decide_eq_true hn,?_⟩;cases e1:bH xs with
        |some ns=>rw[e1]at q;dsimp only at q;exact .inl ⟨ns,cE e1 hr,GE.newL q g (tD _) (λ_ h=>by cases h) .nil (λ_ h=>by cases h)⟩
        |none=>
          rw[e1]at q;dsimp only at q;cases e2:iz xs with
          |none=>rw[e2]at q;exact q.elim
          |some ps=>
            rw[e2]at q;dsimp only at q;by_cases hd:decide ps.Nodup=true
            . rw[if_pos hd]at q;obtain⟨hp,rfl⟩:=lJ e2 hr;refine .inr ⟨ps,by rw[hK];exact hp,of_decide_eq_true hd,λl q' hl' pm e=>?_⟩;have h2:=hp.map q' λi hi=>by simpa using pm.mem_iff.mp hi
              rw[e]at h2;exact GE.newL q g h2.rel (λ_ h=>by cases h) .nil (λ_ h=>by cases h) l hl'
            . rw[if_neg hd]at q;exact q.elim
      . rw[if_neg hn]at q;exact q.elim
    |_=>exact q.elim
  | [],_,q=>exact q.elim
  |_::_::_,_,q=>simp only[p1]at q;exact q.elim
theorem vC:bootBuiltins "sorted"=some (.builtin "sorted"):=by decide +kernel
theorem nA(hK:X.K=T.K)(hg:Gl X "sorted")(hm:X.mg "sorted"=none)(ha:SE X T W e m)(he:starEach [e] X.env=[(false,eval e X.env)]:=by rfl):SE X T W (.Call (.Name "sorted" p) [e] [] pos) (ap (p1 fC) (ae m am)):=
 gh qQ (r8 hK) hg hm vC (aa ha af (by rw[he];rfl)) (he:=by rw[he];rfl) (hpl:=rfl)
end
section
variable{X:Cx}{T:Tb}{W:Nat->St->Jm}{Z:Zn}{F:Je}{H:Hp}{Y:St}{env:En}{fp:Nat->Jh}
theorem cO(hg:Gl X x)(hm:∃t,X.mg x=some (.int i t))(hd:(x ==("__debug__":Str))=false:=by decide):SE X T W (.Name x pos) (mC (.int i)):=by obtain⟨t,h⟩:=hm;exact v4 hg h hd
end
def iy{α:Type}(n:Nat)(y:α)(xs:List α):List α:=xs.take n++y::xs.drop n
def d4(ns:Jf):Bool:=ns.all λv=>decide (-1000000<=v/\v<=1000000)
def jI:PV->Jo:=λx=>match aW x with
 |some xs=>match bH xs with
  |some ns=>if decide (ns.length<=1000)&&d4 ns then .ok (.int ns.sum)else .stuck
  |none=>.stuck
 |none=>.stuck
theorem ox(ns:Jf):∀n,n<=ns.length->preSum (λi=>ns.getD i 0) n=(ns.take n).sum
 |0,_=>rfl
 |n+1,h=>by have hn:n<ns.length:=h;have e:preSum (λi=>ns.getD i 0) (n+1)=preSum (λi=>ns.getD i 0) n+ns.getD n 0:=rfl;rw[e,ox ns n (),take_add_one,getElem?_eq_getElem hn,toList_some,List.sum_append,List.sum_singleton];simp[hn]
theorem nq:∀{ns:Jf},d4 ns=true->-(1000000*ns.length:Int)<= ns.sum/\ns.sum<=1000000*ns.length
 | [],_=>by simp
 |n::ns,h=>by simp only[d4,all_cons,and_eq_true,decide_eq_true_eq]at h;have:=nq (ns:=ns) (by simpa[d4]using h.2);simp only[sum_cons,length_cons];omega
theorem rB(h:d4 ns=true)(k:Nat):d4 (ns.take k)=true:=by simp only[d4,all_eq_true]at h ⊢;exact λx hx=>h x (List.mem_of_mem_take hx)
section
variable{X:Cx}{T:Tb}{W:Nat->St->Jm}{Z:Zn}{F F1 B L:Je}{H H1:Hp}{Y:St}{env:En}{fp:Nat->Jh}{js:Jd}{s:Shared}{a b:Expr}{ma mb:ME}{pos:Pos}
theorem o9(hc:X.calm=true):fQ X (.builtin "sum") (λxs H Q=>∃p ns,xs=[.ref p]/\(SqL X.K H p (ns.map V.int)\/ SqT X.K H p (ns.map V.int))/\ns.length<=1000/\d4 ns=true/\Q (.int ns.sum) H):=by
 intro js s Y H xs us Q I rv h;obtain⟨p,ns,rfl,hq,hn,hsm,q⟩:=h;obtain⟨u,rfl,rx⟩:=fw rv;cases rx;have hh:=I.ok.hd hc;have fit:∀m,m=ns.length->∀j,j<m->InLong (ns.getD j 0)/\InLong (preSum (λi=>ns.getD i 0) (j+1)):=λm e j hj=>by
  subst e;have h1:ns.getD j 0∈ns:=by simp[hj]
  simp only[d4,all_eq_true,decide_eq_true_eq]at hsm;have h2:=hsm _ h1;have h3:=nq (rB (k:=j+1) (show d4 ns=true by simpa[d4,all_eq_true]using hsm));rw[ox ns (j+1) hj];have h4:(ns.take (j+1)).length<=1000:=by simp;omega
  unfold InLong;omega
 have key:∀{its:Jg},a5 (ns.map V.int) its->∀{h':Heap}{tk t':Nat},(∀b o,s.heap.get? b=some o->h'.get? b=some o)->EP X js Y Q (.int (preSum (λi=>ns.getD i 0) its.toArray.size) t') {s with heap:=h',toks:=tk}:=by
  intro its r h' tk t' k;have hl:its.toArray.size=ns.length:=by have:=r.length;simpa using this.symm
  rw[hl,ox ns _ (Nat.le_refl _),take_length];exact⟨.int _,H,iJ I k,⟨t',rfl⟩,q⟩
 rcases hq with hq|hq
 .obtain⟨its,r,pl,hz⟩:=I.list hq;have hl:its.toArray.size=ns.length:=by have:=r.length;simpa using this.symm
  obtain⟨o,ho,hcl,n,hd⟩:=pl.isList;have hlt:=lt_size ho;refine call_sum_walk (wpAny_pyIter_list pl.isList ?_);refine⟨_,_,_,_,_,_,(λi=>ns.getD i 0),rfl,Walks.list (A:=X.A.in1) hh _ p (Nat.ne_of_lt hlt) its.toArray,⟨⟨_,get?_push_size _ rfl,rfl,rfl⟩,pl.isList.push _⟩,λb hb=>?_,dQ r,fit _ hl,λh' tk t' hk=>key r (eU hk)⟩;show b <(s.heap.push _).objs.size;rw[size_push];exact ij hlt rfl b hb
 .obtain⟨its,r,pl,hz⟩:=I.tuple hq;have hl:its.toArray.size=ns.length:=by have:=r.length;simpa using this.symm
  have pt:s.heap.IsTuple p its.toArray:=pl;obtain⟨o,ho,hcl,n,hd⟩:=pl;have hlt:=lt_size ho;refine call_sum_walk (wpAny_pyIter_tuple pt ?_);refine⟨_,_,_,_,_,_,(λi=>ns.getD i 0),rfl,Walks.tuple (A:=X.A.in1) hh _ p (Nat.ne_of_lt hlt) its.toArray,⟨⟨_,get?_push_size _ rfl,rfl,rfl⟩,pt.push _⟩,λb hb=>?_,dQ r,fit _ hl,λh' tk t' hk=>key r (eU hk)⟩;show b <(s.heap.push _).objs.size;rw[size_push];exact ij hlt rfl b hb
theorem AS(hK:X.K=T.K):Mir T W (p1 jI) (λxs H Q=>∃p ns,xs=[.ref p]/\(SqL X.K H p (ns.map V.int)\/ SqT X.K H p (ns.map V.int))/\ns.length<=1000/\d4 ns=true/\Q (.int ns.sum) H):=by
 intro B F L Y H Q F' H' xs vs fx gr r nf nd new q
 match xs,r,q with
 | [x],r,q=>
  obtain⟨v,rfl,rv⟩:=RelL.one r;simp only[p1,jI]at q;cases e:aW x with
  |none=>rw[e]at q;exact q.elim
  |some ys=>
   rw[e]at q;dsimp only at q;cases e2:bH ys with
   |none=>rw[e2]at q;exact q.elim
   |some ns=>
    rw[e2]at q;dsimp only at q;obtain⟨a,us,fx',rfl,hs,hr,_⟩:=rv.seq e;have hu:=cE e2 hr;subst hu;split at q
    .rename_i hc
     simp only[and_eq_true,decide_eq_true_eq]at hc;exact⟨a,_,rfl,by rw[hK];exact hs,hc.1,hc.2,q.scal gr fR⟩
    .exact q.elim
 | [],_,q=>exact q.elim
 |_::_::_,_,q=>simp only[p1]at q;exact q.elim
theorem EE:bootBuiltins "sum"=some (.builtin "sum"):=by decide +kernel
theorem lB(hK:X.K=T.K)(hc:X.calm=true)(hg:Gl X "sum")(hm:X.mg "sum"=none)(ha:SE X T W e m)(he:starEach [e] X.env=[(false,eval e X.env)]:=by rfl):SE X T W (.Call (.Name "sum" p) [e] [] pos) (ap (p1 jI) (ae m am)):=
 gh (o9 hc) (AS hK) hg hm EE (aa ha af (by rw[he];rfl)) (he:=by rw[he];rfl) (hpl:=rfl)
end
structure Sup(K:PySem.W.Frag)(C f:Addr):Prop where
 ga:specialIn K (.ref C) "__getattribute__"=some (some (.builtin "type.__getattribute__"))
 rd:readsIn K C (.type "type")=true
 fc:findCls K (.ref C) (.type "type") "__init__"=some (.val (.ref f))
 kp:PySem.W.keepIn K (.ref f)=true
def ie(m:Jn->Jo)(ms:MA):MS:=λenv=>match (env[(0:Nat)]?:Option (Option PV))with
 |some (some (.obj .own c ks vs))=>match ms env with
  |.ok xs=>if hasL Fl.Ju xs then .stuck else match m (.obj .own c ks vs::mapL Fl.Jq xs)with
   |.ok (.obj fl c' ks' vs')=>if(PV.obj fl c' ks' vs').has Fl.Jv then .stuck else .next (env.set 0 (some (.obj fl c' ks' vs')))
   |_=>.stuck
  |.exc c=>.exc c env
  |.stuck=>.stuck
 |_=>.stuck
section
variable{X:Cx}{T:Tb}{W:Nat->St->Jm}{Z:Zn}{F F1 F3:Je}{H H1 H3:Hp}{Y:St}{env:En}{fp:Nat->Jh}
theorem aA.sup(S:aA T Z F H Y env fp)(h0:Y[0]?=some (some v0))(hl:0<env.length)
  (nx:∀a∈fx,Z.H0 a=none\/Z.fp0 a) (nj:∀a∈fx,∀i,a∉fp i) (nF:∀a∈fx,¬F a) (cx:∀a∈fx,∃o,H a=some o/\Chg o)
  (hp3:cC T ⟨H,F,(·∈fp 0++fx),B',some v0⟩ F3 H3) (r:Rel T F3 B' NoL H3 o v0 f3) (hb:o.has Fl.Jv=false) (nd3:f3.Nodup) (nf3:∀a∈f3,¬F3 a) (new3:∀a∈f3,H a=none\/a∈fp 0++fx)
  (ho:∃fl c ks xs,o=.obj fl c ks xs):aA T Z F3 H3 Y (env.set 0 (some o)) (cG fp 0 f3):=by
 have zfree:∀a,H a=none->Z.H0 a=none\/Z.fp0 a:=λa z=>by
  by_cases q:Z.fp0 a
  .exact .inr q
  .refine .inl ?_;cases w:Z.H0 a with
   |none=>rfl
   |some o=>rw[S.hp.keep a o w q]at z;exact(nomatch z)
 have inn:∀a∈fp 0++fx,Z.H0 a=none\/Z.fp0 a:=λa h=>by
  rcases mem_append.mp h with h|h
  .exact S.new 0 a h
  .exact nx a h
 have jn:∀j,j≠0->∀a∈fp j,a∉fp 0++fx:=λj hj a ha z=>by
  rcases mem_append.mp z with z|z
  .exact S.dj j 0 hj a ha z
  .exact nj a z j ha
 have chgn:∀a∈fp 0++fx,∃o,H a=some o/\Chg o:=λa h=>by
  rcases mem_append.mp h with h|h
  .exact S.ch 0 a h
  .exact cx a h
 have rel':Rel T F3 Z.B NoL H3 o v0 f3:=Rel.noB hb r;refine⟨⟨S.hp.bo,λa u e n=>hp3.keep a u (S.hp.keep a u e n) λz=>?_,λa h=>hp3.f0 a (S.hp.f0 a h),λa h=>?_,hp3.ft⟩,by rw[length_set,S.len],λj pv e=>?_,λj=>?_,λj k hjk b hb=>?_,λj b hb=>?_,λj b hb=>?_,λj b hb=>?_,λw hw=>?_⟩
 .rcases inn a z with q|q
  .rw[e]at q;cases q
  .exact n q
 .rcases hp3.fn a h with z|z|z
  .exact S.hp.fn a z
  .exact .inr (zfree a z)
  .exact .inr (inn a z)
 .by_cases hj:j=0
  .subst hj;rw[getElem?_set_self hl]at e;cases e;refine⟨v0,h0,?_⟩;unfold cG;rw[if_pos rfl];exact rel'
  .rw[getElem?_set_ne (Ne.symm hj)]at e;obtain⟨w,h1,h2⟩:=S.rel j pv e;refine⟨w,h1,?_⟩;unfold cG;rw[if_neg hj];refine Rel.tr (λa h=>hp3.f0 a h) (λ_ h=>h) (λ_ h=>h) (λb u q h=>hp3.keep b u q λz=>?_) (λb hb u q=>hp3.keep b u q (jn j hj b hb)) h2;rcases h with h|h|h|h
   .rcases mem_append.mp z with z|z
    .exact(S.dis 0 b z).1 h
    .exact nF b z h
   .obtain⟨⟨o',e1⟩,e2⟩:=S.hp.bo.1 b h;rcases inn b z with q'|q'
    .rw[e1]at q';cases q'
    .exact e2 q'
   .exact h
   .obtain⟨o',e1,e2⟩:=chgn b z;have q1:H b=some u:=q;rw[q1]at e1;cases e1;cases u with
    |lst _|ins _ _ _=>exact h
    |_=>exact e2
 .unfold cG;split
  .exact nd3
  .exact S.nd j
 .grind[cG,aA,cC,Gr]
 .unfold cG at hb;by_cases h1:j=0
  .rw[if_pos h1]at hb;exact⟨nf3 b hb,r.there b hb⟩
  .rw[if_neg h1]at hb;obtain⟨n,u,e⟩:=S.dis j b hb;refine⟨λz=>?_,u,hp3.keep b u e (jn j h1 b hb)⟩;rcases hp3.fn b z with q|q|q
   .exact n q
   .have q':H b=none:=q;rw[e]at q';cases q'
   .exact jn j h1 b hb q
 .unfold cG at hb;by_cases h1:j=0
  .rw[if_pos h1]at hb;rcases new3 b hb with q|q
   .exact zfree b q
   .exact inn b q
  .rw[if_neg h1]at hb;exact S.new j b hb
 .unfold cG at hb;by_cases h1:j=0
  .rw[if_pos h1]at hb;exact r.chg b hb
  .rw[if_neg h1]at hb;obtain⟨u,e,c⟩:=S.ch j b hb;exact⟨u,hp3.keep b u e (jn j h1 b hb),c⟩
 .obtain⟨h1,h2⟩:=S.pn w hw;refine⟨h1,?_⟩;obtain⟨fl,c,ks,xs,e⟩:=ho;subst e;unfold dR;rw[getElem?_set_self hl]
theorem Ck
  (cx:Ctx X T W kk) (U:Sup X.K C f) (G:da X.prog X.w X.K X.mg X.base (CXP X.prog X.w) k f fd ps (spI T ps.length m)) (hk:k<=kk) (hg:Gl X x) (hm:X.mg x=some (.ref C)) (hb:fe X.K fd ps [])
  (hN:X.N[0]?=some y) (hv:Vis X.env.scope y) (hn:hV ms n) (hps:n+1=ps.length) (ha:SA X T W es ms)
  (hdb:(x ==("__debug__":Str))=false:=by decide) (hdy:(y ==("__debug__":Str))=false:=by decide) (hcy:(y ==("__classdict__":Str))=false:=by decide)
  (hst:starEach (.Name y px::es) X.env=(false,eval (.Name y px) X.env)::starEach es X.env:=by rfl) (hpl:(backTo pos (starEach es X.env)).any (·.1)=false:=by rfl)
  (ht:eval (.Call (.Attribute (.Name x p) "__init__" apos) (.Name y px::es) [] pos) X.env=(do
   let ov <- eval (.Name x p) X.env
   standAt apos.atName
   let(f,first) <- holding [ov] (getMethod ov "__init__" pl)
   callWith pos f first (backTo pos (starEach (.Name y px::es) X.env)) (backToKw pos (keywordEach [] X.env))):=by rfl)
  (hs:swapsWith (.Call (.Attribute (.Name x p) "__init__" apos) (.Name y px::es) [] pos) none pos'.line X.env=pure false:=by rfl) :
  SS X T W (.Expr (.Call (.Attribute (.Name x p) "__init__" apos) (.Name y px::es) [] pos) pos') (ie m ms):=by
 have pe:PE X (.Call (.Attribute (.Name x p) "__init__" apos) (.Name y px::es) [] pos) (λY H Q=>∃ Z F env fp,aA T Z F H Y env fp/\(match ie m ms env with
   |.next e=>∀F' H' fp',aA T Z F' H' Y e fp'->Q .non H'
   |.exc c e=>∀F' H' fp',aA T Z F' H' Y e fp'->W c Y H'
   |_=>False)):=by
  intro js s Y H Q I h;obtain⟨Z,F,env,fp,S,q⟩:=h;refine methodCall_KW (pl:=pl) (jR I hg hm ?_ hdb) ht;refine PySem.W.method_cls I.kIn U.ga (PySem.W.cls_value I.kIn U.rd U.fc rfl ?_);have I':=I.tok (s.toks+1);unfold ie at q;cases e0:env[0]? with
  |none=>rw[e0]at q;exact q.elim
  |some o0=>
  cases o0 with
  |none=>rw[e0]at q;exact q.elim
  |some ov=>
  obtain⟨v0,hv0,r0⟩:=S.rel 0 ov e0;have hl0:0<env.length:=(List.getElem?_eq_some_iff.mp e0).1;rw[e0]at q;by_cases hob:∃c ks vs,ov=.obj .own c ks vs
  case neg=>
   exfalso;cases ov with
   |obj fl c ks vs=>
    cases fl with
    |own=>exact hob ⟨_,_,_,rfl⟩
    |_=>exact q
   |_=>exact q
  obtain⟨c,ks,vs0,rfl⟩:=hob;dsimp only at q;have pa:=eR (X:=X) (kf (pos:=px) hN hv hdy hcy) ha hst;refine callWith_K (first:=[]) (h₀:=X.base) I'.ok.mod.kin U.kp (thn (pa pos js _ Y H (λvs H1=>∀ us s1,L2.Inv X js Y H1 s1->a5 vs us->wpAny (model X.prog X.w) X.A (call (.ref f) us) (EP X js Y Q) X.xe s1) I'
   ⟨v0,hv0,tA.bind S (λc e=>?_) (λe=>by rw[e]at q;exact q) λxs vs H1 F1 f1 e1 g1 r1 n1 d1 w1 us s1 I1 rv=>?_⟩) λus s1 ⟨vs,H1,I1,r,q1⟩=>⟨I1.kIn,q1 us s1 I1 r⟩) hst hpl
  .rw[e]at q;exact λH' x=>q F H' fp (S.grow (Gr.same S.hp.ft x))
  rw[e1]at q;dsimp only at q;by_cases hln:hasL Fl.Ju xs=true
  .rw[if_pos hln]at q;exact q.elim
  rw[if_neg hln]at q;have hln':hasL Fl.Ju xs=false:=by simpa using hln
  have S1:=S.grow g1;obtain⟨v0',hv0',r0'⟩:=S1.rel 0 _ e0;rw[hv0]at hv0';cases hv0';have xn:∀a∈f1,∀i,a∉fp i:=λa ha i hi=>by obtain⟨_,o,e⟩:=S.dis i a hi;rw[w1 a ha]at e;cases e
  have xz:∀a∈f1,Z.H0 a=none\/Z.fp0 a:=λa ha=>by
   by_cases q:Z.fp0 a
   .exact .inr q
   .refine .inl ?_;cases w:Z.H0 a with
    |none=>rfl
    |some o=>have:=w1 a ha;rw[S.hp.keep a o w q]at this;cases this
  have hBo:∀a,Z.B a->(∃o,H1 a=some o)/\a∉fp 0++f1:=λa h=>by
   obtain⟨⟨o,h1⟩,h2⟩:=S.hp.bo.1 a h;have h3:=S.hp.keep a o h1 h2;refine⟨⟨o,g1.ext a o h3⟩,λz=>?_⟩;rcases mem_append.mp z with z|z
   .exact S.bow a h ⟨0,z⟩
   .rw[w1 a z]at h3;cases h3
  have R:vI T F1 (λa=>(∃o,H1 a=some o)/\a∉fp 0++f1) H1 (.obj .own c ks vs0::mapL Fl.Jq xs) (v0::vs) (fp 0++f1):=by
   refine⟨?_,nodup_append.mpr ⟨S.nd 0,d1,λa ha b hb z=>by subst z;exact xn a hb 0 ha⟩,λa ha=>?_,⟨λa h=>h,S.tbo g1.ext λa z=>(mem_append.mp z).elim (λz=>.inr ⟨0,z⟩) λz=>.inl (w1 a z)⟩,g1.dom⟩
   .unfold RelL;refine⟨v0,vs,fp 0,f1,rfl,Rel.tr (λ_ h=>h) hBo (λ_ h=>h) (λ_ _ q _=>q) (λ_ _ _ q=>q) r0',?_,rfl⟩;exact RelL.Jq hBo (λ_ h=>h.elim) (RelL.noL (L':=NoL) hln' r1)
   .rcases mem_append.mp ha with ha|ha
    .exact(S1.dis 0 a ha).1
    .exact n1 a ha
  have r2:a5 (v0::vs) us:=rv;have hl:us.length=ps.length:=by rw[<- r2.length,length_cons,<- r1.length,hn env xs e1];exact hps
  refine wpAny_call (codeAny_mono (G.run X.A X.stack s1 H1 ⟨us,[]⟩ us (v0::vs) Q (λcls _ H'=>∃ c,cls=.ref (T.xcl c)/\W c Y H') (cx.room.mono hk) I1.env0 (by simpa using hb s1 us I1.kIn (by simpa using hl)) r2
   ⟨by rw[r2.length,hl],v0,_,F1,_,_,rfl,R,⟨.own,c,ks,vs0,rfl⟩,?_⟩) λrs s' hq=>?_)
  .cases e:m (.obj .own c ks vs0::mapL Fl.Jq xs)with
   |ok o=>
    rw[e]at q;cases o with
    |obj fl c' ks' vs'=>
     dsimp only at q;by_cases hbr:(PV.obj fl c' ks' vs').has Fl.Jv=true
     .rw[if_pos hbr]at q;exact q.elim
     .rw[if_neg hbr]at q;dsimp only at q;have hbr':(PV.obj fl c' ks' vs').has Fl.Jv=false:=by simpa using hbr
      intro F3 H3 f3 hp3 r3 nd3 nf3 new3;exact q F3 H3 _ (S1.sup hv0 hl0 xz xn n1 r1.chg hp3 r3 hbr' nd3 nf3 new3 ⟨_,_,_,_,rfl⟩)
    |_=>exact q.elim
   |exc c|stuck=>rw[e]at q;exact q.elim
  .cases rs with
   |error e=>obtain⟨cls,H',fl,c,rfl,hw⟩:=hq;exact cx.xf js Y H1 s1 c H' e s' I1 fl hw
   |ok fl=>
    cases fl with
    |ret u=>exact I1.after hq
    |next|brk|cont=>exact False.elim hq
 exact PS.wk (ow (pos:=pos') pe hs) λD Y H hz1=>by
  obtain⟨Z,F,env,fp,S,q⟩:=hz1;refine⟨Z,F,env,fp,S,?_⟩;cases e:ie m ms env with
  |next e'|exc c e'=>rw[e]at q;exact λF' H' fp' S'=>q F' H' Y fp' S'
  |ret v=>
   exfalso;revert e;unfold ie;split
   .split
    .split
     .simp
     .split
      .split<;>simp
      .simp
    .simp
    .simp
   .simp
  |brk e'=>
   exfalso;revert e;unfold ie;split
   .split
    .split
     .simp
     .split
      .split<;>simp
      .simp
    .simp
    .simp
   .simp
  |cont e'=>
   exfalso;revert e;unfold ie;split
   .split
    .split
     .simp
     .split
      .split<;>simp
      .simp
    .simp
    .simp
   .simp
  |stuck=>rw[e]at q;exact q
end
end PR
namespace PR
open PySem PySem.Spec L2 PyProof.Rows
section
variable{X:Cx}{T:Tb}{W:Nat->L2.St->Jm}{Z:Zn}{F F1 B L:Je}{H H1:Hp}{Y:L2.St}{env:En}{fp:Nat->Jh}{D:Ends}
def wD:PV->PV->Jo:=f6 (λi j=>decide (0<=j/\j<=1000000/\i.natAbs<2 ^ 64)) λi j=>.int (i*2 ^ j.toNat)
theorem Cv(ha:SE X T W a ma)(hb:SE X T W b mb):SE X T W (.BinOp a .LShift b pos) (mOp wD ma mb):=nB C6 (t7 (λi j h=>(by simpa using h:0<=j/\j<=1000000/\i.natAbs<2 ^ 64)) λ_ _ _ _ _ _=>fR) ha hb
end
end PR
namespace PR
open PySem PySem.Spec L2
section
def whL(c:MT)(b:MS):Nat->MS
 |0,_=>.stuck
 |k+1,env=>match c env with
  |.ok true=>match b env with
   |.next e|.cont e=>whL c b k e
   |.brk e=>.next e
   |.ret v=>.ret v
   |.exc x e=>.exc x e
   |.stuck=>.stuck
  |.ok false=>.next env
  |.exc x=>.exc x env
  |.stuck=>.stuck
def gT(c:MT)(b:MS):MS:=whL c b 100000
section
variable{X:Cx}{T:Tb}{W:Nat->St->Jm}
theorem io(hp:PassesOwn (model X.prog X.w) X.A X.env X.xe)(hc:ST X T W c mc)(hb:SSs X T W body mb):SS X T W (.While c body [] pos) (gT mc mb):=
 PS.wk (wm (pos:=pos) hp hc hb) λD Y H hz1=>by
  obtain⟨Z,F,env,fp,S,q⟩:=hz1;unfold gT at q;refine⟨λm σ' H'=>∃F' env' fp',aA T Z F' H' σ' env' fp'/\GS T W Z D (whL mc mb m env'),⟨100000,F,env,fp,S,q⟩,?_⟩;rintro m σ' H' ⟨F',env',fp',S',q'⟩;cases m with
  |zero=>exact q'.elim
  |succ k=>
   unfold whL at q';refine tT.bind S' (λc e H2 x=>?_) (λe=>by rw[e]at q';exact q') λb H1 F1 e g=>?_
   .rw[e]at q';exact q' F' H2 σ' fp' (S'.grow (Gr.same S'.hp.ft x))
   .cases b with
    |false=>rw[e]at q';exact(if_neg (by decide)).mpr (q' F1 H1 σ' fp' (S'.grow g))
    |true=>
     rw[e]at q';dsimp only at q';refine(if_pos rfl).mpr ⟨λσ2 H2=>∃F2 env2 fp2,aA T Z F2 H2 σ2 env2 fp2/\GS T W Z D (whL mc mb k env2),λσ2 H2 h=>⟨k,Nat.lt_succ_self k,h⟩,Z,F1,env',fp',S'.grow g,?_⟩;cases eb:mb env' with
     |next e2|cont e2=>rw[eb]at q';exact λF3 H3 σ3 fp3 S3=>⟨F3,e2,fp3,S3,q'⟩
     |brk e2|ret v|exc c e2|stuck=>rw[eb]at q';exact q'
end
end
section
open AutoSeq1 (wpAny_loadPart')
section
variable{prog:Program}{w:World}{A:Around}{E:Ja}{s:Shared}
theorem kJ(ft:TypeCalled T nI iI)
  (c1:checkTypeCall T ⟨us,kw⟩=pure .unit) (c2:checkBuiltinCall nI ⟨.type T::us,kw⟩=pure .unit) (eN:entryFor table nI=some Bn) (eI:entryFor table iI=some Bi) (g:Meets (Bn ⟨.type T::us,kw⟩) S)
  (h:S A.in1 (wants Q1 E) s) (nx:∀ob s1,Q1 ob s1->s1.TypeIs ob T/\argsOk iI ⟨ob::us,kw⟩/\∃Si,Meets (Bi ⟨ob::us,kw⟩) Si/\Si A.in1 (wants (λr s2=>r=.none/\Q ob s2) E) s1) :
  wpAny (model prog w) A (call (.type T) us kw) Q E s:=by
 obtain⟨cc,tt,hmro⟩:=ft.mro;have hmade:=ft.made;have hsub:=ft.sub;have h1:=ft.notType;have h2:=ft.canCreate;refine wpAny_call (codeAny_of_tree (show wpAny _ _ (callAny (.type T) _) _ _ _ from wpAny_pure ⟨Code.quiet_builtin _ (by decide +kernel),codeAny_builtin F.entry_type_call ?_⟩));rw[Around.under_plain (weight_type_call_type T us kw) (units_type_call_type T us kw)]
 repeat (any_goals (first|assumption|wp_step|fail))
 refine codeAny_mono (codeAny_call_builtin ft.plain eN (wpAny_of_eq c2 (g prog w A.in1 _ s h))) λr s1 hr=>?_;cases r with
 |error e=>exact hr
 |ok fl=>
  cases fl with
  |ret ob=>
   obtain⟨hT,hok,Si,gi,hsi⟩:=nx _ _ hr;have hli:=ft.init.lookup;have hbi:=ft.init.bind ob
   repeat (any_goals (first|assumption|wp_step|fail))
   refine codeAny_mono (codeAny_call_builtin ft.init.plain eI (ft.init.check _ _ _ _ _ _ _ _ hT hok (gi prog w A.in1 _ s1 hsi))) λr2 s2 hr2=>?_;cases r2 with
   |error e=>exact hr2
   |ok fl2=>
    cases fl2 with
    |ret r=>
     obtain⟨rfl,hq⟩:=hr2
     repeat (any_goals (first|assumption|wp_step|fail))
    |_=>exact hr2.elim
  |_=>exact hr.elim
theorem B2(hl:typeLookup (.type T) "__init__"=pure (some (.builtin "object.__init__")))(hm:Bind.madeBy (.type T)=pure (some nI))(hne:(some nI != some "object.__new__")=true) :
  Meets (Builtin.«object.__init__» ⟨[self,a],kw⟩) (λ_ R s=>s.TypeIs self T/\R (.ok (.ret .none)) s):=by
 refine Meets.of_wp λpr w A R s0 hs=>?_;obtain⟨hT,hq⟩:=hs
 repeat (any_goals (first|assumption|wp_step|fail))
 exact⟨_,rfl,hq⟩
theorem cK1(a v:Value):checkTypeCall "enumerate" ⟨[a],[("start",v)]⟩=pure .unit:=by kernel_rfl
theorem cK2(a v:Value):checkBuiltinCall "enumerate.__new__" ⟨[.type "enumerate",a],[("start",v)]⟩=pure .unit:=by kernel_rfl
theorem cK3(a b v:Value):argsOk "object.__init__" ⟨[a,b],[("start",v)]⟩:=by
 unfold argsOk;rw[signature?_of (id:="object.__init__") (n:=['_','_','t','i','n','i','_','_']) (o:=['t','c','e','j','b','o']) (by kernel_rfl) F.owner_object]
 kernel_rfl
abbrev itO(n:String)(l:Addr):Obj:={cls:=.type n,data:=.fields #[.ref l,.int 0 0]}
abbrev enO(it:Addr)(i:Int):Obj:={cls:=.type "enumerate",data:=.fields #[.none,.bool false,.ref it,rawInt i,.none,.none]}
def nZ(n:String)(l:Addr)(s:Shared):Prop:=∀(pr:Program) (w:World) (A:Around) (Q:Ja) (E:Ja),Q (.ref s.heap.objs.size) {s with heap:=s.heap.push (itO n l)}->wpAny (model pr w) A (pyIter (.ref l)) Q E s
theorem Ho(n:String)(l:Addr)(t:Tok) :
  Meets (Builtin.«enumerate.__new__» ⟨[.type "enumerate",.ref l],[("start",.int 1 t)]⟩) (λ_ R s=>nZ n l s/\R (.ok (.ret (.ref (s.heap.push (itO n l)).objs.size))) {s with heap:=(s.heap.push (itO n l)).push (enO s.heap.objs.size 1)}):=
 .of_wp λpr w A R s0 h=>by
  obtain⟨hp,g,d,tk,os⟩:=s0;obtain⟨hI,h⟩:=h;have hsub:=sub_enumerate;have hJ:∀{Q:Ja}{E:Ja},Q (.ref hp.objs.size) ⟨hp.push (itO n l),g,d,tk,os⟩->wpAny (model pr w) A.in1 (pyIter (.ref l)) Q E ⟨hp,g,d,tk,os⟩:=λ{Q E} q=>hI pr w A.in1 Q E q;have hJ':∀{Q:Ja}{E:Ja},Q (.ref hp.objs.size) ⟨hp.push (itO n l),g,d,tk,os⟩->wpAny (model pr w) A (pyIter (.ref l)) Q E ⟨hp,g,d,tk,os⟩:=λ{Q E} q=>hI pr w A Q E q
  wp_walk
  refine wpAny_stack_any λst=>wpAny_pure ?_;split<;>try (rename_i c _ _ _ _ _;cases(c==Value.type "enumerate"))
  all_goals (wp_walk using hJ,hJ')
  all_goals exact⟨_,rfl,h⟩
theorem Ey(hI:nZ n l s)(h:Q (.ref (s.heap.objs.size+1)) {s with heap:=(s.heap.push (itO n l)).push (enO s.heap.objs.size 1)}) :
  wpAny (model prog w) A (call (.type "enumerate") [.ref l] [("start",.int 1 t)]) Q E s:=by
 have hz:(s.heap.push (itO n l)).objs.size=s.heap.objs.size+1:=size_push ..
 refine kJ (Q1:=λob s1=>s1.TypeIs ob "enumerate" /\ Q ob s1) F.called_enumerate (cK1 _ _) (cK2 _ _) F.entry_enumerate_new F.entry_object_init (Ho n l t) ⟨hI,?_⟩ λob s1 hq=>⟨hq.1,cK3 ob _ _,_,B2 F.called_enumerate.init.lookup F.called_enumerate.made (by decide),hq.1,rfl,hq.2⟩
 show _/\_;rw[hz];have:=get?_push_size (s.heap.push (itO n l)) (o:=enO s.heap.objs.size 1) rfl;rw[hz]at this;exact⟨⟨_,this,rfl⟩,h⟩
theorem pV(t:Addr):¬((Value.ref t==Value.none)=true):=Bool.false_ne_true
theorem wV(hit:s.heap.IsTupleIter it t i)(ht:s.heap.IsTuple t items)(hx:items[i]?=some x)
  (hQ:∀h',h'.IsTupleIter it t (i+1)->SameBut it s.heap h'->Q x {s with heap:=h'}):wpAny (model prog w) A (Builtin.SmallTypes.nextOf (.ref it)) Q E s:=by
 obtain⟨o,ho,hc,hd⟩:=id hit;obtain⟨o2,ho2,_,n2,hd2⟩:=ht;unfold Builtin.SmallTypes.nextOf;refine wpAny_bind (wpAny_callSpecial?_slot (name:=Str.ofString "__next__") hit.typeIs F.slot_tuple_iterator_next (wpAny_call_entry F.slot_tuple_iterator_next hit.typeIs F.entry_tuple_iterator_next ?_ (F.args_tuple_iterator_next_1 _)));refine(show wpAny _ _ (field (.ref it) 0 >>= _) _ _ s from wpAny_bind (wpAny_field ho hd (x:=.ref t) rfl ?_));refine(show wpAny _ _ (if(Value.ref t==Value.none)=true then _ else _) _ _ s from ?_);rw[if_neg (pV t)];refine(show wpAny _ _ (field (.ref it) 1 >>= _) _ _ s from wpAny_bind (wpAny_field ho hd (x:=.int i 0) rfl ?_));refine(show wpAny _ _ (seqItems? (.ref t) >>= _) _ _ s from wpAny_bind (wpAny_seqItems ho2 hd2 ?_));simp only[toNat_natCast,hx];refine wpAny_bind (wpAny_setField ho hd (by simp) (wpAny_pure ⟨x,rfl,wpAny_pure (hQ _ ⟨_,get?_update_self _ ho (Obj.isFreed_of_fields (Obj.data_mapFields hd _)),(Obj.cls_mapFields ..).trans hc,by rw[Obj.data_mapFields hd];simp[rawInt]⟩ (SameBut.update ..))⟩))
theorem AK(hh:A.handled=none)(hit:s.heap.IsTupleIter it t i)(ht:s.heap.IsTuple t items)(hx:items[i]?=none)
  (hE:∀h' e,ExtBut it s.heap h'->(∃o,h'.get? e=some o/\o.cls=.type "StopIteration")->E (.ref e) {s with heap:=h'}):wpAny (model prog w) A (Builtin.SmallTypes.nextOf (.ref it)) Q E s:=by
 obtain⟨o,ho,hc,hd⟩:=id hit;obtain⟨o2,ho2,_,n2,hd2⟩:=ht;unfold Builtin.SmallTypes.nextOf;refine wpAny_bind (wpAny_callSpecial?_slot (name:=Str.ofString "__next__") hit.typeIs F.slot_tuple_iterator_next (wpAny_call_entry F.slot_tuple_iterator_next hit.typeIs F.entry_tuple_iterator_next ?_ (F.args_tuple_iterator_next_1 _)));refine(show wpAny _ _ (field (.ref it) 0 >>= _) _ _ s from wpAny_bind (wpAny_field ho hd (x:=.ref t) rfl ?_));refine(show wpAny _ _ (if(Value.ref t==Value.none)=true then _ else _) _ _ s from ?_);rw[if_neg (pV t)];refine(show wpAny _ _ (field (.ref it) 1 >>= _) _ _ s from wpAny_bind (wpAny_field ho hd (x:=.int i 0) rfl ?_));refine(show wpAny _ _ (seqItems? (.ref t) >>= _) _ _ s from wpAny_bind (wpAny_seqItems ho2 hd2 ?_));simp only[toNat_natCast,hx];refine wpAny_bind (wpAny_rule (wpAny_bind (wpAny_setField ho hd (by simp) (show wpAny _ _ (newExc (.type "StopIteration") [] >>= _) _ _ _ from wpAny_bind ?_))));simp only[newExc,newTuple];refine wpAny_bind (wpAny_newObj_type (wpAny_bind (m:=firstArgMember _ _) (wpAny_of_eq (a:=Value.none) (by first|rfl |(simp only[firstArgMember];rfl)) (wpAny_newObj_type ?_ (by size_fits)))) (by size_fits));simp only[raiseNew];refine wpAny_bind (wpAny_handled ?_)
 first|rw[show A.in1.handled=none from hh]|rw[hh]|skip
 exact wpAny_bind (wpAny_pure (wpAny_throw (hE _ _ (((SameBut.update ..).extBut.push _).push _) ⟨_,get?_push_size _ rfl,rfl⟩)))
inductive jq(h:Heap)(it l:Addr)(its:Jk)(i:Nat):Prop
 |lst (a:h.IsListIter it l i) (b:h.IsList l its)
 |tup (a:h.IsTupleIter it l i) (b:h.IsTuple l its)
theorem jq.at(x:jq h it l its i)(k1:∀o,h.get? it=some o->h'.get? it=some o)(k2:∀o,h.get? l=some o->h'.get? l=some o):jq h' it l its i:=by
 rcases x with⟨⟨o,e,r⟩,⟨o2,e2,r2⟩⟩ |⟨⟨o,e,r⟩,⟨o2,e2,r2⟩⟩
 .exact .lst ⟨o,k1 o e,r⟩ ⟨o2,k2 o2 e2,r2⟩
 .exact .tup ⟨o,k1 o e,r⟩ ⟨o2,k2 o2 e2,r2⟩
theorem jq.obj(x:jq h it l its i):∃o,h.get? it=some o/\∀v,o.data≠.cell v:=by
 rcases x with⟨⟨o,e,_,d⟩,_⟩ |⟨⟨o,e,_,d⟩,_⟩
 .exact⟨o,e,λv z=>by rw[d]at z;cases z⟩
 .exact⟨o,e,λv z=>by rw[d]at z;cases z⟩
theorem AJ(hi:jq s.heap it l its i)(hne:l≠it)(hx:its[i]?=some x)(hQ:∀h',jq h' it l its (i+1)->SameBut it s.heap h'->Q x {s with heap:=h'}) :
  wpAny (model prog w) A (Builtin.SmallTypes.nextOf (.ref it)) Q E s:=by
 rcases hi with⟨a,b⟩ |⟨a,b⟩
 .exact wpAny_nextOf_list_item a b hx λh' q sb=>hQ h' (.lst q (b.extBut sb.extBut hne)) sb
 .exact wV a b hx λh' q sb=>hQ h' (.tup q (b.extBut sb.extBut hne)) sb
theorem DP(hh:A.handled=none)(hi:jq s.heap it l its i)(hx:its[i]?=none)
  (hE:∀h' e,ExtBut it s.heap h'->(∃o,h'.get? e=some o/\o.cls=.type "StopIteration")->E (.ref e) {s with heap:=h'}):wpAny (model prog w) A (Builtin.SmallTypes.nextOf (.ref it)) Q E s:=by
 rcases hi with⟨a,b⟩ |⟨a,b⟩
 .exact wpAny_nextOf_list_end hh a b hx hE
 .exact AK hh a b hx hE
theorem Bo{Q:Ja}(he:IsEnum s.heap e it k old)(hi:jq s.heap it l its i)(hne:e≠it)(hli:l≠it)(hle:l≠e)(hx:its[i]?=some x)
  (hQ:∀ h',IsEnumOut h' e it (k+1) x s.heap.objs.size->jq h' it l its (i+1)->h'.get? s.heap.objs.size=some { cls:=.type "tuple", data:=.seq #[.int k s.toks,x] }->h'.objs.size=s.heap.objs.size+1 ->
   (∀b o,b≠e->b≠it->s.heap.get? b=some o->h'.get? b=some o)->Q (.ref s.heap.objs.size) {s with heap:=h',toks:=s.toks+1}) :
  wpAny (model prog w) A (Builtin.«enumerate.__next__» ⟨[.ref e],[]⟩) (λfin s'=>∃v,fin=.done (.ret v)/\Q v s') E s:=by
 obtain⟨hp,g,d,tk,os⟩:=s;refine(show wpAny _ _ (field (.ref e) 2 >>= _) _ _ _ from wpAny_bind (wpAny_field he rfl (x:=.ref it) rfl ?_));refine wpAny_bind (AJ hi hli hx λh1 i1 s1=>?_)
 replace s1:SameBut it hp h1:=s1
 have e1:IsEnum h1 e it k old:=(s1.2 e hne).trans he;refine(show wpAny _ _ (field (.ref e) 3 >>= _) _ _ ⟨h1,g,d,tk,os⟩from wpAny_bind (wpAny_field e1 rfl (x:=rawInt k) rfl ?_));refine(show wpAny _ _ (field (.ref e) 4 >>= _) _ _ ⟨h1,g,d,tk,os⟩from wpAny_bind (wpAny_field e1 rfl (x:=.none) rfl ?_));refine(show wpAny _ _ (mkInt k >>= _) _ _ ⟨h1,g,d,tk,os⟩from wpAny_bind (wpAny_mkInt ?_));refine(show wpAny _ _ (setField (.ref e) 3 (rawInt (k+1)) >>= _) _ _ ⟨h1,g,d,tk+1,os⟩from wpAny_bind (wpAny_setField_rec e1 (by simp) λh2 e2 s2=>?_))
 replace s2:SameBut e h1 h2:=s2
 replace e2:IsEnum h2 e it (k+1) old:=e2
 refine(show wpAny _ _ (setField (.ref e) 4 .none >>= _) _ _ ⟨h2,g,d,tk+1,os⟩from wpAny_bind (wpAny_setField_rec e2 (by simp) λh3 e3 s3=>?_))
 replace s3:SameBut e h2 h3:=s3
 replace e3:IsEnum h3 e it (k+1) old:=e3
 refine(show wpAny _ _ (newTuple [.int k tk,x] >>= _) _ _ ⟨h3,g,d,tk+1,os⟩from wpAny_bind (wpAny_newTuple ?_));have e4:IsEnum (h3.push {cls:=.type "tuple",data:=.seq #[.int k tk,x]}) e it (k+1) old:=get?_push_of_some _ e3;generalize hh4:h3.push {cls:=.type "tuple",data:=.seq #[.int k tk,x]}=h4 at e4;have z3:h3.objs.size=hp.objs.size:=by rw[s3.1,s2.1,s1.1]
 have lte:e<hp.objs.size:=lt_size he;have t4:h4.get? hp.objs.size=some {cls:=.type "tuple",data:=.seq #[.int k tk,x]}:=by rw[<- hh4,<- z3];exact get?_push_size _ rfl
 have z4:h4.objs.size=hp.objs.size+1:=by rw[<- hh4,size_push,z3]
 have k4:∀b o,b≠e->h1.get? b=some o->h4.get? b=some o:=λb o hb q=>by rw[<- hh4];exact get?_push_of_some _ (s3.extBut b o hb (s2.extBut b o hb q))
 refine(show wpAny _ _ (Builtin.SmallTypes.ownedTupleIsFree (.ref e) >>= _) _ _ ⟨h4,g,d,tk+1,os⟩from ?_);rw[z3];refine wpAny_bind ?_;unfold Builtin.SmallTypes.ownedTupleIsFree;refine wpAny_bind (wpAny_field e4 rfl (x:=.none) rfl (wpAny_pure ?_));simp only[if_true];refine wpAny_bind (wpAny_rule (wpAny_bind (wpAny_field e4 rfl (x:=old) rfl (wpAny_bind (wpAny_setField_rec e4 (by simp) λh5 e5 s5=>?_)))))
 replace s5:SameBut e h4 h5:=s5
 replace e5:IsEnum h5 e it (k+1) x:=e5
 refine(show wpAny _ _ (Builtin.SmallTypes.ownedTupleHandOut (.ref e) (.ref hp.objs.size) >>= _) _ _ ⟨h5,g,d,tk+1,os⟩from wpAny_bind ?_);unfold Builtin.SmallTypes.ownedTupleHandOut;refine wpAny_bind (wpAny_setField_rec e5 (by simp) λh6 e6 s6=>?_)
 replace s6:SameBut e h5 h6:=s6
 replace e6:IsEnumOut h6 e it (k+1) x hp.objs.size:=e6
 refine wpAny_setField_rec e6 (by simp) λh7 e7 s7=>?_
 replace s7:SameBut e h6 h7:=s7
 replace e7:IsEnumOut h7 e it (k+1) x hp.objs.size:=e7
 have up:∀b o,b≠e->h4.get? b=some o->h7.get? b=some o:=λb o hb q=>s7.extBut b o hb (s6.extBut b o hb (s5.extBut b o hb q));refine wpAny_bind (wpAny_letGo (wpAny_pure ⟨_,rfl,hQ h7 e7 (i1.at (λo q=>up it o hne.symm (k4 it o hne.symm q)) λo q=>up l o hle (k4 l o hle q)) (up _ _ (Nat.ne_of_gt lte) t4) (by rw[s7.1,s6.1,s5.1,z4]) λb o hb hb2 q=>up b o hb (k4 b o hb (s1.extBut b o hb2 q))⟩))
theorem Av(he:IsEnum s.heap e it k old)(hi:jq s.heap it l its i)(hne:e≠it)(hli:l≠it)(hle:l≠e)(hx:its[i]?=some x)
  (hQ:∀ h',IsEnumOut h' e it (k+1) x s.heap.objs.size->jq h' it l its (i+1)->h'.get? s.heap.objs.size=some { cls:=.type "tuple", data:=.seq #[.int k s.toks,x] }->h'.objs.size=s.heap.objs.size+1 ->
   (∀b o,b≠e->b≠it->s.heap.get? b=some o->h'.get? b=some o)->Q (some (.ref s.heap.objs.size)) {s with heap:=h',toks:=s.toks+1}):wpAny (model prog w) A (pyNext (.ref e)) Q E s:=by
 have hT:s.TypeIs (.ref e) "enumerate":=⟨_,he,rfl⟩
 unfold pyNext;exact wpAny_bind (wpAny_attempt (wpAny_callSpecial?_slot (name:=Str.ofString "__next__") hT F.slot_enumerate_next (wpAny_call_entry F.slot_enumerate_next hT F.entry_enumerate_next (Bo he hi hne hli hle hx λh' a b c d q=>wpAny_pure (hQ h' a b c d q)) (F.args_enumerate_next_1 _))))
theorem CT(hh:A.handled=none)(he:IsEnum s.heap e it k old)(hi:jq s.heap it l its i)(hx:its[i]?=none)
  (hQ:∀h',ExtBut it s.heap h'->Q none {s with heap:=h'}):wpAny (model prog w) A (pyNext (.ref e)) Q E s:=by
 have hT:s.TypeIs (.ref e) "enumerate":=⟨_,he,rfl⟩
 unfold pyNext;refine wpAny_bind (wpAny_attempt (wpAny_callSpecial?_slot (name:=Str.ofString "__next__") hT F.slot_enumerate_next (wpAny_call_entry F.slot_enumerate_next hT F.entry_enumerate_next ?_ (F.args_enumerate_next_1 _))));refine(show wpAny _ _ (field (.ref e) 2 >>= _) _ _ _ from wpAny_bind (wpAny_field he rfl (x:=.ref it) rfl ?_));refine wpAny_bind (DP hh hi hx λh' y q ⟨o,ho,hc⟩=>?_);exact wpAny_bind (wpAny_isInstance (T:="StopIteration") (b:=true) ⟨o,ho,hc⟩ isSubtype_stop (wpAny_pure (hQ _ q)))
end
section
variable{X:Cx}{T:Tb}{W:Nat->St->Jm}{Z:Zn}{F F1 B L:Je}{H H1:Hp}{Y:St}{env:En}{js:Jd}{s:Shared}
theorem nO{fp:Jh}{vs:Jl}(I:L2.Inv X js Y H s)(hf:∀b∈fp,mU X js H b)(k:∀b o,b∉fp->s.heap.get? b=some o->h'.get? b=some o)(hp:s.heap.objs.size<=a)(new:dX X.prog X.w (upd H a (.tup vs)) h' a (.tup vs)) :
  L2.Inv X js Y (upd H a (.tup vs)) {s with heap:=h',toks:=t'}:=by
 have hn:H a=none:=I.hok.fresh hp;have nit:∀b u,H b=some u->b∉fp:=λb u e z=>by rw[(hf b z).1]at e;cases e
 refine I.step (g':=s.gens) (d':=s.drawn) (ch:=fp) (λb hb=>?_) (λb o _ _ hc e _=>k b o hc e) (λb o _ _ hc e _=>⟨o.slots,k b o hc e⟩) (λb o _ e n=>?_) (λb o hc e=>⟨o,k b o hc e⟩)
  (λb xs e=>by rw[aV (b9 e hn)];exact e) (λb o u e=>by rw[aV (b9 e hn)];exact e) (λb ps e=>⟨#[],by rw[aV (b9 e hn),e];simp⟩) (λm hm=>?_) (λb u e=>?_) I.bare
 .obtain⟨_,q1,_,q3,q4,q5⟩:=hf b hb;exact⟨q3,q1,q4,q5⟩
 .rw[aV (Nat.ne_of_lt (Nat.lt_of_lt_of_le (lt_size e) hp))];exact n
 .obtain⟨o,es,ep,ho,r⟩:=hm;exact⟨o,es,ep,k _ o (λz=>(hf _ z).2.1 rfl) ho,r⟩
 .by_cases hb:b=a
  .subst hb;rw[cw]at e;cases e;exact new
  .rw[aV hb]at e;refine(I.hok b u e).stay (λc v hc q=>k c v ?_ q) (λc q=>by rw[aV (b9 q hn)];exact q) λc xs _ q=>by rw[aV (b9 q hn)];exact q
   rcases hc with z|z
   .rw[z];exact nit b u e
   .exact nit c _ z
def Sq(tp:Bool)(K:PySem.W.Frag)(H:Hp)(l:Addr)(xs:Jl):Prop:=match tp with
 |true=>SqT K H l xs
 |false=>SqL K H l xs
def zL(tp:Bool)(h:Heap)(it l:Addr)(i:Nat):Prop:=match tp with
 |true=>h.IsTupleIter it l i
 |false=>h.IsListIter it l i
def Ite(tp:Bool)(K:PySem.W.Frag)(st:Int)(l:Addr):It:=
 ⟨λi H=>∃xs x,Sq tp K H l xs/\xs[i]?=some x,λi H v H'=>∃p y,H p=none/\v=.ref p/\H'=upd H p (.tup [.int (st+i),y])/\∀xs,Sq tp K H l xs->xs[i]?=some y,λi H=>∃xs,Sq tp K H l xs/\xs.length<=i⟩
theorem BM(I:L2.Inv X js Y H s)(hq:Sq tp X.K H l xs)(ha:zL tp s.heap it l i):∃its:Jg,a5 xs its/\jq s.heap it l its.toArray i/\l≠it/\∀e k old,IsEnum s.heap e it k old->e≠it/\l≠e:=by
 cases tp with
 |false=>
  obtain⟨its,rv,p,_⟩:=I.list hq;obtain⟨o,ho,hc,_⟩:=id p.isList;obtain⟨o2,ho2,hc2,_⟩:=id (show s.heap.IsListIter it l i from ha);refine⟨its,rv,.lst ha p.isList,λz=>?_,λe k old he=>⟨λz=>?_,λz=>?_⟩⟩
  .rw[z,ho2]at ho;cases ho;rw[hc2]at hc;exact absurd hc (by decide)
  .grind
  grind
 |true=>
  obtain⟨its,rv,p,_⟩:=I.tuple hq;have p':s.heap.IsTuple l its.toArray:=p;obtain⟨o,ho,hc,_⟩:=id p';obtain⟨o2,ho2,hc2,_⟩:=id (show s.heap.IsTupleIter it l i from ha);refine⟨its,rv,.tup ha p',λz=>?_,λe k old he=>⟨λz=>?_,λz=>?_⟩⟩
  .rw[z,ho2]at ho;cases ho;rw[hc2]at hc;exact absurd hc (by decide)
  .grind
  grind
theorem Cp(I:L2.Inv X js Y H s)(h1:Sq tp X.K H l xs)(h2:Sq tp X.K H l ys):xs=ys:=by
 cases tp with
 |false=>exact I.list_inj h1 h2
 |true=>exact I.tuple_inj h1 h2
theorem G7(x:jq h it l its i)(hl:tp=true->∃o,h.get? l=some o/\o.cls=.type "tuple")(hl2:tp=false->∃o,h.get? l=some o/\o.cls=.type "list"):zL tp h it l i:=by
 cases tp with
 |false=>
  obtain⟨o,ho,hc⟩:=hl2 rfl;rcases x with⟨a,b⟩ |⟨a,⟨o2,ho2,hc2,_⟩⟩
  .exact a
  .rw[ho]at ho2;cases ho2;rw[hc]at hc2;exact absurd hc2 (by decide)
 |true=>
  obtain⟨o,ho,hc⟩:=hl rfl;rcases x with⟨a,⟨o2,ho2,hc2,_⟩⟩ |⟨a,b⟩
  .rw[ho]at ho2;cases ho2;rw[hc]at hc2;exact absurd hc2 (by decide)
  .exact a
theorem nh{els:List Expr}{x1}(tp:Bool)(st:Int)(l e it:Addr) :
  vF P w K (.Tuple els x1 tpos) (Ite tp K st l) [e,it] e (λi h=>(∃old,IsEnum h e it (st+i) old)/\zL tp h it l i) where
 mem:=by simp
 obj:=λi h st b hb=>by
  obtain⟨⟨old,he⟩,ha⟩:=st;simp only[mem_cons,not_mem_nil,or_false]at hb;rcases hb with rfl|rfl
  .exact⟨_,he,λv z=>by cases z⟩
  .cases tp with
   |false=>obtain⟨o,e,c,d⟩:=id (show h.IsListIter b l i from ha);exact⟨o,e,λv z=>by rw[d]at z;cases z⟩
   |true=>obtain⟨o,e,c,d⟩:=id (show h.IsTupleIter b l i from ha);exact⟨o,e,λv z=>by rw[d]at z;cases z⟩
 keep:=λi h h' st k=>by
  obtain⟨⟨old,he⟩,ha⟩:=st;refine⟨⟨old,k e (by simp) _ he⟩,?_⟩;cases tp with
  |false=>obtain⟨o,e,r⟩:=id (show h.IsListIter it l i from ha);exact⟨o,k it (by simp) o e,r⟩
  |true=>obtain⟨o,e,r⟩:=id (show h.IsTupleIter it l i from ha);exact⟨o,k it (by simp) o e,r⟩
 item:=by
  intro X hP hw hK hc i js s Y H E I hf stt hg;subst hP hw hK;obtain⟨⟨old,he⟩,ha⟩:=stt;obtain⟨xs,x,hq,hx⟩:=hg;obtain⟨its,rv,hi,hli,hen⟩:=BM I hq ha;obtain⟨hne,hle⟩:=hen e _ old he;obtain⟨u,hu,ru⟩:=rv.get hx;refine Av he hi hne hli hle (x:=u) (by simpa using hu) λh1 eo in1 tu sz kp=>?_;refine⟨_,rfl,wpAny_letOwnedTupleGo_enum eo λh2 e2 s2=>?_⟩
  replace s2:SameBut e h1 h2:=s2
  have lte:e<s.heap.objs.size:=lt_size he;have kp2:∀b o,b∉[e,it]->s.heap.get? b=some o->h2.get? b=some o:=λb o hb q=>by simp only[mem_cons,not_mem_nil,or_false,not_or]at hb;exact s2.extBut b o hb.1 (kp b o hb.1 hb.2 q)
  have tu2:h2.get? s.heap.objs.size=some {cls:=.type "tuple",data:=.seq #[.int (st+i) s.toks,u]}:=s2.extBut _ _ (Nat.ne_of_gt lte) tu;refine⟨.ref s.heap.objs.size,upd H s.heap.objs.size (.tup [.int (st+i),x]),(nO (h':=h2) (t':=s.toks+1) (vs:=[.int (st+i),x]) I hf kp2 (Nat.le_refl _) ⟨by rw[sizeLine_eq];simp,[.int (st+i) s.toks,u],.cons ⟨_,rfl⟩ (.cons ru .nil),⟨_,tu2,rfl,_,rfl⟩⟩ :),rfl,⟨_,x,I.hok.fresh (Nat.le_refl _),rfl,rfl,λys hy=>by rw[Cp I hy hq];exact hx⟩,⟨⟨u,?_⟩,?_⟩,λb hb=>?_⟩
  .have:st+((i+1:Nat):Int)=st+i+1:=by omega
   rw[this];exact e2
  .have in2:=in1.at (λo q=>s2.extBut it o hne.symm q) λo q=>s2.extBut l o hle q;refine G7 in2 (λz=>?_) λz=>?_
   .subst z;obtain⟨_,_,p,_⟩:=I.tuple hq;obtain⟨o,ho,hc,_⟩:=id (show s.heap.IsTuple l _ from p);exact⟨o,kp2 l o (by simp[hle,hli]) ho,hc⟩
   .subst z;obtain⟨_,_,p,_⟩:=I.list hq;obtain⟨o,ho,hc,_⟩:=id p.isList;exact⟨o,kp2 l o (by simp[hle,hli]) ho,hc⟩
  .have:b<s.heap.objs.size:=by
    simp only[mem_cons,not_mem_nil,or_false]at hb;rcases hb with rfl|rfl
    .exact lte
    .obtain⟨o,ho,_⟩:=hi.obj;exact lt_size ho
   rw[aV (Nat.ne_of_lt this)];exact(hf b hb).1
 done:=by intro X hP hw hK hc i js s Y H E I hf stt hg;subst hP hw hK;obtain⟨⟨old,he⟩,ha⟩:=stt;obtain⟨xs,hq,hx⟩:=hg;obtain⟨its,rv,hi,hli,hen⟩:=BM I hq ha;obtain⟨f0,f1,f2,f3,f4,f5⟩:=hf it (by simp);have hl:=rv.length;exact CT (I.ok.hd hc) he hi (by simp;omega) λh' eb=>⟨rfl,I.turned (t':=s.toks) (λb o hb e=>eb b o hb e) f0 f1 f3 f4 f5⟩
 self:=λ_ _ _ _ _ st h=>by obtain⟨⟨old,he⟩,_⟩:=st;exact wpAny_pyIter_enum he h
theorem ph{M:Model}{A:Around}{E:Ja}{s:Shared}{env:Env}{Ty:String}{aI:List Expr}{kws:List Keyword}{Q:Ja}
  (h:wpAny M A (spliced (backTo pos (starEach (e::aI) env))) (λvs s1=>wpAny M A (evalAll ((backToKw pos (keywordEach kws env)).map (·.2))) (λks s2=>wpAny M A (call (.type Ty) vs (((backToKw pos (keywordEach kws env)).filterMap (·.1)).zip ks)) Q E s2) E s1) E s)
  (hall:(backToKw pos (keywordEach kws env)).all (·.1.isSome)=true:=by rfl) (hkw:(backToKw pos (keywordEach kws env)).any (·.1.isNone)=false:=by rfl)
  (he:starEach (e::aI) env=(false,eval e env)::starEach aI env:=by rfl) (hpl:(backTo pos (starEach (e::aI) env)).any (·.1)=false:=by rfl) :
  wpAny M A (callWith pos (.type Ty) [] (backTo pos (starEach (e::aI) env)) (backToKw pos (keywordEach kws env))) Q E s:=by
 unfold callWith;refine wpAny_bind (wpAny_holding (wpAny_mono (evalArgs_kw2 (Q:=λa s1=>wpAny M A (call (.type Ty) ([]++ a.pos) a.kw) Q E s1) hall h he) (λa s1 h1=>wpAny_bind (wpAny_standAt ?_)) λ_ _ x=>x));simp only[hpl,hkw,Bool.or_false];exact wpAny_bind (wpAny_pure (wpAny_bind (wpAny_mono h1 (λr s2 hr=>wpAny_bind (wpAny_holding (wpAny_point (wpAny_pure hr)))) λ_ _ x=>x)))
theorem uz:bootBuiltins "enumerate"=some (.type "enumerate"):=by decide +kernel
abbrev enE(l:Expr)(p pos kp cp:Pos)(j:Nat):Expr:=.Call (.Name "enumerate" p) [l] [⟨some "start",.Constant (.int 1) j cp,kp⟩] pos
theorem tN{x1}(hg:Gl X "enumerate")(hm:X.mg "enumerate"=none)(hl:PE X l tl)(hs:starEach [l] X.env=[(false,eval l X.env)]:=by rfl) :
  PI X (.Tuple els x1 tpos) (enE l p pos kp cp j) (λY H R=>tl Y H λx H1=>∃a tp xs,[x]=[V.ref a]/\Sq tp X.K H1 a xs/\R (Ite tp X.K 1 a) H1):=by
 intro js s Y H R I h;refine wpAny_Call_Name_kw (fP I hg hm uz ?_ (by decide) (by decide));refine ph ?_ rfl rfl hs (by rw[hs];rfl);refine thn (eR (te:=tl) hl iA (by rw[hs];rfl) pos js s Y H (λvs H1=>∃a tp xs,vs=[.ref a]/\Sq tp X.K H1 a xs/\R (Ite tp X.K 1 a) H1) I h) λus s1 hz1=>?_;obtain⟨vs,H1,I1,r1,a,tp,xs,ev,hq,q⟩:=hz1;subst ev;obtain⟨u,rfl,rx⟩:=fw r1;cases rx;refine thn (tL (nm:=some "start") (kpos:=kp) (rR (i:=1) (j:=j) (pos:=cp)) wu pos js s1 Y H1 (λzs H2=>zs=[.int 1]/\H2=H1) I1 ⟨rfl,rfl⟩) λws s2 hz1=>?_;obtain⟨zs,H2,I2,r2,ez,eh⟩:=hz1;subst ez;rw[eh]at I2;clear eh;obtain⟨u2,rfl,rx2⟩:=fw r2;obtain⟨t,rfl⟩:=rx2;have hI:∃n,nZ n a s2/\∀h',h'.get? s2.heap.objs.size=some (itO n a)->zL tp h' s2.heap.objs.size a 0:=by
  cases tp with
  |false=>obtain⟨its,rv,pl,_⟩:=I2.list hq;exact⟨"list_iterator",λ_ _ _ _ _ q=>wpAny_pyIter_list pl.isList q,λh' e=>⟨_,e,rfl,rfl⟩⟩
  |true=>obtain⟨its,rv,pl,_⟩:=I2.tuple hq;exact⟨"tuple_iterator",λ_ _ _ _ _ q=>wpAny_pyIter_tuple (show s2.heap.IsTuple a its.toArray from pl) q,λh' e=>⟨_,e,rfl,rfl⟩⟩
 obtain⟨n,hI,hA⟩:=hI;have hz:(s2.heap.push (itO n a)).objs.size=s2.heap.objs.size+1:=size_push ..
 have he:((s2.heap.push (itO n a)).push (enO s2.heap.objs.size 1)).get? (s2.heap.objs.size+1)=some (enO s2.heap.objs.size 1):=by have:=get?_push_size (s2.heap.push (itO n a)) (o:=enO s2.heap.objs.size 1) rfl;rw[hz]at this;exact this
 refine Ey hI (wpAny_pyIter_enum (i:=1) (old:=.none) he ?_);refine⟨s2.heap.objs.size+1,[s2.heap.objs.size+1,s2.heap.objs.size],_,_,H1,rfl,I2.kept (t':=s2.toks) λb o e=>get?_push_of_some _ (get?_push_of_some _ e),nh tp 1 a _ _,⟨⟨.none,by simpa using he⟩,hA _ (get?_push_of_some _ (get?_push_size _ rfl))⟩,λb hb=>?_,q⟩;simp only[mem_cons,not_mem_nil,or_false]at hb;rcases hb with rfl|rfl
 .exact I2.fpOk (le_succ _) (I2.hok.fresh (le_succ _))
 .exact I2.fpOk (Nat.le_refl _) (I2.hok.fresh (Nat.le_refl _))
end
def enP(k:Int):Jn->Jn
 | []=>[]
 |x::xs=>.tup [.int k,x]::enP (k+1) xs
theorem fY:∀(k:Int) (xs:Jn) (i:Nat),(enP k xs)[i]?=(xs[i]?).map λx=>.tup [.int (k+i),x]
 |_,[],i|k,x::xs,0=>by simp[enP]
 |k,x::xs,i+1=>by simp only[enP,getElem?_cons_succ,fY (k+1) xs i];congr 1;funext y;congr 3;omega
theorem iZ:∀(k:Int) (xs:Jn),(enP k xs).length=xs.length
 |_,[]=>rfl
 |k,_::xs=>by simp[enP,iZ (k+1) xs]
def vb(m:ME):MI:=λenv=>(m env).bind λx=>match x with
 |.lst f xs=>if !f.Ju&&fk xs then .ok (enP 1 xs)else .stuck
 |.tup xs=>if fk xs then .ok (enP 1 xs)else .stuck
 |_=>.stuck
def A0(m:ME):MI:=λenv=>(m env).bind λx=>match aW x with
 |some xs=>.ok (enP 1 xs)
 |none=>.stuck
section
variable{X:Cx}{T:Tb}{W:Nat->St->Jm}{Z:Zn}{F F1 B L:Je}{H H1:Hp}{Y:St}{env:En}{fp:Nat->Jh}
theorem lF(hp:H2 p=none)(r:Rel T F B L H2 x v f):Rel T F B L (upd H2 p (.tup [.int k,v])) (.tup [.int k,x]) (.ref p) f:=by unfold Rel;refine⟨p,_,rfl,SqT.of cw,?_⟩;have r2:Rel T F B L (upd H2 p (.tup [.int k,v])) x v f:=r.ext (Ext.upd hp) λ_ h=>h;unfold RelL;refine⟨.int k,[v],[],f,rfl,fR,?_,rfl⟩;unfold RelL;exact⟨v,[],f,[],rfl,r2,by unfold RelL;exact⟨rfl,rfl⟩,by simp⟩
theorem z6{x1}(hK:X.K=T.K)(hg:Gl X "enumerate")(hm:X.mg "enumerate"=none)(he:SE X T W e m)(hs:starEach [e] X.env=[(false,eval e X.env)]:=by rfl) :
  SI X T W (.Tuple els x1 tpos) (enE e p pos kp cp j) (vb m):=λjs s Y H R I h=>tN hg hm he hs js s Y H R I (by
 obtain⟨Z,F,env,fp,S,q⟩:=h;unfold vb at q;refine tE.bq S λx v H1 F1 f1 e1 g1 r1 n1 d1 w1=>?_;rw[e1]at q;simp only[Res.Jz]at q;have S1:=S.grow g1;rw[hK];have key:∀(tp:Bool) (a:Addr) (xs:Jn) (vs:Jl),RelL T F1 Z.B NoL H1 xs vs []->(∀H2,(∀a o,H1 a=some o->¬Own fp a->H2 a=some o)->Sq tp T.K H2 a vs)->ItR T F1 Z.B (Own fp) H1 (Ite tp T.K 1 a) (enP 1 xs):=by intro tp a xs vs hr hq H2 hk;have hq2:=hq H2 hk;refine⟨λi x ex=>?_,⟨vs,hq2,by rw[iZ,hr.length];exact Nat.le_refl _⟩⟩;rw[fY]at ex;obtain⟨y,ey,rfl⟩:=map_eq_some_iff.mp ex;obtain⟨v,_,ev,_,_⟩:=hr.get ey;refine⟨⟨vs,v,hq2,ev⟩,λw H3 hy=>?_⟩;obtain⟨p,y',hp,rfl,rfl,hall⟩:=hy;have:=hall vs hq2;rw[ev]at this;cases this;exact⟨Ext.upd hp,lF hp (gX S1.fow S1.bow S1.oow hk hr ey ev)⟩
 cases x with
 |lst f xs=>
  dsimp only at q;by_cases hc:(!f.Ju&&fk xs)=true
  .rw[if_pos hc]at q;rw[and_eq_true]at hc;unfold Rel at r1;obtain⟨a,vs,fp',rfl,hl,hr,hf⟩:=r1;obtain⟨rfl,hr'⟩:=eV hc.2 hr;refine⟨a,false,vs,rfl,hl.sq,q _ H1 F1 g1 (key false a xs vs hr' λH2 hk=>?_)⟩;have na:f≠.mod->∀o,H1 a=some o->H2 a=some o:=λhn o ho=>by
    refine hk a o ho ?_;cases f with
    |own=>rintro⟨i,hi⟩;obtain⟨_,o',ho'⟩:=S.dis i a hi;obtain rfl:f1=[a]:=hf;rw[w1 a mem_cons_self]at ho';cases ho'
    |frz=>exact S1.fow a hl.1
    |bor=>exact S1.bow a hl.1
    |lnt=>exact absurd hc.1 (by decide)
    |mod=>exact absurd rfl hn
   show SqL T.K H2 a vs;by_cases hn:f=.mod
   .subst hn;exact .inr hl
   .exact .inl (Rd.tr (na hn) (hl.rd hn))
  .rw[if_neg hc]at q;exact q.elim
 |tup xs=>
  dsimp only at q;by_cases hc:fk xs=true
  .rw[if_pos hc]at q;unfold Rel at r1;obtain⟨a,vs,rfl,hl,hr⟩:=r1;obtain⟨rfl,hr'⟩:=eV hc hr;refine⟨a,true,vs,rfl,hl,q _ H1 F1 g1 (key true a xs vs hr' λH2 hk=>?_)⟩;exact SqT.tr (λo ho hfx=>hk a o ho λz=>by
    have:=S1.oow a o z ho;cases o with
    |lst _|ins _ _ _=>exact hfx
    |_=>exact this) hl
  .rw[if_neg hc]at q;exact q.elim
 |_=>exact q.elim)
theorem vY{x1}(hK:X.K=T.K)(hg:Gl X "enumerate")(hm:X.mg "enumerate"=none)(he:SE X T W e m)(hs:starEach [e] X.env=[(false,eval e X.env)]:=by rfl) :
  SIc X T W (.Tuple els x1 tpos) (enE e p pos kp cp j) (A0 m):=λjs s Y H R I h=>tN hg hm he hs js s Y H R I (by
 obtain⟨Z,F,env,fp,S,q⟩:=h;unfold A0 at q;refine tE.bq S λx v H1 F1 f1 e1 g1 r1 n1 d1 w1=>?_;rw[e1]at q;simp only[Res.Jz]at q;cases es:aW x with
 |none=>rw[es]at q;exact q.elim
 |some xs=>
  rw[es]at q;obtain⟨a,vs,f',rfl,hs,hr,_⟩:=r1.seq es;rw[hK];have key:∀(tp:Bool),Sq tp T.K H1 a vs->(∀H2,Ext H1 H2->Sq tp T.K H2 a vs)->ItC T F1 Z.B (Own fp) H1 (Ite tp T.K 1 a) (enP 1 xs):=by intro tp _ hq H2 hx;have hq2:=hq H2 hx;refine⟨λi x ex=>?_,⟨vs,hq2,by rw[iZ,hr.length];exact Nat.le_refl _⟩⟩;rw[fY]at ex;obtain⟨y,ey,rfl⟩:=map_eq_some_iff.mp ex;obtain⟨v,f,ev,rv,_⟩:=hr.get ey;refine⟨⟨vs,v,hq2,ev⟩,λw H3 hy=>?_⟩;obtain⟨p,y',hp,rfl,rfl,hall⟩:=hy;have:=hall vs hq2;rw[ev]at this;cases this;exact⟨Ext.upd hp,f,λb hb=>rv.there b hb,lF hp (rv.ext hx λ_ h=>h)⟩
  rcases hs with hs|hs
  .refine⟨a,false,vs,rfl,hs,q _ H1 F1 g1 (key false hs λH2 hx=>?_)⟩;rcases hs with z|z
   .exact .inl (Rd.tr (λo q=>hx a o q) z)
   .exact .inr z
  .exact⟨a,true,vs,rfl,hs,q _ H1 F1 g1 (key true hs λH2 hx=>SqT.tr (λo q _=>hx a o q) hs)⟩)
end
open AutoSeq1 (wpAny_loadPart')
section
variable{prog:Program}{w:World}{A:Around}{E:Ja}{s:Shared}
abbrev zTI(n:Addr):Obj:={cls:=.type "tuple",data:=.seq #[.ref n,.ref (n+1)]}
abbrev zTO:Obj:={cls:=.type "tuple",data:=.seq #[.none,.none]}
abbrev zO(n:Addr):Obj:={cls:=.type "zip",data:=.fields #[.none,.bool false,.bool false,.ref (n+2),.ref (n+3)]}
abbrev BK(h:Heap)(l1 l2:Addr):Heap:=((((h.push (itO "list_iterator" l1)).push (itO "list_iterator" l2)).push (zTI h.objs.size)).push zTO).push (zO h.objs.size)
theorem FJ(hl:typeLookup (.type T) "__init__"=pure (some (.builtin "object.__init__")))(hm:Bind.madeBy (.type T)=pure (some nI))(hne:(some nI != some "object.__new__")=true) :
  Meets (Builtin.«object.__init__» ⟨[self,a,b],[]⟩) (λ_ R s=>s.TypeIs self T/\R (.ok (.ret .none)) s):=by
 refine Meets.of_wp λpr w A R s0 hs=>?_;obtain⟨hT,hq⟩:=hs
 repeat (any_goals (first|assumption|wp_step|fail))
 exact⟨_,rfl,hq⟩
theorem Ic(l1 l2:Addr)(xs ys:Jk) :
  Meets (Builtin.«zip.__new__» ⟨[.type "zip",.ref l1,.ref l2],[]⟩) (λ_ R s=>s.heap.IsList l1 xs/\s.heap.IsList l2 ys/\R (.ok (.ret (.ref (s.heap.objs.size+4)))) {s with heap:=BK s.heap l1 l2}):=
 .of_wp λpr w A R s0 h=>by
  obtain⟨hp,g,d,tk,os⟩:=s0;obtain⟨h1,h2,h⟩:=h;have hsub:=sub_zip;have h2':(hp.push (itO "list_iterator" l1)).IsList l2 ys:=by obtain⟨o,e,r⟩:=h2;exact⟨o,get?_push_of_some _ e,r⟩
  have hz1:(hp.push (itO "list_iterator" l1)).objs.size=hp.objs.size+1:=size_push ..
  have hJ1:∀{Q:Ja}{E:Ja},Q (.ref hp.objs.size) ⟨hp.push (itO "list_iterator" l1),g,d,tk,os⟩->wpAny (model pr w) A.in1 (pyIter (.ref l1)) Q E ⟨hp,g,d,tk,os⟩:=λ{Q E} q=>wpAny_pyIter_list h1 q;have hJ2:∀{Q:Ja}{E:Ja},Q (.ref (hp.push (itO "list_iterator" l1)).objs.size) ⟨(hp.push (itO "list_iterator" l1)).push (itO "list_iterator" l2),g,d,tk,os⟩->wpAny (model pr w) A.in1 (pyIter (.ref l2)) Q E ⟨hp.push (itO "list_iterator" l1),g,d,tk,os⟩:=λ{Q E} q=>wpAny_pyIter_list h2' q
  wp_walk using hJ1,hJ2
  refine⟨_,rfl,?_⟩;simp only[size_push];exact h
theorem BA(h1:s.heap.IsList l1 xs)(h2:s.heap.IsList l2 ys)(h:Q (.ref (s.heap.objs.size+4)) {s with heap:=BK s.heap l1 l2}) :
  wpAny (model prog w) A (call (.type "zip") [.ref l1,.ref l2] []) Q E s:=by
 have hz:((((s.heap.push (itO "list_iterator" l1)).push (itO "list_iterator" l2)).push (zTI s.heap.objs.size)).push zTO).objs.size=s.heap.objs.size+4:=by simp only[size_push]
 refine kJ (Q1:=λob s1=>s1.TypeIs ob "zip" /\ Q ob s1) F.called_zip (F.typeCall_zip_2 _ _) (F.newCall_zip_2 _ _) F.entry_zip_new F.entry_object_init (Ic l1 l2 xs ys) ⟨h1,h2,?_⟩ λob s1 hq=>⟨hq.1,?_,_,FJ F.called_zip.init.lookup F.called_zip.made (by decide),hq.1,rfl,hq.2⟩
 .have:=get?_push_size ((((s.heap.push (itO "list_iterator" l1)).push (itO "list_iterator" l2)).push (zTI s.heap.objs.size)).push zTO) (o:=zO s.heap.objs.size) rfl;rw[hz]at this;exact⟨⟨_,this,rfl⟩,h⟩
 .exact F.args_object_init_3 _ _ _
end
section
variable{X:Cx}{T:Tb}{W:Nat->St->Jm}{Z:Zn}{F F1 B L:Je}{H H1:Hp}{Y:St}{env:En}{js:Jd}{s:Shared}
theorem vg{fp:Jh}(I:L2.Inv X js Y H s)(hf:∀b∈fp,mU X js H b)(k:∀b o,b∉fp->s.heap.get? b=some o->h'.get? b=some o) :
  L2.Inv X js Y H {s with heap:=h',toks:=t'}:=by
 have nit:∀b u,H b=some u->b∉fp:=λb u e z=>by rw[(hf b z).1]at e;cases e
 refine I.step (g':=s.gens) (d':=s.drawn) (ch:=fp) (λb hb=>?_) (λb o _ _ hc e _=>k b o hc e) (λb o _ _ hc e _=>⟨o.slots,k b o hc e⟩) (λ_ _ _ _ n=>n) (λb o hc e=>⟨o,k b o hc e⟩)
  (λ_ _ e=>e) (λ_ _ _ e=>e) (λb ps e=>⟨#[],by rw[e];simp⟩) (λm hm=>?_) (λb u e=>?_) I.bare
 .obtain⟨_,q1,_,q3,q4,q5⟩:=hf b hb;exact⟨q3,q1,q4,q5⟩
 .obtain⟨o,es,ep,ho,r⟩:=hm;exact⟨o,es,ep,k _ o (λz=>(hf _ z).2.1 rfl) ho,r⟩
 .refine(I.hok b u e).stay (λc v hc q=>k c v ?_ q) (λ_ q=>q) λ_ _ _ q=>q;rcases hc with z|z
  .rw[z];exact nit b u e
  .exact nit c _ z
def Itz(K:PySem.W.Frag)(l1 l2:Addr):It:=
  ⟨λi H=>∃ xs ys x y,SqL K H l1 xs/\SqL K H l2 ys/\xs[i]?=some x/\ys[i]?=some y,
   λi H v H'=>∃p x y,H p=none/\v=.ref p/\H'=upd H p (.tup [x,y])/\(∀xs,SqL K H l1 xs->xs[i]?=some x)/\∀ys,SqL K H l2 ys->ys[i]?=some y,
   λi H=>∃xs ys,SqL K H l1 xs/\SqL K H l2 ys/\(xs.length<=i\/ys.length<=i)⟩
theorem jQ{h h':Heap}{it l:Addr}{i:Nat}(a:h.IsListIter it l i)(k:∀o,h.get? it=some o->h'.get? it=some o):h'.IsListIter it l i:=by obtain⟨o,e,r⟩:=a;exact⟨o,k o e,r⟩
theorem vP{P:Program}{w:World}{K:PySem.W.Frag}{els:List Expr}{x1}(l1 l2 z ti to i1 i2:Addr)(D:ZipApart z ti to i1 i2 l1 l2) :
  vF P w K (.Tuple els x1 tpos) (Itz K l1 l2) [z,ti,to,i1,i2] z (λi h=>IsZip h z ti to .none/\IsPair h ti (.ref i1) (.ref i2)/\(∃a b,IsPair h to a b)/\h.IsListIter i1 l1 i/\h.IsListIter i2 l2 i) where
 mem:=by simp
 obj:=λi h st b hb=>by
  obtain⟨hz,ht,⟨a',b',ho⟩,h1,h2⟩:=st;simp only[mem_cons,not_mem_nil,or_false]at hb;rcases hb with rfl|rfl|rfl|rfl|rfl
  .exact⟨_,hz,λv z=>by cases z⟩
  .exact⟨_,ht,λv z=>by cases z⟩
  .exact⟨_,ho,λv z=>by cases z⟩
  .obtain⟨o,e,c,d⟩:=id h1;exact⟨o,e,λv z=>by rw[d]at z;cases z⟩
  .obtain⟨o,e,c,d⟩:=id h2;exact⟨o,e,λv z=>by rw[d]at z;cases z⟩
 keep:=λi h h' st k=>by obtain⟨hz,ht,⟨a',b',ho⟩,h1,h2⟩:=st;exact⟨k z (by simp) _ hz,k ti (by simp) _ ht,⟨a',b',k to (by simp) _ ho⟩,jQ h1 (k i1 (by simp)),jQ h2 (k i2 (by simp))⟩
 item:=by
  intro X hP hw hK hc i js s Y H E I hf stt hg;subst hP hw hK;obtain⟨hz,ht,⟨a',b',ho⟩,h1,h2⟩:=stt;obtain⟨xs,ys,x,y,hq1,hq2,hx,hy⟩:=hg;obtain⟨its1,rv1,pl1,_⟩:=I.list hq1;obtain⟨its2,rv2,pl2,_⟩:=I.list hq2;obtain⟨u1,hu1,ru1⟩:=rv1.get hx;obtain⟨u2,hu2,ru2⟩:=rv2.get hy;refine wpAny_pyNext_zip_item D hz ht ho h1 h2 pl1.isList pl2.isList (x:=u1) (y:=u2) (by simpa using hu1) (by simpa using hu2) λh' z' to' i1' i2' pr sz kp=>?_;refine⟨_,rfl,wpAny_letOwnedTupleGo_zip z' λh3 z3 s3=>?_⟩
  replace s3:SameBut z h' h3:=s3
  have ltz:z<s.heap.objs.size:=lt_size hz;have kp2:∀b o,b∉[z,ti,to,i1,i2]->s.heap.get? b=some o->h3.get? b=some o:=λb o hb q=>by simp only[mem_cons,not_mem_nil,or_false,not_or]at hb;exact s3.extBut b o hb.1 (kp b o hb.1 hb.2.2.1 hb.2.2.2.1 hb.2.2.2.2 q)
  have tu2:h3.get? s.heap.objs.size=some {cls:=.type "tuple",data:=.seq #[u1,u2]}:=s3.extBut _ _ (Nat.ne_of_gt ltz) pr;refine⟨.ref s.heap.objs.size,upd H s.heap.objs.size (.tup [x,y]),(nO (h':=h3) (t':=s.toks) (vs:=[x,y]) I hf kp2 (Nat.le_refl _) ⟨by rw[sizeLine_eq];simp,[u1,u2],.cons ru1 (.cons ru2 .nil),⟨_,tu2,rfl,_,rfl⟩⟩ :),rfl,⟨_,x,y,I.hok.fresh (Nat.le_refl _),rfl,rfl,λzs hz=>by rw[I.list_inj hz hq1];exact hx,λzs hz=>by rw[I.list_inj hz hq2];exact hy⟩,⟨z3,s3.extBut ti _ D.TIz (kp ti _ D.TIz D.TITO D.TIi1 D.TIi2 ht),⟨_,_,s3.extBut to _ D.TOz to'⟩,jQ i1' λo q=>s3.extBut i1 o D.i1z q,jQ i2' λo q=>s3.extBut i2 o D.i2z q⟩,λb hb=>?_⟩;have:b<s.heap.objs.size:=by
   simp only[mem_cons,not_mem_nil,or_false]at hb;rcases hb with rfl|rfl|rfl|rfl|rfl
   .exact ltz
   .exact lt_size ht
   .exact lt_size ho
   .obtain⟨o,e,_⟩:=id h1;exact lt_size e
   .obtain⟨o,e,_⟩:=id h2;exact lt_size e
  rw[aV (Nat.ne_of_lt this)];exact(hf b hb).1
 done:=by
  intro X hP hw hK hc i js s Y H E I hf stt hg;subst hP hw hK;obtain⟨hz,ht,⟨a',b',ho⟩,h1,h2⟩:=stt;obtain⟨xs,ys,hq1,hq2,hx⟩:=hg;obtain⟨its1,rv1,pl1,_⟩:=I.list hq1;obtain⟨its2,rv2,pl2,_⟩:=I.list hq2;have l1':=rv1.length;have l2':=rv2.length;refine wpAny_pyNext_zip_end (I.ok.hd hc) D hz ht ho h1 h2 pl1.isList pl2.isList (by simp;omega) λh' kp=>⟨rfl,vg (t':=s.toks) I hf λb o hb q=>?_⟩
  grind
 self:=λ_ _ _ _ _ st h=>wpAny_pyIter_zip st.1 h
theorem ED:bootBuiltins "zip"=some (.type "zip"):=by decide +kernel
theorem CU{x1}(hg:Gl X "zip")(hm:X.mg "zip"=none)(ha:PA X [a,b] ta)(hs:starEach [a,b] X.env=[(false,eval a X.env),(false,eval b X.env)]:=by rfl)(hs2:starEach [b] X.env=[(false,eval b X.env)]:=by rfl) :
  PI X (.Tuple els x1 tpos) (.Call (.Name "zip" p) [a,b] [] pos) (λY H R=>ta Y H λvs H1=>∃l1 l2 xs ys,vs=[V.ref l1,V.ref l2]/\SqL X.K H1 l1 xs/\SqL X.K H1 l2 ys/\R (Itz X.K l1 l2) H1):=by
 intro js s Y H R I h;refine PyProof.Rows.Call_ (fP I hg hm ED (PyProof.Rows.callWith_type1 (thn (ha pos js s Y H _ I h) λus s1 zz=>?_) (by rw[hs,hs2]) (by rw[hs2];rfl)));obtain⟨vs,H1,I1,r1,q1⟩:=zz;obtain⟨l1,l2,xs,ys,e,hq1,hq2,q⟩:=q1;subst e;cases r1 with
 |cons r rr=>
  cases rr with
  |cons r' rr=>
   cases rr;cases r;cases r';obtain⟨its1,rv1,pl1,_⟩:=I1.list hq1;obtain⟨its2,rv2,pl2,_⟩:=I1.list hq2;have hl1:l1<s1.heap.objs.size:=by obtain⟨o,e,_⟩:=id pl1.isList;exact lt_size e
   have hl2:l2<s1.heap.objs.size:=by obtain⟨o,e,_⟩:=id pl2.isList;exact lt_size e
   have z1:(s1.heap.push (itO "list_iterator" l1)).objs.size=s1.heap.objs.size+1:=size_push ..
   have z2:((s1.heap.push (itO "list_iterator" l1)).push (itO "list_iterator" l2)).objs.size=s1.heap.objs.size+2:=by simp only[size_push]
   have z3:(((s1.heap.push (itO "list_iterator" l1)).push (itO "list_iterator" l2)).push (zTI s1.heap.objs.size)).objs.size=s1.heap.objs.size+3:=by simp only[size_push]
   have z4:((((s1.heap.push (itO "list_iterator" l1)).push (itO "list_iterator" l2)).push (zTI s1.heap.objs.size)).push zTO).objs.size=s1.heap.objs.size+4:=by simp only[size_push]
   have e4:=get?_push_size ((((s1.heap.push (itO "list_iterator" l1)).push (itO "list_iterator" l2)).push (zTI s1.heap.objs.size)).push zTO) (o:=zO s1.heap.objs.size) rfl;have e3:=get?_push_size (((s1.heap.push (itO "list_iterator" l1)).push (itO "list_iterator" l2)).push (zTI s1.heap.objs.size)) (o:=zTO) rfl;have e2:=get?_push_size ((s1.heap.push (itO "list_iterator" l1)).push (itO "list_iterator" l2)) (o:=zTI s1.heap.objs.size) rfl;have e1:=get?_push_size (s1.heap.push (itO "list_iterator" l1)) (o:=itO "list_iterator" l2) rfl;have e0:=get?_push_size s1.heap (o:=itO "list_iterator" l1) rfl;rw[z4]at e4;rw[z3]at e3;rw[z2]at e2;rw[z1]at e1;refine BA pl1.isList pl2.isList (wpAny_pyIter_zip (f0:=.none) e4 ?_);refine⟨s1.heap.objs.size+4,[s1.heap.objs.size+4,s1.heap.objs.size+2,s1.heap.objs.size+3,s1.heap.objs.size,s1.heap.objs.size+1],_,_,H1,rfl,I1.kept (t':=s1.toks) λb o e=>get?_push_of_some _ (get?_push_of_some _ (get?_push_of_some _ (get?_push_of_some _ (get?_push_of_some _ e)))),vP l1 l2 _ _ _ _ _ (PyProof.Rows.zipApart_new hl1 hl2),⟨e4,get?_push_of_some _ (get?_push_of_some _ e2),⟨.none,.none,get?_push_of_some _ e3⟩,⟨_,get?_push_of_some _ (get?_push_of_some _ (get?_push_of_some _ (get?_push_of_some _ e0))),rfl,rfl⟩,⟨_,get?_push_of_some _ (get?_push_of_some _ (get?_push_of_some _ e1)),rfl,rfl⟩⟩,λb hb=>?_,q⟩;simp only[mem_cons,not_mem_nil,or_false]at hb;have hb':s1.heap.objs.size<=b:=by rcases hb with rfl|rfl|rfl|rfl|rfl<;>omega
   exact I1.fpOk hb' (I1.hok.fresh hb')
end
def ii:Jn->Jn->Jn
 |x::xs,y::ys=>.tup [x,y]::ii xs ys
 |_,_=>[]
theorem pB:∀(xs ys:Jn) (i:Nat) {p:PV},(ii xs ys)[i]?=some p->∃x y,xs[i]?=some x/\ys[i]?=some y/\p=.tup [x,y]
 | [],_,i,_,h|_::_,[],i,_,h=>by simp[ii]at h
 |x::xs,y::ys,0,p,h=>by simp only[ii,getElem?_cons_zero]at h;exact⟨x,y,rfl,rfl,(Option.some.inj h).symm⟩
 |x::xs,y::ys,i+1,p,h=>by simp only[ii,getElem?_cons_succ]at h;exact pB xs ys i h
theorem pA:∀(xs ys:Jn),(ii xs ys).length=min xs.length ys.length
 | [],_|_::_,[]=>by simp[ii]
 |_::xs,_::ys=>by simp only[ii,length_cons,pA xs ys];omega
def jO(ms:MA):MI:=λenv=>(ms env).bind λzs=>match zs with
 | [.lst _ xs,.lst _ ys]=>if fk xs&&fk ys then .ok (ii xs ys)else .stuck
 |_=>.stuck
section
variable{X:Cx}{T:Tb}{W:Nat->St->Jm}{Z:Zn}{F F1 B L:Je}{H H1:Hp}{Y:St}{env:En}{fp:Nat->Jh}
theorem uO(hp:H2 p=none)(r:Rel T F B L H2 x v [])(r':Rel T F B L H2 y u []):Rel T F B L (upd H2 p (.tup [v,u])) (.tup [x,y]) (.ref p) []:=by unfold Rel;refine⟨p,_,rfl,SqT.of cw,?_⟩;have r1:Rel T F B L (upd H2 p (.tup [v,u])) x v []:=r.ext (Ext.upd hp) λ_ h=>h;have r2:Rel T F B L (upd H2 p (.tup [v,u])) y u []:=r'.ext (Ext.upd hp) λ_ h=>h;unfold RelL;refine⟨v,[u],[],[],rfl,r1,?_,rfl⟩;unfold RelL;exact⟨u,[],[],[],rfl,r2,by unfold RelL;exact⟨rfl,rfl⟩,by simp⟩
theorem ud{xs:Jn}{vs:Jl}{i:Nat}{x:PV}(h:RelL T F B L H xs vs [])(e:xs[i]?=some x):∃v,vs[i]?=some v/\Rel T F B L H x v []:=by obtain⟨v,f,ev,rv,sl⟩:=h.get e;have:f=[]:=List.eq_nil_of_sublist_nil sl;subst this;exact⟨v,ev,rv⟩
theorem oe{els:List Expr}{x1}(hK:X.K=T.K)(hg:Gl X "zip")(hm:X.mg "zip"=none)(ha:SA X T W [a,b] ms)(hs:starEach [a,b] X.env=[(false,eval a X.env),(false,eval b X.env)]:=by rfl)(hs2:starEach [b] X.env=[(false,eval b X.env)]:=by rfl) :
  SIc X T W (.Tuple els x1 tpos) (.Call (.Name "zip" p) [a,b] [] pos) (jO ms):=λjs s Y H R I h=>CU hg hm ha hs hs2 js s Y H R I (by
 obtain⟨Z,F,env,fp,S,q⟩:=h;unfold jO at q;refine tA.bq S λzs vs H1 F1 f1 e1 g1 r1 n1 d1 w1=>?_;rw[e1]at q;simp only[Res.Jz]at q;split at q
 .rename_i f xs g ys
  split at q
  .rename_i hc
   rw[and_eq_true]at hc;unfold RelL at r1;obtain⟨v1,ws,f2,f3,rfl,ra,rb,_⟩:=r1;obtain⟨v2,rfl,rc⟩:=rb.one;unfold Rel at ra rc;obtain⟨a1,us,fp1,rfl,hl1,hr1,_⟩:=ra;obtain⟨a2,ws,fp2,rfl,hl2,hr2,_⟩:=rc;obtain⟨rfl,_⟩:=eV hc.1 hr1;obtain⟨rfl,_⟩:=eV hc.2 hr2;rw[hK];refine⟨a1,a2,us,ws,rfl,hl1.sq,hl2.sq,q _ H1 F1 g1 λH2 hx=>?_⟩;have up:∀{a:Addr}{us:Jl},SqL T.K H1 a us->SqL T.K H2 a us:=λ{a us} hs=>by
    rcases hs with z|z
    .exact .inl (Rd.tr (λo q=>hx a o q) z)
    .exact .inr z
   have s1:=up hl1.sq;have s2:=up hl2.sq;have ln1:=hr1.length;have ln2:=hr2.length;refine⟨λi x ex=>?_,⟨us,ws,s1,s2,by rw[pA];omega⟩⟩;obtain⟨x1,y1,ex1,ey1,rfl⟩:=pB xs ys i ex;obtain⟨v,ev,rv⟩:=ud hr1 ex1;obtain⟨u,eu,ru⟩:=ud hr2 ey1;refine⟨⟨us,ws,v,u,s1,s2,ev,eu⟩,λw H3 hy=>?_⟩;obtain⟨p,v',u',hp,rfl,rfl,hall1,hall2⟩:=hy;have q1:=hall1 us s1;have q2:=hall2 ws s2;rw[ev]at q1;rw[eu]at q2;cases q1;cases q2;exact⟨Ext.upd hp,[],λb hb=>(nomatch hb),uO hp (rv.ext hx λ_ h=>h) (ru.ext hx λ_ h=>h)⟩
  .exact q.elim
 .exact q.elim)
end
section
variable{prog:Program}{w:World}{A:Around}{R:Result->Shared->Prop}{ia:Addr}{fps wrs:Jh}{len:Nat}{Pv:Nat->Value->Prop}{Sv:Nat->Heap->Prop}
abbrev z9(xs:Jk)(c:Nat):Obj:={cls:=.type "list",dict:=none,data:=.seq xs c,slots:=#[]}
def mN:Bool->String|true=>"min"|_=>"max"
def mO:Bool->CmpOp|true=>.Lt|_=>.Gt
def lpB:Bool->Builtin|true=>Builtin.«min.loop»|_=>Builtin.«max.loop»
abbrev lpN(b:Bool):String:=toString (mN b)++ toString ".loop"
theorem lpE(b:Bool):entryFor table (lpN b)=some (lpB b)/\plainId (lpN b)=true:=by
 cases b
 .exact(by decide:"max.loop"=lpN false)▸⟨F.entry_max_loop,F.plain_max_loop⟩
 .exact(by decide:"min.loop"=lpN true)▸⟨F.entry_min_loop,F.plain_min_loop⟩
theorem DS(kw:List (Str×Value))(Wk:Walks prog w A.in1 ia fps wrs len Pv Sv)(lt:Nat->Nat->Bool)(hc:CmpOf prog w A.in1 (mO y) Pv lt)(best:Addr)(nb:best∉fps)(left j:Nat)(sh:Shared)(u:Value)(cap:Nat)(e1:len-(j+1)=left)(e2:j+1<=len)(st:Sv (j+1) sh.heap)(pu:Pv (argBest lt j) u)(ob:sh.heap.get? best=some (z9 #[u,u] cap))
   (fin:∀v h' tk,Pv (argBest lt (len-1)) v->(∀b o,b∉wrs->b≠best->sh.heap.get? b=some o->h'.get? b=some o)->R (.ok (.ret v)) {sh with heap:=h',toks:=tk}):codeAny (model prog w) A (.builtin (lpN y) ⟨[.ref ia,.none,.ref best],kw⟩) R sh:=by
 have nw:best∉wrs:=λz=>nb (Wk.sub _ z);have hq:=plainId_quiet (lpE y).2
 induction left generalizing j sh u cap with
 |zero=>
  have ej:j+1=len:=by omega
  cases y
  all_goals
   refine codeAny_builtin (lpE _).1 ?_;rw[Around.under_plainId (lpE _).2 _];refine(show wpAny _ A.in1 (seqItems? (.ref best) >>= _) _ _ sh from wpAny_bind (wpAny_seqItems ob rfl ?_));refine(show wpAny _ A.in1 (tryCatch (pyNext (.ref ia)) _ >>= _) _ _ sh from wpAny_bind (wpAny_tryCatch (Wk.done sh _ _ (ej▸st) λh' tk kp=>?_)));refine(show wpAny _ A.in1 (updateSeq best (λ_=>#[]) >>= _) _ _ _ from wpAny_bind (wpAny_updateSeq (kp best _ nw ob) rfl (wpAny_bind (wpAny_letGo (wpAny_pure ?_)))));exact fin u _ tk (by rw[<- ej];exact pu) λb o q1 q2 e=>(get?_update_other _ _ (Ne.symm q2)).trans (kp b o q1 e)
 |succ left ih=>
  have lj:j+1<len:=by omega
  cases y
  all_goals
   refine codeAny_builtin (lpE _).1 ?_;rw[Around.under_plainId (lpE _).2 _];refine(show wpAny _ A.in1 (seqItems? (.ref best) >>= _) _ _ sh from wpAny_bind (wpAny_seqItems ob rfl ?_));refine(show wpAny _ A.in1 (tryCatch (pyNext (.ref ia)) _ >>= _) _ _ sh from wpAny_bind (wpAny_tryCatch (Wk.item (j+1) sh _ _ lj st λv h' tk pv st' kp=>?_)));have ob':=kp best _ nw ob;refine(show wpAny _ A.in1 (tryCatch (holding [v,v] (richCompare _ v u >>= _)) _ >>= _) _ _ _ from wpAny_bind (wpAny_tryCatch (wpAny_holding (wpAny_bind (hc (j+1) (argBest lt j) v u _ _ _ pv pu (wpAny_bind (wpAny_holding (wpAny_truthy_bool (wpAny_bind (wpAny_letGo (wpAny_pure ?_)))))))))));by_cases yes:lt (j+1) (argBest lt j)=true
   .rw[yes];simp only[if_true];refine wpAny_bind (wpAny_updateSeq ob' rfl (wpAny_bind (wpAny_letGo ?_)));refine wpAny_pure ⟨hq _,ih (j+1) _ v _ () lj (Wk.frame _ _ _ st' λb hb o e=>(get?_update_other _ _ (λz:best=b=>nb (z▸hb))).trans e) (by simp only[argBest,yes,if_true];exact pv) (get?_update_self _ ob' rfl) λv' h2 t2 pv' kp2=>?_⟩;exact fin v' h2 t2 pv' λb o q1 q2 e=>kp2 b o q1 q2 ((get?_update_other _ _ (Ne.symm q2)).trans (kp b o q1 e))
   .have no:lt (j+1) (argBest lt j)=false:=by simpa using yes
    rw[no];simp only[false_eq_true,if_false];refine wpAny_bind (wpAny_letGo ?_);refine wpAny_pure ⟨hq _,ih (j+1) _ u cap () lj st' (by simp only[argBest,no,false_eq_true,if_false];exact pu) ob' λv' h2 t2 pv' kp2=>?_⟩;exact fin v' h2 t2 pv' λb o q1 q2 e=>kp2 b o q1 q2 (kp b o q1 e)
theorem AY(kw:List (Str×Value))(Wk:Walks prog w A.in1 ia fps wrs len Pv Sv)(lt:Nat->Nat->Bool)(hc:CmpOf prog w A.in1 (mO y) Pv lt)(best:Addr)(nb:best∉fps)(pos:0<len)(st:Sv 0 sh.heap)(ob:sh.heap.get? best=some (z9 #[] cap))
  (fin:∀v h' tk,Pv (argBest lt (len-1)) v->(∀b o,b∉wrs->b≠best->sh.heap.get? b=some o->h'.get? b=some o)->R (.ok (.ret v)) {sh with heap:=h',toks:=tk}):codeAny (model prog w) A (.builtin (lpN y) ⟨[.ref ia,.none,.ref best],kw⟩) R sh:=by
 have nw:best∉wrs:=λz=>nb (Wk.sub _ z);have hq:=plainId_quiet (lpE y).2;cases y
 all_goals
  refine codeAny_builtin (lpE _).1 ?_;rw[Around.under_plainId (lpE _).2 _];refine(show wpAny _ A.in1 (seqItems? (.ref best) >>= _) _ _ sh from wpAny_bind (wpAny_seqItems ob rfl ?_));refine(show wpAny _ A.in1 (tryCatch (pyNext (.ref ia)) _ >>= _) _ _ sh from wpAny_bind (wpAny_tryCatch (Wk.item 0 sh _ _ pos st λv h' tk pv st' kp=>?_)));have ob':=kp best _ nw ob;refine(show wpAny _ A.in1 (updateSeq best (λ_=>#[v,v]) >>= _) _ _ _ from wpAny_bind (wpAny_updateSeq ob' rfl ?_));refine wpAny_pure ⟨hq _,DS (y:=_) kw Wk lt hc best nb _ 0 _ v _ rfl pos (Wk.frame _ _ _ st' λb hb o e=>(get?_update_other _ _ (λz:best=b=>nb (z▸hb))).trans e) pv (get?_update_self _ ob' rfl) λv' h2 t2 pv' kp2=>?_⟩;exact fin v' h2 t2 pv' λb o q1 q2 e=>kp2 b o q1 q2 ((get?_update_other _ _ (Ne.symm q2)).trans (kp b o q1 e))
theorem DR(hc:CmpOf prog w A.in1 (mO y) Pv lt)(Wk:Walks prog w A.in1 ia fps wrs 0 Pv Sv)(best:Addr)(nb:best∉fps)(st:Sv 0 sh.heap)(ob:sh.heap.get? best=some (z9 #[] cap))
  (fin:∀h' tk,(∀b o,b∉wrs->sh.heap.get? b=some o->h'.get? b=some o)->R (.ok (.ret d)) {sh with heap:=h',toks:=tk}):codeAny (model prog w) A (.builtin (lpN y) ⟨[.ref ia,.none,.ref best],[(dn,d)]⟩) R sh:=by
 cases y
 all_goals
  refine codeAny_builtin (lpE _).1 ?_;rw[Around.under_plainId (lpE _).2 _];refine(show wpAny _ A.in1 (seqItems? (.ref best) >>= _) _ _ sh from wpAny_bind (wpAny_seqItems ob rfl ?_));refine(show wpAny _ A.in1 (tryCatch (pyNext (.ref ia)) _ >>= _) _ _ sh from wpAny_bind (wpAny_tryCatch (Wk.done sh _ _ st λh' tk kp=>?_)));exact wpAny_bind (wpAny_rule (wpAny_pure (fin h' tk kp)))
end
section
variable{prog:Program}{w:World}{A:Around}{E:Ja}{s:Shared}
theorem qZ(y d:Value):argsOk (mN b) ⟨[y],[(Str.ofString "default",d)]⟩:=by unfold argsOk;cases b<;>kernel_rfl
theorem qS
  (h:wpAny (model prog w) A.in1 (pyIter x) (λit s2=>∃ ia fps wrs len Pv Sv lt,it=.ref ia/\Walks prog w A.in1 ia fps wrs len Pv Sv/\Sv 0 s2.heap/\(∀ b ∈ fps,b < s2.heap.objs.size)/\CmpOf prog w A.in1 (mO y) Pv lt /\
   ∀v h' tk,(len=0/\v=d\/0<len/\Pv (argBest lt (len-1)) v)->(∀b o,b∉wrs->s2.heap.get? b=some o->h'.get? b=some o)->Q v {s2 with heap:=h',toks:=tk}) E s) :
  wpAny (model prog w) A (call (.builtin (mN y)) [x] [(Str.ofString "default",d)]) Q E s:=by
 have hq:=plainId_quiet (lpE y).2;cases y;refine kmk_tree F.kind_max F.plain_max F.entry_max (qZ (b:=false) _ _) ?_
 rotate_left
 refine kmk_tree F.kind_min F.plain_min F.entry_min (qZ (b:=true) _ _) ?_
 all_goals
  refine(show wpAny _ A.in1 (Builtin.Builtins.bindParams _ ["key","default"] 0 ⟨[],[(Str.ofString "default",d)]⟩ >>= _) _ _ s from wpAny_bind (wpAny_of_eq (a:=[none,some d]) (by kernel_rfl) (wpAny_bind (wpAny_pure (wpAny_bind (wpAny_mono h (λit s2 q=>?_) λ_ _ e=>e))))));obtain⟨ia,fps,wrs,len,Pv,Sv,lt,rfl,Wk,st,hf,hc,fin⟩:=q;refine wpAny_bind (wpAny_newObj_type ?_);have nb:s2.heap.objs.size∉fps:=λz=>Nat.lt_irrefl _ (hf _ z);have st':=Wk.frame _ _ (s2.heap.push (z9 #[] 0)) st λb _ o e=>get?_push_of_some _ e;refine wpAny_pure ⟨hq _,?_⟩;by_cases pos:0<len
  .exact AY _ Wk lt hc s2.heap.objs.size nb pos st' (get?_push_size _ rfl) λv h' tk pv kp=>fin v h' tk (.inr ⟨pos,pv⟩) λb o q e=>kp b o q (Nat.ne_of_lt (lt_size e)) (get?_push_of_some _ e)
  .have z:len=0:=by omega
   subst z;exact DR hc Wk s2.heap.objs.size nb st' (get?_push_size _ rfl) λh' tk kp=>fin d h' tk (.inl ⟨rfl,rfl⟩) λb o q e=>kp b o q (get?_push_of_some _ e)
end
section
variable{X:Cx}{T:Tb}{W:Nat->St->Jm}{Z:Zn}{F F1 B L:Je}{H H1:Hp}{Y:St}{env:En}{fp:Nat->Jh}{js:Jd}{s:Shared}
theorem qR{M:Model}{A:Around}{E:Ja}{s:Shared}{env:Env}{id:String}{aI:List Expr}{kws:List Keyword}{Q:Ja}
  (h:wpAny M A (spliced (backTo pos (starEach (e::aI) env))) (λvs s1=>wpAny M A (evalAll ((backToKw pos (keywordEach kws env)).map (·.2))) (λks s2=>wpAny M A (call (.builtin id) vs (((backToKw pos (keywordEach kws env)).filterMap (·.1)).zip ks)) Q E s2) E s1) E s)
  (hall:(backToKw pos (keywordEach kws env)).all (·.1.isSome)=true:=by rfl) (hkw:(backToKw pos (keywordEach kws env)).any (·.1.isNone)=false:=by rfl)
  (he:starEach (e::aI) env=(false,eval e env)::starEach aI env:=by rfl) (hpl:(backTo pos (starEach (e::aI) env)).any (·.1)=false:=by rfl) :
  wpAny M A (callWith pos (.builtin id) [] (backTo pos (starEach (e::aI) env)) (backToKw pos (keywordEach kws env))) Q E s:=by
 unfold callWith;refine wpAny_bind (wpAny_holding (wpAny_mono (evalArgs_kw2 (Q:=λa s1=>wpAny M A (call (.builtin id) ([]++ a.pos) a.kw) Q E s1) hall h he) (λa s1 h1=>wpAny_bind (wpAny_standAt ?_)) λ_ _ x=>x));simp only[hpl,hkw,Bool.or_false];exact wpAny_bind (wpAny_pure (wpAny_bind (wpAny_mono h1 (λr s2 hr=>wpAny_bind (wpAny_holding (wpAny_point (wpAny_pure hr)))) λ_ _ x=>x)))
def Dc(vs:Jl)(P:V->Prop):Prop:=match vs with
 | [v]=>P v
 |_=>False
theorem tV(h:Dc vs P):∃v,vs=[v]/\P v:=by
 match vs,h with
 | [v],h=>exact⟨v,rfl,h⟩
def vA(y:Bool)(d:V)(ns:Jf):V:=if ns.isEmpty then d else .int ((bif y then gx else c_) ns)
def bLt(y:Bool)(ns:Jf)(i j:Nat):Bool:=bif y then decide (ns.getD i 0<ns.getD j 0)else decide (ns.getD i 0>ns.getD j 0)
def tH(y:Bool)(d:V)(K:PySem.W.Frag):V->Hp->VK->Prop:=λv H Q=>∃p ns,v=.ref p/\(SqL K H p (ns.map V.int)\/ SqT K H p (ns.map V.int))/\Q (vA y d ns) H
theorem vy(hc:X.calm=true)(I:L2.Inv X js Y H s)(hq:SqL X.K H p (ns.map V.int)\/ SqT X.K H p (ns.map V.int))(rd:bO d du)(q:Q (vA y d ns) H):wpAny (model X.prog X.w) X.A (call (.builtin (mN y)) [.ref p] [(Str.ofString "default",du)]) (EP X js Y Q) X.xe s:=by
 have hh:=I.ok.hd hc;have cm:∀{its:Jg},a5 (ns.map V.int) its->CmpOf X.prog X.w X.A.in1 (mO y) (λi v=>its.toArray[i]?=some v) (bLt y ns):=λr=>match y with
  |true=>CmpOf.ints_lt (λi=>ns.getD i 0) (dQ r)
  |false=>CmpOf.ints_gt (λi=>ns.getD i 0) (dQ r)
 have key:∀{its:Jg},a5 (ns.map V.int) its->∀{v:Value}{h':Heap}{tk:Nat},(its.toArray.size=0/\v=du\/0<its.toArray.size/\its.toArray[argBest (bLt y ns) (its.toArray.size-1)]?=some v)->(∀b o,s.heap.get? b=some o->h'.get? b=some o)->EP X js Y Q v {s with heap:=h',toks:=tk}:=by
  intro its r v h' tk hv k;have hl:its.toArray.size=ns.length:=by have:=r.length;simpa using this.symm
  rw[hl]at hv;rcases hv with⟨h0,rfl⟩ |⟨hn,hv⟩
  .have e:ns=[]:=List.length_eq_zero_iff.mp h0;subst e;exact⟨d,H,iJ I k,rd,q⟩
  .obtain⟨t,rfl⟩:=dQ r _ _ hv;have e:vA y d ns=.int (ns.getD (argBest (bLt y ns) (ns.length-1)) 0):=by
    unfold vA;rw[if_neg λz=>by rw[List.isEmpty_iff.mp z]at hn;exact absurd hn (by decide)];cases y
    .exact congrArg V.int (qV hn).symm
    .exact congrArg V.int (qU hn).symm
   exact⟨.int _,H,iJ I k,⟨t,rfl⟩,e▸q⟩
 rcases hq with hq|hq
 .obtain⟨its,r,pl,hz⟩:=I.list hq;obtain⟨o,ho,hcl,n,hd⟩:=pl.isList;have hlt:=lt_size ho;refine qS (wpAny_pyIter_list pl.isList ?_);refine⟨_,_,_,_,_,_,_,rfl,Walks.list (A:=X.A.in1) hh _ p (Nat.ne_of_lt hlt) its.toArray,⟨⟨_,get?_push_size _ rfl,rfl,rfl⟩,pl.isList.push _⟩,λb hb=>?_,cm r,λv h' tk hP hk=>key r hP (eU hk)⟩;show b <(s.heap.push _).objs.size;rw[size_push];exact ij hlt rfl b hb
 .obtain⟨its,r,pl,hz⟩:=I.tuple hq;have pt:s.heap.IsTuple p its.toArray:=pl;obtain⟨o,ho,hcl,n,hd⟩:=pl;have hlt:=lt_size ho;refine qS (wpAny_pyIter_tuple pt ?_);refine⟨_,_,_,_,_,_,_,rfl,Walks.tuple (A:=X.A.in1) hh _ p (Nat.ne_of_lt hlt) its.toArray,⟨⟨_,get?_push_size _ rfl,rfl,rfl⟩,pt.push _⟩,λb hb=>?_,cm r,λv h' tk hP hk=>key r hP (eU hk)⟩;show b <(s.heap.push _).objs.size;rw[size_push];exact ij hlt rfl b hb
def mN8:Bool->Str|true=>"min"|_=>"max"
abbrev mdE(y:Bool)(e de:Expr)(p pos kp:Pos):Expr:=.Call (.Name (mN8 y) p) [e] [⟨some "default",de,kp⟩] pos
theorem tR(hc:X.calm=true)(hg:Gl X (mN8 y))(hm:X.mg (mN8 y)=none)(he:PE X e te)(hd:PE X de (tC d))(hk:keywordEach [⟨some "default",de,kp⟩] X.env=[(some (Str.ofString "default"),eval de X.env)]:=by rfl)(hs:starEach [e] X.env=[(false,eval e X.env)]:=by rfl):PE X (mdE y e de p pos kp) (tUn (tH y d X.K) te):=by intro js s Y H Q I h;refine wpAny_Call_Name_kw (fP I hg hm (u:=.builtin (mN y)) (by cases y;exact yP;exact sI) ?_ (by cases y<;>decide) (by cases y<;>decide));refine qR ?_ (by rw[hk];rfl) (by rw[hk];rfl) hs (by rw[hs];rfl);refine thn (eR (te:=te) he iA (by rw[hs];rfl) pos js s Y H (λvs H1=>Dc vs λv=>tH y d X.K v H1 Q) I h) λus s1 hz1=>?_;obtain⟨vs,H1,I1,r1,q1⟩:=hz1;obtain⟨v,rfl,a,ns,rfl,hq,q⟩:=tV q1;obtain⟨u,rfl,rx⟩:=fw r1;cases rx;refine thn (tL (nm:=some "default") (kpos:=kp) hd wu pos js s1 Y H1 (λzs H2=>zs=[d]/\H2=H1) I1 ⟨rfl,rfl⟩) λws s2 hz1=>?_;obtain⟨zs,H2,I2,r2,ez,eh⟩:=hz1;subst ez;rw[eh]at I2;clear eh;obtain⟨u2,rfl,rx2⟩:=fw r2;rw[hk];exact vy hc I2 hq rx2 q
def nK(x:PV):Jo:=match aW x with
 | some xs=>(match bH xs with
  |some ns=>.ok (if ns.isEmpty then .non else .int (gx ns))
  |none=>.stuck)
 |none=>.stuck
theorem xk(hK:X.K=T.K):BH T W nK (tH true .non X.K):=by
 intro B F L Y H Q F' H' x v fx g rx nf nd new q;unfold nK at q;cases e:aW x with
 |none=>rw[e]at q;exact q.elim
 |some xs=>
  rw[e]at q;dsimp only at q;cases e2:bH xs with
  |none=>rw[e2]at q;exact q.elim
  |some ns=>
   rw[e2]at q;dsimp only at q;obtain⟨a,us,fx',rfl,hs,hr,_⟩:=rx.seq e;have hu:=cE e2 hr;subst hu;refine⟨a,ns,rfl,by rw[hK];exact hs,q.scal g ?_⟩;unfold vA;split
   .unfold Rel;exact⟨rfl,rfl⟩
   .exact fR
theorem z_{cp kp:Pos}(hK:X.K=T.K)(hc:X.calm=true)(hg:Gl X "min")(hm:X.mg "min"=none)(he:SE X T W e m)(hs:starEach [e] X.env=[(false,eval e X.env)]:=by rfl):SE X T W (mdE true e (.Constant .none j cp) p pos kp) (mUn nK m):=
 PE.wk (tR (y:=true) (d:=.non) hc hg hm he wB rfl hs) λ_ _ _ h=>tE.mir1 (xk hK) h
theorem xl(hK:X.K=T.K):BH T W (dw c_) (tH false d X.K):=by
 intro B F L Y H Q F' H' x v fx g rx nf nd new q;unfold dw at q;cases e:aW x with
 |none=>rw[e]at q;exact q.elim
 |some xs=>
  rw[e]at q;dsimp only at q;cases e2:bH xs with
  |none=>rw[e2]at q;exact q.elim
  |some ns=>
   rw[e2]at q;dsimp only at q;obtain⟨a,us,fx',rfl,hs,hr,_⟩:=rx.seq e;have hu:=cE e2 hr;subst hu;refine⟨a,ns,rfl,by rw[hK];exact hs,?_⟩;unfold vA;cases ns with
   |nil=>exact q.elim
   |cons=>exact q.scal g fR
theorem Ac{cp kp pu:Pos}(hK:X.K=T.K)(hc:X.calm=true)(hg:Gl X "max")(hm:X.mg "max"=none)(he:SE X T W e m)(hs:starEach [e] X.env=[(false,eval e X.env)]:=by rfl):SE X T W (mdE false e (.UnaryOp .USub (.Constant (.int i) j cp) pu) p pos kp) (mUn (dw c_) m):=
 PE.wk (tR (y:=false) (d:=.int (-i)) hc hg hm he (PE.wk (BU vO rR) λ_ _ _ h=>⟨_,rfl,h⟩) rfl hs) λ_ _ _ h=>tE.mir1 (xl hK) h
end
def wF(x y:PV):Jo:=match x,y with
 | .tup xs,.tup ys=>(match bH xs,bH ys with
  |some ns,some ms=>.ok (.bl (HT.lexLt ns ms))
  |_,_=>.stuck)
 |_,_=>.stuck
section
variable{X:Cx}{T:Tb}{W:Nat->St->Jm}{Z:Zn}{F F1 B L:Je}{H H1:Hp}{Y:St}{env:En}{fp:Nat->Jh}{D:Ends}
theorem AT(hK:X.K=T.K):j6 T W wF (F5 X.K):=by
 intro B F L Y H Q F' H' x y v u fx fy gr rx ry _ _ _ q;unfold wF at q;split at q
 case h_2=>exact q.elim
 rename_i xs ys
 split at q
 case h_2=>exact q.elim
 rename_i ns ms e1 e2
 unfold Rel at rx ry;obtain⟨a,vs,rfl,hs,hr⟩:=rx;obtain⟨b,us,rfl,ht,hq⟩:=ry;have z1:=cE e1 hr;have z2:=cE e2 hq;subst z1 z2;exact⟨a,b,ns,ms,rfl,rfl,by rw[hK];exact hs,by rw[hK];exact ht,q.scal gr ka⟩
theorem Cj(hK:X.K=T.K)(hu:X.A.units+64<cLine)(ha:SE X T W a ma)(hb:SE X T W b mb):ST X T W (.Compare a [.Lt] [b] pos) (ax (mOp wF ma mb)):=fZ (C9 ()) (AT hK) ha hb (fj _)
end
open AutoSeq1 (wpAny_loadPart')
section
variable{prog:Program}{w:World}{A:Around}{E:Ja}{s:Shared}
theorem dK1(a:Value):checkTypeCall "enumerate" ⟨[a],[]⟩=pure .unit:=by kernel_rfl
theorem dK2(a:Value):checkBuiltinCall "enumerate.__new__" ⟨[.type "enumerate",a],[]⟩=pure .unit:=by kernel_rfl
theorem dK3(a b:Value):argsOk "object.__init__" ⟨[a,b],[]⟩:=by
 unfold argsOk;rw[signature?_of (id:="object.__init__") (n:=['_','_','t','i','n','i','_','_']) (o:=['t','c','e','j','b','o']) (by kernel_rfl) F.owner_object]
 kernel_rfl
theorem Eu(n:String)(l:Addr) :
  Meets (Builtin.«enumerate.__new__» ⟨[.type "enumerate",.ref l],[]⟩) (λ_ R s=>nZ n l s/\R (.ok (.ret (.ref (s.heap.push (itO n l)).objs.size))) {s with heap:=(s.heap.push (itO n l)).push (enO s.heap.objs.size 0)}):=
 .of_wp λpr w A R s0 h=>by
  obtain⟨hp,g,d,tk,os⟩:=s0;obtain⟨hI,h⟩:=h;have hsub:=sub_enumerate;have hJ:∀{Q:Ja}{E:Ja},Q (.ref hp.objs.size) ⟨hp.push (itO n l),g,d,tk,os⟩->wpAny (model pr w) A.in1 (pyIter (.ref l)) Q E ⟨hp,g,d,tk,os⟩:=λ{Q E} q=>hI pr w A.in1 Q E q;have hJ':∀{Q:Ja}{E:Ja},Q (.ref hp.objs.size) ⟨hp.push (itO n l),g,d,tk,os⟩->wpAny (model pr w) A (pyIter (.ref l)) Q E ⟨hp,g,d,tk,os⟩:=λ{Q E} q=>hI pr w A Q E q
  wp_walk
  refine wpAny_stack_any λst=>wpAny_pure ?_;split<;>try (rename_i c _ _ _ _ _;cases(c==Value.type "enumerate"))
  all_goals (wp_walk using hJ,hJ')
  all_goals exact⟨_,rfl,h⟩
theorem BB(hI:nZ n l s)(h:Q (.ref (s.heap.objs.size+1)) {s with heap:=(s.heap.push (itO n l)).push (enO s.heap.objs.size 0)}) :
  wpAny (model prog w) A (call (.type "enumerate") [.ref l] []) Q E s:=by
 have hz:(s.heap.push (itO n l)).objs.size=s.heap.objs.size+1:=size_push ..
 refine kJ (Q1:=λob s1=>s1.TypeIs ob "enumerate" /\ Q ob s1) F.called_enumerate (dK1 _) (dK2 _) F.entry_enumerate_new F.entry_object_init (Eu n l) ⟨hI,?_⟩ λob s1 hq=>⟨hq.1,dK3 ob _,_,B2 F.called_enumerate.init.lookup F.called_enumerate.made (by decide),hq.1,rfl,hq.2⟩
 show _/\_;rw[hz];have:=get?_push_size (s.heap.push (itO n l)) (o:=enO s.heap.objs.size 0) rfl;rw[hz]at this;exact⟨⟨_,this,rfl⟩,h⟩
end
def iG(m:ME):MI:=λenv=>(m env).bind λx=>match x with
 |.lst f xs=>if !f.Ju&&fk xs then .ok (enP 0 xs)else .stuck
 |.tup xs=>if fk xs then .ok (enP 0 xs)else .stuck
 |_=>.stuck
section
variable{X:Cx}{T:Tb}{W:Nat->St->Jm}{Z:Zn}{F F1 B L:Je}{H H1:Hp}{Y:St}{env:En}{fp:Nat->Jh}{js:Jd}{s:Shared}
theorem wy{x1}(hg:Gl X "enumerate")(hm:X.mg "enumerate"=none)(hl:PE X l tl)(hs:starEach [l] X.env=[(false,eval l X.env)]:=by rfl) :
  PI X (.Tuple els x1 tpos) (.Call (.Name "enumerate" p) [l] [] pos) (λY H R=>tl Y H λx H1=>∃a tp xs,[x]=[V.ref a]/\Sq tp X.K H1 a xs/\R (Ite tp X.K 0 a) H1):=by
 intro js s Y H R I h;refine PyProof.Rows.Call_ (fP I hg hm uz (PyProof.Rows.callWith_type1 (thn (eR (te:=tl) hl iA (by rw[hs];rfl) pos js s Y H (λvs H1=>∃a tp xs,vs=[.ref a]/\Sq tp X.K H1 a xs/\R (Ite tp X.K 0 a) H1) I h) λus s2 ⟨vs,H1,I2,r1,a,tp,xs,ev,hq,q⟩=>?_) (by rw[hs];rfl) rfl));subst ev;obtain⟨u,rfl,rx⟩:=fw r1;cases rx;have hI:∃n,nZ n a s2/\∀h',h'.get? s2.heap.objs.size=some (itO n a)->zL tp h' s2.heap.objs.size a 0:=by
  cases tp with
  |false=>obtain⟨its,rv,pl,_⟩:=I2.list hq;exact⟨"list_iterator",λ_ _ _ _ _ q=>wpAny_pyIter_list pl.isList q,λh' e=>⟨_,e,rfl,rfl⟩⟩
  |true=>obtain⟨its,rv,pl,_⟩:=I2.tuple hq;exact⟨"tuple_iterator",λ_ _ _ _ _ q=>wpAny_pyIter_tuple (show s2.heap.IsTuple a its.toArray from pl) q,λh' e=>⟨_,e,rfl,rfl⟩⟩
 obtain⟨n,hI,hA⟩:=hI;have hz:(s2.heap.push (itO n a)).objs.size=s2.heap.objs.size+1:=size_push ..
 have he:((s2.heap.push (itO n a)).push (enO s2.heap.objs.size 0)).get? (s2.heap.objs.size+1)=some (enO s2.heap.objs.size 0):=by have:=get?_push_size (s2.heap.push (itO n a)) (o:=enO s2.heap.objs.size 0) rfl;rw[hz]at this;exact this
 refine BB hI (wpAny_pyIter_enum (i:=0) (old:=.none) he ?_);refine⟨s2.heap.objs.size+1,[s2.heap.objs.size+1,s2.heap.objs.size],_,_,H1,rfl,I2.kept (t':=s2.toks) λb o e=>get?_push_of_some _ (get?_push_of_some _ e),nh tp 0 a _ _,⟨⟨.none,by simpa using he⟩,hA _ (get?_push_of_some _ (get?_push_size _ rfl))⟩,λb hb=>?_,q⟩;simp only[mem_cons,not_mem_nil,or_false]at hb;rcases hb with rfl|rfl
 .exact I2.fpOk (le_succ _) (I2.hok.fresh (le_succ _))
 .exact I2.fpOk (Nat.le_refl _) (I2.hok.fresh (Nat.le_refl _))
theorem jz{x1}(hK:X.K=T.K)(hg:Gl X "enumerate")(hm:X.mg "enumerate"=none)(he:SE X T W e m)(hs:starEach [e] X.env=[(false,eval e X.env)]:=by rfl) :
  SI X T W (.Tuple els x1 tpos) (.Call (.Name "enumerate" p) [e] [] pos) (iG m):=λjs s Y H R I h=>wy hg hm he hs js s Y H R I (by
 obtain⟨Z,F,env,fp,S,q⟩:=h;unfold iG at q;refine tE.bq S λx v H1 F1 f1 e1 g1 r1 n1 d1 w1=>?_;rw[e1]at q;simp only[Res.Jz]at q;have S1:=S.grow g1;rw[hK];have key:∀(tp:Bool) (a:Addr) (xs:Jn) (vs:Jl),RelL T F1 Z.B NoL H1 xs vs []->(∀H2,(∀a o,H1 a=some o->¬Own fp a->H2 a=some o)->Sq tp T.K H2 a vs)->ItR T F1 Z.B (Own fp) H1 (Ite tp T.K 0 a) (enP 0 xs):=by intro tp a xs vs hr hq H2 hk;have hq2:=hq H2 hk;refine⟨λi x ex=>?_,⟨vs,hq2,by rw[iZ,hr.length];exact Nat.le_refl _⟩⟩;rw[fY]at ex;obtain⟨y,ey,rfl⟩:=map_eq_some_iff.mp ex;obtain⟨v,_,ev,_,_⟩:=hr.get ey;refine⟨⟨vs,v,hq2,ev⟩,λw H3 hy=>?_⟩;obtain⟨p,y',hp,rfl,rfl,hall⟩:=hy;have:=hall vs hq2;rw[ev]at this;cases this;exact⟨Ext.upd hp,lF hp (gX S1.fow S1.bow S1.oow hk hr ey ev)⟩
 cases x with
 |lst f xs=>
  dsimp only at q;by_cases hc:(!f.Ju&&fk xs)=true
  .rw[if_pos hc]at q;rw[and_eq_true]at hc;unfold Rel at r1;obtain⟨a,vs,fp',rfl,hl,hr,hf⟩:=r1;obtain⟨rfl,hr'⟩:=eV hc.2 hr;refine⟨a,false,vs,rfl,hl.sq,q _ H1 F1 g1 (key false a xs vs hr' λH2 hk=>?_)⟩;have na:f≠.mod->∀o,H1 a=some o->H2 a=some o:=λhn o ho=>by
    refine hk a o ho ?_;cases f with
    |own=>rintro⟨i,hi⟩;obtain⟨_,o',ho'⟩:=S.dis i a hi;obtain rfl:f1=[a]:=hf;rw[w1 a mem_cons_self]at ho';cases ho'
    |frz=>exact S1.fow a hl.1
    |bor=>exact S1.bow a hl.1
    |lnt=>exact absurd hc.1 (by decide)
    |mod=>exact absurd rfl hn
   show SqL T.K H2 a vs;by_cases hn:f=.mod
   .subst hn;exact .inr hl
   .exact .inl (Rd.tr (na hn) (hl.rd hn))
  .rw[if_neg hc]at q;exact q.elim
 |tup xs=>
  dsimp only at q;by_cases hc:fk xs=true
  .rw[if_pos hc]at q;unfold Rel at r1;obtain⟨a,vs,rfl,hl,hr⟩:=r1;obtain⟨rfl,hr'⟩:=eV hc hr;refine⟨a,true,vs,rfl,hl,q _ H1 F1 g1 (key true a xs vs hr' λH2 hk=>?_)⟩;exact SqT.tr (λo ho hfx=>hk a o ho λz=>by
    have:=S1.oow a o z ho;cases o with
    |lst _|ins _ _ _=>exact hfx
    |_=>exact this) hl
  .rw[if_neg hc]at q;exact q.elim
 |_=>exact q.elim)
end
def yD(P:Params):List DictEntry->List (Str×Int)->Prop
 | [],[]=>True
 |e::es,kv::kvs=>(∃t u,e=⟨PyData.keyHash P kv.1,.str kv.1 t,.int kv.2 u⟩)/\yD P es kvs
 |_,_=>False
structure Hy(w:World)(K:PySem.W.Frag)(d:Addr)(kvs:List (Str×Int)):Prop where
 ne:(d==sysModules)=false
 ex:∃(es:List DictEntry) (ep:Nat),K.lookup d=some {cls:=.type "dict",dict:=none,data:=.dict es.toArray ep,slots:=#[]}/\yD w.params es kvs
def look(kvs:List (Str×Int))(k:Str):Jj:=(kvs.find? λp=>p.1==k).map (·.2)
section
variable{P:Program}{w:World}{mg:Jb}{base:Heap}{T:Tb}
theorem D6(F:Fun T.K x qual st f fd)(S:dC N ps (aC st))
  (body:∀ (cdv:Value) (A:Around) (outer:List Env) (s:Shared) (H:Hp) (E:XK),Ctx (ef (CXP P w) P w T.K mg base N qual (aC st) f cdv A outer s H E) T (WD T E) k ->
   SSs (ef (CXP P w) P w T.K mg base N qual (aC st) f cdv A outer s H E) T (WD T E) (bB st) m):da P w T.K mg base (CXP P w) (k+1) f fd ps (spM T ps.length (bf N.length m)):=
 Hl F S λcdv A outer s H E hr=>body cdv A outer s H E (o4 hr)
theorem Bd(F:Fun T.K x qual st f fd)(S:dC N ps (aC st))
  (body:∀ (cdv:Value) (A:Around) (outer:List Env) (s:Shared) (H:Hp) (E:XK),Ctx (ef (CXP P w) P w T.K mg base N qual (aC st) f cdv A outer s H E) T (WD T E) k ->
   SSs (ef (CXP P w) P w T.K mg base N qual (aC st) f cdv A outer s H E) T (WD T E) (bB st) m):da P w T.K mg base (CXP P w) (k+1) f fd ps (spI T ps.length (i4 N.length m)):=
 D8 F S λcdv A outer s H E hr=>body cdv A outer s H E (o4 hr)
end
section
variable{prog:Program}{w:World}{A:Around}{E:Ja}{s:Shared}
abbrev emL(c:Nat):Obj:={cls:=.type "list",data:=.seq #[] c}
abbrev fuL(xs:Jk)(c:Nat):Obj:={cls:=.type "list",dict:=none,data:=.seq xs c,slots:=#[]}
theorem xB:typeLookup (.type "list_reverseiterator") "__len__"=pure none:=by rw[typeLookup_type,builtinLookup_eq_fast];kernel_rfl
theorem A1:typeLookup (.type "list_reverseiterator") "__length_hint__"=pure (some (.builtin "list_reverseiterator.__length_hint__")):=by rw[typeLookup_type,builtinLookup_eq_fast];kernel_rfl
def BJ(items:Jk)(i:Nat)(v:Value):Prop:=items[items.size-1-i]?=some v
theorem Ep(hh:A.handled=none)(hS:s.heap.get? S=some (emL c₀))(hit:s.heap.IsRevIter it l ((items.size:Int)-1))(hl:s.heap.IsList l items)(hne:l≠it)(hSi:S≠it)(hSl:S≠l)(hz:items.size<=1000000)
  (hR:∀h' tk acc c,(∀b o,b≠S->b≠it->s.heap.get? b=some o->h'.get? b=some o)->h'.get? S=some (fuL acc c)->ItemsOf (BJ items) acc items.size->R (.ok (.ret .none)) {s with heap:=h',toks:=tk}) :
  wpAny (model prog w) A.in1 (Builtin.List.listExtendWith (.ref S) (.ref it) .none)
   (λfin s'=>match fin with|.done f=>R (.ok f) s'|.again c'=>c'.quiet=true/\codeAny (model prog w) A c' R s') (λe s'=>R (.error e) s') s:=by
 have W:=(Walks.listRev (prog:=prog) (w:=w) (A:=A.in1) hh it l hne items).toS;have n1:Builtin.List.listSameRef (.ref S) (.ref it)=false:=by simp[Builtin.List.listSameRef,hSi]
 unfold Builtin.List.listExtendWith;refine wpAny_bind (wpAny_typeOf hit.typeIs ?_);rw[if_neg (by rw[n1];decide)];refine wpAny_bind (wpAny_pyIter_revIter hit (wpAny_bind (wpAny_holding ?_)));unfold Builtin.List.listLengthHint;refine wpAny_bind (wpAny_specialOf hit.typeIs xB ?_);show wpAny _ _ (specialOf (.ref it) (Str.ofString "__length_hint__") >>= _) _ _ s;refine wpAny_bind (wpAny_specialOf hit.typeIs A1 ?_);generalize hid:("list_reverseiterator.__length_hint__":String)=id0
 wp_delta
 rw[show splitId id0=some ("list_reverseiterator","__length_hint__")from by subst hid;decide +kernel];subst hid;refine wpAny_bind (wpAny_isInstance (b:=true) hit.typeIs (by rw[isSubtype_type];kernel_rfl) (wpAny_pure ?_));rw[if_neg (by decide)];refine wpAny_pure ⟨plainId_quiet F.plain_extend_loop _,codeAny_extend_loopS W (by rw[sizeLine_eq];omega) S (by simp[hSi,hSl]) .none items.size 0 s #[] c₀ rfl (zero_le _) ⟨zero_le _,by simpa using hit,hl⟩ hS (ItemsOf.nil _) λs' acc c hm hS' ha=>?_⟩;rw[Moved.eq_with hm];exact hR s'.heap s'.toks acc c (λb o h1 h2 e=>hm.heap b o (by simp[h1,h2]) e) hS' ha
theorem qT(hh:A.handled=none)(hit:s.heap.IsRevIter it l ((items.size:Int)-1))(hl:s.heap.IsList l items)(hne:l≠it)(hz:items.size<=1000000)
  (hQ:∀h' tk acc c,(∀b o,b≠it->s.heap.get? b=some o->h'.get? b=some o)->h'.get? s.heap.objs.size=some (fuL acc c)->ItemsOf (BJ items) acc items.size->Q (.ref s.heap.objs.size) {s with heap:=h',toks:=tk}) :
  wpAny (model prog w) A (call (.type "list") [.ref it]) Q E s:=by
 have lt1:it<s.heap.objs.size:=by obtain⟨o,e,_⟩:=id hit;exact lt_size e
 have lt2:l<s.heap.objs.size:=by obtain⟨o,e,_⟩:=id hl;exact lt_size e
 refine callType_codes (Q₁:=λob s1=>ob=.ref s.heap.objs.size/\s1={s with heap:=s.heap.push (emL 0)}) F.called_list (F.typeCall_list_1 _) F.entry_list_init (code_list_new _ ⟨rfl,rfl⟩) λob s1 hq=>?_;obtain⟨rfl,rfl⟩:=hq;have hS:(s.heap.push (emL 0)).get? s.heap.objs.size=some (emL 0):=get?_push_size _ rfl;refine⟨⟨_,hS,rfl⟩,F.args_list_init_2 _ _,?_⟩;show wpAny _ A.in1.in1 (Builtin.List.listItems (.ref s.heap.objs.size) >>= λold=>Builtin.List.listUpdate (.ref s.heap.objs.size) (λ_=>#[]) >>= λ_=>letGo old.toList.reverse >>= λ_=>Builtin.List.listExtendWith (.ref s.heap.objs.size) (.ref it) .none) _ _ _;refine wpAny_bind ?_;unfold Builtin.List.listItems;refine wpAny_bind (wpAny_seqItems hS rfl (wpAny_pure (wpAny_bind ?_)));show wpAny _ A.in1.in1 (updateSeq s.heap.objs.size (λ_=>#[])) _ _ _;refine wpAny_updateSeq hS rfl (wpAny_bind (wpAny_letGo ?_));have hS2:=get?_update_self (Obj.mapSeq (λ_=>(#[]:Jk))) hS rfl;have ot:∀b o,b≠s.heap.objs.size->s.heap.get? b=some o->((s.heap.push (emL 0)).update s.heap.objs.size (Obj.mapSeq (λ_=>(#[]:Jk)))).get? b=some o:=λb o hb e=>(get?_update_other _ _ (Ne.symm hb)).trans (get?_push_of_some _ e);refine Ep (A:=A.in1) (c₀:=0) hh hS2 (hit.at λo e=>ot _ o (Nat.ne_of_lt lt1) e) (hl.at λo e=>ot _ o (Nat.ne_of_lt lt2) e) hne (Ne.symm (Nat.ne_of_lt lt1)) (Ne.symm (Nat.ne_of_lt lt2)) hz λh' tk acc c kp e1 e2=>?_;exact⟨rfl,hQ h' tk acc c (λb o hb e=>kp b o (Nat.ne_of_lt (lt_size e)) hb (ot b o (Nat.ne_of_lt (lt_size e)) e)) e1 e2⟩
end
section
variable{X:Cx}{T:Tb}{W:Nat->St->Jm}{Z:Zn}{F F1 B L:Je}{H H1:Hp}{Y:St}{env:En}{fp:Nat->Jh}{js:Jd}{s:Shared}
def rLR(K:PySem.W.Frag):V->Hp->VK->Prop:=λv H Q=>∃(p:Addr) (ns:Jf),v=.ref p/\SqL K H p (ns.map V.int)/\ns.length<=1000000/\∀l,H l=none->Q (.ref l) (upd H l (.lst (ns.reverse.map V.int)))
theorem EG:bootBuiltins "reversed"=some (.type "reversed"):=by decide +kernel
theorem vD{ns:Jf}{its:Jg}(r:a5 (ns.map V.int) its)(ha:ItemsOf (BJ its.toArray) acc its.toArray.size):a5 (ns.reverse.map V.int) acc.toList:=by
 have hl:its.length=ns.length:=by simpa using r.length.symm
 have hz:acc.size=ns.length:=by rw[ha.1];simpa using hl
 refine sQ _ _ (by simp[hz]) λi x y e1 e2=>?_;have hi:i<ns.length:=by have:=(List.getElem?_eq_some_iff.mp e1).1;simpa using this
 have:=ha.2 i y (by simpa using e2);unfold BJ at this;obtain⟨t,rfl⟩:=dQ r _ _ this;rw[getElem?_map,List.getElem?_reverse hi]at e1;have hk:ns.length-1-i<ns.length:=by omega
 rw[getElem?_eq_getElem hk]at e1;cases e1;refine⟨t,?_⟩;have hs:its.toArray.size-1-i=ns.length-1-i:=by simp[hl]
 rw[hs];simp[hk]
theorem rQ(hc:X.calm=true)(hg:Gl X "list")(hm:X.mg "list"=none)(hg2:Gl X "reversed")(hm2:X.mg "reversed"=none)(he:PE X e te)(hs:starEach [e] X.env=[(false,eval e X.env)]:=by rfl)
  (hs2:starEach [.Call (.Name "reversed" p2) [e] [] pos2] X.env=[(false,eval (.Call (.Name "reversed" p2) [e] [] pos2) X.env)]:=by rfl):PE X (.Call (.Name "list" p) [.Call (.Name "reversed" p2) [e] [] pos2] [] pos) (tUn (rLR X.K) te):=by
 intro js s Y H Q I h;refine PyProof.Rows.Call_ (fP I hg hm j0 (PyProof.Rows.callWith_type1 ?_ (by rw[hs2];rfl) rfl));rw[hs2];refine Calls.spliced_cons (PyProof.Rows.Call_ (fP I hg2 hm2 EG (PyProof.Rows.callWith_type1 (thn (eR (te:=te) he iA (by rw[hs];rfl) pos2 js s Y H (λvs H1=>Dc vs λv=>rLR X.K v H1 Q) I h) λus s1 ⟨vs,H1,I1,r1,q1⟩=>?_) (by rw[hs];rfl) rfl)));obtain⟨v,rfl,a,ns,rfl,hq,hz,q⟩:=tV q1;obtain⟨u,rfl,rx⟩:=fw r1;cases rx;obtain⟨its,rv,pl,_⟩:=I1.list hq;have hl:its.length=ns.length:=by simpa using rv.length.symm
 have lt:a<s1.heap.objs.size:=by obtain⟨o,e,_⟩:=id pl.isList;exact lt_size e
 refine call_reversed_list pl.isList (Calls.spliced_nil ?_);have hsz:(s1.heap.push (revObj a ((its.toArray.size:Int)-1))).objs.size=s1.heap.objs.size+1:=size_push ..
 refine qT (it:=s1.heap.objs.size) (l:=a) (items:=its.toArray) (I1.ok.hd hc) ⟨_,get?_push_size _ rfl,rfl,rfl⟩ (pl.isList.push _) (Nat.ne_of_lt lt) (by simp[hl];omega) λh' tk acc c kp e1 e2=>?_;rw[hsz]at e1 ⊢;refine⟨.ref (s1.heap.objs.size+1),_,I1.laid (t':=tk) (λb o e=>kp b o (Nat.ne_of_lt (lt_size e)) (get?_push_of_some _ e)) (le_succ _) ?_,rfl,q _ (I1.hok.fresh (le_succ _))⟩;exact⟨by rw[sizeLine_eq];simp;omega,acc.toList,c,vD rv e2,by simpa using e1⟩
def gq:PV->Jo
 | .lst _ xs=>(match bH xs with
  |some ns=>if ns.length<=1000000 then .ok (.lst .own (ns.reverse.map .int))else .stuck
  |none=>.stuck)
 |_=>.stuck
theorem qc(hK:X.K=T.K):BH T W gq (rLR X.K):=by
 intro B F L Y H Q F' H' x v fx g rx nf nd new q;cases x with
 |lst f xs=>
  unfold gq at q;dsimp only at q;cases e:bH xs with
  |none=>rw[e]at q;exact q.elim
  |some ns=>
   rw[e]at q;dsimp only at q;split at q
   case isFalse=>exact q.elim
   rename_i hz
   unfold Rel at rx;obtain⟨a,vs,fp',rfl,hl,hr,hf⟩:=rx;have hu:=cE e hr;subst hu;exact⟨a,ns,rfl,by rw[hK];exact hl.sq,hz,GE.newL q g (tD _) (λ_ h=>by cases h) .nil (λ_ h=>by cases h)⟩
 |_=>exact q.elim
theorem rF(hK:X.K=T.K)(hc:X.calm=true)(hg:Gl X "list")(hm:X.mg "list"=none)(hg2:Gl X "reversed")(hm2:X.mg "reversed"=none)(he:SE X T W e m)(hs:starEach [e] X.env=[(false,eval e X.env)]:=by rfl)
  (hs2:starEach [.Call (.Name "reversed" p2) [e] [] pos2] X.env=[(false,eval (.Call (.Name "reversed" p2) [e] [] pos2) X.env)]:=by rfl):SE X T W (.Call (.Name "list" p) [.Call (.Name "reversed" p2) [e] [] pos2] [] pos) (mUn gq m):=
 PE.wk (rQ hc hg hm hg2 hm2 he hs hs2) λ_ _ _ h=>tE.mir1 (qc hK) h
end
section
variable{X:Cx}{T:Tb}{W:Nat->St->Jm}{Z:Zn}{F F1 B L:Je}{H H1:Hp}{Y:St}{env:En}{fp:Nat->Jh}
def IO(K:PySem.W.Frag)(d:Addr)(xs:Ji):Prop:=
 ∃(dd:Option Addr) (l:List (Str×Tok)) (n:Nat) (sl:Array (Option Value)),K.lookup d=some ⟨.type "tuple",dd,.seq (strValues l).toArray n,sl⟩/\l.map (·.1)=xs
variable{d:Addr}{kvs:List (Str×Int)}
end
end
section
section
variable{X:Cx}{T:Tb}{W:Nat->St->Jm}{Z:Zn}{F F1 B L:Je}{H H1:Hp}{Y:St}{env:En}{fp:Nat->Jh}{D:Ends}{ks:List Nat}
structure Orp(Z:Zn)(F:Je)(fp:Nat->Jh)(f:Jh):Prop where
 nd:f.Nodup
 nf:∀b∈f,¬F b
 new:∀b∈f,Z.H0 b=none\/Z.fp0 b
 dj:∀b∈f,∀j,b∉fp j
end
open AutoSeq1 (wpAny_loadPart')
structure zN(K:PySem.W.Frag)(x qual:Str)(st:Stmt)(f:Addr)(fd:FuncData)(dT:Addr)(ds:Jg):Prop where
 ex:∃(oc:Value) (od:Option Addr) (kV doc pm:Value) (an:Option Addr) (cdv ct:Value) (osl:Array (Option Value)),
  fd=PySem.W.fnOf x qual (b_ st) (bB st) (aC st) (.ref dT) kV doc pm an cdv ct/\K.lookup f=some ⟨oc,od,.func fd,osl⟩/\PySem.W.codeIn K cdv qual=true
 kp:PySem.W.keepIn K (.ref f)=true
 dl:∃(o:Obj) (n:Nat),K.lookup dT=some o/\o.data=.seq ds.toArray n
section
variable{P:Program}{w:World}{mg:Jb}{base:Heap}{T:Tb}
theorem D5(F:zN T.K x qual st f fd dT ds)(S:dC N ps (aC st))
  (body:∀ (cdv:Value) (A:Around) (outer:List Env) (s:Shared) (H:Hp) (E:XK),Ctx (ef (CXP P w) P w T.K mg base N qual (aC st) f cdv A outer s H E) T (WD T E) k ->
   SSs (ef (CXP P w) P w T.K mg base N qual (aC st) f cdv A outer s H E) T (WD T E) (bB st) m):da P w T.K mg base (CXP P w) (k+1) f fd ps (spM T ps.length (bf N.length m)):=by
 obtain⟨oc,od,kV,doc,pm,an,cdv,ct,osl,rfl,lk,hcd⟩:=F.ex;refine xT lk hcd S (λvs H Q E h=>h.1) λA outer s H vs Q E hr hsp=>⟨_,body cdv A outer s H E (o4 hr),?_⟩
 obtain⟨_,pvs,F,B,fl,R,q⟩:=hsp;obtain⟨fp,S0⟩:=kL N R none (λ_ h=>nomatch h);refine⟨_,F,_,fp,S0,?_⟩;unfold bf at q;cases e:m (pvs.map some++replicate (N.length-pvs.length) none)with
 |next e'=>rw[e]at q;exact λF' H' σ' fp' S'=>q F' H' .non [] S'.hp FZ nodup_nil (λ_ z=>(nomatch z)) (λ_ z=>(nomatch z))
 |ret v=>rw[e]at q;exact q
 |brk e'|cont e'=>rw[e]at q;exact q.elim
 |exc c e'=>rw[e]at q;exact λF' H' σ' fp' S'=>q H' S'.hp.keep
 |stuck=>rw[e]at q;exact q.elim
theorem zN.binds(F:zN K x qual st f fd dT ds)
  (h:∀(kV doc pm:Value) (an:Option Addr) (cdv ct:Value) (us:Jg),(us++es).length=ps.length->∃k:Option (Jk)->Sem (List (Str×Value)),bindArgs (PySem.W.fnOf x qual (b_ st) (bB st) (aC st) (.ref dT) kV doc pm an cdv ct) ⟨us,[]⟩=seqItems? (.ref dT) >>= k/\k (some ds.toArray)=pure (ps.zip (us++es))):fe K fd ps es:=by
 obtain⟨oc,od,kV,doc,pm,an,cdv,ct,osl,rfl,lk,hcd⟩:=F.ex;obtain⟨o,n,lo,hd⟩:=F.dl;intro s us KI hl;obtain⟨k,h1,h2⟩:=h kV doc pm an cdv ct us hl;exact BindsTo.of_defaults rfl (KI _ _ lo) hd h1 h2
end
section
variable{X:Cx}{T:Tb}{W:Nat->St->Jm}{Z:Zn}{F F1 B L:Je}{H H1:Hp}{Y:St}{env:En}{fp:Nat->Jh}
def xu:ME:=λ_=>.stuck
theorem Cr:SE X T W e xu:=λjs s Y H Q I h=>by obtain⟨_,_,_,_,_,z⟩:=h;exact z.elim
def mFz(m:ME):ME:=λenv=>(m env).bind λv=>.ok (v.Jx Fl.Jr)
theorem BP(he:SE X T W e m):SE X T W e (mFz m):=PE.wk he λY H Q hz1=>by
 obtain⟨Z,F,env,fp,S,q⟩:=hz1;unfold mFz at q;refine⟨Z,F,env,fp,S,?_⟩;cases em:m env with
 |stuck|exc c=>rw[em]at q;exact q
 |ok pv=>rw[em]at q;simp only[Res.Jz]at q;intro v H' F' f g r nf nd new;refine q v H' (λa=>F' a\/a∈f) [] ⟨g.ext,λa h=>.inl (g.mono a h),λa h=>h.elim (g.only a) λz=>.inr (new a z),λa h=>h.elim (g.dom a) λz=>r.there a z⟩ (Rel.Jr (λ_ h=>.inl h) (λa h=>.inr h) r) (λ_ h=>nomatch h) nodup_nil λ_ h=>nomatch h
end
open PySem.W (findIn fnOf keepIn nsIn codeIn isFn Frag)
structure FS where
 q:Str
 s:Stmt
 k:Nat
 N:Ji
 c:Option Nat
def bz(s:Stmt):Str:=match s with
 |.FunctionDef n _ _ _ _ _ _ _ _ _=>n
 |_=>""
structure Clo(H:Hp)(fr:Ji)(cl:List (Str×Addr))(cvs:Jl):Prop where
 inj:∀x y c,cl.lookup x=some c->cl.lookup y=some c->x=y
 sub:∀x c,cl.lookup x=some c->x∈fr
 len:cvs.length=fr.length
 val:∀(i:Nat) x v,fr[i]?=some x->cvs[i]?=some v->∃c o u z,cl.lookup x=some c/\H c=some (.frz o u)/\o.data=.cell (some z)/\bO v z
theorem Clo.tr(C:Clo H fr cl cvs)(h:∀b o u,H b=some (.frz o u)->H' b=some (.frz o u)):Clo H' fr cl cvs:=
 ⟨C.inj,C.sub,C.len,λi x v h1 h2=>let⟨c,o,u,z,q1,q2,q3⟩:=C.val i x v h1 h2;⟨c,o,u,z,q1,h _ _ _ q2,q3⟩⟩
structure FI where
 name:Str
 qual:Str
 params:Arguments
 body:List Stmt
 scope:Scope
 fr:Ji
def FI.bx(i:FI)(H:Hp)(f:Addr)(cvs:Jl):Prop:=∃cl doc pm ctv c' oc u u' vs t,H f=some (.frz (PySem.W.fnMade i.name i.qual i.params i.body i.scope cl doc pm c' ctv) u)/\
 H c'=some (.frz oc u')/\oc.data=.fields vs/\vs[1]?=some (.str i.qual t)/\Clo H i.fr cl cvs
theorem FI.bxs{i:FI}(h:∀b o u,H b=some (.frz o u)->H' b=some (.frz o u))(q:i.bx H f cvs):i.bx H' f cvs:=by obtain⟨cl,doc,pm,ctv,c',oc,u,u',vs,t,h1,h2,h3,h4,C⟩:=q;exact⟨cl,doc,pm,ctv,c',oc,u,u',vs,t,h _ _ _ h1,h _ _ _ h2,h3,h4,C.tr h⟩
structure NFd where
 i:Nat
 j:Nat
 q:Str
 k:Nat
 fr:Ji
 N:Ji
structure PT where
 F:List FS
 C:Ji
 X:Ji
 A:Ji
 M:List (Nat×Str×Nat)
 Mk:List (Nat×Nat)
 U:List (Nat×Nat)
 B:Ji
 I:List (Str×Int)
 KT:List (Option Nat×String×List Bool)
 HT:List (Nat×List Bool)
 D:List (Ji):=[]
 G:Option NFd:=none
def fs0:FS:=⟨"",.Pass ⟨0,0,0,0⟩,0,[],none⟩
def pk{α:Type}(d:α)(l:List α)(i:Nat):α:=l.getD i (l.headD d)
theorem gM{α:Type}{d:α}{p:α->Prop}{l:List α}(hl:l≠[])(h:∀x∈l,p x)(i:Nat):p (pk d l i):=by
 unfold pk;rw[getD_eq_getElem?_getD];cases e:l[i]? with
 |some C=>exact h C (List.mem_of_getElem? e)
 |none=>
  cases l with
  |nil=>exact absurd rfl hl
  |cons a l=>exact h a mem_cons_self
section
variable(p:PT)(K:Frag)
def gAt(x:Str):Addr:=match nsIn K mainGlobals x with
 |some (some (.ref a))=>a
 |_=>0
def mAt(c:Addr)(x:Str):Addr:=match findIn K (.ref c) x with
 |some (some (.ref a))=>a
 |_=>0
def dAt(f:Addr):FuncData:=match K.lookup f with
 |some ⟨_,_,.func d,_⟩=>d
 |_=>default
def PT.fs(i:Nat):FS:=pk fs0 p.F i
def PT.ps(i:Nat):Ji:=(p.fs i).N.take (p.fs i).k
def PT.ca(c:Nat):Addr:=gAt K (pk "" p.C c)
def PT.xa(c:Nat):Addr:=gAt K (pk "" p.X c)
def PT.fx(x:FS):Addr:=match x.c with
 |none=>gAt K (bz x.s)
 |some c=>mAt K (p.ca K c) (bz x.s)
def PT.fa(i:Nat):Addr:=p.fx K (p.fs i)
def lit(x:FS):Obj->Obj
 |⟨oc,od,.func d,sl⟩=>⟨oc,od,.func (fnOf (bz x.s) x.q (b_ x.s) (bB x.s) (aC x.s) .none d.kwdefaults d.doc d.pyModule d.annotations d.code d.closureTuple),sl⟩
 |o=>o
def G8:Option Obj->Bool
 |some ⟨_,_,.func _,_⟩=>true
 |_=>false
def scB(x:FS):Bool:=decide ((aC x.s).kind=.function)&&!(aC x.s).isCoroutine&&!(aC x.s).isGenerator&&decide x.N.Nodup&&decide (x.k<=x.N.length) &&
 (x.N.take x.k).all (λy=>decide ((aC x.s).names.lookup y=some .local \/(aC x.s).names.lookup y=some .cell))&&(aC x.s).names.all (λy=>decide (y.2≠.free))
def PT.chF(x:FS):Bool:=G8 (K.lookup (p.fx K x))&&codeIn K (dAt K (p.fx K x)).code x.q&&keepIn K (.ref (p.fx K x))&&(match x.c with|none=>decide (nsIn K mainGlobals (bz x.s)=some (some (.ref (p.fx K x))))|some _=>true)
def chC(A:Ji)(x:Str):Bool:=plainGet K (gAt K x) Str.empty&&hasDictIn K (gAt K x)&&plainOver K (gAt K x)&&decide (findIn K (.ref (gAt K x)) "__setattr__"=some (some (.builtin "object.__setattr__"))) &&
 decide (nsIn K mainGlobals x=some (some (.ref (gAt K x))))&&A.all (λy=>decide (findIn K (.ref (gAt K x)) y=some none))
def PT.chM(x:Nat×Str×Nat):Bool:=decide (findIn K (.ref (p.ca K x.1)) x.2.1=some (some (.ref (p.fa K x.2.2))))&&isFn K (.ref (p.fa K x.2.2))&&keepIn K (.ref (p.fa K x.2.2))
def PT.chK(x:Nat×Nat):Bool:=makesIn K (p.ca K x.1)&&decide (findIn K (.ref (p.ca K x.1)) "__init__"=some (some (.ref (p.fa K x.2))))&&isFn K (.ref (p.fa K x.2))&&keepIn K (.ref (p.ca K x.1))
def B1(f:Addr):Option PySem.W.CFound->Bool
 |some (.val (.ref a))=>decide (a=f)
 |_=>false
def PT.chU(x:Nat×Nat):Bool:=decide (specialIn K (.ref (p.ca K x.1)) "__getattribute__"=some (some (.builtin "type.__getattribute__")))&&readsIn K (p.ca K x.1) (.type "type")&&B1 (p.fa K x.2) (findCls K (.ref (p.ca K x.1)) (.type "type") "__init__")&&keepIn K (.ref (p.fa K x.2))
def tgV(y:Option Nat×String×List Bool):Value:=match y.1 with
 |some x=>.ref (p.xa K x)
 |none=>.type y.2.1
def chX(x:Str):Bool:=decide (nsIn K mainGlobals x=some (some (.ref (gAt K x))))&&vq K (gAt K x)
def chI(x:Str×Int):Bool:=match nsIn K mainGlobals x.1 with
 |some (some (.int i _))=>decide (i=x.2)
 |_=>false
def PT.chT(y:Option Nat×String×List Bool):Bool:=decide (p.X.map (λx=>kitOne K (.ref (gAt K x)) (tgV p K y))=y.2.2.map some)
def PT.chH(y:Nat×List Bool):Bool:=decide (p.X.map (λx=>exmOne K (.ref (gAt K x)) (.ref (p.xa K y.1)))=y.2.map some)
def PT.ch1:Bool:=p.F.all (p.chF K)
def PT.ch2:Bool:=p.C.all (chC K p.A)&&p.Mk.all (p.chK K)&&p.U.all (p.chU K)&&p.X.all (chX K)&&p.B.all (λx=>decide (nsIn K mainGlobals x=some none))&&p.I.all (chI K)&&p.KT.all (p.chT K)&&p.HT.all (p.chH K)
def PT.ch3:Bool:=p.M.all (p.chM K)
def PT.ob:List (Option Obj):=p.F.map λx=>K.lookup (p.fx K x)
def PT.ol:List (Option Obj):=p.F.map λx=>(K.lookup (p.fx K x)).map (lit x)
end
structure Tx(p:PT)(K:Frag)(mg:Jb):Prop where
 fn:∀i,Fun K (bz (p.fs i).s) (p.fs i).q (p.fs i).s (p.fa K i) (dAt K (p.fa K i))
 sc:∀i,dC (p.fs i).N (p.ps i) (aC (p.fs i).s)
 bn:∀i,fe K (dAt K (p.fa K i)) (p.ps i) []
 gl:∀i,(p.fs i).c=none->mg (bz (p.fs i).s)=some (.ref (p.fa K i))
 cl:∀c,Cls K (p.ca K c)
 cg:∀c,mg (pk "" p.C c)=some (.ref (p.ca K c))
 cn:∀c,∀x∈p.A,fu K (p.ca K c) x
 me:∀x∈p.M,BI K (p.ca K x.1) x.2.1 (p.fa K x.2.2)
 mm:∀x∈p.Mk,Mk K (p.ca K x.1) (p.fa K x.2)
 su:∀x∈p.U,Sup K (p.ca K x.1) (p.fa K x.2)
 xg:∀c,mg (pk "" p.X c)=some (.ref (p.xa K c))
 xe:∀c,vq K (p.xa K c)=true
 bi:∀x∈p.B,mg x=none
 ci:∀x∈p.I,∃tk,mg x.1=some (.int x.2 tk)
 kt:∀y∈p.KT,∀c,kitOne K (.ref (p.xa K c)) (tgV p K y)=some (p4 y.2.2 c)
 ht:∀y∈p.HT,∀c,exmOne K (.ref (p.xa K c)) (.ref (p.xa K y.1))=some (p4 y.2 c)
def Bnd(x:FS):Prop:=∀(kV doc pm:Value) (an:Option Addr) (cdv ct:Value) (us:Jg),us.length=(x.N.take x.k).length->bindArgs (fnOf (bz x.s) x.q (b_ x.s) (bB x.s) (aC x.s) .none kV doc pm an cdv ct) ⟨us,[]⟩=pure ((x.N.take x.k).zip us)
def zR:List FS->Prop
 | []=>True
 |x::l=>Bnd x/\zR l
theorem zR.get:∀{l:List FS},zR l->∀x∈l,Bnd x
 | [],_,_,h=>nomatch h
 |y::l,⟨h1,h2⟩,x,h=>by
  rcases mem_cons.mp h with rfl|h
  .exact h1
  .exact h2.get x h
section
variable{x:FS}
theorem lsS{us:Jg}(h:us.length=n+1):∃a r,us=a::r/\r.length=n:=by
 cases us with
 |nil=>cases h
 |cons a r=>exact⟨a,r,rfl,Nat.succ.inj h⟩
theorem bn1(h:∀(kV doc pm:Value) (an:Option Addr) (cdv ct u1:Value),bindArgs (fnOf (bz x.s) x.q (b_ x.s) (bB x.s) (aC x.s) .none kV doc pm an cdv ct) ⟨[u1],[]⟩=pure ((x.N.take x.k).zip [u1]):=by intros;rfl)(hk:(x.N.take x.k).length=1:=by rfl):Bnd x:=λkV doc pm an cdv ct us hl=>by rw[hk]at hl;obtain⟨_,_,rfl,l1⟩:=lsS hl;cases eq_nil_of_length_eq_zero l1;exact h ..
theorem bn2(h:∀(kV doc pm:Value) (an:Option Addr) (cdv ct u1 u2:Value),bindArgs (fnOf (bz x.s) x.q (b_ x.s) (bB x.s) (aC x.s) .none kV doc pm an cdv ct) ⟨[u1,u2],[]⟩=pure ((x.N.take x.k).zip [u1,u2]):=by intros;rfl)(hk:(x.N.take x.k).length=2:=by rfl):Bnd x:=λkV doc pm an cdv ct us hl=>by rw[hk]at hl;obtain⟨_,_,rfl,l1⟩:=lsS hl;obtain⟨_,_,rfl,l2⟩:=lsS l1;cases eq_nil_of_length_eq_zero l2;exact h ..
theorem bn3(h:∀(kV doc pm:Value) (an:Option Addr) (cdv ct u1 u2 u3:Value),bindArgs (fnOf (bz x.s) x.q (b_ x.s) (bB x.s) (aC x.s) .none kV doc pm an cdv ct) ⟨[u1,u2,u3],[]⟩=pure ((x.N.take x.k).zip [u1,u2,u3]):=by intros;rfl)(hk:(x.N.take x.k).length=3:=by rfl):Bnd x:=λkV doc pm an cdv ct us hl=>by rw[hk]at hl;obtain⟨_,_,rfl,l1⟩:=lsS hl;obtain⟨_,_,rfl,l2⟩:=lsS l1;obtain⟨_,_,rfl,l3⟩:=lsS l2;cases eq_nil_of_length_eq_zero l3;exact h ..
theorem bn4(h:∀(kV doc pm:Value) (an:Option Addr) (cdv ct u1 u2 u3 u4:Value),bindArgs (fnOf (bz x.s) x.q (b_ x.s) (bB x.s) (aC x.s) .none kV doc pm an cdv ct) ⟨[u1,u2,u3,u4],[]⟩=pure ((x.N.take x.k).zip [u1,u2,u3,u4]):=by intros;rfl)(hk:(x.N.take x.k).length=4:=by rfl):Bnd x:=λkV doc pm an cdv ct us hl=>by rw[hk]at hl;obtain⟨_,_,rfl,l1⟩:=lsS hl;obtain⟨_,_,rfl,l2⟩:=lsS l1;obtain⟨_,_,rfl,l3⟩:=lsS l2;obtain⟨_,_,rfl,l4⟩:=lsS l3;cases eq_nil_of_length_eq_zero l4;exact h ..
theorem bn5(h:∀(kV doc pm:Value) (an:Option Addr) (cdv ct u1 u2 u3 u4 u5:Value),bindArgs (fnOf (bz x.s) x.q (b_ x.s) (bB x.s) (aC x.s) .none kV doc pm an cdv ct) ⟨[u1,u2,u3,u4,u5],[]⟩=pure ((x.N.take x.k).zip [u1,u2,u3,u4,u5]):=by intros;rfl)(hk:(x.N.take x.k).length=5:=by rfl):Bnd x:=λkV doc pm an cdv ct us hl=>by rw[hk]at hl;obtain⟨_,_,rfl,l1⟩:=lsS hl;obtain⟨_,_,rfl,l2⟩:=lsS l1;obtain⟨_,_,rfl,l3⟩:=lsS l2;obtain⟨_,_,rfl,l4⟩:=lsS l3;obtain⟨_,_,rfl,l5⟩:=lsS l4;cases eq_nil_of_length_eq_zero l5;exact h ..
theorem bn6(h:∀(kV doc pm:Value) (an:Option Addr) (cdv ct u1 u2 u3 u4 u5 u6:Value),bindArgs (fnOf (bz x.s) x.q (b_ x.s) (bB x.s) (aC x.s) .none kV doc pm an cdv ct) ⟨[u1,u2,u3,u4,u5,u6],[]⟩=pure ((x.N.take x.k).zip [u1,u2,u3,u4,u5,u6]):=by intros;rfl)(hk:(x.N.take x.k).length=6:=by rfl):Bnd x:=λkV doc pm an cdv ct us hl=>by rw[hk]at hl;obtain⟨_,_,rfl,l1⟩:=lsS hl;obtain⟨_,_,rfl,l2⟩:=lsS l1;obtain⟨_,_,rfl,l3⟩:=lsS l2;obtain⟨_,_,rfl,l4⟩:=lsS l3;obtain⟨_,_,rfl,l5⟩:=lsS l4;obtain⟨_,_,rfl,l6⟩:=lsS l5;cases eq_nil_of_length_eq_zero l6;exact h ..
end
theorem vR{l:Ji}{α:Type}{f:Addr->Option Bool}{bs:List Bool}(hl:l≠[])(h:l.map (λx=>f (gAt K x))=bs.map some)(c:Nat):f (gAt K (pk "" l c))=some (p4 bs c):=by
 have e:gAt K (pk "" l c)=Aw (l.map (gAt K)) c:=by
  unfold pk Aw;cases l with
  |nil=>exact absurd rfl hl
  |cons a l=>rw[getD_eq_getElem?_getD,getD_eq_getElem?_getD,getElem?_map];cases(a::l)[c]?<;>rfl
 rw[e];exact ww (g:=id) (by simpa using hl) (by rw[map_map];exact h) c
theorem Tx.of{p:PT}{K:Frag}{h:Heap}{mg:Jb}(X:K.In h)(N:h.Ns mainGlobals mg)(hb:zR p.F)(hs:p.F.all scB=true)(hF:p.F≠[])(hC:p.C≠[])(hX:p.X≠[])
  (e:p.ob K=p.ol K) (h1:p.ch1 K=true) (h2:p.ch2 K=true) (h3:p.ch3 K=true):Tx p K mg:=by
 simp only[PT.ch2,and_eq_true,all_eq_true,decide_eq_true_eq]at h2;obtain⟨⟨⟨⟨⟨⟨⟨c1,c2⟩,c3⟩,c4⟩,c5⟩,c6⟩,c7⟩,c8⟩:=h2;simp only[PT.ch1,PT.ch3,all_eq_true]at h1 h3 hs;have fnx:∀x∈p.F,Fun K (bz x.s) x.q x.s (p.fx K x) (dAt K (p.fx K x)):=λx hx=>by
  have q:=h1 x hx;simp only[PT.chF,and_eq_true]at q;obtain⟨⟨⟨q1,q2⟩,q3⟩,_⟩:=q;have e1:K.lookup (p.fx K x)=(K.lookup (p.fx K x)).map (lit x):=List.map_inj_left.mp e x hx;cases eo:K.lookup (p.fx K x)with
  |none=>rw[eo]at q1;cases q1
  |some o=>
   rw[eo]at e1 q1;obtain⟨oc,od,dt,sl⟩:=o;cases dt with
   |func d=>
    have e2:(⟨oc,od,.func d,sl⟩:Obj)=lit x ⟨oc,od,.func d,sl⟩:=Option.some.inj e1;simp only[lit,Obj.mk.injEq,Data.func.injEq,true_and,and_true]at e2;have ed:dAt K (p.fx K x)=d:=by unfold dAt;rw[eo]
    rw[ed]at q2 ⊢;exact⟨⟨oc,od,d.kwdefaults,d.doc,d.pyModule,d.annotations,d.code,d.closureTuple,sl,e2,eo,q2⟩,q3⟩
   |_=>cases q1
 have scx:∀x∈p.F,dC x.N (x.N.take x.k) (aC x.s):=λx hx=>by have q:=hs x hx;simp only[scB,and_eq_true,decide_eq_true_eq,all_eq_true,not_eq_true']at q;obtain⟨⟨⟨⟨⟨⟨q1,q2⟩,q3⟩,q4⟩,q5⟩,q6⟩,q7⟩:=q;exact⟨q1,q2,q3,q4,by rw[length_take,Nat.min_eq_left q5],q6,q7⟩
 have clx:∀x∈p.C,(Cls K (gAt K x)/\mg x=some (.ref (gAt K x)))/\∀y∈p.A,fu K (gAt K x) y:=λx hx=>by have q:=c1 x hx;simp only[chC,and_eq_true,decide_eq_true_eq,all_eq_true]at q;obtain⟨⟨⟨⟨⟨q1,q2⟩,q3⟩,q4⟩,q5⟩,q6⟩:=q;exact⟨⟨⟨q1,q2,q3,q4⟩,mg_of X N q5⟩,q6⟩
 have xx:∀x∈p.X,mg x=some (.ref (gAt K x))/\vq K (gAt K x)=true:=λx hx=>by have q:=c4 x hx;simp only[chX,and_eq_true,decide_eq_true_eq]at q;exact⟨mg_of X N q.1,q.2⟩
 refine ⟨gM (p:=λx=>Fun K (bz x.s) x.q x.s (p.fx K x) (dAt K (p.fx K x))) hF fnx,gM (p:=λx=>dC x.N (x.N.take x.k) (aC x.s)) hF scx,gM (p:=λx=>fe K (dAt K (p.fx K x)) (x.N.take x.k) []) hF λx hx=>(fnx x hx).binds (hb.get x hx),
  gM (p:=λx=>x.c=none->mg (bz x.s)=some (.ref (p.fx K x))) hF λx hx hc=>?_,gM (p:=λx=>Cls K (gAt K x)) hC λx hx=>(clx x hx).1.1,gM (p:=λx=>mg x=some (.ref (gAt K x))) hC λx hx=>(clx x hx).1.2,
  gM (p:=λx=>∀y∈p.A,fu K (gAt K x) y) hC λx hx=>(clx x hx).2,λx hx=>?_,λx hx=>?_,λx hx=>?_,gM (p:=λx=>mg x=some (.ref (gAt K x))) hX λx hx=>(xx x hx).1,gM (p:=λx=>vq K (gAt K x)=true) hX λx hx=>(xx x hx).2,
  λx hx=>PySem.W.mg_none_of X N (c5 x hx),λx hx=>?_,λy hy c=>?_,λy hy c=>?_⟩
 .have q:=h1 x hx;simp only[PT.chF,and_eq_true]at q;have q:=q.2;rw[hc]at q;exact mg_of X N (of_decide_eq_true q)
 .have q:=h3 x hx;simp only[PT.chM,and_eq_true,decide_eq_true_eq]at q;exact⟨q.1.1,q.1.2,q.2⟩
 .have q:=c2 x hx;simp only[PT.chK,and_eq_true,decide_eq_true_eq]at q;exact⟨q.1.1.1,q.1.1.2,q.1.2,q.2⟩
 .have q:=c3 x hx;simp only[PT.chU,and_eq_true,decide_eq_true_eq]at q;refine⟨q.1.1.1,q.1.1.2,?_,q.2⟩;have q:=q.1.2;unfold B1 at q;split at q
  .rename_i a e
   rw[e,of_decide_eq_true q]
  .cases q
 .have q:=c6 x hx;unfold chI at q;split at q
  .rename_i i tk e
   exact⟨tk,by rw[<- of_decide_eq_true q];exact mg_of X N e⟩
  .cases q
 .exact vR (α:=Bool) (f:=λa=>kitOne K (.ref a) (tgV p K y)) hX (of_decide_eq_true (c7 y hy)) c
 .exact vR (α:=Bool) (f:=λa=>exmOne K (.ref a) (.ref (p.xa K y.1))) hX (of_decide_eq_true (c8 y hy)) c
def PT.attOk(p:PT):Prop:=p.A.Nodup/\p.A.all ke=true
def PT.gs(p:PT):NFd:=p.G.getD ⟨0,0,"",0,[],[]⟩
def PT.gst(p:PT):Stmt:=(bB (p.fs p.gs.i).s).getD p.gs.j (.Pass ⟨0,0,0,0⟩)
def PT.fi(p:PT):FI:=⟨bz p.gst,p.gs.q,b_ p.gst,bB p.gst,aC p.gst,p.gs.fr⟩
def PT.gpos(p:PT):Pos:=match p.gst with
 |.FunctionDef _ _ _ _ _ _ _ _ _ pos=>pos
 |_=>⟨0,0,0,0⟩
def PT.gt(p:PT)(K:Frag):Addr×Addr:=(PySem.W.tabIn K (bz (p.fs p.gs.i).s)).getD (0,0)
@[reducible] def PT.T(p:PT)(h:p.attOk)(K:Frag):Tb where
 K:=K
 nc:=p.C.length
 cls:=p.ca K
 att:=jc p.A
 inj:=vE h.1 h.2
 xcl:=p.xa K
 dk:=λk=>p.D.getD k []
 bx:=λk H a vs=>if k=99 then p.fi.bx H a vs else if 1000<=k then a=k-1000/\∀v∈vs,v=.ref a else ∃o,H a=some (.frz o (.dK (((p.D.getD k []).map Sum.inr).zip vs)))/\(p.D.getD k []).length=vs.length
 bxs:=λk H H' a vs h q=>by
  split at q
  .rw[if_pos ‹_›];exact FI.bxs h q
  .rw[if_neg ‹_›];split at q
   .rw[if_pos ‹_›];exact q
   .rw[if_neg ‹_›];obtain⟨o,z,l⟩:=q;exact⟨o,h _ _ _ z,l⟩
 tb:=λa=>if p.G.isSome=true/\a=(p.gt K).2 then some #[rawInt p.gpos.line,rawInt p.gpos.col,.str p.gs.q 0]else none
section
variable{p:PT}{K:Frag}{mg:Jb}
theorem Tx.cls(t:Tx p K mg)(n:Nat):∀c<n,Cls K (p.ca K c):=λc _=>t.cl c
theorem Tx.b(t:Tx p K mg)(j:Nat)(h:p.B[j]?=some x:=by rfl):mg x=none:=t.bi x (List.mem_of_getElem? h)
theorem Tx.c(t:Tx p K mg)(j:Nat)(h:p.I[j]?=some (x,i):=by rfl):∃tk,mg x=some (.int i tk):=t.ci (x,i) (List.mem_of_getElem? h)
end
open PySem.W (keepIn Frag)
section
variable{P:Program}{w:World}{K:Frag}{mg:Jb}{base:Heap}{p:PT}{hA:p.attOk}
abbrev OkF(p:PT)(hA:p.attOk)(P:Program)(w:World)(K:Frag)(mg:Jb)(base:Heap)(k i:Nat)(m:Jn->Jo):Prop:=da P w K mg base (CXP P w) k (p.fa K i) (dAt K (p.fa K i)) (p.ps i) (spM (p.T hA K) (p.ps i).length m)
abbrev OkI(p:PT)(hA:p.attOk)(P:Program)(w:World)(K:Frag)(mg:Jb)(base:Heap)(k i:Nat)(m:Jn->Jo):Prop:=da P w K mg base (CXP P w) k (p.fa K i) (dAt K (p.fa K i)) (p.ps i) (spI (p.T hA K) (p.ps i).length m)
theorem okC(i:Nat)(t:Tx p K mg)(body:∀ (cdv:Value) (A:Around) (outer:List Env) (s:Shared) (H:Hp) (E:XK),Ctx (ef (CXP P w) P w K mg base (p.fs i).N (p.fs i).q (aC (p.fs i).s) (p.fa K i) cdv A outer s H E) (p.T hA K) (WD (p.T hA K) E) k->(p.fs i).N.Nodup ->
  SSs (ef (CXP P w) P w K mg base (p.fs i).N (p.fs i).q (aC (p.fs i).s) (p.fa K i) cdv A outer s H E) (p.T hA K) (WD (p.T hA K) E) (bB (p.fs i).s) m):OkF p hA P w K mg base (k+1) i (bf (p.fs i).N.length m):=
 D6 (T:=p.T hA K) (t.fn i) (t.sc i) λa b c d e f g=>body a b c d e f g (t.sc i).nd
theorem okI(i:Nat)(t:Tx p K mg)(body:∀ (cdv:Value) (A:Around) (outer:List Env) (s:Shared) (H:Hp) (E:XK),Ctx (ef (CXP P w) P w K mg base (p.fs i).N (p.fs i).q (aC (p.fs i).s) (p.fa K i) cdv A outer s H E) (p.T hA K) (WD (p.T hA K) E) k->(p.fs i).N.Nodup ->
  SSs (ef (CXP P w) P w K mg base (p.fs i).N (p.fs i).q (aC (p.fs i).s) (p.fa K i) cdv A outer s H E) (p.T hA K) (WD (p.T hA K) E) (bB (p.fs i).s) m):OkI p hA P w K mg base (k+1) i (i4 (p.fs i).N.length m):=
 Bd (T:=p.T hA K) (t.fn i) (t.sc i) λa b c d e f g=>body a b c d e f g (t.sc i).nd
theorem dm{X:Cx}{k k2 i c:Nat}{mn:Str}{m m':Jn->Jo}{ps:Ji}(j:Nat)(t:Tx p X.K X.mg)(G:da X.prog X.w X.K X.mg X.base (CXP X.prog X.w) k (p.fa X.K i) (dAt X.K (p.fa X.K i)) ps (spM (p.T hA X.K) ps.length m))(e:some m=some m')(hj:p.M[j]?=some (c,mn,i):=by rfl)(hp:p.ps i=ps:=by rfl)(hk:k<=k2:=by decide) :
  ∃f fd,BI X.K (p.ca X.K c) mn f/\fe X.K fd ps []/\da X.prog X.w X.K X.mg X.base (CXP X.prog X.w) k2 f fd ps (spM (p.T hA X.K) ps.length m'):=by
 cases e;exact⟨_,_,t.me _ (List.mem_of_getElem? hj),hp▸t.bn i,G.mono hk⟩
end
theorem dno{n c:Nat}{q:Prop}(h:c<n)(hc:n<=c:=by exact Nat.le_add_left _ _):q:=absurd h (Nat.not_lt.mpr hc)
section
variable{X:Cx}{W:Nat->St->Jm}{p:PT}{hA:p.attOk}
theorem aX(t:Tx p X.K X.mg)
  (G:da X.prog X.w X.K X.mg X.base (CXP X.prog X.w) k (p.fa X.K i) (dAt X.K (p.fa X.K i)) (p.ps i) (spM (p.T hA X.K) (p.ps i).length m)) (cx:Ctx X (p.T hA X.K) W kk) (ha:SA X (p.T hA X.K) W (e::es) ms)
  (hk:k<=kk:=by decide) (hx:bz (p.fs i).s=x:=by rfl) (hc:(p.fs i).c=none:=by rfl) (hg:Gl X x:=by rfl) (hn:hV ms n:=by repeat' first|exact eZ|apply dU) (hps:n=(p.ps i).length:=by rfl)
  (hdb:(x ==("__debug__":Str))=false:=by decide) (he:starEach (e::es) X.env=(false,eval e X.env)::starEach es X.env:=by rfl) (hpl:(backTo pos (starEach es X.env)).any (·.1)=false:=by rfl) :
  SE X (p.T hA X.K) W (.Call (.Name x np) (e::es) [] pos) (ap (aB m) ms):=
 pR G cx hk hg (by subst hx;exact t.gl i hc) (t.fn i).kp (t.bn i) hn hps ha hdb he hpl
theorem cP(t:Tx p X.K X.mg)
  (D:fv X (p.T hA X.K) k mn ps [] disp) (cx:Ctx X (p.T hA X.K) W kk) (ho:SE X (p.T hA X.K) W o mo) (ha:SA X (p.T hA X.K) W (e::es) ms)
  (hm:∀k,jc p.A k≠mn:=by exact qY (by decide +kernel) (by decide +kernel)) (hk:k<=kk:=by decide) (hn:hV ms n:=by repeat' first|exact eZ|apply dU) (hps:n+1=ps.length:=by rfl)
  (hst:starEach (e::es) X.env=(false,eval e X.env)::starEach es X.env:=by rfl) (hpl:(backTo pos (starEach es X.env)).any (·.1)=false:=by rfl)
  (ht:eval (.Call (.Attribute o mn apos) (e::es) [] pos) X.env=(do
   let ov <- eval o X.env
   standAt apos.atName
   let(f,first) <- holding [ov] (getMethod ov mn pl)
   callWith pos f first (backTo pos (starEach (e::es) X.env)) (backToKw pos (keywordEach [] X.env))):=by rfl) :
  SE X (p.T hA X.K) W (.Call (.Attribute o mn apos) (e::es) [] pos) (bU disp mo ms):=
 Cy (pl:=pl) cx (t.cls _) hm D hk hn hps ho ha hst hpl ht
theorem v5(t:Tx p X.K X.mg)
  (D:fv X (p.T hA X.K) k mn ps [] disp) (cx:Ctx X (p.T hA X.K) W kk) (ho:SE X (p.T hA X.K) W o mo)
  (hm:∀k,jc p.A k≠mn:=by exact qY (by decide +kernel) (by decide +kernel)) (hk:k<=kk:=by decide) (hps:ps.length=1:=by rfl)
  (ht:eval (.Call (.Attribute o mn apos) [] [] pos) X.env=(do
   let ov <- eval o X.env
   standAt apos.atName
   let(f,first) <- holding [ov] (getMethod ov mn pl)
   callWith pos f first (backTo pos (starEach [] X.env)) (backToKw pos (keywordEach [] X.env))):=by rfl) :
  SE X (p.T hA X.K) W (.Call (.Attribute o mn apos) [] [] pos) (bU disp mo am):=
 Ab (pl:=pl) cx (t.cls _) hm D hk hps ho ht
theorem ou(c:Nat)(t:Tx p X.K X.mg)
  (G:da X.prog X.w X.K X.mg X.base (CXP X.prog X.w) k (p.fa X.K i) (dAt X.K (p.fa X.K i)) (p.ps i) (spI (p.T hA X.K) (p.ps i).length m)) (cx:Ctx X (p.T hA X.K) W kk) (ha:SA X (p.T hA X.K) W (e::es) ms)
  (hM:(c,i)∈ p.Mk:=by decide) (hcn:c<p.C.length:=by decide) (hk:k+1<=kk:=by decide) (hx:pk ("":Str) p.C c=x:=by rfl) (hg:Gl X x:=by rfl) (hn:hV ms n:=by repeat' first|exact eZ|apply dU) (hps:n+1=(p.ps i).length:=by rfl)
  (hdb:(x ==("__debug__":Str))=false:=by decide) (he:starEach (e::es) X.env=(false,eval e X.env)::starEach es X.env:=by rfl) (hpl:(backTo pos (starEach es X.env)).any (·.1)=false:=by rfl) :
  SE X (p.T hA X.K) W (.Call (.Name x np) (e::es) [] pos) (je c m ms):=
 Cw (t.mm _ hM) hcn G cx hk hg (by subst hx;exact t.cg c) (t.bn i) hn hps ha hdb he hpl
theorem aQ(k:Nat)(t:Tx p X.K X.mg)(cx:Ctx X (p.T hA X.K) W kk)(he:SE X (p.T hA X.K) W e m)(hf:jc p.A k=f:=by rfl)(hm:f∈p.A:=by decide)(hb:attributeBase e f X.env (eval e X.env)=eval e X.env:=by rfl) :
  SE X (p.T hA X.K) W (.Attribute e f pos) (mUn (ao k) m):=Ag cx.hK hf (t.cls _) (λc _=>t.cn c f hm) he hb
theorem i3(ha:SA X T W es ms)(hn:hV ms n:=by repeat' first|exact eZ|apply dU)(hs:n<=1000:=by decide):SE X T W (.List es pos) (fE ms):=Cz ha hn hs
theorem gj{x1}(ha:SA X T W es ms)(hn:hV ms n:=by repeat' first|exact eZ|apply dU)(hs:n<=1000:=by decide):SE X T W (.Tuple es x1 pos) (eX ms):=Cu ha hn hs
theorem bF(cx:Ctx X T W kk)(ha:SE X T W a ma)(hb:SE X T W b mb)(hs:lw b:=by exact λ_ _=>rfl):SE X T W (.Subscript a b pos) (mOp aH ma mb):=CA cx.hK ha hb hs
theorem bv(hN:X.N.Nodup)(he:SE X T W e m)(hi:X.N[i]?=some x:=by rfl)(hx:Loc X.env.scope x:=by first|exact .inl rfl|exact .inr rfl)(hs:swapsWith e (some (.Name x pos')) pos.line X.env=pure false:=by rfl)
  (hf:X.fn x=true\/X.env.scope.names.lookup x=some .local:=by first|exact .inl rfl|exact .inr rfl|assumption):SS X T W (.Assign [.Name x pos'] e pos) (aN i m):=Cm hN hi hx he hs hf
theorem sgN(hN:X.N.Nodup)(hi:X.N[i]?=some x:=by rfl)(hx:Loc X.env.scope x:=by first|exact .inl rfl|exact .inr rfl)(hf:X.fn x=true\/X.env.scope.names.lookup x=some .local:=by first|exact .inl rfl|exact .inr rfl|assumption):SG X T (.Name x pos) (tgN i):=z7 hN hi hx hf
theorem bV(h:k<=i:=by decide):hG (tgN i) k:=vQ h
theorem rG(cx:Ctx X T W kk)(he:SE X T W e m)(hN:X.N[i]?=some x:=by rfl)(hv:Vis X.env.scope x:=by first|exact Or.inl rfl|exact Or.inr (Or.inl rfl)|exact Or.inr (Or.inr rfl))
  (hs:swapsWith (.Call (.Attribute (.Name x px) "append" apos) [e] [] cpos) none pos.line X.env=pure false:=by rfl) (hst:starEach [e] X.env=[(false,eval e X.env)]:=by rfl)
  (hfew:((backTo cpos (starEach [e] X.env)).all (λx=>!x.1)&&(backToKw cpos (keywordEach [] X.env)).all (λx=>x.1.isSome)&&decide ([e].length+([]:List Keyword).length+(if([]:List Keyword).isEmpty then 0 else 1)<30))=true:=by rfl)
  (hline:(apos.endLine==cpos.line)=true:=by rfl) (hd:(x ==("__debug__":Str))=false:=by decide) (hcd:(x ==("__classdict__":Str))=false:=by decide) :
  SS X T W (.Expr (.Call (.Attribute (.Name x px) "append" apos) [e] [] cpos) pos) (dP i m):=uF cx.hK hN hv he hs hst hfew hline hd hcd
theorem sFld(k:Nat)(t:Tx p X.K X.mg)(cx:Ctx X (p.T hA X.K) W kk)(he:SE X (p.T hA X.K) W e m)(hf:jc p.A k=f:=by rfl)(hm:f∈p.A:=by decide)(hN:X.N[i]?=some x:=by rfl)
  (hv:Vis X.env.scope x:=by first|exact Or.inl rfl|exact Or.inr (Or.inl rfl)|exact Or.inr (Or.inr rfl))
  (hs:swapsWith e (some (.Attribute (.Name x px) f pos')) pos.line X.env=pure false:=by rfl) (hd:(x ==("__debug__":Str))=false:=by decide) (hcd:(x ==("__classdict__":Str))=false:=by decide) :
  SS X (p.T hA X.K) W (.Assign [.Attribute (.Name x px) f pos'] e pos) (gz i k m):=Cn cx.hK hf (t.cls _) (λc _=>t.cn c f hm) hN hv he hs hd hcd
theorem b5(c:Nat)(t:Tx p X.K X.mg)(cx:Ctx X (p.T hA X.K) W k)(hB:X.K.In X.base)(hx:XM X (p.T hA X.K) W)(ha:SA X (p.T hA X.K) W (e::es) ms)
  (hm:pk ("":Str) p.X c=x:=by rfl) (hg:Gl X x:=by rfl) (hn:hV ms n:=by repeat' first|exact eZ|apply dU) (hn2:n<=100:=by decide) (hd:(x ==("__debug__":Str))=false:=by decide)
  (he:starEach (e::es) X.env=(false,eval e X.env)::starEach es X.env:=by rfl) (hpl:(backTo cpos (starEach es X.env)).any (·.1)=false:=by rfl) :
  SS X (p.T hA X.K) W (.Raise (some (.Call (.Name x np) (e::es) [] cpos)) none pos) (bA c ms):=
 uE cx (by subst hm;exact t.xg c) hB (Bk (t.xe c)).2 hx hg hn hn2 ha hd he hpl
theorem pS(c:Nat)(t:Tx p X.K X.mg)
  (G:da X.prog X.w X.K X.mg X.base (CXP X.prog X.w) k (p.fa X.K i) (dAt X.K (p.fa X.K i)) (p.ps i) (spI (p.T hA X.K) (p.ps i).length m)) (cx:Ctx X (p.T hA X.K) W kk) (ha:SA X (p.T hA X.K) W es ms)
  (hU:(c,i)∈ p.U:=by decide) (hk:k<=kk:=by decide) (hx:pk ("":Str) p.C c=x:=by rfl) (hg:Gl X x:=by rfl) (hN:X.N[0]?=some y:=by rfl) (hv:Vis X.env.scope y:=by first|exact Or.inl rfl|exact Or.inr (Or.inl rfl)|exact Or.inr (Or.inr rfl))
  (hn:hV ms n:=by repeat' first|exact eZ|apply dU) (hps:n+1=(p.ps i).length:=by rfl)
  (hdb:(x ==("__debug__":Str))=false:=by decide) (hdy:(y ==("__debug__":Str))=false:=by decide) (hcy:(y ==("__classdict__":Str))=false:=by decide)
  (hst:starEach (.Name y px::es) X.env=(false,eval (.Name y px) X.env)::starEach es X.env:=by rfl) (hpl:(backTo pos (starEach es X.env)).any (·.1)=false:=by rfl)
  (ht:eval (.Call (.Attribute (.Name x q) "__init__" apos) (.Name y px::es) [] pos) X.env=(do
   let ov <- eval (.Name x q) X.env
   standAt apos.atName
   let(f,first) <- holding [ov] (getMethod ov "__init__" pl)
   callWith pos f first (backTo pos (starEach (.Name y px::es) X.env)) (backToKw pos (keywordEach [] X.env))):=by rfl)
  (hs:swapsWith (.Call (.Attribute (.Name x q) "__init__" apos) (.Name y px::es) [] pos) none pos'.line X.env=pure false:=by rfl) :
  SS X (p.T hA X.K) W (.Expr (.Call (.Attribute (.Name x q) "__init__" apos) (.Name y px::es) [] pos) pos') (ie m ms):=
 Ck (pl:=pl) cx (t.su _ hU) G hk hg (by subst hx;exact t.cg c) (t.bn i) hN hv hn hps ha hdb hdy hcy hst hpl ht hs
end
section
variable{X:Cx}{W:Nat->St->Jm}{T:Tb}
abbrev nmC(X:Cx)(caps:List Nat)(tn:Ji):Ji:=caps.map (λi=>X.N.getD i "")++ tn
theorem cOf(h:mF X.env.scope scope X.N caps (nmC X caps tn) tn=true):eQ X scope caps (nmC X caps tn) tn:=By h rfl rfl
theorem dD(tn:Ji)(cx:Ctx X T W kk)(hi:SIc X T W tg iter mi)(hk:hG g caps.length)
  (hb:∀C s H ex,(nmC X caps tn).Nodup->SG (cxC X scope C (nmC X caps tn) s H ex) T tg g/\STs (cxC X scope C (nmC X caps tn) s H ex) T WF ifs mc/\SE (cxC X scope C (nmC X caps tn) s H ex) T WF elt me)
  (h:mF X.env.scope scope X.N caps (nmC X caps tn) tn=true:=by kernel_rfl) (hs:∀x,foldedSetIterable iter X.env x=pure x:=by intro _;rfl):SE X T W (.ListComp elt [⟨tg,iter,ifs,0⟩] scope pos) (aM caps tn.length mi g mc me):=
 Ae (cOf h) cx.calm hi hk (λC s H ex=>hb C s H ex (cOf h).nd) hs
theorem dq(tn:Ji)(cx:Ctx X T W kk)(hN:X.N.Nodup)(hi:SIc X T W tg iter mi)(hk:hG g caps.length)
  (hb:∀C s H ex,(nmC X caps tn).Nodup->SG (cxC X scope C (nmC X caps tn) s H ex) T tg g/\STs (cxC X scope C (nmC X caps tn) s H ex) T WF ifs mc/\SE (cxC X scope C (nmC X caps tn) s H ex) T WF elt me)
  (h:mF X.env.scope scope X.N caps (nmC X caps tn) tn=true:=by kernel_rfl) (hy:X.N[i]?=some y:=by rfl) (hx:Loc X.env.scope y:=by first|exact .inl rfl|exact .inr rfl)
  (hsw:swapsWith (.ListComp elt [⟨tg,iter,ifs,0⟩] scope pos) (some (.Name y py)) spos.line X.env=pure true:=by rfl)
  (hs:∀x,foldedSetIterable iter X.env x=pure x:=by intro _;rfl)
  (hf:X.fn y=true\/X.env.scope.names.lookup y=some .local:=by first|exact .inl rfl|exact .inr rfl|assumption) :
  SS X T W (.Assign [.Name y py] (.ListComp elt [⟨tg,iter,ifs,0⟩] scope pos) spos) (aN i (aM caps tn.length mi g mc me)):=
 zY (cOf h) cx.calm hN hy hx hi hk (λC s H ex=>hb C s H ex (cOf h).nd) hsw hs hf
end
end
section
open PySem.W (findIn fnOf keepIn nsIn codeIn isFn Frag)
structure PE where
 D:List (FS×Bool)
 G:List (Str×List (Str×Int))
 S:List (Str×Str)
 P:List (Str×Ji)
def PE.at(q:PE)(j:Nat):FS×Bool:=q.D.getD j (fs0,false)
def sV:Jg->Option (List (Str×Tok))
 | []=>some []
 |.str z t::l=>(sV l).map ((z,t)::·)
 |_::_=>none
theorem pK:∀{vs:Jg}{l:List (Str×Tok)},sV vs=some l->vs=strValues l
 | [],l,h=>by cases h;rfl
 |v::vs,l,h=>by
  cases v with
  |str z t=>simp only[sV]at h;obtain⟨m,hm,rfl⟩:=map_eq_some_iff.mp h;rw[pK hm];rfl
  |_=>cases h
def chP(xs:Ji):Option Obj->Bool
 | some ⟨.type "tuple", _,.seq a _,_⟩=>(match sV a.toList with
  |some l=>decide (l.map (·.1)=xs)
  |none=>false)
 |_=>false
def chS(K:Frag)(x:Str×Str):Bool:=match nsIn K mainGlobals x.1 with
 |some (some (.str z _))=>decide (z=x.2)
 |_=>false
def dfA(K:Frag)(f:Addr):Addr:=match (dAt K f).defaults with
 |.ref a=>a
 |_=>0
def A6(x:FS)(a:Addr):Obj->Obj
 |⟨oc,od,.func d,sl⟩=>⟨oc,od,.func (fnOf (bz x.s) x.q (b_ x.s) (bB x.s) (aC x.s) (.ref a) d.kwdefaults d.doc d.pyModule d.annotations d.code d.closureTuple),sl⟩
 |o=>o
def FV(b:Bool):Option Obj->Bool
 |some ⟨_,_,.seq a _,_⟩=>decide (a.toList=[.bool b])
 |_=>false
def sG(P:Params):List DictEntry->List (Str×Int)->List DictEntry
 |⟨_,.str _ t,.int _ u⟩::es,(k,v)::kvs=>⟨PyData.keyHash P k,.str k t,.int v u⟩::sG P es kvs
 |_,_=>[]
theorem Bm:(sG P es kvs).length=kvs.length->yD P (sG P es kvs) kvs:=by
 fun_induction sG P es kvs with
 |case1=>rename_i ih;exact λe=>⟨⟨_,_,rfl⟩,ih (by simpa using e)⟩
 |case2=>intro e;have e:=eq_nil_of_length_eq_zero e.symm;subst e;trivial
def G2(P:Params)(kvs:List (Str×Int)):Obj->Obj
 |⟨_,_,.dict es ep,_⟩=>{cls:=.type "dict",dict:=none,data:=.dict (sG P es.toList kvs).toArray ep,slots:=#[]}
 |o=>o
def okG(P:Params)(kvs:List (Str×Int)):Option Obj->Bool
 |some ⟨_,_,.dict es _,_⟩=>decide ((sG P es.toList kvs).length=kvs.length)
 |_=>false
structure FD(p:PT)(K:Frag)(mg:Jb)(y:FS×Bool):Prop where
 fn:zN K (bz y.1.s) y.1.q y.1.s (p.fx K y.1) (dAt K (p.fx K y.1)) (dfA K (p.fx K y.1)) [.bool y.2]
 sc:dC y.1.N (y.1.N.take y.1.k) (aC y.1.s)
 bn:fe K (dAt K (p.fx K y.1)) (y.1.N.take y.1.k) []
 gl:mg (bz y.1.s)=some (.ref (p.fx K y.1))
structure Ty(p:PT)(q:PE)(w:World)(K:Frag)(mg:Jb):Prop where
 tx:Tx p K mg
 fd:∀y∈q.D,FD p K mg y
 dc:∀y∈q.G,mg y.1=some (.ref (gAt K y.1))/\Hy w K (gAt K y.1) y.2
 st:∀y∈q.S,∃t,mg y.1=some (.str y.2 t)
 tp:∀y∈q.P,mg y.1=some (.ref (gAt K y.1))/\IO K (gAt K y.1) y.2
section
variable{p:PT}{q:PE}{w:World}{K:Frag}{mg:Jb}
theorem Ty.d(t:Ty p q w K mg)(j:Nat)(h:j<q.D.length:=by decide):FD p K mg (q.at j):=t.fd _ (by unfold PE.at;rw[getD_eq_getElem?_getD,getElem?_eq_getElem h];exact List.getElem_mem h)
end
def zP(y:FS×Bool):Prop:=∀(dT:Addr) (kV doc pm:Value) (an:Option Addr) (cdv ct:Value) (us:Jg),(us++[]).length=(y.1.N.take y.1.k).length ->
 ∃k:Option (Jk)->Sem (List (Str×Value)),bindArgs (fnOf (bz y.1.s) y.1.q (b_ y.1.s) (bB y.1.s) (aC y.1.s) (.ref dT) kV doc pm an cdv ct) ⟨us,[]⟩=seqItems? (.ref dT) >>= k/\k (some [Value.bool y.2].toArray)=pure ((y.1.N.take y.1.k).zip (us++[]))
theorem bd2(h:∀(dT:Addr) (kV doc pm:Value) (an:Option Addr) (cdv ct u1 u2:Value),∃k:Option (Jk)->Sem (List (Str×Value)),bindArgs (fnOf (bz y.1.s) y.1.q (b_ y.1.s) (bB y.1.s) (aC y.1.s) (.ref dT) kV doc pm an cdv ct) ⟨[u1,u2],[]⟩=seqItems? (.ref dT) >>= k/\k (some [Value.bool y.2].toArray)=pure ((y.1.N.take y.1.k).zip [u1,u2]):=by intros;exact⟨_,rfl,rfl⟩)
  (hk:(y.1.N.take y.1.k).length=2:=by rfl):zP y:=λdT kV doc pm an cdv ct us hl=>by
 rw[hk]at hl
 match us,hl with
 | [_,_],_=>exact h ..
theorem bd3(h:∀(dT:Addr) (kV doc pm:Value) (an:Option Addr) (cdv ct u1 u2 u3:Value),∃k:Option (Jk)->Sem (List (Str×Value)),bindArgs (fnOf (bz y.1.s) y.1.q (b_ y.1.s) (bB y.1.s) (aC y.1.s) (.ref dT) kV doc pm an cdv ct) ⟨[u1,u2,u3],[]⟩=seqItems? (.ref dT) >>= k/\k (some [Value.bool y.2].toArray)=pure ((y.1.N.take y.1.k).zip [u1,u2,u3]):=by intros;exact⟨_,rfl,rfl⟩)
  (hk:(y.1.N.take y.1.k).length=3:=by rfl):zP y:=λdT kV doc pm an cdv ct us hl=>by
 rw[hk]at hl
 match us,hl with
 | [_,_,_],_=>exact h ..
def zQ:List (FS×Bool)->Prop
 | []=>True
 |x::l=>zP x/\zQ l
theorem zQ.get:∀{l:List (FS×Bool)},zQ l->∀x∈l,zP x
 | [],_,_,h=>nomatch h
 |y::l,⟨h1,h2⟩,x,h=>by
  rcases mem_cons.mp h with rfl|h
  .exact h1
  .exact h2.get x h
section
variable(p:PT)(q:PE)(P:Params)(K:Frag)
def PE.ob:List (Option Obj):=q.D.map λy=>K.lookup (p.fx K y.1)
def PE.ol:List (Option Obj):=q.D.map λy=>(K.lookup (p.fx K y.1)).map (A6 y.1 (dfA K (p.fx K y.1)))
def PE.ch:Bool:=q.D.all λy=>p.chF K y.1&&y.1.c.isNone&&FV y.2 (K.lookup (dfA K (p.fx K y.1)))
def PE.gb:List (Option Obj):=q.G.map λy=>K.lookup (gAt K y.1)
def PE.gl:List (Option Obj):=q.G.map λy=>(K.lookup (gAt K y.1)).map (G2 P y.2)
def PE.cs:Bool:=q.S.all (chS K)&&q.P.all λy=>decide (nsIn K mainGlobals y.1=some (some (.ref (gAt K y.1))))&&chP y.2 (K.lookup (gAt K y.1))
def PE.cg:Bool:=q.G.all λy=>decide (nsIn K mainGlobals y.1=some (some (.ref (gAt K y.1))))&&!(gAt K y.1==sysModules)&&okG P y.2 (K.lookup (gAt K y.1))
end
theorem Ty.of(X:K.In h)(N:h.Ns mainGlobals mg)(t:Tx p K mg)(hb:zQ q.D)(hs:q.D.all (λy=>scB y.1)=true)
  (e:q.ob p K=q.ol p K) (h1:q.ch p K=true) (e2:q.gb K=q.gl w.params K) (h2:q.cg w.params K=true) (h3:q.cs K=true):Ty p q w K mg:=by
 simp only[PE.ch,PE.cg,PE.cs,and_eq_true,all_eq_true,decide_eq_true_eq]at h1 h2 h3 hs;refine⟨t,λy hy=>?_,λy hy=>?_,λy hy=>?_,λy hy=>?_⟩
 .obtain⟨⟨a1,a2⟩,a3⟩:=h1 y hy;simp only[PT.chF,and_eq_true]at a1;obtain⟨⟨⟨q1,q2⟩,q3⟩,q4⟩:=a1;have e1:K.lookup (p.fx K y.1)=(K.lookup (p.fx K y.1)).map (A6 y.1 (dfA K (p.fx K y.1))):=List.map_inj_left.mp e y hy;have F:zN K (bz y.1.s) y.1.q y.1.s (p.fx K y.1) (dAt K (p.fx K y.1)) (dfA K (p.fx K y.1)) [.bool y.2]:=by
   have dl:∃(o:Obj) (n:Nat),K.lookup (dfA K (p.fx K y.1))=some o/\o.data=.seq [Value.bool y.2].toArray n:=by
    unfold FV at a3;split at a3
    .rename_i a n _ eo
     exact⟨_,n,eo,by rw[<- of_decide_eq_true a3]⟩
    .cases a3
   generalize dfA K (p.fx K y.1)=dT at e1 dl;cases eo:K.lookup (p.fx K y.1)with
   |none=>rw[eo]at q1;cases q1
   |some o=>
    rw[eo]at e1 q1;obtain⟨oc,od,dt,sl⟩:=o;cases dt with
    |func d=>
     have e2:(⟨oc,od,.func d,sl⟩:Obj)=A6 y.1 dT ⟨oc,od,.func d,sl⟩:=Option.some.inj e1;simp only[A6,Obj.mk.injEq,Data.func.injEq,true_and,and_true]at e2;have ed:dAt K (p.fx K y.1)=d:=by unfold dAt;rw[eo]
     rw[ed]at q2 ⊢;exact⟨⟨oc,od,d.kwdefaults,d.doc,d.pyModule,d.annotations,d.code,d.closureTuple,sl,e2,eo,q2⟩,q3,dl⟩
    |_=>cases q1
  have sc:dC y.1.N (y.1.N.take y.1.k) (aC y.1.s):=by have q:=hs y hy;simp only[scB,and_eq_true,decide_eq_true_eq,all_eq_true,not_eq_true']at q;obtain⟨⟨⟨⟨⟨⟨q1,q2⟩,q3⟩,q4⟩,q5⟩,q6⟩,q7⟩:=q;exact⟨q1,q2,q3,q4,by rw[length_take,Nat.min_eq_left q5],q6,q7⟩
  refine⟨F,sc,F.binds (es:=[]) (hb.get y hy _),?_⟩;rw[Option.isNone_iff_eq_none.mp a2]at q4;exact mg_of X N (of_decide_eq_true q4)
 .obtain⟨⟨a1,a2⟩,a3⟩:=h2 y hy;refine⟨mg_of X N a1,by simpa using a2,?_⟩;have e1:K.lookup (gAt K y.1)=(K.lookup (gAt K y.1)).map (G2 w.params y.2):=List.map_inj_left.mp e2 y hy;unfold okG at a3;split at a3
  .rename_i a b es ep sl eo
   rw[eo]at e1;exact⟨sG w.params es.toList y.2,ep,by rw[eo];exact e1,Bm (of_decide_eq_true a3)⟩
  .cases a3
 .have a:=h3.1 y hy;unfold chS at a;split at a
  .rename_i z tk e
   rw[<- of_decide_eq_true a];exact⟨tk,mg_of X N e⟩
  .cases a
 .obtain⟨a1,a2⟩:=h3.2 y hy;refine⟨mg_of X N a1,?_⟩;unfold chP at a2;split at a2
  .rename_i dd a n sl eo
   split at a2
   .rename_i l el
    have e:=pK el;refine⟨dd,l,n,sl,?_,of_decide_eq_true a2⟩;rw[eo,<- e]
   .cases a2
  .cases a2
section
variable{P:Program}{w:World}{K:Frag}{mg:Jb}{base:Heap}{p:PT}{hA:p.attOk}{q:PE}
abbrev OkD(p:PT)(hA:p.attOk)(P:Program)(w:World)(K:Frag)(mg:Jb)(base:Heap)(k:Nat)(x:FS)(m:Jn->Jo):Prop:=
 da P w K mg base (CXP P w) k (p.fx K x) (dAt K (p.fx K x)) (x.N.take x.k) (spM (p.T hA K) (x.N.take x.k).length m)
theorem okD(F:FD p K mg y)(body:∀ (cdv:Value) (A:Around) (outer:List Env) (s:Shared) (H:Hp) (E:XK),Ctx (ef (CXP P w) P w K mg base y.1.N y.1.q (aC y.1.s) (p.fx K y.1) cdv A outer s H E) (p.T hA K) (WD (p.T hA K) E) k->y.1.N.Nodup ->
  SSs (ef (CXP P w) P w K mg base y.1.N y.1.q (aC y.1.s) (p.fx K y.1) cdv A outer s H E) (p.T hA K) (WD (p.T hA K) E) (bB y.1.s) m):OkD p hA P w K mg base (k+1) y.1 (bf y.1.N.length m):=
 D5 (T:=p.T hA K) F.fn F.sc λa b c d e f g=>body a b c d e f g F.sc.nd
theorem j9(F:FD p X.K X.mg y)
  (G:OkD p hA X.prog X.w X.K X.mg X.base k y.1 m) (cx:Ctx X (p.T hA X.K) W kk) (ha:SA X (p.T hA X.K) W (e::es) ms)
  (hk:k<=kk:=by decide) (hx:bz y.1.s=x:=by rfl) (hg:Gl X x:=by rfl) (hn:hV ms n:=by repeat' first|exact eZ|apply dU) (hps:n=(y.1.N.take y.1.k).length:=by rfl)
  (hdb:(x ==("__debug__":Str))=false:=by decide) (he:starEach (e::es) X.env=(false,eval e X.env)::starEach es X.env:=by rfl) (hpl:(backTo pos (starEach es X.env)).any (·.1)=false:=by rfl) :
  SE X (p.T hA X.K) W (.Call (.Name x np) (e::es) [] pos) (ap (aB m) ms):=
 pR G cx hk hg (by subst hx;exact F.gl) F.fn.kp F.bn hn hps ha hdb he hpl
end
open PySem.W (fnOf Frag)
end
section
open PySem.W (Frag findIn)
abbrev MV:=En->Option (PV×En)
section
variable{X:Cx}{T:Tb}{W:Nat->St->Jm}{Z:Zn}{F F1 F3 B L:Je}{H H1 H3:Hp}{Y:St}{env:En}{fp:Nat->Jh}{D:Ends}
def GP(T:Tb)(Z:Zn)(Y:St)(Q:VK):Option (PV×En)->Prop
 |some r=>∀F H fp u f,aA T Z F H Y r.2 fp->Rel T F Z.B NoL H r.1 u f->Orp Z F fp f->Q u H
 |none=>False
def tP(T:Tb)(m:MV):TE:=λY H Q=>∃Z F env fp,aA T Z F H Y env fp/\GP T Z Y Q (m env)
end
end
section
open PySem.W (keepIn Frag)
open PySem.W (fnOf)
theorem bd4(h:∀(dT:Addr) (kV doc pm:Value) (an:Option Addr) (cdv ct u1 u2 u3 u4:Value),∃k:Option (Jk)->Sem (List (Str×Value)),bindArgs (fnOf (bz y.1.s) y.1.q (b_ y.1.s) (bB y.1.s) (aC y.1.s) (.ref dT) kV doc pm an cdv ct) ⟨[u1,u2,u3,u4],[]⟩=seqItems? (.ref dT) >>= k/\k (some [Value.bool y.2].toArray)=pure ((y.1.N.take y.1.k).zip [u1,u2,u3,u4]):=by intros;exact⟨_,rfl,rfl⟩)
  (hk:(y.1.N.take y.1.k).length=4:=by rfl):zP y:=λdT kV doc pm an cdv ct us hl=>by
 rw[hk]at hl
 match us,hl with
 | [_,_,_,_],_=>exact h ..
section
variable{env e e':En}{v:PV}{i:Nat}{r:Out}
@[simp] theorem qD:mC v env=.ok v:=rfl
@[simp] theorem f_:am env=.ok []:=rfl
@[simp] theorem eS:ae a m env=(a env).bind λx=>(m env).bind λxs=>.ok (x::xs):=rfl
@[simp] theorem Hn:mUn f a env=(a env).bind f:=rfl
@[simp] theorem gC:mOp f a b env=(a env).bind λx=>(b env).bind λy=>f x y:=rfl
@[simp] theorem fX:ap f m env=(m env).bind f:=rfl
@[simp] theorem IJ:fE m env=(m env).bind λxs=>.ok (.lst .own xs):=rfl
@[simp] theorem Er:eX m env=(m env).bind λxs=>.ok (.tup xs):=rfl
@[simp] theorem H4:iF a env=(a env).bind λb=>.ok (!b):=rfl
@[simp] theorem qC:bX a env=(a env).bind oA:=rfl
@[simp] theorem IK:pG a c env=(a env).bind (p7 c):=rfl
@[simp] theorem kC:fW env=.ok none:=rfl
@[simp] theorem Bl:bp env=.ok true:=rfl
def AC:Option (Option PV)->Jo
 |some (some v)=>.ok (v.Jx Fl.Jp)
 |_=>.stuck
@[simp] theorem nJ(v:PV):AC (some (some v))=.ok (v.Jx Fl.Jp):=rfl
@[simp] theorem fq:ac i env=AC env[i]?:=by
 unfold ac;cases env[i]? with
 |none=>rfl
 |some w=>cases w<;>rfl
def pBl:PV->Res Bool
 |.bl b=>.ok b
 |_=>.stuck
@[simp] theorem Iq(b:Bool):pBl (.bl b)=.ok b:=rfl
@[simp] theorem gZ:ax a env=(a env).bind pBl:=by rfl
def Gf:PV->Jo
 |.bl b=>.ok (.bl (!b))
 |_=>.stuck
@[simp] theorem HC(b:Bool):Gf (.bl b)=.ok (.bl (!b)):=rfl
@[simp] theorem H_:qg a env=(a env).bind Gf:=by rfl
def wG(r:Jo):PV->Jo
 |.bl b=>if b then r else .ok (.bl false)
 |_=>.stuck
@[simp] theorem HD(r:Jo)(b:Bool):wG r (.bl b)=if b then r else .ok (.bl false):=rfl
@[simp] theorem Ia:i8 a b env=(a env).bind (wG (b env)):=by
 unfold i8;congr 1;funext x;cases x with
 |bl b=>cases b<;>rfl
 |_=>rfl
@[simp] theorem Ha(g:Int->Int->PV)(i j:Int):lM g (.int i) (.int j)=.ok (g i j):=rfl
def BV:PV->Res (Jj)
 |.int i=>.ok (some i)
 |_=>.stuck
@[simp] theorem Fk(i:Int):BV (.int i)=.ok (some i):=rfl
@[simp] theorem jY:jP a env=(a env).bind BV:=by rfl
def Gi(l h:Jj):PV->Jo
 |.lst _ xs=>.ok (.lst .own (ig xs l h))
 |_=>.stuck
@[simp] theorem Gh(l h:Jj)(f:Fl)(xs:Jn):Gi l h (.lst f xs)=.ok (.lst .own (ig xs l h)):=rfl
@[simp] theorem iN:gU o lo hi env=(o env).bind λx=>(lo env).bind λl=>(hi env).bind λh=>Gi l h x:=by rfl
def aw(v:PV):Jo:=if v.has Fl.Jv then .stuck else .ok v
@[simp] theorem mM:aB f xs=(f (mapL Fl.Jq xs)).bind aw:=by unfold aB;cases f (mapL Fl.Jq xs)<;>rfl
def gp(disp:Nat->Option (Jn->Jo))(r:Res (Jn)):PV->Jo
 |.obj fl c ks vs=>match disp c with
  |some m=>r.bind λxs=>aB m (.obj fl c ks vs::xs)
  |none=>.stuck
 |_=>.stuck
@[simp] theorem Gg(disp:Nat->Option (Jn->Jo))(r:Res (Jn))(fl:Fl)(c:Nat)(ks:List Nat)(vs:Jn):gp disp r (.obj fl c ks vs)=match disp c with
  |some m=>r.bind λxs=>aB m (.obj fl c ks vs::xs)
  |none=>.stuck:=rfl
@[simp] theorem II:bU disp o ms env=(o env).bind (gp disp (ms env)):=by unfold bU;congr 1;funext x;cases x<;>rfl
@[simp] theorem HY:eY m env=(m env).bind λx=>match x with
 |.lst f xs=>if !f.Ju&&fk xs then .ok xs else .stuck
 |.tup xs=>if fk xs then .ok xs else .stuck
 |_=>.stuck:=rfl
def wE(x:PV):Res (Jn):=match aW x with
 |some xs=>.ok xs
 |none=>.stuck
@[simp] theorem Fn(f:Fl)(xs:Jn):wE (.lst f xs)=.ok xs:=rfl
@[simp] theorem Fm(xs:Jn):wE (.tup xs)=.ok xs:=rfl
@[simp] theorem HZ:bu m env=(m env).bind wE:=rfl
@[simp] theorem uq:eA a b env=(a env).bind λx=>if x then b env else .ok false:=rfl
@[simp] theorem IH:gy a b env=(a env).bind λx=>if x then .ok true else b env:=rfl
@[simp] theorem yB:oK c a b env=(c env).bind λx=>if x then a env else b env:=rfl
@[simp] theorem Es:je c f m env=(m env).bind λxs=>aB f (.obj .own c [] []::xs):=rfl
theorem ah(h1:a env=.next e)(h2:b e=r):aq a b env=r:=by unfold aq;rw[h1];exact h2
theorem dN(h1:a env=.ret v):aq a b env=.ret v:=by unfold aq;rw[h1]
theorem g_(h:c env=.ok true)(h2:a env=r):mBr c a b env=r:=by unfold mBr;rw[h];exact h2
theorem bL(h:c env=.ok false)(h2:b env=r):mBr c a b env=r:=by unfold mBr;rw[h];exact h2
theorem B8(h:c env=.ok x):mBr c a b env=if x then a env else b env:=by unfold mBr;rw[h];cases x<;>rfl
theorem ar(h:m env=.ok v)(hl:v.Jw=true:=by simp)(ho:aT i env=true:=by rfl):aN i m env=.next (env.set i (some v)):=by unfold aN;rw[h];simp[hl,ho]
theorem a6(h:m env=.ok v)(hl:v.Jw=true:=by simp):bt m env=.ret v:=by unfold bt;rw[h];simp[hl]
theorem d5(h:env[i]?=some (some v)):d6 i env=.ret v:=by unfold d6;rw[h]
theorem d9(h:m env=.ok v):fO m env=.next env:=by unfold fO;rw[h]
theorem az:aU env=.next env:=rfl
theorem bP(h:m env=.ok v)(ho:env[i]?=some (some (.obj .own c ks vs)))(hl:v.Jw=true)(hk:ks.contains k=false)(hn:ks.length<900) :
  gz i k m env=.next (env.set i (some (.obj .own c (ks++[k]) (vs++[v])))):=by
 unfold gz;rw[h,ho];simp only[hl,hk];simp[hn]
theorem eP(h:m env=.ok v)(ho:env[i]?=some (some (.lst .own xs)))(hl:v.Jw=true)(hn:xs.length<10000000):dP i m env=.next (env.set i (some (.lst .own (xs++[v])))):=by unfold dP;rw[h,ho];simp[hl,hn]
theorem jC(h:m env=.ok v)(ho:env[i]?=some (some (.lst .own xs)))(hk:mk env=.ok (.int j))(hj:ixN xs.length j=some n)(hl:v.Jw=true) :
  f9 i mk m env=.next (env.set i (some (.lst .own (xs.set n v)))):=by
 unfold f9;rw[h,ho,hk];simp[hj,hl]
theorem eK(h:env[i]?=some (some v)):gW i env=.next (env.set i (some (v.Jx Fl.Jr))):=by unfold gW;rw[h]
theorem E5(h:m env=.ok v)(hl:v.Jw=true)(hg:g v env=some e):xA g m env=.next e:=by unfold xA;rw[h];simp[hl,hg]
theorem av(h:m (args.map some++replicate (n-args.length) none)=.ret v):bf n m args=.ok v:=by unfold bf;rw[h]
theorem nE(h:m (args.map some++replicate (n-args.length) none)=.next e):bf n m args=.ok .non:=by unfold bf;rw[h]
theorem cL(h:m (args.map some++replicate (n-args.length) none)=.next e)(ho:e[0]?=some (some v)):i4 n m args=.ok v:=by unfold i4;rw[h];simp[ho]
theorem iY(P:Nat->En->Prop)(h:it env=.ok xs)(h0:P 0 env)
  (step:∀(k:Nat) (x:PV) (e:En),xs[k]?=some x->P k e->∃e1 e2,g x e=some e1/\(body e1=.next e2\/body e1=.cont e2)/\P (k+1) e2):∃e2,cF it g body env=.next e2/\P xs.length e2:=by
 unfold cF;rw[h];dsimp only;have key:∀ (ys pre:Jn) (e:En),pre ++ ys=xs->P pre.length e->∃ e2,mZ (λx e=>match g x e with
  |some e'=>body e'
  |none=>.stuck) ys e=.next e2/\P xs.length e2:=by
  intro ys
  induction ys with
  |nil=>intro pre e hp hP;simp at hp;subst hp;exact⟨e,rfl,hP⟩
  |cons y ys ih=>
   intro pre e hp hP;obtain⟨e1,e2,h1,h2,h3⟩:=step pre.length y e (by rw[<- hp];simp) hP;obtain⟨e3,h4,h5⟩:=ih (pre++[y]) e2 (by rw[<- hp];simp) (by simpa using h3);refine⟨e3,?_,h5⟩;unfold mZ;simp only[h1];rcases h2 with h2|h2<;>rw[h2]<;>exact h4
 exact key xs [] env rfl h0
theorem oU(P:Nat->En->Prop)(R:Out->Prop)(h:it env=.ok xs)(h0:P 0 env)
  (step:∀(k:Nat) (x:PV) (e:En),xs[k]?=some x->P k e->∃e1,g x e=some e1/\((∃e2,(body e1=.next e2\/body e1=.cont e2)/\P (k+1) e2)\/(∃e2,body e1=.brk e2/\R (.next e2))\/(∃v,body e1=.ret v/\R (.ret v))\/ ∃c e2,body e1=.exc c e2/\R (.exc c e2)))
  (fin:∀e,P xs.length e->R (.next e)):R (cF it g body env):=by
 unfold cF;rw[h];dsimp only;have key:∀ (ys pre:Jn) (e:En),pre ++ ys=xs->P pre.length e->R (mZ (λx e=>match g x e with
  |some e'=>body e'
  |none=>.stuck) ys e):=by
  intro ys
  induction ys with
  |nil=>intro pre e hp hP;simp at hp;subst hp;exact fin e hP
  |cons y ys ih=>
   intro pre e hp hP;obtain⟨e1,h1,h2⟩:=step pre.length y e (by rw[<- hp];simp) hP;unfold mZ;simp only[h1];rcases h2 with⟨e2,h2,h3⟩ |⟨e2,h2,h3⟩ |⟨v,h2,h3⟩ |⟨c,e2,h2,h3⟩
   .have:=ih (pre++[y]) e2 (by rw[<- hp];simp) (by simpa using h3);rcases h2 with h2|h2<;>rw[h2]<;>exact this
   .rw[h2];exact h3
   .rw[h2];exact h3
   .rw[h2];exact h3
 exact key xs [] env rfl h0
theorem aP(h:mi env=.ok xs)(hl:xs.length<=10000000)(hc:d_ g mc me (bN caps k env) xs=.ok ys):aM caps k mi g mc me env=.ok (.lst .own ys):=by unfold aM;rw[h];simp only[Res.Jz,hl,if_true,hc]
theorem aY{α:Type}{a:α->PV}{f:α->PV}:∀(xs:List α),(∀x∈xs,∃e1,g (a x).Js env=some e1/\me e1=.ok (f x)/\(f x).has Fl.Jv=false/\(f x).has Fl.Ju=false)->
  d_ g bp me env (xs.map a)=.ok (xs.map f)
 | [],_=>rfl
 |x::xs,h=>by obtain⟨e1,h1,h2,h3,h4⟩:=h x mem_cons_self;rw[map_cons,d_,h1];simp only[Bl,Res.Jz,if_true,h2,h3,h4,Bool.or_self,false_eq_true,if_false,aY xs λy hy=>h y (mem_cons_of_mem _ hy)];rfl
theorem b6{α:Type}{a:α->PV}{f:α->PV}{p:α->Bool}:∀(xs:List α),(∀x∈xs,∃e1,g (a x).Js env=some e1/\mc e1=.ok (p x)/\(p x=true->me e1=.ok (f x)/\(f x).has Fl.Jv=false/\(f x).has Fl.Ju=false))->
  d_ g mc me env (xs.map a)=.ok ((xs.filter p).map f)
 | [],_=>rfl
 |x::xs,h=>by
  obtain⟨e1,h1,h2,h3⟩:=h x mem_cons_self;have ih:=b6 (g:=g) (mc:=mc) (me:=me) (a:=a) (f:=f) (p:=p) xs λy hy=>h y (mem_cons_of_mem _ hy);rw[map_cons,d_,h1];cases hp:p x with
  |true=>obtain⟨h4,h5,h6⟩:=h3 hp;simp only[h2,hp,Res.Jz,if_true,h4,h5,h6,Bool.or_self,false_eq_true,if_false,ih];rw[List.filter_cons_of_pos hp];rfl
  |false=>simp only[h2,hp,Res.Jz,false_eq_true,if_false,ih];rw[List.filter_cons_of_neg (by simp[hp])]
end
def iL(ns:Jf):Jn:=ns.map .int
section
variable(ns ms:Jf)(g:Fl->Fl)(p:Fl->Bool)
@[simp] theorem G9:iL []=[]:=rfl
@[simp] theorem gA(n:Int):iL (n::ns)=.int n::iL ns:=rfl
@[simp] theorem bG:(iL ns).length=ns.length:=by simp[iL]
@[simp] theorem G_:iL ns++iL ms=iL (ns++ms):=by simp[iL]
@[simp] theorem ku(k:Nat):(iL ns).drop k=iL (ns.drop k):=by simp[iL]
@[simp] theorem nP(k:Nat):(iL ns).take k=iL (ns.take k):=by simp[iL]
@[simp] theorem xJ(k:Nat):(iL ns)[k]?=(ns[k]?).map .int:=by simp[iL]
@[simp] theorem qq(k:Nat)(n:Int):(iL ns).set k (.int n)=iL (ns.set k n):=by simp[iL,map_set]
@[simp] theorem iW:mapL g (iL ns)=iL ns:=by
 induction ns with
 |nil=>rfl
 |cons n ns ih=>simp[mapL,PV.Jx,ih]
@[simp] theorem FC:hasL p (iL ns)=false:=by
 induction ns with
 |nil=>rfl
 |cons n ns ih=>simp[hasL,PV.has,ih]
@[simp] theorem FG:PyData.canLayAll0 (dataL (iL ns))=true:=by
 induction ns with
 |nil=>rfl
 |cons n ns ih=>simp only[gA,dataL,PV.data,PyData.canLayAll0,ih];rfl
@[simp] theorem FF:PyData.depthAll (dataL (iL ns))=0:=by
 induction ns with
 |nil=>rfl
 |cons n ns ih=>simp only[gA,dataL,PV.data,PyData.depthAll,ih];rfl
@[simp] theorem jB(i:Int):shp (.int i)=true:=rfl
@[simp] theorem Io(b:Bool):shp (.bl b)=true:=rfl
@[simp] theorem tf:shp .non=true:=rfl
@[simp] theorem jA(f:Fl):shp (.lst f (iL ns))=true:=by simp[shp,SeqAt.shaped,PV.data,PyData.canLay0,PyData.depth]
@[simp] theorem ny:(iL ns).all shp=true:=by
 induction ns with
 |nil=>rfl
 |cons n ns ih=>simp only[gA,all_cons,jB,ih];rfl
mutual
theorem qE:∀d:PyData,d.canLay0=true->PyData.eqv d d=true
 |.none,_=>rfl
 |.bool b,_|.int b,_|.str b,_=>by simp[PyData.eqv]
 |.list xs,h=>by simp only[PyData.canLay0]at h;simp only[PyData.eqv];exact eqvL_self xs h
 |.tuple xs,h=>by simp only[PyData.canLay0]at h;simp only[PyData.eqv];exact eqvL_self xs h
 |.dict xs,h=>by simp[PyData.canLay0]at h
theorem eqvL_self:∀ds:List PyData,PyData.canLayAll0 ds=true->PyData.eqvAll ds ds=true
 | [],_=>rfl
 |d::ds,h=>by simp only[PyData.canLayAll0,and_eq_true]at h;simp only[PyData.eqvAll,qE d h.1,eqvL_self ds h.2];rfl
end
theorem AM(h:x.data=y.data)(hs:shp x=true):pNe x y=.ok (.bl false):=by
 have hy:shp y=true:=by unfold shp at hs ⊢;rw[<- h];exact hs
 have hc:=SeqAt.canLay_of_shaped hs;unfold pNe;rw[hs,hy,<- h,qE _ hc];rfl
@[simp] theorem IL(i j:Int):pEq (.int i) (.int j)=.ok (.bl (decide (i=j))):=by unfold pEq;simp only[jB,Bool.and_self,if_true,PV.data,PyData.eqv];congr 2
@[simp] theorem Iy(i j:Int):pNe (.int i) (.int j)=.ok (.bl (!decide (i=j))):=by unfold pNe;simp only[jB,Bool.and_self,if_true,PV.data,PyData.eqv];congr 2
@[simp] theorem I8(i j:Bool):pEq (.bl i) (.bl j)=.ok (.bl (decide (i=j))):=by cases i<;>cases j<;>rfl
@[simp] theorem IY(i j:Bool):pNe (.bl i) (.bl j)=.ok (.bl (!decide (i=j))):=by cases i<;>cases j<;>rfl
theorem kD:PyData.eqvAll (dataL (iL ns)) (dataL (iL ms))=decide (ns=ms):=by
 induction ns generalizing ms with
 |nil=>cases ms<;>simp[dataL,PyData.eqvAll]
 |cons n ns ih=>
  cases ms with
  |nil=>simp[dataL,PyData.eqvAll]
  |cons m ms=>simp only[gA,dataL,PV.data,PyData.eqvAll,PyData.eqv,ih];by_cases h:n=m<;>simp[h]
@[simp] theorem Ib(f f':Fl):pEq (.lst f (iL ns)) (.lst f' (iL ms))=.ok (.bl (decide (ns=ms))):=by unfold pEq;simp only[jA,Bool.and_self,if_true,PV.data,PyData.eqv,kD]
@[simp] theorem HE(f f':Fl):pNe (.lst f (iL ns)) (.lst f' (iL ms))=.ok (.bl (!decide (ns=ms))):=by unfold pNe;simp only[jA,Bool.and_self,if_true,PV.data,PyData.eqv,kD]
@[simp] theorem lt_int(i j:Int):pLt (.int i) (.int j)=.ok (.bl (decide (i<j))):=rfl
@[simp] theorem le_int(i j:Int):pLe (.int i) (.int j)=.ok (.bl (decide (i<=j))):=rfl
@[simp] theorem gt_int(i j:Int):pGt (.int i) (.int j)=.ok (.bl (decide (j<i))):=rfl
@[simp] theorem ge_int(i j:Int):pGe (.int i) (.int j)=.ok (.bl (decide (j<=i))):=rfl
@[simp] theorem F_(i j:Int):aL (.int i) (.int j)=.ok (.int (i+j)):=rfl
@[simp] theorem sub_int(i j:Int):fB (.int i) (.int j)=.ok (.int (i-j)):=rfl
@[simp] theorem neg_int(i:Int):p6 (.int i)=.ok (.int (-i)):=rfl
theorem bD(h:0<j):cI (.int i) (.int j)=.ok (.int (i%j)):=by simp[cI,f6,h]
theorem dI(h:0<j)(h2:j<1073741824):dB (.int i) (.int j)=.ok (.int (i / j)):=by simp[dB,f6,h,h2]
theorem cM(h:(-(2 ^ 64)<i/\i<2 ^ 64)\/(-(2 ^ 64)<j/\j<2 ^ 64)):cy (.int i) (.int j)=.ok (.int (i*j)):=by unfold cy f6;dsimp only;rw[if_pos (by simpa using h)]
@[simp] theorem HJ(f:Fl)(xs:Jn):cz (.lst f xs)=.ok (.int xs.length):=rfl
@[simp] theorem HI(xs:Jn):cz (.tup xs)=.ok (.int xs.length):=rfl
@[simp] theorem G3(f:Fl)(xs:Jn):kO (.lst f xs)=.ok (.lst .own xs):=rfl
@[simp] theorem Ir(f:PV->Jo)(x:PV):p1 f [x]=f x:=by simp only[p1]
@[simp] theorem HN(c:String)(i:Int):p7 c (.int i)=.ok (.bl (k6 "int" c)):=rfl
@[simp] theorem IC(c:String)(i:Bool):p7 c (.bl i)=.ok (.bl (k6 "bool" c)):=rfl
@[simp] theorem HL(c:String):p7 c .non=.ok (.bl (k6 "NoneType" c)):=rfl
@[simp] theorem HM(c:String)(f:Fl)(xs:Jn):p7 c (.lst f xs)=.ok (.bl (k6 "list" c)):=rfl
@[simp] theorem HK(c:String)(xs:Jn):p7 c (.tup xs)=.ok (.bl (k6 "tuple" c)):=rfl
@[simp] theorem pF(b:Bool):oA (.bl b)=.ok b:=rfl
@[simp] theorem Ff(i:Int):oA (.int i)=.ok (i != 0):=rfl
@[simp] theorem GZ(i:Int):(PV.int i).Jx g=.int i:=by simp[PV.Jx]
@[simp] theorem t9(b:Bool):(PV.bl b).Jx g=.bl b:=by simp[PV.Jx]
@[simp] theorem GY:PV.non.Jx g=.non:=by simp[PV.Jx]
@[simp] theorem GW(x:Str):(PV.str x).Jx g=.str x:=by simp[PV.Jx]
@[simp] theorem G0(x:Nat):(PV.exc x).Jx g=.exc x:=by simp[PV.Jx]
@[simp] theorem fN(f:Fl)(xs:Jn):(PV.lst f xs).Jx g=.lst (g f) (mapL g xs):=by simp[PV.Jx]
@[simp] theorem GV(xs:Jn):(PV.tup xs).Jx g=.tup (mapL g xs):=by simp[PV.Jx]
@[simp] theorem GX(f:Fl)(c:Nat)(ks:List Nat)(xs:Jn):(PV.obj f c ks xs).Jx g=.obj (g f) c ks (mapL g xs):=by simp[PV.Jx]
@[simp] theorem xr:mapL g []=[]:=by simp[mapL]
@[simp] theorem km(x:PV)(xs:Jn):mapL g (x::xs)=x.Jx g::mapL g xs:=by simp[mapL]
@[simp] theorem HW(i:Int):(PV.int i).has p=false:=by simp[PV.has]
@[simp] theorem ID(b:Bool):(PV.bl b).has p=false:=by simp[PV.has]
@[simp] theorem HV:PV.non.has p=false:=by simp[PV.has]
@[simp] theorem HS(x:Str):(PV.str x).has p=false:=by simp[PV.has]
@[simp] theorem HX(x:Nat):(PV.exc x).has p=false:=by simp[PV.has]
@[simp] theorem fF(f:Fl)(xs:Jn):(PV.lst f xs).has p=(p f||hasL p xs):=by simp[PV.has]
@[simp] theorem HR(xs:Jn):(PV.tup xs).has p=hasL p xs:=by simp[PV.has]
@[simp] theorem HU(f:Fl)(c:Nat)(ks:List Nat)(xs:Jn):(PV.obj f c ks xs).has p=(p f||hasL p xs):=by simp[PV.has]
@[simp] theorem Hf:hasL p []=false:=by simp[hasL]
@[simp] theorem FE(x:PV)(xs:Jn):hasL p (x::xs)=(x.has p||hasL p xs):=by simp[hasL]
@[simp] theorem eW(x:PV):x.Jw=!x.has Fl.Ju:=rfl
@[simp] theorem FH(x:PV):x.Js=x.Jx Fl.Js:=rfl
@[simp] theorem xD:Fl.own.Jp=.lnt:=rfl
@[simp] theorem G5:Fl.frz.Jp=.frz:=rfl
@[simp] theorem G6:Fl.bor.Jp=.bor:=rfl
@[simp] theorem G4:Fl.lnt.Jp=.lnt:=rfl
@[simp] theorem Fg:Fl.own.Jq=.own:=rfl
@[simp] theorem Fh:Fl.frz.Jq=.frz:=rfl
@[simp] theorem Fj:Fl.bor.Jq=.bor:=rfl
@[simp] theorem uD:Fl.lnt.Jq=.bor:=rfl
@[simp] theorem B9:Fl.own.Js=.bor:=rfl
@[simp] theorem EA:Fl.frz.Js=.frz:=rfl
@[simp] theorem EB:Fl.bor.Js=.bor:=rfl
@[simp] theorem Ez:Fl.lnt.Js=.bor:=rfl
@[simp] theorem Fo:Fl.own.Jt=true:=rfl
@[simp] theorem Fq:Fl.frz.Jt=false:=rfl
@[simp] theorem Fr:Fl.bor.Jt=false:=rfl
@[simp] theorem Fp:Fl.lnt.Jt=false:=rfl
@[simp] theorem Fs:Fl.own.Ju=false:=rfl
@[simp] theorem Fu:Fl.frz.Ju=false:=rfl
@[simp] theorem Fv:Fl.bor.Ju=false:=rfl
@[simp] theorem Ft:Fl.lnt.Ju=true:=rfl
@[simp] theorem Fx:Fl.own.Jv=false:=rfl
@[simp] theorem Fz:Fl.frz.Jv=false:=rfl
@[simp] theorem FB:Fl.bor.Jv=true:=rfl
@[simp] theorem Fy:Fl.lnt.Jv=false:=rfl
@[simp] theorem eM:Fl.own.Jr=.frz:=rfl
@[simp] theorem sC:Fl.frz.Jr=.frz:=rfl
@[simp] theorem D4:Fl.bor.Jr=.bor:=rfl
@[simp] theorem D3:Fl.lnt.Jr=.lnt:=rfl
theorem jV(h0:0<=i)(h:ns[i.toNat]?=some n):aH (.lst f (iL ns)) (.int i)=.ok (.int n):=by have hl:i.toNat<ns.length:=(List.getElem?_eq_some_iff.mp h).1;unfold aH;simp only[aW,atI,ixN,bG,h0,if_true];rw[if_pos ()];simp[h]
end
section
variable{env:En}{r:Out}
def kM(o:Out)(Q:En->Prop):Prop:=∃e,(o=.next e\/o=.cont e)/\Q e
theorem bZ(h1:a env=.next e)(h2:kM (b e) Q):kM (aq a b env) Q:=by obtain⟨e2,h3,h4⟩:=h2;refine⟨e2,?_,h4⟩;unfold aq;rw[h1];exact h3
theorem a9(h1:o=.next e)(h2:Q e):kM o Q:=⟨e,.inl h1,h2⟩
theorem kz(P:Nat->En->Prop)(h:it env=.ok xs)(h0:P 0 env)
  (step:∀(k:Nat) (x:PV) (e:En),xs[k]?=some x->P k e->∃e1,g x e=some e1/\kM (body e1) (P (k+1))) (fin:∀e,P xs.length e->Q e):kM (cF it g body env) Q:=by
 obtain⟨e2,h1,h2⟩:=iY P h h0 λk x e h1 h2=>by obtain⟨e1,h3,e2,h4,h5⟩:=step k x e h1 h2;exact⟨e1,e2,h3,h4,h5⟩
 exact⟨e2,.inl h1,fin e2 h2⟩
theorem cH{it:MI}{g:TgM}{body aI:MS}{xs:Jn}(P:Nat->En->Prop)(h:it env=.ok xs)(h0:P 0 env)
  (step:∀(k:Nat) (x:PV) (e:En),xs[k]?=some x->P k e->∃e1,g x e=some e1/\kM (body e1) (P (k+1))) (fin:∀e,P xs.length e->aI e=r):aq (cF it g body) aI env=r:=by
 obtain⟨e2,h1,h2⟩:=iY P h h0 λk x e h1 h2=>by obtain⟨e1,h3,e2,h4,h5⟩:=step k x e h1 h2;exact⟨e1,e2,h3,h4,h5⟩
 exact ah h1 (fin e2 h2)
theorem sw(h:-1000000<=i/\i<=1000000):inR i=true:=by
 have e:(2:Int) ^ 62=4611686018427387904:=by decide
 unfold inR;rw[decide_eq_true_eq,e];omega
theorem Aj(hi:inR n=true)(h:ms env=.ok [.int n]):bY ms env=.ok (dv 0 n.toNat):=by unfold bY;rw[h,Res.Jz];dsimp only;rw[if_pos hi]
theorem v7{n:Nat}(hi:inR (n:Int)=true)(h:ms env=.ok [.int n]):bY ms env=.ok (dv 0 n):=by have:=Aj hi h;rw[toNat_natCast]at this;exact this
theorem DQ{n:Nat}(hn:n<=1000000):-1000000 <=(n:Int)/\(n:Int)<= 1000000:=by omega
theorem bR{n:Nat}(h:ms env=.ok [.int n])(hn:n<=1000000):bY ms env=.ok (dv 0 n):=v7 (sw (DQ hn)) h
theorem Ai(hh:(inR lo&&inR hi)=true)(h:ms env=.ok [.int lo,.int hi]):kQ ms env=.ok (dv lo (hi-lo).toNat):=by unfold kQ;rw[h,Res.Jz];dsimp only;rw[if_pos hh]
theorem tw(h:ms env=.ok [.int lo,.int hi])(hl:-1000000<=lo/\lo<=1000000)(hh:-1000000<=hi/\hi<=1000000):kQ ms env=.ok (dv lo (hi-lo).toNat):=
 Ai (by rw[sw hl,sw hh];rfl) h
theorem bC(lo:Int)(n:Nat):(dv lo n).length=n:=by simp[dv]
theorem cQ(h:(dv lo n)[k]?=some x):k<n/\x=.int (lo+k):=by
 have hk:k<n:=by
  have:=(List.getElem?_eq_some_iff.mp h).1
  rwa [bC]at this
 refine⟨hk,?_⟩;simp[dv,hk]at h;exact h.symm
theorem gY{ns:Jf}{k:Nat}{x:PV}(h:(iL ns)[k]?=some x):∃n,ns[k]?=some n/\x=.int n:=by simp at h;obtain⟨n,h1,h2⟩:=h;exact⟨n,h1,h2.symm⟩
theorem cu(h:aT i e=true):tgN i v e=some (e.set i (some v)):=by simp[tgN,h]
end
theorem Ew(ns:Jf)(lo hi:Nat){l h:Int}(hl:l=lo)(hh:h=hi):ig (iL ns) (some l) (some h)=iL ((ns.take hi).drop lo):=by
 subst hl hh;unfold ig;rw[HT.sIx_nat,HT.sIx_nat];simp only[bG,ku,nP];congr 1;rw[List.drop_take];rcases Nat.le_total lo ns.length with h1|h1
 .rw[Nat.min_eq_left h1];rcases Nat.le_total hi ns.length with h2|h2
  .rw[Nat.min_eq_left h2]
  .rw[Nat.min_eq_right h2,List.take_of_length_le (by simp),List.take_of_length_le (by simp;omega)]
 .rw[Nat.min_eq_right h1,List.drop_eq_nil_of_le (Nat.le_refl _),List.drop_eq_nil_of_le h1];simp
theorem Bv(ns:Jf)(lo:Nat){l:Int}(hl:l=lo):ig (iL ns) (some l) none=iL (ns.drop lo):=by
 subst hl;unfold ig;rw[HT.sIx_nat,HT.sIx_none];simp only[bG,ku,nP];congr 1;rcases Nat.le_total lo ns.length with h1|h1
 .rw[Nat.min_eq_left h1,List.take_of_length_le (by simp)]
 .rw[Nat.min_eq_right h1,List.drop_eq_nil_of_le (Nat.le_refl _),List.drop_eq_nil_of_le h1];simp
theorem gn(hf:f≠.mod)(hg:g≠.mod)(h:xs.length+ys.length<=10000000):aL (.lst f xs) (.lst g ys)=.ok (.lst .own (xs++ys)):=by
 unfold aL
 grind
theorem jT(h:k<n):ixN n (k:Int)=some k:=by unfold ixN;rw[if_pos (),if_pos (),toNat_natCast]
def llL(f:Fl)(xss:List (Jf)):Jn:=xss.map λxs=>.lst f (iL xs)
section
variable(xss yss:List (Jf))(g:Fl->Fl)(p:Fl->Bool)(f:Fl)
@[simp] theorem HH:llL f []=[]:=rfl
@[simp] theorem G1(xs:Jf):llL f (xs::xss)=.lst f (iL xs)::llL f xss:=rfl
@[simp] theorem oN:(llL f xss).length=xss.length:=by simp[llL]
@[simp] theorem A5:llL f xss++llL f yss=llL f (xss++yss):=by simp[llL]
@[simp] theorem jN:mapL g (llL f xss)=llL (g f) xss:=by
 induction xss with
 |nil=>rfl
 |cons n ns ih=>simp[ih]
theorem cR(h:p f=false):hasL p (llL f xss)=false:=by
 induction xss with
 |nil=>rfl
 |cons n ns ih=>simp[ih,h]
theorem A3{k:Nat}{x:PV}(h:(llL f xss)[k]?=some x):∃xs,xss[k]?=some xs/\x=.lst f (iL xs):=by simp[llL]at h;obtain⟨n,h1,h2⟩:=h;exact⟨n,h1,h2.symm⟩
end
@[simp] theorem eH(ns:Jf):bH (iL ns)=some ns:=by
 induction ns with
 |nil=>rfl
 |cons n ns ih=>simp[bH,ih]
theorem nN(h:ns.length<=1000):iU (.lst f (iL ns))=.ok (.int (nS ns)):=by unfold iU;simp only[eH];rw[if_pos (by simpa using h)]
theorem uw:∀(l acc:Jf),(acc++l).Nodup->l.foldl step_dedup acc=acc++l
 | [],acc,_=>by simp
 |x::l,acc,h=>by
  have h':((acc++[x])++ l).Nodup:=by simpa using h
  rw[foldl_cons];have hx:x∉acc:=λhm=>by rw[nodup_append]at h;exact h.2.2 x hm x mem_cons_self rfl
  have:step_dedup acc x=acc++[x]:=by unfold step_dedup;rw[if_neg];simpa using hx
  rw[this,uw l _ h'];simp
theorem Bt(ns:Jf):(range ns.length).map (λi=>ns.getD i 0)=ns:=by
 apply List.ext_getElem?;intro i;by_cases h:i<ns.length
 .simp[h]
 .simp[h]
theorem qJ(h:ns.Nodup):nS ns=ns.length:=by unfold nS firstMet;rw[Bt,uw ns [] (by simpa using h)];rfl
theorem uc(i:Int)(ns:Jf):inL (.int i) (iL ns)=ns.contains i:=by
 induction ns with
 |nil=>rfl
 |cons n ns ih=>have e:inL (.int i) (iL (n::ns))=(PyData.eqv (PV.int n).data (PV.int i).data||inL (.int i) (iL ns)):=rfl;rw[e,ih,List.contains_cons];congr 1;simp only[PV.data,PyData.eqv];exact Bool.beq_comm
@[simp] theorem I0(i:Int)(ns:Jf)(f:Fl):pIn (.int i) (.lst f (iL ns))=.ok (.bl (ns.contains i)):=by unfold pIn;simp only[aW,jB,ny,Bool.and_self,if_true,uc]
@[simp] theorem GQ(i:Int)(ns:Jf)(f:Fl):dF (.int i) (.lst f (iL ns))=.ok (.bl (!ns.contains i)):=by unfold dF;simp only[aW,jB,ny,Bool.and_self,if_true,uc]
def Ends(o:Out):Prop:=∃e,o=.next e
section
variable{env e:En}
theorem eE(h:Ends (m (args.map some++replicate (n-args.length) none))):bf n m args=.ok .non:=by obtain⟨e,h⟩:=h;exact nE h
theorem gD(h1:a env=.next e)(h2:Ends (b e)):Ends (aq a b env):=by obtain⟨e2,h2⟩:=h2;exact⟨e2,ah h1 h2⟩
theorem kE(h:o=.next e):Ends o:=⟨e,h⟩
theorem yE{it:MI}{g:TgM}{body aI:MS}{xs:Jn}(P:Nat->En->Prop)(h:it env=.ok xs)(h0:P 0 env)
  (step:∀(k:Nat) (x:PV) (e:En),xs[k]?=some x->P k e->∃e1,g x e=some e1/\kM (body e1) (P (k+1))) (fin:∀e,P xs.length e->Ends (aI e)):Ends (aq (cF it g body) aI env):=by
 obtain⟨e2,h1,h2⟩:=iY P h h0 λk x e h1 h2=>by obtain⟨e1,h3,e2,h4,h5⟩:=step k x e h1 h2;exact⟨e1,e2,h3,h4,h5⟩
 exact gD h1 (fin e2 h2)
end
theorem dh(h:m env=.ok (.lst f xs))(hf:f.Ju=false)(h1:hasL Fl.Jt xs=false)(h2:hasL Fl.Ju xs=false):eY m env=.ok xs:=by unfold eY;rw[h];simp[hf,fk,h1,h2]
end
end PR
namespace PR
section
variable{n r s k o:Nat}{adj:Nat->Nat->Prop}{far:Jf}
def gt(far:Jf)(i:Nat):Int:=far.getD i 0
theorem eJ(x:Int)(h:o<far.length)(i:Nat):gt (far.set o x) i=if i=o then x else gt far i:=by
 simp only[gt,getD_eq_getElem?_getD,List.getElem?_set];by_cases e:o=i
 .subst e;simp[h]
 .rw[if_neg e,if_neg (Ne.symm e)]
structure Far(n r:Nat)(adj:Nat->Nat->Prop)(s k:Nat)(d:Nat->Prop)(far:Jf):Prop where
 len:far.length=n
 rt:gt far r=0
 rng:∀i<n,0<=gt far i/\(gt far i<=s+1\/gt far i=n)
 top:∀i<n,gt far i<=n
 up:∀i<n,∀j<n,gt far i<s->adj i j->gt far j<=gt far i+1
 upk:∀i<k,∀j<n,gt far i=s->adj i j->gt far j<=s+1
 upd:∀j<n,d j->gt far j<=s+1
 dn:∀i<n,i≠r->gt far i<n->1<=gt far i/\∃j<n,adj i j/\gt far j=gt far i-1
theorem Far.start(hr:r<n)(h:∀i<n,gt far i=if i=r then 0 else(n:Int))(hl:far.length=n):Far n r adj 0 0 (λ_=>False) far where
 len:=hl
 rt:=by rw[h r hr,if_pos rfl]
 rng:=λi hi=>by rw[h i hi];split<;>omega
 top:=λi hi=>by rw[h i hi];split<;>omega
 up:=λi hi j _ hv _=>by have:=h i hi;split at this<;>omega
 upk:=λi hi=>absurd hi (not_lt_zero _)
 upd:=λ_ _ z=>z.elim
 dn:=λi hi hn hv=>by rw[h i hi,if_neg hn]at hv;omega
theorem Far.skip(F:Far n r adj s k (λ_=>False) far)(hk:gt far k≠s):Far n r adj s (k+1) (λ_=>False) far where
 len:=F.len
 rt:=F.rt
 rng:=F.rng
 top:=F.top
 up:=F.up
 upk:=λi hi j hj e a=>by
  rcases Nat.lt_or_ge i k with h|h
  .exact F.upk i h j hj e a
  .have:i=k:=by omega
   subst this;exact absurd e hk
 upd:=F.upd
 dn:=F.dn
theorem Far.close(F:Far n r adj s k d far)(hd:∀j,j<n->adj k j->d j):Far n r adj s (k+1) (λ_=>False) far where
 len:=F.len
 rt:=F.rt
 rng:=F.rng
 top:=F.top
 up:=F.up
 upk:=λi hi j hj e a=>by
  rcases Nat.lt_or_ge i k with h|h
  .exact F.upk i h j hj e a
  .have:i=k:=by omega
   subst this;exact F.upd j hj (hd j hj a)
 upd:=λ_ _ z=>z.elim
 dn:=F.dn
theorem Far.none(F:Far n r adj s k (λ_=>False) far)(hd:∀j,¬d j):Far n r adj s k d far where
 len:=F.len
 rt:=F.rt
 rng:=F.rng
 top:=F.top
 up:=F.up
 upk:=F.upk
 upd:=λj _ z=>absurd z (hd j)
 dn:=F.dn
theorem Far.relax(F:Far n r adj s k d far)(hk:k<n)(ek:gt far k=s)(ho:o<n)(a:adj o k)(hs:s<n) :
  Far n r adj s k (λj=>d j\/j=o) (far.set o (min (gt far o) (s+1)))/\gt (far.set o (min (gt far o) (s+1))) k=s:=by
 have hol:o<far.length:=by rw[F.len];exact ho
 have g:=eJ (min (gt far o) ((s:Int)+1)) hol;by_cases hw:gt far o<=s+1
 .have e:∀i,gt (far.set o (min (gt far o) ((s:Int)+1))) i=gt far i:=λi=>by
   rw[g i];split
   .rename_i z;subst z;omega
   .rfl
  refine⟨⟨by rw[length_set];exact F.len,by rw[e];exact F.rt,λi hi=>by rw[e];exact F.rng i hi,λi hi=>by rw[e];exact F.top i hi,λi hi j hj=>by rw[e,e];exact F.up i hi j hj,λi hi j hj=>by rw[e,e];exact F.upk i hi j hj,λj hj z=>?_,λi hi hn=>?_⟩,by rw[e];exact ek⟩
  .rw[e];rcases z with z|z
   .exact F.upd j hj z
   .subst z;exact hw
  .rw[e];intro hv;obtain⟨h1,j,hj,aj,ej⟩:=F.dn i hi hn hv;exact⟨h1,j,hj,aj,by rw[e];exact ej⟩
 .have hn:gt far o=n:=by have:=(F.rng o ho).2;omega
  have hm:min (gt far o) ((s:Int)+1)=s+1:=by omega
  rw[hm]at g ⊢;have hlt:(s:Int)+1<n:=by omega
  have ko:k≠o:=λz=>by subst z;omega
  have ro:r≠o:=λz=>by subst z;have:=F.rt;omega
  have le:∀i,gt (far.set o ((s:Int)+1)) i<=gt far i:=λi=>by
   rw[g i];split
   .rename_i z;subst z;omega
   .exact Int.le_refl _
  have ne:∀i,i≠o->gt (far.set o ((s:Int)+1)) i=gt far i:=λi z=>by rw[g i,if_neg z]
  have eo:gt (far.set o ((s:Int)+1)) o=s+1:=by rw[g o,if_pos rfl]
  refine⟨⟨by rw[length_set];exact F.len,by rw[ne r ro];exact F.rt,λi hi=>?_,λi hi=>Int.le_trans (le i) (F.top i hi),λi hi j hj hv aj=>?_,λi hi j hj hv aj=>?_,λj hj z=>?_,λi hi hn' hv=>?_⟩,by rw[ne k ko];exact ek⟩
  .by_cases z:i=o
   .subst z;rw[eo];omega
   .rw[ne i z];exact F.rng i hi
  .have z:i≠o:=λz=>by subst z;rw[eo]at hv;omega
   rw[ne i z]at hv ⊢;exact Int.le_trans (le j) (F.up i hi j hj hv aj)
  .have z:i≠o:=λz=>by subst z;rw[eo]at hv;omega
   rw[ne i z]at hv;exact Int.le_trans (le j) (F.upk i hi j hj hv aj)
  .rcases z with z|z
   .exact Int.le_trans (le j) (F.upd j hj z)
   .subst z;rw[eo];exact Int.le_refl _
  .by_cases z:i=o
   .subst z;rw[eo];exact⟨by omega,k,hk,a,by rw[ne k ko];omega⟩
   .rw[ne i z]at hv ⊢;obtain⟨h1,j,hj,aj,ej⟩:=F.dn i hi hn' hv;refine⟨h1,j,hj,aj,?_⟩;rw[ne j λq=>by subst q;omega];exact ej
theorem Far.next(F:Far n r adj s n (λ_=>False) far):Far n r adj (s+1) 0 (λ_=>False) far where
 len:=F.len
 rt:=F.rt
 rng:=λi hi=>by have:=F.rng i hi;omega
 top:=F.top
 up:=λi hi j hj hv a=>by
  by_cases h:gt far i<s
  .exact F.up i hi j hj h a
  .have e:gt far i=s:=by omega
   have:=F.upk i hi j hj e a;omega
 upk:=λi hi=>absurd hi (not_lt_zero _)
 upd:=λ_ _ z=>z.elim
 dn:=F.dn
structure sN(n r:Nat)(adj:Nat->Nat->Prop)(far:Jf):Prop where
 len:far.length=n
 rt:gt far r=0
 rng:∀i<n,0<=gt far i/\gt far i<=n
 up:∀i<n,∀j<n,adj i j->gt far j<=gt far i+1
 dn:∀i<n,i≠r->gt far i<n->1<=gt far i/\∃j<n,adj i j/\gt far j=gt far i-1
theorem Far.dist(F:Far n r adj n 0 (λ_=>False) far):sN n r adj far where
 len:=F.len
 rt:=F.rt
 rng:=λi hi=>⟨(F.rng i hi).1,F.top i hi⟩
 up:=λi hi j hj a=>by
  by_cases h:gt far i<n
  .exact F.up i hi j hj h a
  .have:=F.top j hj;omega
 dn:=F.dn
theorem jL:∀{l l':Jf},l.Nodup->(∀x∈l,x∈l')->l.length<=l'.length
 | [],_,_,_=>zero_le _
 |x::l,l',nd,sub=>by obtain⟨h1,h2⟩:=nodup_cons.mp nd;have hx:=sub x mem_cons_self;have:=jL (l':=l'.erase x) h2 (by grind);rw[List.length_erase_of_mem hx]at this;have:=List.length_pos_of_mem hx;rw[length_cons];omega
theorem sN.below(D:sN n r adj far)(hr:r<n):∀(m:Nat),(∃i<n,gt far i=m)->m<n->∀v,v<=m->∃i<n,gt far i=v
 |0,h,_,v,hv=>by
  have:v=0:=by omega
  subst this;exact h
 |m+1,⟨i,hi,e⟩,hm,v,hv=>by
  rcases Nat.lt_or_ge v (m+1)with h|h
  .have hir:i≠r:=λz=>by subst z;have:=D.rt;omega
   obtain⟨_,j,hj,_,ej⟩:=D.dn i hi hir ();exact D.below hr m ⟨j,hj,by omega⟩ () v ()
  .have:v=m+1:=by omega
   subst this;exact⟨i,hi,e⟩
theorem dG(h:i<far.length):gt far i∈far:=by simp[gt,h]
theorem sN.all(D:sN n r adj far)(hr:r<n)(conn:∀S:Nat->Prop,S r->(∀i<n,∀j<n,adj i j->S i->S j)->∀i<n,S i):∀i<n,gt far i<n:=by
 refine conn (λi=>gt far i<n) (by show gt far r<n;rw[D.rt];omega) λi hi j hj a hv=>?_;show gt far j<n;rcases Int.lt_or_le (gt far j) n with h|h
 .exact h
 exfalso;have h1:=D.up i hi j hj a;have h2:=(D.rng j hj).2;have e:gt far i=((n-1:Nat):Int):=by omega
 have all:∀v:Nat,v<n+1->(v:Int)∈ far:=λv hv=>by
  rcases Nat.lt_or_ge v n with h|h
  .obtain⟨x,hx,ex⟩:=D.below hr (n-1) ⟨i,hi,e⟩ () v ();rw[<- ex];exact dG (by rw[D.len];exact hx)
  .have:(v:Int)=gt far j:=by omega
   rw[this];exact dG (by rw[D.len];exact hj)
 have:=jL (l:=(range (n+1)).map λk:Nat=>(k:Int)) (l':=far) (Pairwise.map _ (λa b h z=>h ()) nodup_range) (by grind);rw[length_map,length_range,D.len]at this;omega
end
end PR
namespace PR
open PySem PySem.Spec L2
def prL(ps:Jc):Jn:=ps.map prV
section
variable{ps qs:Jc}{x:Int×Int}{f:Fl}{g:Fl->Fl}{p:Fl->Bool}
@[simp] theorem HB:prL []=[]:=rfl
@[simp] theorem wq:prL (x::ps)=prV x::prL ps:=rfl
@[simp] theorem lf:(prL ps).length=ps.length:=by simp[prL]
@[simp] theorem As:prL ps++prL qs=prL (ps++qs):=by simp[prL]
@[simp] theorem Ar(k:Nat):(prL ps)[k]?=(ps[k]?).map prV:=by simp[prL]
@[simp] theorem Hz:PV.Jx g (prV x)=prV x:=rfl
@[simp] theorem HA:(prV x).has p=false:=rfl
@[simp] theorem GU:mapL g (prL ps)=prL ps:=by
 induction ps with
 |nil=>rfl
 |cons n ns ih=>simp[mapL,ih]
@[simp] theorem He:hasL p (prL ps)=false:=by
 induction ps with
 |nil=>rfl
 |cons n ns ih=>simp[hasL,ih]
@[simp] theorem rC:shp (prV x)=true:=rfl
@[simp] theorem pO:(prL ps).all shp=true:=by
 induction ps with
 |nil=>rfl
 |cons n ns ih=>simp only[wq,all_cons,rC,ih];rfl
theorem Et(x y:Int×Int):PyData.eqv (prV x).data (prV y).data=decide (x=y):=by obtain⟨a,b⟩:=x;obtain⟨c,d⟩:=y;simp only[prV,PV.data,dataL,PyData.eqv,PyData.eqvAll];by_cases h1:a=c<;>by_cases h2:b=d<;>simp[h1,h2]
theorem xK:inL (prV x) (prL ps)=ps.contains x:=by
 induction ps with
 |nil=>rfl
 |cons n ns ih=>
  have e:inL (prV x) (prL (n::ns))=(PyData.eqv (prV n).data (prV x).data||inL (prV x) (prL ns)):=rfl;rw[e,ih,List.contains_cons,Et];congr 1;by_cases h:n=x
  .subst h;simp
  .rw[decide_eq_false h];exact(beq_eq_false_iff_ne.mpr (Ne.symm h)).symm
@[simp] theorem IZ:pIn (prV x) (.lst f (prL ps))=.ok (.bl (ps.contains x)):=by unfold pIn;simp only[aW,rC,pO,Bool.and_self,if_true,xK]
@[simp] theorem GO:dF (prV x) (.lst f (prL ps))=.ok (.bl (!ps.contains x)):=by unfold dF;simp only[aW,rC,pO,Bool.and_self,if_true,xK]
@[simp] theorem HQ:aH (prV x) (.int 0)=.ok (.int x.1):=rfl
@[simp] theorem HP:aH (prV x) (.int 1)=.ok (.int x.2):=rfl
theorem n5(a b:Int):PV.tup [.int a,.int b]=prV (a,b):=rfl
@[simp] theorem Iz:dw gx (prV x)=.ok (.int (min x.1 x.2)):=rfl
@[simp] theorem IA:dw c_ (prV x)=.ok (.int (max x.1 x.2)):=rfl
@[simp] theorem rW:iz (prL ps)=some ps:=by
 induction ps with
 |nil=>rfl
 |cons n ns ih=>have:lK (prV n)=some n:=rfl;simp[iz,ih,this]
theorem uG(ns:Jf)(h:ns.length<64):fC (.lst f (iL ns))=.ok (.lst .own (iL (jw ns))):=by simp[fC,h,eH];rfl
theorem rp(h:ps.length<64)(hd:ps.Nodup):fC (.lst f (prL ps))=.ok (.lst .own (prL (dg ps))):=by
 cases ps with
 |nil=>rfl
 |cons n ns=>have e:bH (prL (n::ns))=none:=rfl;simp only[fC,e,rW,lf];rw[if_pos (decide_eq_true h),if_pos (decide_eq_true hd)];rfl
theorem jH{α:Type}{n:Nat}{y z:α}{l:List α}:z∈iy n y l↔z=y\/z∈l:=by
 unfold iy;rw[mem_append,mem_cons];constructor
 .rintro(h|h|h)
  .exact .inr (List.mem_of_mem_take h)
  .exact .inl h
  .exact .inr (List.mem_of_mem_drop h)
 .rintro(h|h)
  .exact .inr (.inl h)
  .rw[<- List.take_append_drop n l]at h;rcases mem_append.mp h with h|h
   .exact .inl h
   .exact .inr (.inr h)
theorem jG{α:Type}(n:Nat)(y:α)(l:List α):(iy n y l).Perm (y::l):=by unfold iy;refine List.perm_middle.trans ?_;rw[List.take_append_drop]
end
theorem d8{x:PV}{xs:Jn}{k:Nat}{y:PV}(hs:aW x=some xs)(h:xs[k]?=some y)(ho:y.has Fl.Jt=false):aH x (.int k)=.ok y:=by have hl:k<xs.length:=(List.getElem?_eq_some_iff.mp h).1;unfold aH;simp only[hs,atI];rw[jT hl];simp[h,ho]
def nbL(ps:Jc)(at_:Int):Jf:=jw ((ps.filter λx=>decide (x.2=at_)).map (·.1)++(ps.filter λx=>decide (x.1=at_)).map (·.2))
theorem oI{ps:Jc}{a o:Int}:o∈nbL ps a ↔(o,a)∈ ps \/(a,o)∈ ps:=by
 unfold nbL;rw[(fI _).mem_iff,mem_append];simp only[mem_map,mem_filter,decide_eq_true_eq];constructor
 .rintro(⟨⟨x,y⟩,⟨h1,h2⟩,h3⟩ |⟨⟨x,y⟩,⟨h1,h2⟩,h3⟩)
  .dsimp only at h2 h3;subst h2 h3;exact .inl h1
  .dsimp only at h2 h3;subst h2 h3;exact .inr h1
 .rintro(h|h)
  .exact .inl ⟨_,⟨h,rfl⟩,rfl⟩
  .exact .inr ⟨_,⟨h,rfl⟩,rfl⟩
def mm(w:Int×Int):Int×Int:=(min w.1 w.2,max w.1 w.2)
structure Fa(n:Nat)(ws:Jc):Prop where
 rg:∀w∈ws,0<=w.1/\w.1<n/\0<=w.2/\w.2<n/\w.1≠w.2
 nd:(ws.map mm).Nodup
 sz:ws.length<64
end PR
namespace PR
theorem BY{w u:Int×Int}(h:mm w=mm u):w=u\/w=(u.2,u.1):=by obtain⟨a,b⟩:=w;obtain⟨c,d⟩:=u;simp only[mm,Prod.mk.injEq]at h ⊢;omega
theorem t6{w u:Int×Int}(h:mm w=mm u):(w.1=u.1/\w.2=u.2)\/(w.1=u.2/\w.2=u.1):=by
 rcases BY h with rfl|rfl
 .exact .inl ⟨rfl,rfl⟩
 .exact .inr ⟨rfl,rfl⟩
structure Tree(n:Nat)(od:Jf)(k:Nat)(ws:Jc):Prop where
 rg:∀w∈ws,w.1∈od.take k/\w.2∈od.take k/\w.1≠w.2
 nd:(ws.map mm).Nodup
 ln:ws.length+1=k
 cn:∀S:Int->Prop,(∀w∈ws,(S w.1↔S w.2))->∀a∈od.take k,(S a↔S (od.getD 0 0))
theorem Tree.start{n:Nat}{od:Jf}(h:od.length=n)(hn:1<=n):Tree n od 1 [] where
 rg:=λw hw=>by cases hw
 nd:=.nil
 ln:=rfl
 cn:=λS _ a ha=>by
  cases od with
  |nil=>simp at h;omega
  |cons x l=>
   have:a=x:=by simpa using ha
   subst this;simp
theorem Tree.more{n:Nat}{od:Jf}{k j:Nat}{ws:Jc}{w:Int×Int}{p:Nat}(T:Tree n od k ws)(hod:od.Nodup)(hk:k<od.length)(hj:j<k)(hw:w=(od.getD k 0,od.getD j 0)\/ w=(od.getD j 0,od.getD k 0)):Tree n od (k+1) (iy p w ws):=by
 have hjl:j<od.length:=by omega
 have e1:od.getD k 0=od[k]:=by simp[hk]
 have e2:od.getD j 0=od[j]:=by simp[hjl]
 rw[e1,e2]at hw;have tk:od.take (k+1)=od.take k++[od[k]]:=by rw[take_add_one];simp[hk]
 have mj:od[j]∈ od.take k:=List.mem_take_iff_getElem.mpr ⟨j,by omega,rfl⟩;have nk:od[k]∉ od.take k:=λz=>by obtain⟨i,hi,e⟩:=List.mem_take_iff_getElem.mp z;have:=(getElem_inj hod).mp e;omega
 have ne:od[k]≠ od[j]:=λz=>nk (z▸mj);have mem:∀u∈iy p w ws,u=w\/u∈ws:=λu hu=>jH.mp hu;refine⟨λu hu=>?_,?_,?_,λS hS a ha=>?_⟩
 .rcases mem u hu with rfl|hu
  .grind
  .obtain⟨h1,h2,h3⟩:=T.rg u hu;rw[tk];exact⟨mem_append_left _ h1,mem_append_left _ h2,h3⟩
 .have:((iy p w ws).map mm).Perm (mm w::ws.map mm):=(jG p w ws).map mm;refine this.symm.nodup (nodup_cons.mpr ⟨λz=>?_,T.nd⟩);obtain⟨u,hu,e⟩:=mem_map.mp z;obtain⟨h1,h2,_⟩:=T.rg u hu;rcases hw with rfl|rfl
  .rcases t6 e with⟨q1,q2⟩ |⟨q1,q2⟩
   .exact nk (by rw[q1]at h1;exact h1)
   .exact nk (by rw[q2]at h2;exact h2)
  .rcases t6 e with⟨q1,q2⟩ |⟨q1,q2⟩
   .exact nk (by rw[q2]at h2;exact h2)
   .exact nk (by rw[q1]at h1;exact h1)
 .rw[(jG p w ws).length_eq,length_cons,T.ln]
 .have hw':=hS w (jH.mpr (.inl rfl));have cn:=T.cn S λu hu=>hS u (jH.mpr (.inr hu))
  grind
structure mR(n m:Nat)(ws:Jc):Prop where
 rg:∀w∈ws,0<=w.1/\w.1<n/\0<=w.2/\w.2<n/\w.1≠w.2
 nd:(ws.map mm).Nodup
 ln:ws.length<=m
 cn:∀S:Int->Prop,(∀w∈ws,(S w.1↔S w.2))->∀i j:Nat,i<n->j<n->S i->S j
theorem Tree.whole{n:Nat}{od:Jf}{ws:Jc}(T:Tree n od n ws)(hp:od.Perm ((range n).map λk:Nat=>(k:Int))):mR n n ws:=by
 have hl:od.length=n:=by simpa using hp.length_eq
 have ht:od.take n=od:=by rw[<- hl,take_length]
 have hm:∀a,a∈od↔∃k:Nat,k<n/\(k:Int)=a:=λa=>by rw[hp.mem_iff];simp
 refine⟨λw hw=>?_,T.nd,by have:=T.ln;omega,λS hS i j hi hj hs=>?_⟩
 .obtain⟨h1,h2,h3⟩:=T.rg w hw;rw[ht]at h1 h2;obtain⟨a,ha,ea⟩:=(hm _).mp h1;obtain⟨b,hb,eb⟩:=(hm _).mp h2;omega
 .have cn:=T.cn S hS;rw[ht]at cn;exact(cn j ((hm _).mpr ⟨j,hj,rfl⟩)).mpr ((cn i ((hm _).mpr ⟨i,hi,rfl⟩)).mp hs)
theorem mR.more{n m p:Nat}{ws:Jc}{a b:Int}(h:mR n m ws)(ha:0<=a/\a<n)(hb:0<=b/\b<n)(hne:a≠b)(h1:(a,b)∉ ws)(h2:(b,a)∉ ws):mR n (m+1) (iy p (a,b) ws):=by
 refine⟨λu hu=>?_,?_,?_,λS hS=>h.cn S λu hu=>hS u (jH.mpr (.inr hu))⟩
 .rcases jH.mp hu with rfl|hu
  .exact⟨ha.1,ha.2,hb.1,hb.2,hne⟩
  .exact h.rg u hu
 .have:((iy p (a,b) ws).map mm).Perm (mm (a,b)::ws.map mm):=(jG p (a,b) ws).map mm;refine this.symm.nodup (nodup_cons.mpr ⟨λz=>?_,h.nd⟩);obtain⟨u,hu,e⟩:=mem_map.mp z;rcases BY e with rfl|rfl
  .exact h1 hu
  .exact h2 hu
 .rw[(jG p (a,b) ws).length_eq,length_cons];have:=h.ln;omega
open PySem L2 in
def gd(o:Out)(Q:PV->Prop):Prop:=∃v,o=.ret v/\Q v
section
open PySem L2
variable{env e:En}{Q:PV->Prop}
theorem aS{a b:MS}(h1:a env=.next e)(h2:gd (b e) Q):gd (aq a b env) Q:=by obtain⟨v,h,q⟩:=h2;exact⟨v,ah h1 h,q⟩
theorem v_{c:MT}{a b aI:MS}(hc:c env=.ok true)(h:gd (a env) Q):gd (aq (mBr c a b) aI env) Q:=by obtain⟨v,h1,h2⟩:=h;exact⟨v,dN (g_ hc h1),h2⟩
theorem cV{o:Out}{v:PV}(h:o=.ret v)(q:Q v):gd o Q:=⟨v,h,q⟩
theorem lE{it:MI}{g:TgM}{body aI:MS}{xs:Jn}(P:Nat->En->Prop)(h:it env=.ok xs)(h0:P 0 env)
  (step:∀(k:Nat) (x:PV) (e:En),xs[k]?=some x->P k e->∃e1,g x e=some e1/\kM (body e1) (P (k+1))) (fin:∀e,P xs.length e->gd (aI e) Q):gd (aq (cF it g body) aI env) Q:=by
 obtain⟨e2,h1,h2⟩:=iY P h h0 λk x e h1 h2=>by obtain⟨e1,h3,e2,h4,h5⟩:=step k x e h1 h2;exact⟨e1,e2,h3,h4,h5⟩
 exact aS h1 (fin e2 h2)
end
end PR
namespace PR
open PySem L2
section
variable{env:En}
theorem gI(ho:env[0]?=some (some (.obj .own c ks vs)))(ha:ms env=.ok xs)(hl:hasL Fl.Ju xs=false)
  (hm:m (.obj .own c ks vs::mapL Fl.Jq xs)=.ok (.obj fl c' ks' vs')) (hb:(PV.obj fl c' ks' vs').has Fl.Jv=false):ie m ms env=.next (env.set 0 (some (.obj fl c' ks' vs'))):=by
 unfold ie;rw[ho];dsimp only;rw[ha];dsimp only;rw[hl,if_neg (by decide),hm];dsimp only;rw[hb,if_neg (by decide)]
end
theorem kA(h:c env=.ok true)(h2:kM (a env) Q):kM (mBr c a b env) Q:=by rw[B8 h];exact h2
theorem kB(h:c env=.ok false)(h2:kM (b env) Q):kM (mBr c a b env) Q:=by rw[B8 h];exact h2
section
variable{env:En}{g:TgM}{me:ME}
theorem g8(f:Int->Int)(row:Jf)(h:∀x∈row,∃e1,g (.int x) env=some e1/\me e1=.ok (.int (f x))):d_ g bp me env (iL row)=.ok (iL (row.map f)):=by rw[show iL (row.map f)=row.map λx=>PV.int (f x) by simp[iL]];exact aY (a:=PV.int) (f:=λx=>.int (f x)) row λx hx=>let⟨e1,h1,h2⟩:=h x hx;⟨e1,h1,h2,rfl,rfl⟩
theorem kI(lo:Int)(f:Nat->Int)(n:Nat)(h:∀k<n,∃e1,g (.int (lo+(k:Int))) env=some e1/\me e1=.ok (.int (f k))):d_ g bp me env (dv lo n)=.ok (iL ((range n).map f)):=by rw[show iL ((range n).map f)=(range n).map λk=>PV.int (f k) by simp[iL]];exact aY (a:=λk:Nat=>PV.int (lo+(k:Int))) (f:=λk=>.int (f k)) (range n) λk hk=>let⟨e1,h1,h2⟩:=h k (mem_range.mp hk);⟨e1,h1,h2,rfl,rfl⟩
theorem jk(p:Nat->Bool)(f:Nat->Int)(n:Nat)(h:∀k<n,∃e1,g (.int (0+(k:Int))) env=some e1/\mc e1=.ok (p k)/\(p k=true->me e1=.ok (.int (f k)))):d_ g mc me env (dv 0 n)=.ok (iL (((range n).filter p).map f)):=by rw[show iL (((range n).filter p).map f)=((range n).filter p).map λk=>PV.int (f k) by simp[iL]];exact b6 (a:=λk:Nat=>PV.int (0+(k:Int))) (f:=λk=>.int (f k)) (p:=p) (range n) λk hk=>let⟨e1,h1,h2,h3⟩:=h k (mem_range.mp hk);⟨e1,h1,h2,λz=>⟨h3 z,rfl,rfl⟩⟩
end
theorem cX(h0:0<=i)(h:i<cs.length):aH (.lst f (iL cs)) (.int i)=.ok (.int (gt cs i.toNat)):=by
 have:i.toNat<cs.length:=by omega
 exact jV _ h0 (by simp[gt,this])
theorem qK(xs:Jn)(k:Nat)(h:k<=xs.length):ig xs (some (k:Int)) none=xs.drop k:=by unfold ig;rw[HT.sIx_nat,HT.sIx_none];rw[Nat.min_eq_left h,List.take_of_length_le (by simp)]
theorem Cq(h0:0<=j)(h1:j<=1000000)(h2:i.natAbs<2 ^ 64):wD (.int i) (.int j)=.ok (.int (i*2 ^ j.toNat)):=by unfold wD f6;dsimp only;rw[if_pos (by simp only[decide_eq_true_eq];exact⟨h0,h1,h2⟩)]
theorem iP(p:Int->Bool)(f:Int->Int)(row:Jf)(h:∀x∈row,∃e1,g (.int x) env=some e1/\mc e1=.ok (p x)/\(p x=true->me e1=.ok (.int (f x)))):d_ g mc me env (iL row)=.ok (iL ((row.filter p).map f)):=by rw[show iL ((row.filter p).map f)=(row.filter p).map λx=>PV.int (f x) by simp[iL]];exact b6 (a:=PV.int) (f:=λx=>.int (f x)) (p:=p) row λx hx=>let⟨e1,h1,h2,h3⟩:=h x hx;⟨e1,h1,h2,λz=>⟨h3 z,rfl,rfl⟩⟩
theorem n0{Fin:En->Prop}(P:Nat->En->Prop)(step:∀m e,P m e->(c e=.ok false/\Fin e)\/(c e=.ok true/\∃m' e',m'<m/\(b e=.next e'\/b e=.cont e')/\P m' e')) :
  ∀(k m:Nat) (env:En),m<k->P m env->∃e',whL c b k env=.next e'/\Fin e'
 |0,m,_,h,_=>absurd h (not_lt_zero m)
 |k+1,m,env,h,hP=>by
  unfold whL;rcases step m env hP with⟨h1,h2⟩ |⟨h1,m',e',h2,h3,h4⟩
  .rw[h1];exact⟨env,rfl,h2⟩
  .obtain⟨e2,h5,h6⟩:=n0 P step k m' e' () h4;rw[h1];rcases h3 with h3|h3<;>rw[h3]<;>exact⟨e2,h5,h6⟩
section
variable{env:En}{r:Out}
theorem uH{c:MT}{b aI:MS}{Fin:En->Prop}(P:Nat->En->Prop)(m:Nat)(hm:m<100000)(h0:P m env)(step:∀m e,P m e->(c e=.ok false/\Fin e)\/(c e=.ok true/\∃m' e',m'<m/\(b e=.next e'\/b e=.cont e')/\P m' e'))(fin:∀e,Fin e->aI e=r):aq (gT c b) aI env=r:=by obtain⟨e',h1,h2⟩:=n0 P step 100000 m env hm h0;exact ah h1 (fin e' h2)
theorem gK{Q:PV->Prop}{c:MT}{b aI:MS}{Fin:En->Prop}(P:Nat->En->Prop)(m:Nat)(hm:m<100000)(h0:P m env)(step:∀m e,P m e->(c e=.ok false/\Fin e)\/(c e=.ok true/\∃m' e',m'<m/\(b e=.next e'\/b e=.cont e')/\P m' e'))(fin:∀e,Fin e->gd (aI e) Q):gd (aq (gT c b) aI env) Q:=by obtain⟨e',h1,h2⟩:=n0 P step 100000 m env hm h0;exact aS h1 (fin e' h2)
end
theorem nT(cs:Jf)(k:Nat)(h:k<=cs.length):ig (iL cs) (some (k:Int)) none=iL (cs.drop k):=by rw[qK _ k (by rw[bG];exact h),ku]
theorem dy:v∈cs.drop k↔∃i,k<=i/\i<cs.length/\gt cs i=v:=by
 constructor
 .intro h;obtain⟨i,hi,e⟩:=getElem_of_mem h;rw[List.length_drop]at hi;rw[List.getElem_drop]at e;exact⟨k+i,by omega,by omega,by rw[<- e];simp[gt,show k+i<cs.length by omega]⟩
 .rintro⟨i,h1,h2,e⟩;rw[List.mem_iff_getElem];refine⟨i-k,by rw[List.length_drop];omega,?_⟩;rw[List.getElem_drop,<- e];simp[gt,h2,show k+(i-k)=i by omega]
theorem k8(hl:l.length<=1000)(hb:∀x∈l,-1000000<=x/\x<=1000000):jI (.lst f (iL l))=.ok (.int l.sum):=by
 have:d4 l=true:=by simp only[d4,all_eq_true,decide_eq_true_eq];exact hb
 simp[jI,aW,hl,this]
end PR
namespace PR
theorem s0_{α:Type}{a b:α}{l:List α}:(a::l).set 0 b=b::l:=rfl
theorem s1_{α:Type}{a b:α}{l:List α}{n:Nat}:(a::l).set (n+1) b=a::l.set n b:=rfl
end PR
namespace G
open PySem L2 PR
section
def zi:MS:=
 (aq (mBr (ax (mOp pLt (ac 1) (ap (p1 cz) (ae (ac 0) am))))
  (bt (mOp aH (ac 0) (ac 1)))
  aU)
 (bt (JA 0)))
def dE:=bf 2 zi
def iR:MS:=
 (aq (gz 0 0 (ac 1))
 (aq (gz 0 7 (ac 2))
 (gz 0 8 (ac 3))))
def gB:=i4 4 iR
def EI:MS:=
 (aq (mBr ((gy (ax (mOp pLt (ac 1) (JA 2))) (ax (mOp pGt (ac 1) (JA 20)))))
  (bA 2 (ae (mC (.str "the number of machines is out of bounds")) am))
  aU)
 (aq (mBr (ax (mOp pLt (ac 2) (ac 1)))
  (bA 2 (ae (mC (.str "the span is less than the size")) am))
  aU)
 (ie gB (ae (ac 1) (ae (ac 2) (ae (mC (.bl false)) am))))))
def Bf:=i4 3 EI
def zj:MS:=
 (mBr ((gy (ax (mOp pLt (ac 0) (ac 1))) (ax (mOp pGt (ac 0) (JA 10)))))
  (bA 1 (ae (mC (.str "the number of machines is out of bounds")) am))
  aU)
def yk:=bf 2 zj
def zI:MS:=
 (aq (aN 2 (fE am))
 (aq (cF (eY (ac 1)) (tgN 3)
  (aq (aN 4 (eX (ae (ap (p1 (dw gx)) (ae (ac 3) am)) (ae (ap (p1 (dw c_)) (ae (ac 3) am)) am))))
 (aq (mBr ((gy (ax (mOp pLt (mOp aH (ac 4) (JA 0)) (JA 0))) (ax (mOp pGe (mOp aH (ac 4) (JA 1)) (ac 0)))))
  (bA 1 (ae (mC (.str "a way has a number that is no machine")) am))
  aU)
 (aq (mBr (ax (mOp pEq (mOp aH (ac 4) (JA 0)) (mOp aH (ac 4) (JA 1))))
  (bA 1 (ae (mC (.str "a way has twice the same machine")) am))
  aU)
 (aq (mBr (ax (mOp pIn (ac 4) (ac 2)))
  (bA 1 (ae (mC (.str "a way is told twice")) am))
  aU)
 (dP 2 (ac 4)))))))
 (bt (ap (p1 fC) (ae (ac 2) am)))))
def yA:=bf 5 zI
def zg:MS:=
 (aq (aN 2 (aM [1] 1 (bu (ac 0)) (tgN 1) (ax (mOp pEq (mOp aH (ac 1) (JA 1)) (ac 0))) (mOp aH (ac 1) (JA 0))))
 (aq (aN 3 (aM [1] 1 (bu (ac 0)) (tgN 1) (ax (mOp pEq (mOp aH (ac 1) (JA 0)) (ac 0))) (mOp aH (ac 1) (JA 1))))
 (bt (ap (p1 fC) (ae (mOp aL (ac 2) (ac 3)) am)))))
def uh:=bf 4 zg
def qW:MS:=
 (bt (ap (p1 kO) (ae (mOp aH (mUn (ao 2) (ac 0)) (ac 1)) am)))
def ui:=bf 2 qW
def bT:Nat->Option (Jn->Jo)
 |8=>some ui
 |_=>none
def yZ:MS:=
 (aq (aN 2 (aM [0] 1 (bY (ae (mUn (ao 0) (ac 0)) am)) (tgN 1) bp (mUn (ao 0) (ac 0))))
 (aq (f9 2 (ac 1) (JA 0))
 (aq (cF (bY (ae (mUn (ao 0) (ac 0)) am)) (tgN 3)
  (cF (bY (ae (mUn (ao 0) (ac 0)) am)) (tgN 4)
  (mBr (ax (mOp pEq (mOp aH (ac 2) (ac 4)) (ac 3)))
  (cF (eY (bU bT (ac 0) (ae (ac 4) am))) (tgN 5)
  (f9 2 (ac 5) (ap (gN min) (ae (mOp aH (ac 2) (ac 5)) (ae (mOp aL (ac 3) (JA 1)) am)))))
  aU)))
 (d6 2))))
def uf:=bf 6 yZ
def yY:MS:=
 (aq (fO (ap (aB yk) (ae (ac 1) (ae (JA 1) am))))
 (aq (gz 0 0 (ac 1))
 (aq (gz 0 1 (ap (p1 eG) (ae (ap (aB yA) (ae (ac 1) (ae (ac 2) am))) am)))
 (aq (gz 0 2 (ap (p1 eG) (ae (aM [0] 1 (bY (ae (ac 1) am)) (tgN 1) bp (ap (p1 eG) (ae (ap (aB uh) (ae (mUn (ao 1) (ac 0)) (ae (ac 1) am))) am))) am)))
 (mBr (ax (mOp pEq (ap (p1 (dw c_)) (ae (ap (aB uf) (ae (ac 0) (ae (JA 0) am))) am)) (ac 1)))
  (bA 1 (ae (mC (.str "not every machine can be come to from machine 0")) am))
  aU)))))
def ya:=i4 3 yY
def yX:MS:=
 (aq (aN 2 (fE am))
 (aq (cF (kQ (ae (JA 1) (ae (ac 1) am))) (tgN 3)
  (dP 2 (eX (ae (ac 3) (ae (mOp cI (ap (aB dE) (ae (ac 0) (ae (mOp aL (JA 1) (ac 3)) am))) (ac 3)) am)))))
 (aq (cF (eY (gU (ac 0) (jP (JA 2)) fW)) (tgN 4)
  (aq (aN 5 (mOp cI (mOp dB (ac 4) (JA 2)) (ac 1)))
 (aq (aN 6 (mOp cI (mOp dB (ac 4) (mOp cy (JA 2) (ac 1))) (ac 1)))
 (mBr ((eA (ax (mOp pEq (mOp cI (ac 4) (JA 2)) (JA 1))) (eA (ax (mOp pNe (ac 5) (ac 6))) (eA (ax (mOp dF (eX (ae (ac 5) (ae (ac 6) am))) (ac 2))) (ax (mOp dF (eX (ae (ac 6) (ae (ac 5) am))) (ac 2)))))))
  (dP 2 (eX (ae (ac 5) (ae (ac 6) am))))
  aU))))
 (bt (je 8 ya (ae (ac 1) (ae (ac 2) am)))))))
def jX:=bf 7 yX
def qX:MS:=
 (ie gB (ae (ac 1) (ae (ac 2) (ae (mC (.bl false)) am))))
def mw:=i4 3 qX
def EN:MS:=
 (aq (gW 1) (aq (gz 0 4 (ac 1))
 (ie mw (ae (mUn (ao 0) (ac 1)) (ae (mUn (ao 0) (ac 1)) am)))))
def Bg:=i4 2 EN
def EO:MS:=
 (aq (mBr (ax (mOp pGt (ap (p1 cz) (ae (ac 0) am)) (JA 9)))
  (bA 2 (ae (mC (.str "there are more than nine parents")) am))
  aU)
 (cF (vb (ac 0)) (tgT 2 (aZ (tgN 1) (aZ (tgN 2) dJ)))
  (mBr ((gy (ax (mOp pLt (ac 2) (JA 0))) (ax (mOp pGe (ac 2) (ac 1)))))
  (bA 2 (ae (mC (.str "a parent is no machine of a lower number than its kid")) am))
  aU)))
def Ee:=bf 3 EO
def EM:MS:=
 (aq (fO (ap (aB Ee) (ae (ac 1) am)))
 (aq (gz 0 11 (ap (p1 eG) (ae (ac 1) am)))
 (ie mw (ae (mOp aL (ap (p1 cz) (ae (ac 1) am)) (JA 1)) (ae (mOp aL (ap (p1 cz) (ae (ac 1) am)) (JA 2)) am)))))
def Ed:=i4 2 EM
def zq:MS:=
 (mBr ((gy (ax (mOp pLt (ac 0) (JA 1))) (ax (mOp pGt (ac 0) (JA 10)))))
  (bA 2 (ae (mC (.str "the stretch or the number of blocks is out of bounds")) am))
  aU)
def uk:=bf 1 zq
def zH:MS:=
 (aq (mBr (ax (mOp pNe (ap (p1 cz) (ae (ac 1) am)) (mUn (ao 0) (ac 0))))
  (bA 2 (ae (mC (.str "there are not as many starts as machines")) am))
  aU)
 (cF (eY (ac 1)) (tgN 3)
  (mBr ((eA (ax (mOp i6 (ac 3) (mC .non))) ((gy (ax (mOp pLt (ac 3) (JA 0))) (ax (mOp pGe (ac 3) (ac 2)))))))
  (bA 2 (ae (mC (.str "a start is out of bounds")) am))
  aU)))
def yz:=bf 4 zH
def EQ:MS:=
 (aq (fO (ap (aB uk) (ae (ac 3) am)))
 (aq (fO (ap (aB uk) (ae (ac 4) am)))
 (aq (gz 0 3 (mOp cy (ac 3) (ac 4)))
 (aq (fO (ap (aB yz) (ae (ac 1) (ae (ac 2) (ae (mUn (ao 3) (ac 0)) am)))))
 (aq (gW 1) (aq (gz 0 4 (ac 1))
 (aq (gz 0 5 (ap (p1 eG) (ae (ac 2) am)))
 (aq (gz 0 6 (ac 3))
 (ie gB (ae (mUn (ao 0) (ac 1)) (ae (mOp aL (mUn (ao 3) (ac 0)) (JA 1)) (ae (mC (.bl true)) am))))))))))))
def sE:=i4 5 EQ
def zv:MS:=
 (aq (mBr ((gy (ax (mOp pLt (ac 2) (JA 0))) (ax (mOp pGe (ac 2) (mUn (ao 0) (ac 1))))))
  (bA 2 (ae (mC (.str "the root is no machine")) am))
  aU)
 (aq (aN 3 (aM [2] 1 (bY (ae (mUn (ao 0) (ac 1)) am)) (tgN 1) bp (oK (ax (mOp pEq (ac 1) (ac 0))) (JA 0) (mC .non))))
 (aq (gW 3) (aq (gW 1) (ie sE (ae (ac 1) (ae (ac 3) (ae (mUn (ao 0) (ac 1)) (ae (JA 1) am)))))))))
def ul:=i4 4 zv
def EJ:MS:=
 (aq (gW 1) (aq (gz 0 9 (je 5 ul (ae (ac 1) (ae (ac 2) am))))
 (aq (gz 0 4 (ac 1))
 (aq (gz 0 10 (ac 2))
 (ie gB (ae (mUn (ao 0) (ac 1)) (ae (mOp cy (mOp aL (mUn (ao 0) (ac 1)) (JA 1)) (mOp aL (mUn (ao 0) (ac 1)) (JA 1))) (ae (mC (.bl true)) am))))))))
def D_:=i4 3 EJ
def zu:MS:=
 (aq (mBr (ax (mOp pNe (ap (p1 cz) (ae (ac 1) am)) (mUn (ao 0) (ac 0))))
  (bA 2 (ae (mC (.str "there are not as many names as machines")) am))
  aU)
 (aq (mBr (ax (mOp pNe (mUn iU (ac 1)) (ap (p1 cz) (ae (ac 1) am))))
  (bA 2 (ae (mC (.str "two machines have the same name")) am))
  aU)
 (cF (eY (ac 1)) (tgN 2)
  (mBr ((gy (ax (mOp pLt (ac 2) (JA 0))) (ax (mOp pGt (ac 2) (JA 9)))))
  (bA 2 (ae (mC (.str "a name is out of bounds")) am))
  aU))))
def yp:=bf 3 zu
def zA:MS:=
 (aq (gW 1) (aq (fO (ap (aB yp) (ae (ac 1) (ae (ac 2) am))))
 (aq (aN 3 (aM [1] 1 (bu (ac 2)) (tgN 1) bp (mOp cy (mOp fB (JA 9) (ac 1)) (mUn (ao 0) (ac 0)))))
 (aq (gW 3) (ie sE (ae (ac 1) (ae (ac 3) (ae (mUn (ao 0) (ac 1)) (ae (JA 10) am)))))))))
def um:=i4 4 zA
def zd:MS:=
 (aq (mBr (ax (mOp pEq (ac 1) (JA 3)))
  (aq (aN 3 (mOp aL (JA 1) (mOp cI (ac 2) (JA 3))))
 (bt (eX (ae (je 5 ul (ae (ap (aB jX) (ae (ac 0) (ae (ac 3) am))) (ae (mOp cI (mOp dB (ac 2) (JA 3)) (ac 3)) am))) (ae (ac 3) (ae (mOp aL (ac 3) (JA 1)) am))))))
  aU)
 (aq (mBr (ax (mOp pEq (ac 1) (JA 4)))
  (aq (aN 3 (mOp aL (JA 1) (mOp cI (ac 2) (JA 3))))
 (aq (aN 4 (mOp aH (fE (ae (JA 10) (ae (JA 8) (ae (JA 3) am)))) (mOp fB (ac 3) (JA 1))))
 (aq (aN 5 (mOp aL (JA 1) (mOp cI (mOp dB (ac 2) (JA 3)) (ac 4))))
 (aq (aN 6 (mOp aL (JA 1) (mOp cI (mOp dB (ac 2) (JA 30)) (mOp dB (ac 4) (ac 5)))))
 (aq (aN 7 (fE am))
 (aq (cF (bY (ae (ac 3) am)) (tgN 8)
  (aq (aN 9 (mOp dB (ap (aB dE) (ae (ac 0) (ae (mOp aL (JA 2) (ac 8)) am))) (JA 7)))
 (aq (dP 7 (mOp cI (mOp dB (ac 9) (JA 2)) (mOp cy (ac 5) (ac 6))))
 (mBr (ax (mOp pEq (mOp cI (ac 9) (JA 2)) (JA 1)))
  (f9 7 (ac 8) (mC .non))
  aU))))
 (bt (eX (ae (je 4 sE (ae (ap (aB jX) (ae (ac 0) (ae (ac 3) am))) (ae (ac 7) (ae (ac 5) (ae (ac 6) am))))) (ae (ac 3) (ae (mOp aL (mOp cy (ac 5) (ac 6)) (JA 1)) am)))))))))))
  aU)
 (aq (mBr (ax (mOp pEq (ac 1) (JA 5)))
  (aq (aN 3 (mOp aL (JA 1) (mOp cI (ac 2) (JA 2))))
 (bt (eX (ae (je 7 D_ (ae (ap (aB jX) (ae (ac 0) (ae (ac 3) am))) (ae (mOp cI (mOp dB (ac 2) (JA 2)) (ac 3)) am))) (ae (ac 3) (ae (mOp cy (mOp aL (ac 3) (JA 1)) (mOp aL (ac 3) (JA 1))) am))))))
  aU)
 (bt (eX (ae (je 6 um (ae (ap (aB jX) (ae (ac 0) (ae (JA 1) am))) (ae (fE (ae (mOp cI (ac 2) (JA 10)) am)) am))) (ae (JA 1) (ae (JA 11) am))))))))
def yg:=bf 10 zd
def y8:MS:=
 (aq (aN 1 (ap (aB dE) (ae (ac 0) (ae (JA 1) am))))
 (aq (aN 2 (mOp cI (ap (aB dE) (ae (ac 0) (ae (JA 0) am))) (JA 7)))
 (aq (aN 3 (mOp pEq (mOp cI (mOp dB (ap (aB dE) (ae (ac 0) (ae (JA 0) am))) (JA 14)) (JA 8)) (JA 3)))
 (aq (mBr (ax (mOp pEq (ac 2) (JA 0)))
  (aq (aN 4 (mOp aL (JA 2) (mOp cI (ac 1) (JA 2))))
 (aq (aN 5 (mOp aL (ac 4) (mOp cI (mOp dB (ac 1) (JA 2)) (mOp aH (fE (ae (JA 8) (ae (JA 2) am))) (mOp fB (ac 4) (JA 2))))))
 (aq (mBr (bX (ac 3))
  (aq (aN 4 (JA 4))
 (aN 5 (JA 4)))
  aU)
 (bt (eX (ae (je 9 Bf (ae (ac 4) (ae (ac 5) am))) (ae (ac 4) (ae (ac 5) am))))))))
  aU)
 (aq (mBr (ax (mOp pEq (ac 2) (JA 1)))
  (aq (aN 4 (mOp aL (JA 1) (mOp cI (ac 1) (JA 3))))
 (aq (mBr (bX (ac 3))
  (aN 4 (JA 4))
  aU)
 (bt (eX (ae (je 2 Bg (ae (ap (aB jX) (ae (ac 0) (ae (ac 4) am))) am)) (ae (ac 4) (ae (ac 4) am)))))))
  aU)
 (aq (mBr (ax (mOp pEq (ac 2) (JA 2)))
  (aq (aN 4 (mOp aL (JA 1) (mOp cI (ac 1) (JA 3))))
 (bt (eX (ae (je 3 Ed (ae (aM [0] 1 (bY (ae (mOp fB (ac 4) (JA 1)) am)) (tgN 1) bp (mOp cI (ap (aB dE) (ae (ac 0) (ae (mOp aL (JA 2) (ac 1)) am))) (mOp aL (ac 1) (JA 1)))) am)) (ae (ac 4) (ae (mOp aL (ac 4) (JA 1)) am))))))
  aU)
 (bt (ap (aB yg) (ae (ac 0) (ae (ac 2) (ae (ac 1) am)))))))))))
def yd:=bf 6 y8
def zl:MS:=
 (mBr ((eA (bX (ac 1)) (bX (mUn (ao 8) (ac 0)))))
  (bA 4 (ae (mC (.str "a rule that is alone gets one machine at a turn")) am))
  aU)
def qA:=bf 2 zl
def zf:MS:=
 (aq (aN 1 (JA 1))
 (aq (cF (bY (ae (mUn (ao 0) (ac 0)) am)) (tgN 2)
  (aq (aN 1 (mOp cy (ac 1) (mUn (ao 7) (ac 0))))
 (mBr (ax (mOp pGt (ac 1) (JA 256)))
  (xy)
  aU)))
 (d6 1)))
def qy:=bf 3 zf
def zt:MS:=
 (aq (mBr (ax (mOp pGt (ap (aB qy) (ae (ac 0) am)) (JA 256)))
  (bA 5 (ae (mC (.str "the rule has too many states")) am))
  aU)
 (mBr ((eA (bX (ac 1)) (ax (mOp pGt (mUn (ao 0) (ac 0)) (JA 4)))))
  (bA 5 (ae (mC (.str "the rule has too many machines for many at once")) am))
  aU))
def yo:=bf 2 zt
def y7:MS:=
 (aq (aN 2 (fE am))
 (aq (aN 3 (ac 1))
 (aq (cF (bY (ae (mUn (ao 0) (ac 0)) am)) (tgN 4)
  (aq (dP 2 (mOp cI (ac 3) (mUn (ao 7) (ac 0))))
 (aN 3 (mOp dB (ac 3) (mUn (ao 7) (ac 0))))))
 (bt (mUn gq (ac 2))))))
def mt:=bf 5 y7
def Hs:MS:=
 (bt (mOp aH (ac 1) (ac 2)))
def yc:=bf 3 Hs
def IM:MS:=
 (bt (fE am))
def Hm:=bf 2 IM
def E1:MS:=
 (bt (aM [1] 1 (bu (bU bT (mUn (ao 4) (ac 0)) (ae (ac 1) am))) (tgN 1) (ax (mOp pLt (ac 1) (ac 0))) (ac 1)))
def El:=bf 2 E1
def E3:MS:=
 (bt (aM [1] 2 (A0 (mUn (ao 11) (ac 0))) (tgT 2 (aZ (tgN 1) (aZ (tgN 2) dJ))) (ax (mOp pEq (ac 2) (ac 0))) (ac 1)))
def Eo:=bf 2 E3
def bQ:Nat->Option (Jn->Jo)
 |1=>some Hm
 |2=>some El
 |3=>some Eo
 |_=>none
def zB:MS:=
 (aq (aN 3 (aM [1] 1 (bu (bU bQ (ac 0) (ae (ac 2) am))) (tgN 1) bp (mOp aH (ac 0) (ac 1))))
 (aq (aN 4 (JA 0))
 (aq (gT (ax (mOp pIn (ac 4) (ac 3)))
  (aN 4 (mOp aL (ac 4) (JA 1))))
 (d6 4))))
def yv:=bf 5 zB
def zy:MS:=
 (bt (ap (gN min) (ae (mUn (ao 0) (ac 0)) (ae (mOp aL (JA 1) (ap (p1 jI) (ae (aM [1] 1 (bu (bU bQ (ac 0) (ae (ac 2) am))) (tgN 1) bp (mOp aH (ac 0) (ac 1))) am))) am))))
def yt:=bf 3 zy
def E4:MS:=
 (bt ((i8 (mOp pNe (ac 1) (mUn (ao 3) (ac 0))) (mOp pNe (mOp cI (mOp aL (ac 1) (JA 1)) (mUn (ao 6) (ac 0))) (JA 0)))))
def vp:=bf 2 E4
def dH:Nat->Option (Jn->Jo)
 |4|5|6=>some vp
 |_=>none
def zJ:MS:=
 (aq (aN 3 (aM [1] 1 (bu (bU bT (mUn (ao 4) (ac 0)) (ae (ac 2) am))) (tgN 1) bp (mOp aH (ac 0) (ac 1))))
 (aq (aN 4 (aM [0] 1 (bu (ac 3)) (tgN 1) (bX (bU dH (ac 0) (ae (ac 1) am))) (mOp aL (ac 1) (JA 1))))
 (aq (mBr (ax (mOp i6 (mOp aH (mUn (ao 5) (ac 0)) (ac 2)) (mC .non)))
  (dP 4 (mOp aH (mUn (ao 5) (ac 0)) (ac 2)))
  aU)
 (bt (ap (p1 (dw gx)) (ae (mOp aL (ac 4) (fE (ae (mUn (ao 3) (ac 0)) am))) am))))))
def nR:=bf 5 zJ
def EK:MS:=
 (bt (aM [0] 1 (bu (ac 1)) (tgN 1) bp (eX (ae (mOp dB (ac 1) (mOp aL (mUn (ao 0) (ac 0)) (JA 1))) (ae (mOp cI (ac 1) (mOp aL (mUn (ao 0) (ac 0)) (JA 1))) am)))))
def Ea:=bf 2 EK
def e_:Nat->Option (Jn->Jo)
 |7=>some Ea
 |_=>none
def zF:MS:=
 (bt (aM [] 1 (bu (bU e_ (ac 0) (ae (ac 1) am))) (tgN 0) bp (mOp aH (ac 0) (JA 0))))
def yw:=bf 2 zF
def dS:Nat->Option (Jn->Jo)
 |7=>some yw
 |_=>none
def kG:Nat->Option (Jn->Jo)
 |5=>some nR
 |_=>none
def EW:MS:=
 (bt (aM [] 1 (bu (bU e_ (ac 0) (ae (ac 1) am))) (tgN 0) bp (mOp aH (ac 0) (JA 1))))
def Ej:=bf 2 EW
def cN:Nat->Option (Jn->Jo)
 |7=>some Ej
 |_=>none
def ET:MS:=
 (aq (mBr (ax (mOp pEq (ac 2) (mUn (ao 10) (ac 0))))
  (bt (mC .non))
  aU)
 (aq (aN 3 (aM [1,2] 1 (bu (bU bT (mUn (ao 4) (ac 0)) (ae (ac 2) am))) (tgN 2) (ax (mOp pEq (mOp aH (ac 0) (ac 2)) (mOp fB (mOp aH (ac 0) (ac 1)) (JA 1)))) (ac 2)))
 (bt (mUn nK (ac 3)))))
def Eg:=bf 4 ET
def iO:Nat->Option (Jn->Jo)
 |7=>some Eg
 |_=>none
def EV:MS:=
 (aq (aN 2 (bU dS (ac 0) (ae (ac 1) am)))
 (bt (aM [0,2] 1 (bY (ae (mUn (ao 0) (ac 0)) am)) (tgN 2) bp (bU iO (ac 0) (ae (ac 1) (ae (ac 2) am))))))
def Ei:=bf 3 EV
def g7:Nat->Option (Jn->Jo)
 |7=>some Ei
 |_=>none
def E2:MS:=
 (aq (aN 3 (aM [2] 2 (jO (ae (bU cN (ac 0) (ae (ac 1) am)) (ae (bU g7 (ac 0) (ae (ac 1) am)) am))) (tgT 2 (aZ (tgN 1) (aZ (tgN 2) dJ))) (ax (mOp pEq (ac 2) (ac 0))) (ac 1)))
 (bt (ap (gN min) (ae (mUn (ao 0) (ac 0)) (ae (mOp aL (JA 1) (ap (p1 jI) (ae (ac 3) am))) am)))))
def Em:=bf 4 E2
def cT:Nat->Option (Jn->Jo)
 |7=>some Em
 |_=>none
def zx:MS:=
 (aq (aN 3 (bU dS (ac 0) (ae (ac 1) am)))
 (aq (aN 4 (bU kG (mUn (ao 9) (ac 0)) (ae (ac 3) (ae (ac 2) am))))
 (aq (aN 5 (mOp aH (bU cN (ac 0) (ae (ac 1) am)) (ac 2)))
 (aq (mBr (ax (mOp pEq (ac 4) (mOp aH (ac 3) (ac 2))))
  (aN 5 (bU cT (ac 0) (ae (ac 1) (ae (ac 2) am))))
  aU)
 (bt (mOp aL (mOp cy (ac 4) (mOp aL (mUn (ao 0) (ac 0)) (JA 1))) (ac 5)))))))
def yr:=bf 6 zx
def zw:MS:=
 (aq (mBr (ax (mOp pNe (ac 2) (JA 0)))
  (bt (mOp aH (ac 1) (mOp fB (ac 2) (JA 1))))
  aU)
 (aq (mBr (ax (mOp pEq (mOp aH (ac 1) (JA 0)) (mOp aH (ac 1) (mOp fB (mUn (ao 0) (ac 0)) (JA 1)))))
  (bt (mOp cI (mOp aL (mOp aH (ac 1) (JA 0)) (JA 1)) (mUn (ao 7) (ac 0))))
  aU)
 (bt (mOp aH (ac 1) (JA 0)))))
def yq:=bf 3 zw
def aF:Nat->Option (Jn->Jo)
 |0|1=>some yc
 |2=>some yv
 |3=>some yt
 |4|5|6=>some nR
 |7=>some yr
 |9=>some yq
 |_=>none
def zn:MS:=
 (bt (aM [0,1] 1 (bY (ae (mUn (ao 0) (ac 0)) am)) (tgN 2) (ax (mOp pNe (bU aF (ac 0) (ae (ac 1) (ae (ac 2) am))) (mOp aH (ac 1) (ac 2)))) (ac 2)))
def h8:=bf 2 zn
def au:Nat->Option (Jn->Jo)
 |0|1|2|3|4|5|6|7|9=>some h8
 |_=>none
def za:MS:=
 (bt (mOp pEq (ap (p1 cz) (ae (bU au (ac 0) (ae (ac 1) am)) am)) (JA 0)))
def iM:=bf 2 za
def zE:MS:=
 (bt (mOp pEq (ap (p1 cz) (ae (bU au (ac 0) (ae (ac 1) am)) am)) (JA 1)))
def uo:=bf 2 zE
def ay:Nat->Option (Jn->Jo)
 |0|1|2|3|4|5|6|7=>some iM
 |9=>some uo
 |_=>none
def yV:MS:=
 (aq (aN 1 (fE (ae (fE am) am)))
 (aq (cF (eY (ac 0)) (tgN 2)
  (aq (gW 1) (aN 1 (mOp aL (ac 1) (aM [2] 1 (bu (ac 1)) (tgN 1) bp (mOp aL (ac 1) (fE (ae (ac 0) am))))))))
 (aq (gW 1) (bt (gU (ac 1) (jP (JA 1)) fW)))))
def ue:=bf 3 yV
def zm:MS:=
 (aq (mBr ((eA (bX (mUn (ao 8) (ac 0))) (ax (mOp pGt (ap (p1 cz) (ae (ac 1) am)) (JA 1)))))
  (bA 4 (ae (mC (.str "a rule that is alone gets one machine at a turn")) am))
  aU)
 (aq (cF (eY (ac 1)) (tgN 2)
  (mBr ((gy (ax (mOp pLt (ac 2) (JA 0))) (ax (mOp pGe (ac 2) (mUn (ao 0) (ac 0))))))
  (bA 4 (ae (mC (.str "a name is no machine")) am))
  aU))
 (mBr (ax (mOp pNe (mUn iU (ac 1)) (ap (p1 cz) (ae (ac 1) am))))
  (bA 4 (ae (mC (.str "a machine is named twice")) am))
  aU)))
def ym:=bf 3 zm
def zk:MS:=
 (aq (fO (ap (aB ym) (ae (ac 0) (ae (ac 2) am))))
 (bt (aM [2,0,1] 1 (bY (ae (mUn (ao 0) (ac 0)) am)) (tgN 3) bp (oK (ax (mOp pIn (ac 3) (ac 0))) (bU aF (ac 1) (ae (ac 2) (ae (ac 3) am))) (mOp aH (ac 2) (ac 3))))))
def hZ:=bf 3 zk
def aJ:Nat->Option (Jn->Jo)
 |0|1|2|3|4|5|6|7|9=>some hZ
 |_=>none
def yT:MS:=
 (aq (fO (ap (aB qA) (ae (ac 0) (ae (ac 2) am))))
 (aq (aN 3 (bU au (ac 0) (ae (ac 1) am)))
 (aq (aN 4 (oK (bX (ac 2)) (ap (aB ue) (ae (ac 3) am)) (aM [] 1 (bu (ac 3)) (tgN 0) bp (fE (ae (ac 0) am)))))
 (aq (gW 4) (bt (aM [0,1] 1 (bu (ac 4)) (tgN 2) bp (eX (ae (ac 2) (ae (bU aJ (ac 0) (ae (ac 1) (ae (ac 2) am))) am)))))))))
def jW:=bf 5 yT
def y9:MS:=
 (aq (aN 2 (JA 0))
 (aq (cF (eY (ac 1)) (tgN 3)
  (aN 2 (mOp aL (mOp cy (ac 2) (mUn (ao 7) (ac 0))) (ac 3))))
 (d6 2)))
def iK:=bf 4 y9
def yU:MS:=
 (aq (cF (iG (ac 2)) (tgT 2 (aZ (tgN 3) (aZ (tgN 4) dJ)))
  (cF (eY (ac 4)) (tgT 2 (aZ (tgN 5) (aZ (tgN 6) dJ)))
  (mBr ((eA (bX (mOp aH (ac 1) (ac 3))) (iF (bX (mOp aH (ac 1) (ap (aB iK) (ae (ac 0) (ae (ac 6) am))))))))
  (bt (eX (ae (mC (.str "leaves")) (ae (ap (aB mt) (ae (ac 0) (ae (ac 3) am))) (ae (ac 5) am)))))
  aU)))
 (bt (mC .non)))
def xZ:=bf 7 yU
def yR:MS:=
 (aq (cF (iG (ac 2)) (tgT 2 (aZ (tgN 3) (aZ (tgN 4) dJ)))
  (mBr ((eA (iF (bX (mOp aH (ac 1) (ac 3)))) (ax (mOp pEq (ap (p1 cz) (ae (ac 4) am)) (JA 0)))))
  (bt (eX (ae (mC (.str "stuck")) (ae (ap (aB mt) (ae (ac 0) (ae (ac 3) am))) am))))
  aU))
 (bt (mC .non)))
def xY:=bf 5 yR
def zo:MS:=
 (aq (aN 2 (aM [] 1 (bu (ac 0)) (tgN 0) bp (oK (bX (ac 0)) (JA 0) (mC .non))))
 (aq (aN 3 (mC (.bl true)))
 (aq (gT (bX (ac 3))
  (aq (aN 3 (mC (.bl false)))
 (cF (iG (ac 1)) (tgT 2 (aZ (tgN 4) (aZ (tgN 5) dJ)))
  (mBr ((eA (ax (mOp lL (mOp aH (ac 2) (ac 4)) (mC .non))) (ax (mOp dF (mC .non) (aM [2] 1 (bu (ac 5)) (tgN 1) bp (mOp aH (ac 0) (ac 1)))))))
  (aq (f9 2 (ac 4) (mOp aL (JA 1) (ap (p1 (dw c_)) (ae (aM [2] 1 (bu (ac 5)) (tgN 1) bp (mOp aH (ac 0) (ac 1))) am))))
 (aN 3 (mC (.bl true))))
  aU))))
 (d6 2))))
def uj:=bf 6 zo
def EL:MS:=
 (aq (aN 3 (aM [0] 1 (bu (ac 2)) (tgN 1) bp (aM [0] 1 (bu (ac 1)) (tgN 1) bp (ap (aB iK) (ae (ac 0) (ae (mOp aH (ac 1) (JA 1)) am))))))
 (aq (aN 4 (ap (aB uj) (ae (ac 1) (ae (ac 3) am))))
 (aq (mBr (ax (mOp pIn (mC .non) (ac 4)))
  (bt (eX (ae (mC (.str "round")) (ae (aM [0] 1 (bu (xu)) (tgN 1) bp (ap (aB mt) (ae (ac 0) (ae (ac 1) am)))) am))))
  aU)
 (aq (gW 4) (bt (eX (ae (mC (.str "calm")) (ae (ac 4) am))))))))
def Ec:=bf 5 EL
def yQ:MS:=
 (aq (fO (ap (aB qA) (ae (ac 0) (ae (ac 1) am))))
 (aq (fO (ap (aB yo) (ae (ac 0) (ae (ac 1) am))))
 (aq (aN 2 (aM [0] 1 (bY (ae (ap (aB qy) (ae (ac 0) am)) am)) (tgN 1) bp (ap (aB mt) (ae (ac 0) (ae (ac 1) am)))))
 (aq (aN 3 (aM [0] 1 (bu (ac 2)) (tgN 1) bp (bU ay (ac 0) (ae (ac 1) am))))
 (aq (aN 4 (aM [0,1] 1 (bu (ac 2)) (tgN 2) bp (ap (aB jW) (ae (ac 0) (ae (ac 2) (ae (ac 1) am))))))
 (aq (gW 4) (aq (aN 5 (ap (aB xZ) (ae (ac 0) (ae (ac 3) (ae (ac 4) am)))))
 (aq (mBr (ax (mOp lL (ac 5) (mC .non)))
  (aN 5 (ap (aB xY) (ae (ac 0) (ae (ac 3) (ae (ac 4) am)))))
  aU)
 (aq (mBr (ax (mOp lL (ac 5) (mC .non)))
  (aN 5 (ap (aB Ec) (ae (ac 0) (ae (ac 3) (ae (ac 4) am)))))
  aU)
 (d6 5))))))))))
def xX:=bf 6 yQ
def Ht:MS:=
 (bA 6 (ae (mC (.str "this rule has no measure")) am))
def B4:=bf 1 Ht
def yS:MS:=
 (aq (aN 2 (JA 1))
 (aq (cF (bY (ae (ac 1) am)) (tgN 3)
  (aN 2 (mOp cy (ac 2) (ac 0))))
 (d6 2)))
def kW:=bf 4 yS
def zD:MS:=
 (bt (mOp fB (ap (aB kW) (ae (JA 2) (ae (mUn (ao 0) (ac 0)) am))) (JA 1)))
def qB:=bf 1 zD
def ER:MS:=
 (bt (mOp fB (ap (aB kW) (ae (mOp aL (mUn (ao 0) (ac 0)) (JA 1)) (ae (mOp cy (JA 2) (mUn (ao 3) (ac 0))) am))) (JA 1)))
def vn:=bf 1 ER
def jh:Nat->Option (Jn->Jo)
 |5=>some vn
 |_=>none
def zG:MS:=
 (bt (mOp fB (mOp cy (mOp aL (bU jh (mUn (ao 9) (ac 0)) am) (JA 1)) (ap (aB kW) (ae (JA 2) (ae (mUn (ao 0) (ac 0)) am)))) (JA 1)))
def yx:=bf 1 zG
def zz:MS:=
 (bt (mOp dB (mOp cy (mOp cy (JA 3) (mUn (ao 0) (ac 0))) (mOp fB (mUn (ao 0) (ac 0)) (JA 1))) (JA 2)))
def yu:=bf 1 zz
def aG:Nat->Option (Jn->Jo)
 |0=>some B4
 |1|2|3=>some qB
 |4|5|6=>some vn
 |7=>some yx
 |9=>some yu
 |_=>none
def zc:MS:=
 (bt ((i8 (pG (ac 0) "int") (qg (pG (ac 0) "bool")))))
def yf:=bf 1 zc
def zb:MS:=
 (aq (aN 3 (fE am))
 (aq (cF (bY (ae (ac 1) am)) (tgN 4)
  (aq (aN 3 (mOp aL (fE (ae (mOp cI (ac 0) (ac 2)) am)) (ac 3)))
 (aN 0 (mOp dB (ac 0) (ac 2)))))
 (d6 3)))
def ug:=bf 5 zb
def Hu:MS:=
 (bA 6 (ae (mC (.str "this rule has no measure")) am))
def B5:=bf 2 Hu
def Hv:MS:=
 (bt (JA 0))
def B6:=bf 2 Hv
def ES:MS:=
 (bt (mOp fB (mOp fB (mUn (ao 0) (ac 0)) (JA 1)) (ac 1)))
def Ef:=bf 2 ES
def Hr:MS:=
 (d6 1)
def Eb:=bf 2 Hr
def dz:Nat->Option (Jn->Jo)
 |1=>some B6
 |2=>some Ef
 |3=>some Eb
 |_=>none
def EZ:MS:=
 (bt (ap (p1 jI) (ae (aM [0] 1 (bu (bU au (ac 0) (ae (ac 1) am))) (tgN 1) bp (ap (aB kW) (ae (JA 2) (ae (bU dz (ac 0) (ae (ac 1) am)) am)))) am)))
def xW:=bf 2 EZ
def E0:MS:=
 (aq (aN 2 (aM [0,1] 1 (bY (ae (mUn (ao 0) (ac 0)) am)) (tgN 2) bp (bU aF (ac 0) (ae (ac 1) (ae (ac 2) am)))))
 (aq (aN 3 (mOp aL (mUn (ao 0) (ac 0)) (JA 1)))
 (aq (aN 4 (JA 0))
 (aq (cF (bY (ae (mUn (ao 3) (ac 0)) am)) (tgN 5)
  (aq (aN 6 (aM [5] 2 (jO (ae (ac 1) (ae (ac 2) am))) (tgT 2 (aZ (tgN 1) (aZ (tgN 2) dJ))) ((eA (ax (mOp pEq (ac 1) (ac 0))) (ax (mOp pGt (ac 2) (ac 0))))) (ac 1)))
 (aq (aN 7 (aM [5] 2 (jO (ae (ac 1) (ae (ac 2) am))) (tgT 2 (aZ (tgN 1) (aZ (tgN 2) dJ))) ((eA (ax (mOp pGt (ac 1) (ac 0))) (ax (mOp pEq (ac 2) (ac 0))))) (ac 1)))
 (aN 4 (mOp aL (mOp cy (mOp aL (mOp cy (ac 4) (ac 3)) (ap (p1 cz) (ae (ac 6) am))) (ac 3)) (ap (p1 cz) (ae (ac 7) am)))))))
 (d6 4)))))
def sF:=bf 8 E0
def zr:MS:=
 (aq (aN 2 (aM [0,1] 1 (bY (ae (ap (p1 cz) (ae (ac 0) am)) am)) (tgN 2) (ax (mOp wF (eX (ae (mOp aH (ac 0) (ac 2)) (ae (ac 2) am))) (eX (ae (mOp aH (ac 0) (ac 1)) (ae (ac 1) am))))) (ac 2)))
 (bt (ap (p1 cz) (ae (ac 2) am))))
def yn:=bf 3 zr
def gc:Nat->Option (Jn->Jo)
 |5=>some sF
 |_=>none
def EY:MS:=
 (aq (aN 2 (bU dS (ac 0) (ae (ac 1) am)))
 (aq (aN 3 (bU cN (ac 0) (ae (ac 1) am)))
 (aq (aN 4 (aM [3,0,1] 1 (bY (ae (mUn (ao 0) (ac 0)) am)) (tgN 3) (ax (mOp pNe (mOp aH (ac 0) (ac 3)) (bU cT (ac 1) (ae (ac 2) (ae (ac 3) am))))) (ac 3)))
 (aq (aN 5 (aM [2] 1 (bu (ac 4)) (tgN 1) bp (ap (aB kW) (ae (JA 2) (ae (ap (aB yn) (ae (ac 0) (ae (ac 1) am))) am)))))
 (bt (mOp aL (mOp cy (bU gc (mUn (ao 9) (ac 0)) (ae (ac 2) am)) (ap (aB kW) (ae (JA 2) (ae (mUn (ao 0) (ac 0)) am)))) (ap (p1 jI) (ae (ac 5) am))))))))
def Ek:=bf 6 EY
def y_:MS:=
 (aq (aN 1 (JA 1))
 (aq (gT ((eA (ax (mOp pLt (ac 1) (ap (p1 cz) (ae (ac 0) am)))) (ax (mOp pEq (mOp aH (ac 0) (ac 1)) (mOp aH (ac 0) (JA 0))))))
  (aN 1 (mOp aL (ac 1) (JA 1))))
 (d6 1)))
def ye:=bf 2 y_
def EU:MS:=
 (aq (mBr (ax (mOp dF (mOp aH (ac 0) (JA 0)) (gU (ac 0) (jP (ap (aB ye) (ae (ac 0) am))) fW)))
  (bt (JA 0))
  aU)
 (aq (aN 2 (JA 1))
 (aq (gT (ax (mOp pIn (mOp cI (mOp aL (mOp aH (ac 0) (JA 0)) (ac 2)) (ac 1)) (gU (ac 0) (jP (JA 1)) fW)))
  (aN 2 (mOp aL (ac 2) (JA 1))))
 (d6 2))))
def Eh:=bf 3 EU
def EX:MS:=
 (aq (aN 2 (aM [0] 1 (bu (bU au (ac 0) (ae (ac 1) am))) (tgN 1) (ax (mOp pNe (ac 1) (JA 0))) (mOp fB (mUn (ao 0) (ac 0)) (ac 1))))
 (bt (mOp aL (mOp cy (mUn (ao 0) (ac 0)) (ap (aB Eh) (ae (ac 1) (ae (mUn (ao 7) (ac 0)) am)))) (ap (p1 jI) (ae (ac 2) am)))))
def xV:=bf 3 EX
def aD:Nat->Option (Jn->Jo)
 |0=>some B5
 |1|2|3=>some xW
 |4|5|6=>some sF
 |7=>some Ek
 |9=>some xV
 |_=>none
def zh:MS:=
 (aq (aN 2 (JA 0))
 (aq (cF (eY (ac 0)) (tgN 3)
  (aN 2 (mOp aL (mOp cy (ac 2) (ac 1)) (ac 3))))
 (d6 2)))
def qz:=bf 4 zh
def ze:MS:=
 (aq (aN 6 (ap (aB jW) (ae (ac 0) (ae (ac 1) (ae (ac 5) am)))))
 (aq (mBr ((eA (bX (ac 5)) (ax (mOp pNe (ap (p1 cz) (ae (ac 6) am)) (mOp fB (mOp wD (JA 1) (ap (p1 cz) (ae (bU au (ac 0) (ae (ac 1) am)) am))) (JA 1))))))
  (bt (mC (.bl false)))
  aU)
 (aq (aN 7 (aM [3,4] 2 (bu (ac 6)) (tgT 2 (aZ (tgN 2) (aZ (tgN 3) dJ))) bp (mOp aH (ac 0) (ap (aB qz) (ae (ac 3) (ae (ac 1) am))))))
 (aq (mBr (ax (mOp pEq (ac 2) (JA 0)))
  (bt (bU ay (ac 0) (ae (ac 1) am)))
  aU)
 (bt ((i8 (qg (bU ay (ac 0) (ae (ac 1) am))) (i8 (mOp pEq (mUn (dw c_) (ac 7)) (mOp fB (ac 2) (JA 1))) (mOp pLe (ac 2) (bU aD (ac 0) (ae (ac 1) am)))))))))))
def yh:=bf 8 ze
def yW:MS:=
 (aq (fO (ap (aB qA) (ae (ac 0) (ae (ac 3) am))))
 (aq (aN 4 (fE (ae (ap (p1 kO) (ae (ac 2) am)) am)))
 (aq (gT (ax (mOp pGt (mOp aH (ac 1) (ap (aB iK) (ae (ac 0) (ae (mOp aH (ac 4) (mUn p6 (JA 1))) am)))) (JA 0)))
  (aq (aN 5 (mOp fB (mOp aH (ac 1) (ap (aB iK) (ae (ac 0) (ae (mOp aH (ac 4) (mUn p6 (JA 1))) am)))) (JA 1)))
 (aq (aN 6 (aM [] 1 (bu (mFz (ap (aB jW) (ae (ac 0) (ae (mOp aH (ac 4) (mUn p6 (JA 1))) (ae (ac 3) am)))))) (tgN 0) bp (mOp aH (ac 0) (JA 1))))
 (dP 4 (mOp aH (aM [1,0,5] 1 (bu (ac 6)) (tgN 3) (ax (mOp pEq (mOp aH (ac 0) (ap (aB iK) (ae (ac 1) (ae (ac 3) am)))) (ac 2))) (ac 3)) (JA 0))))))
 (d6 4))))
def x_:=bf 7 yW
def y3:MS:=
 (aq (aN 5 (ap (aB x_) (ae (ac 0) (ae (ac 2) (ae (ac 1) (ae (ac 4) am))))))
 (aq (gW 5) (aq (mBr ((gy (iF (bX (pG (ac 5) "list"))) (gy (ax (mOp pNe (ap (p1 cz) (ae (ac 5) am)) (mOp aL (JA 1) (mOp aH (ac 2) (ap (aB qz) (ae (ac 1) (ae (ac 3) am))))))) (ax (mOp pNe (mOp aH (ac 5) (JA 0)) (ac 1))))))
  (bt (mC (.bl false)))
  aU)
 (aq (cF (kQ (ae (JA 1) (ae (ap (p1 cz) (ae (ac 5) am)) am))) (tgN 6)
  (mBr (ax (mOp dF (mOp aH (ac 5) (ac 6)) (aM [] 2 (bu (mFz (ap (aB jW) (ae (ac 0) (ae (mOp aH (ac 5) (mOp fB (ac 6) (JA 1))) (ae (ac 4) am)))))) (tgT 2 (aZ (tgN 0) (aZ (tgN 1) dJ))) bp (ac 1))))
  (bt (mC (.bl false)))
  aU))
 (bt (bU ay (ac 0) (ae (mOp aH (ac 5) (mUn p6 (JA 1))) am)))))))
def yb:=bf 7 y3
def zK:MS:=
 (aq (xA (tgT 3 (aZ (tgN 1) (aZ (tgN 2) (aZ (tgN 3) dJ)))) (ap (aB yd) (ae (ac 0) am)))
 (aq (aN 4 ((i8 (mOp pLt (mOp cI (ap (aB dE) (ae (ac 0) (ae (JA 0) am))) (JA 7)) (JA 3)) (mOp pEq (mOp cI (mOp dB (ap (aB dE) (ae (ac 0) (ae (JA 0) am))) (JA 7)) (JA 2)) (JA 1)))))
 (aq (aN 5 (JA 1))
 (aq (cF (bY (ae (ac 2) am)) (tgN 6)
  (aN 5 (mOp cy (ac 5) (ac 3))))
 (aq (aN 7 (ap (aB xX) (ae (ac 1) (ae (ac 4) am))))
 (aq (mBr ((gy (iF (bX (pG (ac 7) "tuple"))) (gy (ax (mOp pNe (ap (p1 cz) (ae (ac 7) am)) (JA 2))) (gy (ax (mOp pNe (mOp aH (ac 7) (JA 0)) (mC (.str "calm")))) (iF (bX (pG (mOp aH (ac 7) (JA 1)) "list")))))))
  (bt (mC (.bl false)))
  aU)
 (aq (aN 8 (mOp aH (ac 7) (JA 1)))
 (aq (mBr (ax (mOp pNe (ap (p1 cz) (ae (ac 8) am)) (ac 5)))
  (bt (mC (.bl false)))
  aU)
 (aq (cF (eY (ac 8)) (tgN 9)
  (mBr ((gy (iF (bX (ap (aB yf) (ae (ac 9) am)))) (gy (ax (mOp pLt (ac 9) (JA 0))) (ax (mOp pGt (ac 9) (bU aG (ac 1) am))))))
  (bt (mC (.bl false)))
  aU))
 (aq (cF (bY (ae (ac 5) am)) (tgN 10)
  (aq (aN 11 (ap (aB ug) (ae (ac 10) (ae (ac 2) (ae (ac 3) am)))))
 (aq (mBr (ax (mOp pGt (bU aD (ac 1) (ae (ac 11) am)) (bU aG (ac 1) am)))
  (bt (mC (.bl false)))
  aU)
 (mBr (iF (bX (ap (aB yh) (ae (ac 1) (ae (ac 11) (ae (mOp aH (ac 8) (ac 10)) (ae (ac 8) (ae (ac 3) (ae (ac 4) am)))))))))
  (bt (mC (.bl false)))
  aU))))
 (aq (cF (iG (gU (ac 0) fW (jP (JA 5)))) (tgT 2 (aZ (tgN 6) (aZ (tgN 12) dJ)))
  (mBr (iF (bX (ap (aB yb) (ae (ac 1) (ae (ap (aB ug) (ae (mOp cI (mOp dB (ac 12) (JA 3)) (ac 5)) (ae (ac 2) (ae (ac 3) am)))) (ae (ac 8) (ae (ac 3) (ae (ac 4) am))))))))
  (bt (mC (.bl false)))
  aU))
 (bt (mC (.bl true))))))))))))))
def B7:=bf 13 zK
end
section
def top(i:Nat):Stmt:=PySem.Challenge.pw_calmring_k35_look_of_told_rules.main.body.getD i (.Pass ⟨0,0,0,0⟩)
def tF(q:Str)(i k:Nat)(N:Ji):FS:=⟨q,top i,k,N,none⟩
def tM(c:Nat)(q:Str)(i j k:Nat)(N:Ji):FS:=⟨q,Bb (top i) j,k,N,some c⟩
def mE(c:Nat)(n:Str)(i:Nat):Nat×Str×Nat:=(c,n,i)
noncomputable def pt:PT:={
 F:=[tF "_law_cell_at" 65 2 ["_law_script", "_law_k"],
  tM 0 "Rule.__init__" 29 0 4 ["self","size","span","alone"],
  tM 9 "PassRule.__init__" 61 0 3 ["self","size","span"],
  tF "refuse_size" 55 2 ["size","least"],
  tF "ordered_pairs" 56 2 ["size","ways","pairs","way","pair"],
  tF "neighbours" 57 2 ["pairs","at","lower","higher"],
  tM 8 "Net.beside" 53 1 2 ["self","at"],
  tF "far_from" 54 2 ["net","root","far","steps","at","other"],
  tM 8 "Net.__init__" 53 0 3 ["self","size","ways"],
  tF "_law_net" 67 2 ["_law_script","_law_size","_law_ways","_law_k","_law_cell","_law_one","_law_other"],
  tM 1 "DownRule.__init__" 33 0 3 ["self","size","span"],
  tM 2 "PaintRule.__init__" 34 0 2 ["self","net"],
  tF "refuse_parents" 36 1 ["parents","kid","parent"],
  tM 3 "CountRule.__init__" 35 0 2 ["self","parents"],
  tF "refuse_part" 44 1 ["part"],
  tF "refuse_starts" 45 3 ["net","starts","top","start"],
  tM 4 "LeastRule.__init__" 41 0 5 ["self","net","starts","stretch","blocks"],
  tM 5 "FarRule.__init__" 42 0 3 ["self","net","root","starts"],
  tM 7 "GrowRule.__init__" 48 0 3 ["self","net","root"],
  tF "refuse_names" 46 2 ["net","names","name"],
  tM 6 "LeadRule.__init__" 43 0 3 ["self","net","names","starts"],
  tF "_law_small" 68 3 ["_law_script","_law_kind","_law_cell","_law_size","_law_top","_law_stretch","_law_blocks","_law_starts","_law_k","_law_one"],
  tF "_law_rule" 69 1 ["_law_script","_law_cell","_law_kind","_law_big","_law_size","_law_span"],
  tF "refuse_many" 17 2 ["rule","many"],
  tF "states_of" 19 1 ["rule","count","at"],
  tF "refuse_great" 18 2 ["rule","many"],
  tF "cells_of" 13 2 ["rule","number","cells","left","at"],
  tM 0 "Rule.due" 29 2 3 ["self","cells","at"],
  tM 1 "DownRule.hangs_on" 33 1 2 ["self","at"],
  tM 2 "PaintRule.hangs_on" 34 1 2 ["self","at"],
  tM 3 "CountRule.hangs_on" 35 1 2 ["self","at"],
  tM 2 "PaintRule.due" 34 3 3 ["self","cells","at","taken","colour"],
  tM 3 "CountRule.due" 35 3 3 ["self","cells","at"],
  tM 4 "LeastRule.has_offer" 41 2 2 ["self","cell"],
  tM 4 "LeastRule.due" 41 1 3 ["self","cells","at","near","offers"],
  tM 7 "GrowRule.parts" 48 1 2 ["self","cells"],
  tM 7 "GrowRule.fars" 48 6 2 ["self","cells"],
  tM 7 "GrowRule.counts" 48 7 2 ["self","cells"],
  tM 7 "GrowRule.elder" 48 8 3 ["self","fars","at","nearer"],
  tM 7 "GrowRule.elders" 48 2 2 ["self","cells","fars"],
  tM 7 "GrowRule.due_count" 48 9 3 ["self","cells","at","kids"],
  tM 7 "GrowRule.due" 48 3 3 ["self","cells","at","fars","due_far","count"],
  tM 9 "PassRule.due" 61 1 3 ["self","cells","at"],
  tM 0 "Rule.movers" 29 3 2 ["self","cells"],
  tM 0 "Rule.calm" 29 4 2 ["self","cells"],
  tM 9 "PassRule.calm" 61 2 2 ["self","cells"],
  tF "sets_of" 20 1 ["movers","sets","at"],
  tF "refuse_turn" 30 2 ["rule","named","at"],
  tM 0 "Rule.turned" 29 5 3 ["self","cells","named"],
  tF "number_of" 12 2 ["rule","cells","number","cell"],
  tF "leaving" 21 3 ["rule","calms","ways","number","pairs","named","behind"],
  tF "stuck" 22 3 ["rule","calms","ways","number","pairs"],
  tF "ranks_found" 24 2 ["calms","follows","ranks","grown","number","behind"],
  tF "round_or_ranks" 23 3 ["rule","calms","ways","follows","ranks"],
  tM 0 "Rule.most" 29 7 1 ["self"],
  tF "power" 27 2 ["base","exponent","product","step"],
  tM 1 "DownRule.most" 33 4 1 ["self"],
  tM 4 "LeastRule.most" 41 4 1 ["self"],
  tM 7 "GrowRule.most" 48 5 1 ["self"],
  tM 9 "PassRule.most" 61 4 1 ["self"],
  tF "_law_whole" 66 1 ["_law_found"],
  tF "_law_cells" 70 3 ["_law_number_here","_law_size","_law_span","_law_cells_here","_law_k"],
  tM 0 "Rule.measure" 29 6 2 ["self","cells"],
  tM 1 "DownRule.rank" 33 2 2 ["self","at"],
  tM 2 "PaintRule.rank" 34 2 2 ["self","at"],
  tM 3 "CountRule.rank" 35 2 2 ["self","at"],
  tM 1 "DownRule.measure" 33 3 2 ["self","cells"],
  tM 4 "LeastRule.measure" 41 3 2 ["self","cells","dues","base","number","mark","rising","falling"],
  tF "rank_by_far" 49 2 ["fars","at","lower"],
  tM 7 "GrowRule.measure" 48 4 2 ["self","cells","fars","counts","wrong","weights"],
  tF "beginning" 63 1 ["cells","length"],
  tF "steps_to_fresh" 62 2 ["cells","span","steps"],
  tM 9 "PassRule.measure" 61 3 2 ["self","cells","weights"],
  tF "_law_number" 71 2 ["_law_cells_here","_law_span","_law_number_here","_law_cell"],
  tF "_law_falls" 72 6 ["_law_rule_here","_law_cells_here","_law_rank","_law_ranks","_law_span","_law_many","_law_found","_law_behind"],
  tF "_law_slow" 73 5 ["_law_rule_here","_law_cells_here","_law_ranks","_law_span","_law_many","_law_way","_law_k"],
  tF "law" 74 1 ["_law_script","_law_rule_here","_law_size","_law_span","_law_many","_law_states","_law_k","_law_told","_law_ranks","_law_rank","_law_number_here","_law_cells_here","_law_cell"]]
 C:=["Rule","DownRule","PaintRule","CountRule","LeastRule","FarRule","LeadRule","GrowRule","Net","PassRule"]
 X:=["CalmError","BadNet","BadRule","BadState","BadTurn","TooGreat","NoMeasure"]
 A:=["size","pairs","near","top","net","starts","stretch","span","alone","far_rule","root","parents"]
 M:=[mE 8 "beside" 6,mE 1 "hangs_on" 28,mE 2 "hangs_on" 29,mE 3 "hangs_on" 30,mE 4 "has_offer" 33,mE 5 "has_offer" 33,mE 6 "has_offer" 33,mE 7 "parts" 35,mE 7 "fars" 36,mE 5 "due" 34,mE 7 "counts" 37,mE 7 "elder" 38,mE 7 "elders" 39,mE 7 "due_count" 40,mE 0 "due" 27,mE 1 "due" 27,mE 2 "due" 31,mE 3 "due" 32,mE 4 "due" 34,mE 6 "due" 34,mE 7 "due" 41,mE 9 "due" 42,mE 0 "movers" 43,mE 1 "movers" 43,mE 2 "movers" 43,mE 3 "movers" 43,mE 4 "movers" 43,mE 5 "movers" 43,mE 6 "movers" 43,mE 7 "movers" 43,mE 9 "movers" 43,mE 0 "calm" 44,mE 1 "calm" 44,mE 2 "calm" 44,mE 3 "calm" 44,mE 4 "calm" 44,mE 5 "calm" 44,mE 6 "calm" 44,mE 7 "calm" 44,mE 9 "calm" 45,mE 0 "turned" 48,mE 1 "turned" 48,mE 2 "turned" 48,mE 3 "turned" 48,mE 4 "turned" 48,mE 5 "turned" 48,mE 6 "turned" 48,mE 7 "turned" 48,mE 9 "turned" 48,mE 5 "most" 57,mE 0 "most" 54,mE 1 "most" 56,mE 2 "most" 56,mE 3 "most" 56,mE 4 "most" 57,mE 6 "most" 57,mE 7 "most" 58,mE 9 "most" 59,mE 1 "rank" 63,mE 2 "rank" 64,mE 3 "rank" 65,mE 5 "measure" 67,mE 0 "measure" 62,mE 1 "measure" 66,mE 2 "measure" 66,mE 3 "measure" 66,mE 4 "measure" 67,mE 6 "measure" 67,mE 7 "measure" 69,mE 9 "measure" 72]
 Mk:=[(3,13),(5,17),(7,18),(6,20),(4,16),(8,8),(2,11),(9,2)]
 U:=[(1,10),(4,16),(0,1)]
 B:=["len","range","max","min","sorted","tuple","list","enumerate","set","reversed","sum","zip","isinstance","bool","int"]
 I:=[("LEAST_RING",2),("GREATEST_RING",20),("GREATEST_NET",10),("LEAST_NET",1),("MOST_PARENTS",9),("GREATEST_PART",10),("GREATEST_NAME",9),("LEAD_BLOCKS",10),("MOST_STATES",256),("MOST_AT_ONCE",4)]
 KT:=[]
 HT:=[]}
def pe:PE:=⟨[(tF "nexts" 14 3 ["rule","cells","many","movers","turns"],false),(tF "look" 15 2 ["rule","many","states","calms","ways","found"],false),(tF "slowest" 16 4 ["rule","ranks","cells","many","way","rank","behind"],false)],[],[],[]⟩
theorem hA:pt.attOk:=⟨by decide +kernel,by decide +kernel⟩
abbrev T(K:PySem.W.Frag):Tb:=pt.T hA K
section
variable{P:Program}{w:World}{K:PySem.W.Frag}{mg:Jb}{base:Heap}(t:Ty pt pe w K mg)(hB:K.In base)
include t hB
theorem iC:OkF pt hA P w K mg base 1 0 dE:=okC 0 t.tx λ_ _ _ _ _ _ cx nd=>
 (ag (a_ (fU (sv 1) (b8 cx.hK rfl (t.tx.b 0) (sv 0))) (ak (aE (bF cx (sv 0) (sv 1) (λ_ _=>rfl)))) aK)
 (ak (aE (ai))))
theorem oE:OkI pt hA P w K mg base 1 1 gB:=okI 1 t.tx λ_ _ _ _ _ _ cx nd=>
 (ag (sFld 0 t.tx cx (sv 1))
 (ag (sFld 7 t.tx cx (sv 2))
 (ak (sFld 8 t.tx cx (sv 3)))))
theorem Go:OkI pt hA P w K mg base 3 2 Bf:=okI 2 t.tx λ_ _ _ _ _ _ cx nd=>
 (ag (a_ (SW.st (fz (fU (sv 1) (cO rfl (t.tx.c 0))) (fg (fV (sv 1) (cO rfl (t.tx.c 1)))))) (ak (b5 2 t.tx cx hB b0 (aa (bK) af))) aK)
 (ag (a_ (fU (sv 2) (sv 1)) (ak (b5 2 t.tx cx hB b0 (aa (bK) af))) aK)
 (ak (pS 0 t.tx (oE t hB) cx (aa (sv 1) (aa (sv 2) (aa (eT) af)))))))
theorem Du:OkF pt hA P w K mg base 1 3 yk:=okC 3 t.tx λ_ _ _ _ _ _ cx nd=>
 (ak (a_ (SW.st (fz (fU (sv 0) (sv 1)) (fg (fV (sv 0) (cO rfl (t.tx.c 2)))))) (ak (b5 1 t.tx cx hB b0 (aa (bK) af))) aK))
theorem DM:OkF pt hA P w K mg base 1 4 yA:=okC 4 t.tx λ_ _ _ _ _ _ cx nd=>
 (ag (bv nd (i3 af))
 (ag (bM cx.po cx.calm (fJ cx.hK (sv 1)) (sgN nd) (ag (bv nd (gj (aa (tj cx.hK cx.calm rfl (t.tx.b 3) (sv 3)) (aa (on cx.hK cx.calm rfl (t.tx.b 2) (sv 3)) af))))
 (ag (a_ (SW.st (fz (fU (bF cx (sv 4) (ai) (λ_ _=>rfl)) (ai)) (fg (pN (bF cx (sv 4) (ai) (λ_ _=>rfl)) (sv 0))))) (ak (b5 1 t.tx cx hB b0 (aa (bK) af))) aK)
 (ag (a_ (cJ cx.hK cx.hu (bF cx (sv 4) (ai) (λ_ _=>rfl)) (bF cx (sv 4) (ai) (λ_ _=>rfl))) (ak (b5 1 t.tx cx hB b0 (aa (bK) af))) aK)
 (ag (a_ (pM cx.hK cx.hu2 (sv 4) (sv 2)) (ak (b5 1 t.tx cx hB b0 (aa (bK) af))) aK)
 (ak (rG cx (sv 4))))))))
 (ak (aE (nA cx.hK rfl (t.tx.b 4) (sv 2))))))
theorem Ds:OkF pt hA P w K mg base 1 5 uh:=okC 5 t.tx λ_ _ _ _ _ _ cx nd=>
 (ag (dq ["pair"] cx nd (br cx.hK (sv 0)) bV (λ_ _ _ _ nd=>⟨(sgN nd),(cY (cJ cx.comp.hK cx.comp.hu (bF cx.comp (sv 1) (ai) (λ_ _=>rfl)) (sv 0))),(bF cx.comp (sv 1) (ai) (λ_ _=>rfl))⟩))
 (ag (dq ["pair"] cx nd (br cx.hK (sv 0)) bV (λ_ _ _ _ nd=>⟨(sgN nd),(cY (cJ cx.comp.hK cx.comp.hu (bF cx.comp (sv 1) (ai) (λ_ _=>rfl)) (sv 0))),(bF cx.comp (sv 1) (ai) (λ_ _=>rfl))⟩))
 (ak (aE (nA cx.hK rfl (t.tx.b 4) (aO (sv 2) (sv 3)))))))
theorem Dt:OkF pt hA P w K mg base 1 6 ui:=okC 6 t.tx λ_ _ _ _ _ _ cx nd=>
 (ak (aE (tm cx.hK rfl (t.tx.b 6) j0 (bF cx (aQ 2 t.tx cx (sv 0)) (sv 1) (λ_ _=>rfl)))))
omit t hB in
theorem dO{X:Cx}(t:Ty pt pe X.w X.K X.mg)(hB:X.K.In X.base):fv X (T X.K) 1 "beside" ["self","at"] [] bT:=λc _ hc e=>match c,hc,e with
 |8,_,e=>dm 0 t.tx (Dt t hB) e
 |0,_,e|1,_,e|2,_,e|3,_,e|4,_,e|5,_,e|6,_,e|7,_,e|9,_,e=>nomatch e
 |_+10,h,_=>dno (n:=10) h
theorem Dk:OkF pt hA P w K mg base 2 7 uf:=okC 7 t.tx λ_ _ _ _ _ _ cx nd=>
 (ag (dq ["at"] cx nd (b7 rfl (t.tx.b 1) (aa (aQ 0 t.tx cx (sv 0)) af)) bV (λ_ _ _ _ nd=>⟨(sgN nd),bj,(aQ 0 t.tx cx.comp (sv 0))⟩))
 (ag (jv rfl (Or.inl rfl) (sv 1) (ai))
 (ag (bM cx.po cx.calm (cU rfl (t.tx.b 1) (aa (aQ 0 t.tx cx (sv 0)) af)) (sgN nd) (ak (bM cx.po cx.calm (cU rfl (t.tx.b 1) (aa (aQ 0 t.tx cx (sv 0)) af)) (sgN nd) (ak (a_ (cJ cx.hK cx.hu (bF cx (sv 2) (sv 4) (λ_ _=>rfl)) (sv 3)) (ak (bM cx.po cx.calm (fJ cx.hK (cP t.tx (dO t hB) cx (sv 0) (aa (sv 4) af))) (sgN nd) (ak (jv rfl (Or.inl rfl) (sv 5) (om cx.calm rfl (t.tx.b 3) (aa (bF cx (sv 2) (sv 5) (λ_ _=>rfl)) (aa (aO (sv 3) (ai)) af))))))) aK)))))
 (ak (cZ rfl (Or.inl rfl))))))
theorem Dj:OkI pt hA P w K mg base 3 8 ya:=okI 8 t.tx λ_ _ _ _ _ _ cx nd=>
 (ag (dZ (aX t.tx (Du t hB) cx (aa (sv 1) (aa (cO rfl (t.tx.c 3)) af))))
 (ag (sFld 0 t.tx cx (sv 1))
 (ag (sFld 1 t.tx cx (iq cx.hK rfl (t.tx.b 5) gG (aX t.tx (DM t hB) cx (aa (sv 1) (aa (sv 2) af)))))
 (ag (sFld 2 t.tx cx (iq cx.hK rfl (t.tx.b 5) gG (dD ["at"] cx (b7 rfl (t.tx.b 1) (aa (sv 1) af)) bV (λ_ _ _ _ nd=>⟨(sgN nd),bj,(iq cx.comp.hK rfl (t.tx.b 5) gG (aX t.tx (Ds t hB) cx.comp (aa (aQ 1 t.tx cx.comp (sv 0)) (aa (sv 1) af))))⟩))))
 (ak (a_ (cJ cx.hK cx.hu (on cx.hK cx.calm rfl (t.tx.b 2) (aX t.tx (Dk t hB) cx (aa (sv 0) (aa (ai) af)))) (sv 1)) (ak (b5 1 t.tx cx hB b0 (aa (bK) af))) aK))))))
theorem lO:OkF pt hA P w K mg base 5 9 jX:=okC 9 t.tx λ_ _ _ _ _ _ cx nd=>
 (ag (bv nd (i3 af))
 (ag (bM cx.po cx.calm (nv rfl (t.tx.b 1) (aa (ai) (aa (sv 1) af))) (sgN nd) (ak (rG cx (gj (aa (sv 3) (aa (bJ (aX t.tx (iC t hB) cx (aa (sv 0) (aa (aO (ai) (sv 3)) af))) (sv 3)) af))))))
 (ag (bM cx.po cx.calm (fJ cx.hK (ir cx.hK (sv 0) (jx (ai)) jy)) (sgN nd) (ag (bv nd (bJ (di (sv 4) (ai)) (sv 1)))
 (ag (bv nd (bJ (di (sv 4) (cD (ai) (sv 1))) (sv 1)))
 (ak (a_ (SW.st (dY (cJ cx.hK cx.hu (bJ (sv 4) (ai)) (ai)) (dY (st_ne cx.hK cx.hu (sv 5) (sv 6)) (dY (ik cx.hK cx.hu2 (gj (aa (sv 5) (aa (sv 6) af))) (sv 2)) (dM (ik cx.hK cx.hu2 (gj (aa (sv 6) (aa (sv 5) af))) (sv 2))))))) (ak (rG cx (gj (aa (sv 5) (aa (sv 6) af))))) aK)))))
 (ak (aE (ou 8 t.tx (Dj t hB) cx (aa (sv 1) (aa (sv 2) af))))))))
theorem wR:OkI pt hA P w K mg base 3 10 mw:=okI 10 t.tx λ_ _ _ _ _ _ cx nd=>
 (ak (pS 0 t.tx (oE t hB) cx (aa (sv 1) (aa (sv 2) (aa (eT) af)))))
theorem Gw:OkI pt hA P w K mg base 5 11 Bg:=okI 11 t.tx λ_ _ _ _ _ _ cx nd=>
 (eB (i:=1) (ag (sFld 4 t.tx cx (sv 1))
 (ak (pS 1 t.tx (wR t hB) cx (aa (aQ 0 t.tx cx (sv 1)) (aa (aQ 0 t.tx cx (sv 1)) af))))))
theorem Gx:OkF pt hA P w K mg base 1 12 Ee:=okC 12 t.tx λ_ _ _ _ _ _ cx nd=>
 (ag (a_ (fV (b8 cx.hK rfl (t.tx.b 0) (sv 0)) (cO rfl (t.tx.c 4))) (ak (b5 2 t.tx cx hB b0 (aa (bK) af))) aK)
 (ak (bM cx.po cx.calm (z6 cx.hK rfl (t.tx.b 7) (sv 0)) (eC cx.hK cx.calm (ba nd rfl (Or.inl rfl) (ba nd rfl (Or.inl rfl) dA))) (ak (a_ (SW.st (fz (fU (sv 2) (ai)) (fg (pN (sv 2) (sv 1))))) (ak (b5 2 t.tx cx hB b0 (aa (bK) af))) aK)))))
theorem Gv:OkI pt hA P w K mg base 5 13 Ed:=okI 13 t.tx λ_ _ _ _ _ _ cx nd=>
 (ag (dZ (aX t.tx (Gx t hB) cx (aa (sv 1) af)))
 (ag (sFld 11 t.tx cx (iq cx.hK rfl (t.tx.b 5) gG (sv 1)))
 (ak (pS 1 t.tx (wR t hB) cx (aa (aO (b8 cx.hK rfl (t.tx.b 0) (sv 1)) (ai)) (aa (aO (b8 cx.hK rfl (t.tx.b 0) (sv 1)) (ai)) af))))))
theorem wP:OkF pt hA P w K mg base 1 14 uk:=okC 14 t.tx λ_ _ _ _ _ _ cx nd=>
 (ak (a_ (SW.st (fz (fU (sv 0) (ai)) (fg (fV (sv 0) (cO rfl (t.tx.c 5)))))) (ak (b5 2 t.tx cx hB b0 (aa (bK) af))) aK))
theorem DL:OkF pt hA P w K mg base 1 15 yz:=okC 15 t.tx λ_ _ _ _ _ _ cx nd=>
 (ag (a_ (st_ne cx.hK cx.hu (b8 cx.hK rfl (t.tx.b 0) (sv 1)) (aQ 0 t.tx cx (sv 0))) (ak (b5 2 t.tx cx hB b0 (aa (bK) af))) aK)
 (ak (bM cx.po cx.calm (fJ cx.hK (sv 1)) (sgN nd) (ak (a_ (SW.st (dY (sY (sv 3) (eD)) (dM (SW.st (fz (fU (sv 3) (ai)) (fg (pN (sv 3) (sv 2)))))))) (ak (b5 2 t.tx cx hB b0 (aa (bK) af))) aK)))))
theorem wJ:OkI pt hA P w K mg base 3 16 sE:=okI 16 t.tx λ_ _ _ _ _ _ cx nd=>
 (ag (dZ (aX t.tx (wP t hB) cx (aa (sv 3) af)))
 (ag (dZ (aX t.tx (wP t hB) cx (aa (sv 4) af)))
 (ag (sFld 3 t.tx cx (cD (sv 3) (sv 4)))
 (ag (dZ (aX t.tx (DL t hB) cx (aa (sv 1) (aa (sv 2) (aa (aQ 3 t.tx cx (sv 0)) af)))))
 (eB (i:=1) (ag (sFld 4 t.tx cx (sv 1))
 (ag (sFld 5 t.tx cx (iq cx.hK rfl (t.tx.b 5) gG (sv 2)))
 (ag (sFld 6 t.tx cx (sv 3))
 (ak (pS 0 t.tx (oE t hB) cx (aa (aQ 0 t.tx cx (sv 1)) (aa (aO (aQ 3 t.tx cx (sv 0)) (ai)) (aa (eT) af)))))))))))))
theorem wQ:OkI pt hA P w K mg base 5 17 ul:=okI 17 t.tx λ_ _ _ _ _ _ cx nd=>
 (ag (a_ (SW.st (fz (fU (sv 2) (ai)) (fg (pN (sv 2) (aQ 0 t.tx cx (sv 1)))))) (ak (b5 2 t.tx cx hB b0 (aa (bK) af))) aK)
 (ag (dq ["at"] cx nd (b7 rfl (t.tx.b 1) (aa (aQ 0 t.tx cx (sv 1)) af)) bV (λ_ _ _ _ nd=>⟨(sgN nd),bj,(jD (cJ cx.comp.hK cx.comp.hu (sv 1) (sv 0)) (ai) (eD))⟩))
 (eB (i:=3) (eB (i:=1) (ak (pS 4 t.tx (wJ t hB) cx (aa (sv 1) (aa (sv 3) (aa (aQ 0 t.tx cx (sv 1)) (aa (ai) af))))))))))
theorem Gp:OkI pt hA P w K mg base 7 18 D_:=okI 18 t.tx λ_ _ _ _ _ _ cx nd=>
 (eB (i:=1) (ag (sFld 9 t.tx cx (ou 5 t.tx (wQ t hB) cx (aa (sv 1) (aa (sv 2) af))))
 (ag (sFld 4 t.tx cx (sv 1))
 (ag (sFld 10 t.tx cx (sv 2))
 (ak (pS 0 t.tx (oE t hB) cx (aa (aQ 0 t.tx cx (sv 1)) (aa (cD (aO (aQ 0 t.tx cx (sv 1)) (ai)) (aO (aQ 0 t.tx cx (sv 1)) (ai))) (aa (eT) af)))))))))
theorem DA:OkF pt hA P w K mg base 1 19 yp:=okC 19 t.tx λ_ _ _ _ _ _ cx nd=>
 (ag (a_ (st_ne cx.hK cx.hu (b8 cx.hK rfl (t.tx.b 0) (sv 1)) (aQ 0 t.tx cx (sv 0))) (ak (b5 2 t.tx cx hB b0 (aa (bK) af))) aK)
 (ag (a_ (st_ne cx.hK cx.hu (nC cx.hK cx.calm rfl (t.tx.b 0) rfl (t.tx.b 8) (sv 1)) (b8 cx.hK rfl (t.tx.b 0) (sv 1))) (ak (b5 2 t.tx cx hB b0 (aa (bK) af))) aK)
 (ak (bM cx.po cx.calm (fJ cx.hK (sv 1)) (sgN nd) (ak (a_ (SW.st (fz (fU (sv 2) (ai)) (fg (fV (sv 2) (cO rfl (t.tx.c 6)))))) (ak (b5 2 t.tx cx hB b0 (aa (bK) af))) aK))))))
theorem DF:OkI pt hA P w K mg base 5 20 um:=okI 20 t.tx λ_ _ _ _ _ _ cx nd=>
 (eB (i:=1) (ag (dZ (aX t.tx (DA t hB) cx (aa (sv 1) (aa (sv 2) af))))
 (ag (dq ["name"] cx nd (br cx.hK (sv 2)) bV (λ_ _ _ _ nd=>⟨(sgN nd),bj,(cD (cW (cO rfl (t.tx.c 6)) (sv 1)) (aQ 0 t.tx cx.comp (sv 0)))⟩))
 (eB (i:=3) (ak (pS 4 t.tx (wJ t hB) cx (aa (sv 1) (aa (sv 3) (aa (aQ 0 t.tx cx (sv 1)) (aa (cO rfl (t.tx.c 7)) af))))))))))
theorem Dq:OkF pt hA P w K mg base 9 21 yg:=okC 21 t.tx λ_ _ _ _ _ _ cx nd=>
 (ag (a_ (cJ cx.hK cx.hu (sv 1) (ai)) (ag (bv nd (aO (ai) (bJ (sv 2) (ai))))
 (ak (aE (gj (aa (ou 5 t.tx (wQ t hB) cx (aa (aX t.tx (lO t hB) cx (aa (sv 0) (aa (sv 3) af))) (aa (bJ (di (sv 2) (ai)) (sv 3)) af))) (aa (sv 3) (aa (aO (sv 3) (ai)) af))))))) aK)
 (ag (a_ (cJ cx.hK cx.hu (sv 1) (ai)) (ag (bv nd (aO (ai) (bJ (sv 2) (ai))))
 (ag (bv nd (bF cx (i3 (aa (ai) (aa (ai) (aa (ai) af)))) (cW (sv 3) (ai)) (λ_ _=>rfl)))
 (ag (bv nd (aO (ai) (bJ (di (sv 2) (ai)) (sv 4))))
 (ag (bv nd (aO (ai) (bJ (di (sv 2) (ai)) (di (sv 4) (sv 5)))))
 (ag (bv nd (i3 af))
 (ag (bM cx.po cx.calm (cU rfl (t.tx.b 1) (aa (sv 3) af)) (sgN nd) (ag (bv nd (di (aX t.tx (iC t hB) cx (aa (sv 0) (aa (aO (ai) (sv 8)) af))) (ai)))
 (ag (rG cx (bJ (di (sv 9) (ai)) (cD (sv 5) (sv 6))))
 (ak (a_ (cJ cx.hK cx.hu (bJ (sv 9) (ai)) (ai)) (ak (jv rfl (Or.inl rfl) (sv 8) (eD))) aK)))))
 (ak (aE (gj (aa (ou 4 t.tx (wJ t hB) cx (aa (aX t.tx (lO t hB) cx (aa (sv 0) (aa (sv 3) af))) (aa (sv 7) (aa (sv 5) (aa (sv 6) af))))) (aa (sv 3) (aa (aO (cD (sv 5) (sv 6)) (ai)) af)))))))))))) aK)
 (ag (a_ (cJ cx.hK cx.hu (sv 1) (ai)) (ag (bv nd (aO (ai) (bJ (sv 2) (ai))))
 (ak (aE (gj (aa (ou 7 t.tx (Gp t hB) cx (aa (aX t.tx (lO t hB) cx (aa (sv 0) (aa (sv 3) af))) (aa (bJ (di (sv 2) (ai)) (sv 3)) af))) (aa (sv 3) (aa (cD (aO (sv 3) (ai)) (aO (sv 3) (ai))) af))))))) aK)
 (ak (aE (gj (aa (ou 6 t.tx (DF t hB) cx (aa (aX t.tx (lO t hB) cx (aa (sv 0) (aa (ai) af))) (aa (i3 (aa (bJ (sv 2) (ai)) af)) af))) (aa (ai) (aa (ai) af)))))))))
theorem Dm:OkF pt hA P w K mg base 10 22 yd:=okC 22 t.tx λ_ _ _ _ _ _ cx nd=>
 (ag (bv nd (aX t.tx (iC t hB) cx (aa (sv 0) (aa (ai) af))))
 (ag (bv nd (bJ (aX t.tx (iC t hB) cx (aa (sv 0) (aa (ai) af))) (ai)))
 (ag (bv nd (pQ cx.hK cx.hu (bJ (di (aX t.tx (iC t hB) cx (aa (sv 0) (aa (ai) af))) (ai)) (ai)) (ai)))
 (ag (a_ (cJ cx.hK cx.hu (sv 2) (ai)) (ag (bv nd (aO (ai) (bJ (sv 1) (ai))))
 (ag (bv nd (aO (sv 4) (bJ (di (sv 1) (ai)) (bF cx (i3 (aa (ai) (aa (ai) af))) (cW (sv 4) (ai)) (λ_ _=>rfl)))))
 (ag (a_ (bI cx.hK (sv 3)) (ag (bv nd (ai))
 (ak (bv nd (ai)))) aK)
 (ak (aE (gj (aa (ou 9 t.tx (Go t hB) cx (aa (sv 4) (aa (sv 5) af))) (aa (sv 4) (aa (sv 5) af))))))))) aK)
 (ag (a_ (cJ cx.hK cx.hu (sv 2) (ai)) (ag (bv nd (aO (ai) (bJ (sv 1) (ai))))
 (ag (a_ (bI cx.hK (sv 3)) (ak (bv nd (ai))) aK)
 (ak (aE (gj (aa (ou 2 t.tx (Gw t hB) cx (aa (aX t.tx (lO t hB) cx (aa (sv 0) (aa (sv 4) af))) af)) (aa (sv 4) (aa (sv 4) af)))))))) aK)
 (ag (a_ (cJ cx.hK cx.hu (sv 2) (ai)) (ag (bv nd (aO (ai) (bJ (sv 1) (ai))))
 (ak (aE (gj (aa (ou 3 t.tx (Gv t hB) cx (aa (dD ["_law_k"] cx (b7 rfl (t.tx.b 1) (aa (cW (sv 4) (ai)) af)) bV (λ_ _ _ _ nd=>⟨(sgN nd),bj,(bJ (aX t.tx (iC t hB) cx.comp (aa (sv 0) (aa (aO (ai) (sv 1)) af))) (aO (sv 1) (ai)))⟩)) af)) (aa (sv 4) (aa (aO (sv 4) (ai)) af))))))) aK)
 (ak (aE (aX t.tx (Dq t hB) cx (aa (sv 0) (aa (sv 2) (aa (sv 1) af))))))))))))
theorem rY:OkF pt hA P w K mg base 1 23 qA:=okC 23 t.tx λ_ _ _ _ _ _ cx nd=>
 (ak (a_ (SW.st (dY (bI cx.hK (sv 1)) (dM (bI cx.hK (aQ 8 t.tx cx (sv 0)))))) (ak (b5 4 t.tx cx hB b0 (aa (bK) af))) aK))
theorem wN:OkF pt hA P w K mg base 1 24 qy:=okC 24 t.tx λ_ _ _ _ _ _ cx nd=>
 (ag (bv nd (ai))
 (ag (bM cx.po cx.calm (cU rfl (t.tx.b 1) (aa (aQ 0 t.tx cx (sv 0)) af)) (sgN nd) (ag (bv nd (cD (sv 1) (aQ 7 t.tx cx (sv 0))))
 (ak (a_ (fV (sv 1) (cO rfl (t.tx.c 8))) (ak (vW)) aK))))
 (ak (cZ rfl (Or.inl rfl)))))
theorem Dz:OkF pt hA P w K mg base 2 25 yo:=okC 25 t.tx λ_ _ _ _ _ _ cx nd=>
 (ag (a_ (fV (aX t.tx (wN t hB) cx (aa (sv 0) af)) (cO rfl (t.tx.c 8))) (ak (b5 5 t.tx cx hB b0 (aa (bK) af))) aK)
 (ak (a_ (SW.st (dY (bI cx.hK (sv 1)) (dM (fV (aQ 0 t.tx cx (sv 0)) (cO rfl (t.tx.c 9)))))) (ak (b5 5 t.tx cx hB b0 (aa (bK) af))) aK)))
theorem oC:OkF pt hA P w K mg base 1 26 mt:=okC 26 t.tx λ_ _ _ _ _ _ cx nd=>
 (ag (bv nd (i3 af))
 (ag (bv nd (sv 1))
 (ag (bM cx.po cx.calm (cU rfl (t.tx.b 1) (aa (aQ 0 t.tx cx (sv 0)) af)) (sgN nd) (ag (rG cx (bJ (sv 3) (aQ 7 t.tx cx (sv 0))))
 (ak (bv nd (di (sv 3) (aQ 7 t.tx cx (sv 0)))))))
 (ak (aE (rF cx.hK cx.calm rfl (t.tx.b 6) rfl (t.tx.b 9) (sv 2)))))))
theorem wL:OkF pt hA P w K mg base 1 27 yc:=okC 27 t.tx λ_ _ _ _ _ _ cx nd=>
 (ak (aE (bF cx (sv 1) (sv 2) (λ_ _=>rfl))))
theorem GK:OkF pt hA P w K mg base 1 28 Hm:=okC 28 t.tx λ_ _ _ _ _ _ cx nd=>
 (ak (aE (i3 af)))
theorem GL:OkF pt hA P w K mg base 2 29 El:=okC 29 t.tx λ_ _ _ _ _ _ cx nd=>
 (ak (aE (dD ["other"] cx (br cx.hK (cP t.tx (dO t hB) cx (aQ 4 t.tx cx (sv 0)) (aa (sv 1) af))) bV (λ_ _ _ _ nd=>⟨(sgN nd),(cY (fU (sv 1) (sv 0))),(sv 1)⟩))))
theorem GN:OkF pt hA P w K mg base 1 30 Eo:=okC 30 t.tx λ_ _ _ _ _ _ cx nd=>
 (ak (aE (dD ["kid","parent"] cx (vY cx.hK rfl (t.tx.b 7) (aQ 11 t.tx cx (sv 0))) (iS (cv bV (cv bV gg))) (λ_ _ _ _ nd=>⟨(eC cx.comp.hK cx.comp.calm (ba nd rfl (Or.inl rfl) (ba nd rfl (Or.inl rfl) dA))),(cY (cJ cx.comp.hK cx.comp.hu (sv 2) (sv 0))),(sv 1)⟩))))
omit t hB in
theorem et{X:Cx}(t:Ty pt pe X.w X.K X.mg)(hB:X.K.In X.base):fv X (T X.K) 2 "hangs_on" ["self","at"] [] bQ:=λc _ hc e=>match c,hc,e with
 |1,_,e=>dm 1 t.tx (GK t hB) e
 |2,_,e=>dm 2 t.tx (GL t hB) e
 |3,_,e=>dm 3 t.tx (GN t hB) e
 |0,_,e|4,_,e|5,_,e|6,_,e|7,_,e|8,_,e|9,_,e=>nomatch e
 |_+10,h,_=>dno (n:=10) h
theorem DG:OkF pt hA P w K mg base 3 31 yv:=okC 31 t.tx λ_ _ _ _ _ _ cx nd=>
 (ag (dq ["other"] cx nd (br cx.hK (cP t.tx (et t hB) cx (sv 0) (aa (sv 2) af))) bV (λ_ _ _ _ nd=>⟨(sgN nd),bj,(bF cx.comp (sv 0) (sv 1) (λ_ _=>rfl))⟩))
 (ag (bv nd (ai))
 (ag (io cx.po (pM cx.hK cx.hu2 (sv 4) (sv 3)) (ak (bv nd (aO (sv 4) (ai)))))
 (ak (cZ rfl (Or.inl rfl))))))
theorem DD:OkF pt hA P w K mg base 3 32 yt:=okC 32 t.tx λ_ _ _ _ _ _ cx nd=>
 (ak (aE (om cx.calm rfl (t.tx.b 3) (aa (aQ 0 t.tx cx (sv 0)) (aa (aO (ai) (lB cx.hK cx.calm rfl (t.tx.b 10) (dD ["kid"] cx (br cx.hK (cP t.tx (et t hB) cx (sv 0) (aa (sv 2) af))) bV (λ_ _ _ _ nd=>⟨(sgN nd),bj,(bF cx.comp (sv 0) (sv 1) (λ_ _=>rfl))⟩)))) af)))))
theorem wS:OkF pt hA P w K mg base 1 33 vp:=okC 33 t.tx λ_ _ _ _ _ _ cx nd=>
 (ak (aE ((lD (BO cx.hK cx.hu (sv 1) (aQ 3 t.tx cx (sv 0))) (oi (BO cx.hK cx.hu (bJ (aO (sv 1) (ai)) (aQ 6 t.tx cx (sv 0))) (ai)))))))
omit t hB in
theorem gQ{X:Cx}(t:Ty pt pe X.w X.K X.mg)(hB:X.K.In X.base):fv X (T X.K) 1 "has_offer" ["self","cell"] [] dH:=λc _ hc e=>match c,hc,e with
 |4,_,e=>dm 4 t.tx (wS t hB) e
 |5,_,e=>dm 5 t.tx (wS t hB) e
 |6,_,e=>dm 6 t.tx (wS t hB) e
 |0,_,e|1,_,e|2,_,e|3,_,e|7,_,e|8,_,e|9,_,e=>nomatch e
 |_+10,h,_=>dno (n:=10) h
theorem oF:OkF pt hA P w K mg base 2 34 nR:=okC 34 t.tx λ_ _ _ _ _ _ cx nd=>
 (ag (dq ["other"] cx nd (br cx.hK (cP t.tx (dO t hB) cx (aQ 4 t.tx cx (sv 0)) (aa (sv 2) af))) bV (λ_ _ _ _ nd=>⟨(sgN nd),bj,(bF cx.comp (sv 0) (sv 1) (λ_ _=>rfl))⟩))
 (ag (dq ["cell"] cx nd (br cx.hK (sv 3)) bV (λ_ _ _ _ nd=>⟨(sgN nd),(cY (bI cx.comp.hK (cP t.tx (gQ t hB) cx.comp (sv 0) (aa (sv 1) af)))),(aO (sv 1) (ai))⟩))
 (ag (a_ (sY (bF cx (aQ 5 t.tx cx (sv 0)) (sv 2) (λ_ _=>rfl)) (eD)) (ak (rG cx (bF cx (aQ 5 t.tx cx (sv 0)) (sv 2) (λ_ _=>rfl)))) aK)
 (ak (aE (tj cx.hK cx.calm rfl (t.tx.b 3) (aO (sv 4) (i3 (aa (aQ 3 t.tx cx (sv 0)) af)))))))))
theorem Gq:OkF pt hA P w K mg base 1 35 Ea:=okC 35 t.tx λ_ _ _ _ _ _ cx nd=>
 (ak (aE (dD ["cell"] cx (br cx.hK (sv 1)) bV (λ_ _ _ _ nd=>⟨(sgN nd),bj,(gj (aa (di (sv 1) (aO (aQ 0 t.tx cx.comp (sv 0)) (ai))) (aa (bJ (sv 1) (aO (aQ 0 t.tx cx.comp (sv 0)) (ai))) af)))⟩))))
omit t hB in
theorem iD{X:Cx}(t:Ty pt pe X.w X.K X.mg)(hB:X.K.In X.base):fv X (T X.K) 1 "parts" ["self","cells"] [] e_:=λc _ hc e=>match c,hc,e with
 |7,_,e=>dm 7 t.tx (Gq t hB) e
 |0,_,e|1,_,e|2,_,e|3,_,e|4,_,e|5,_,e|6,_,e|8,_,e|9,_,e=>nomatch e
 |_+10,h,_=>dno (n:=10) h
theorem DJ:OkF pt hA P w K mg base 2 36 yw:=okC 36 t.tx λ_ _ _ _ _ _ cx nd=>
 (ak (aE (dD ["part"] cx (br cx.hK (cP t.tx (iD t hB) cx (sv 0) (aa (sv 1) af))) bV (λ_ _ _ _ nd=>⟨(sgN nd),bj,(bF cx.comp (sv 0) (ai) (λ_ _=>rfl))⟩))))
omit t hB in
theorem f7{X:Cx}(t:Ty pt pe X.w X.K X.mg)(hB:X.K.In X.base):fv X (T X.K) 2 "fars" ["self","cells"] [] dS:=λc _ hc e=>match c,hc,e with
 |7,_,e=>dm 8 t.tx (DJ t hB) e
 |0,_,e|1,_,e|2,_,e|3,_,e|4,_,e|5,_,e|6,_,e|8,_,e|9,_,e=>nomatch e
 |_+10,h,_=>dno (n:=10) h
omit t hB in
theorem oG{X:Cx}(t:Ty pt pe X.w X.K X.mg)(hB:X.K.In X.base):fv X (T X.K) 2 "due" ["self","cells","at"] [] kG:=λc _ hc e=>match c,hc,e with
 |5,_,e=>dm 9 t.tx (oF t hB) e
 |0,_,e|1,_,e|2,_,e|3,_,e|4,_,e|6,_,e|7,_,e|8,_,e|9,_,e=>nomatch e
 |_+10,h,_=>dno (n:=10) h
theorem GD:OkF pt hA P w K mg base 2 37 Ej:=okC 37 t.tx λ_ _ _ _ _ _ cx nd=>
 (ak (aE (dD ["part"] cx (br cx.hK (cP t.tx (iD t hB) cx (sv 0) (aa (sv 1) af))) bV (λ_ _ _ _ nd=>⟨(sgN nd),bj,(bF cx.comp (sv 0) (ai) (λ_ _=>rfl))⟩))))
omit t hB in
theorem fh{X:Cx}(t:Ty pt pe X.w X.K X.mg)(hB:X.K.In X.base):fv X (T X.K) 2 "counts" ["self","cells"] [] cN:=λc _ hc e=>match c,hc,e with
 |7,_,e=>dm 10 t.tx (GD t hB) e
 |0,_,e|1,_,e|2,_,e|3,_,e|4,_,e|5,_,e|6,_,e|8,_,e|9,_,e=>nomatch e
 |_+10,h,_=>dno (n:=10) h
theorem Gz:OkF pt hA P w K mg base 2 38 Eg:=okC 38 t.tx λ_ _ _ _ _ _ cx nd=>
 (ag (a_ (cJ cx.hK cx.hu (sv 2) (aQ 10 t.tx cx (sv 0))) (ak (aE (eD))) aK)
 (ag (dq ["other"] cx nd (br cx.hK (cP t.tx (dO t hB) cx (aQ 4 t.tx cx (sv 0)) (aa (sv 2) af))) bV (λ_ _ _ _ nd=>⟨(sgN nd),(cY (cJ cx.comp.hK cx.comp.hu (bF cx.comp (sv 0) (sv 2) (λ_ _=>rfl)) (cW (bF cx.comp (sv 0) (sv 1) (λ_ _=>rfl)) (ai)))),(sv 2)⟩))
 (ak (aE (z_ cx.hK cx.calm rfl (t.tx.b 3) (sv 3))))))
omit t hB in
theorem lQ{X:Cx}(t:Ty pt pe X.w X.K X.mg)(hB:X.K.In X.base):fv X (T X.K) 2 "elder" ["self","fars","at"] [] iO:=λc _ hc e=>match c,hc,e with
 |7,_,e=>dm 11 t.tx (Gz t hB) e
 |0,_,e|1,_,e|2,_,e|3,_,e|4,_,e|5,_,e|6,_,e|8,_,e|9,_,e=>nomatch e
 |_+10,h,_=>dno (n:=10) h
theorem GC:OkF pt hA P w K mg base 3 39 Ei:=okC 39 t.tx λ_ _ _ _ _ _ cx nd=>
 (ag (bv nd (cP t.tx (f7 t hB) cx (sv 0) (aa (sv 1) af)))
 (ak (aE (dD ["at"] cx (b7 rfl (t.tx.b 1) (aa (aQ 0 t.tx cx (sv 0)) af)) bV (λ_ _ _ _ nd=>⟨(sgN nd),bj,(cP t.tx (lQ t hB) cx.comp (sv 0) (aa (sv 1) (aa (sv 2) af)))⟩)))))
omit t hB in
theorem kZ{X:Cx}(t:Ty pt pe X.w X.K X.mg)(hB:X.K.In X.base):fv X (T X.K) 3 "elders" ["self","cells"] [] g7:=λc _ hc e=>match c,hc,e with
 |7,_,e=>dm 12 t.tx (GC t hB) e
 |0,_,e|1,_,e|2,_,e|3,_,e|4,_,e|5,_,e|6,_,e|8,_,e|9,_,e=>nomatch e
 |_+10,h,_=>dno (n:=10) h
theorem GM:OkF pt hA P w K mg base 4 40 Em:=okC 40 t.tx λ_ _ _ _ _ _ cx nd=>
 (ag (dq ["count", "elder"] cx nd (oe cx.hK rfl (t.tx.b 11) (aa (cP t.tx (fh t hB) cx (sv 0) (aa (sv 1) af)) (aa (cP t.tx (kZ t hB) cx (sv 0) (aa (sv 1) af)) af))) (iS (cv bV (cv bV gg))) (λ_ _ _ _ nd=>⟨(eC cx.comp.hK cx.comp.calm (ba nd rfl (Or.inl rfl) (ba nd rfl (Or.inl rfl) dA))),(cY (cJ cx.comp.hK cx.comp.hu (sv 2) (sv 0))),(sv 1)⟩))
 (ak (aE (om cx.calm rfl (t.tx.b 3) (aa (aQ 0 t.tx cx (sv 0)) (aa (aO (ai) (lB cx.hK cx.calm rfl (t.tx.b 10) (sv 3))) af))))))
omit t hB in
theorem fL{X:Cx}(t:Ty pt pe X.w X.K X.mg)(hB:X.K.In X.base):fv X (T X.K) 4 "due_count" ["self","cells","at"] [] cT:=λc _ hc e=>match c,hc,e with
 |7,_,e=>dm 13 t.tx (GM t hB) e
 |0,_,e|1,_,e|2,_,e|3,_,e|4,_,e|5,_,e|6,_,e|8,_,e|9,_,e=>nomatch e
 |_+10,h,_=>dno (n:=10) h
theorem DC:OkF pt hA P w K mg base 5 41 yr:=okC 41 t.tx λ_ _ _ _ _ _ cx nd=>
 (ag (bv nd (cP t.tx (f7 t hB) cx (sv 0) (aa (sv 1) af)))
 (ag (bv nd (cP t.tx (oG t hB) cx (aQ 9 t.tx cx (sv 0)) (aa (sv 3) (aa (sv 2) af))))
 (ag (bv nd (bF cx (cP t.tx (fh t hB) cx (sv 0) (aa (sv 1) af)) (sv 2) (λ_ _=>rfl)))
 (ag (a_ (cJ cx.hK cx.hu (sv 4) (bF cx (sv 3) (sv 2) (λ_ _=>rfl))) (ak (bv nd (cP t.tx (fL t hB) cx (sv 0) (aa (sv 1) (aa (sv 2) af))))) aK)
 (ak (aE (aO (cD (sv 4) (aO (aQ 0 t.tx cx (sv 0)) (ai))) (sv 5))))))))
theorem DB:OkF pt hA P w K mg base 1 42 yq:=okC 42 t.tx λ_ _ _ _ _ _ cx nd=>
 (ag (a_ (st_ne cx.hK cx.hu (sv 2) (ai)) (ak (aE (bF cx (sv 1) (cW (sv 2) (ai)) (λ_ _=>rfl)))) aK)
 (ag (a_ (cJ cx.hK cx.hu (bF cx (sv 1) (ai) (λ_ _=>rfl)) (bF cx (sv 1) (cW (aQ 0 t.tx cx (sv 0)) (ai)) (λ_ _=>rfl))) (ak (aE (bJ (aO (bF cx (sv 1) (ai) (λ_ _=>rfl)) (ai)) (aQ 7 t.tx cx (sv 0))))) aK)
 (ak (aE (bF cx (sv 1) (ai) (λ_ _=>rfl))))))
omit t hB in
theorem bW{X:Cx}(t:Ty pt pe X.w X.K X.mg)(hB:X.K.In X.base):fv X (T X.K) 5 "due" ["self","cells","at"] [] aF:=λc _ hc e=>match c,hc,e with
 |0,_,e=>dm 14 t.tx (wL t hB) e
 |1,_,e=>dm 15 t.tx (wL t hB) e
 |2,_,e=>dm 16 t.tx (DG t hB) e
 |3,_,e=>dm 17 t.tx (DD t hB) e
 |4,_,e=>dm 18 t.tx (oF t hB) e
 |5,_,e=>dm 9 t.tx (oF t hB) e
 |6,_,e=>dm 19 t.tx (oF t hB) e
 |7,_,e=>dm 20 t.tx (DC t hB) e
 |9,_,e=>dm 21 t.tx (DB t hB) e
 |8,_,e=>nomatch e
 |_+10,h,_=>dno (n:=10) h
theorem gP:OkF pt hA P w K mg base 6 43 h8:=okC 43 t.tx λ_ _ _ _ _ _ cx nd=>
 (ak (aE (dD ["at"] cx (b7 rfl (t.tx.b 1) (aa (aQ 0 t.tx cx (sv 0)) af)) bV (λ_ _ _ _ nd=>⟨(sgN nd),(cY (st_ne cx.comp.hK cx.comp.hu (cP t.tx (bW t hB) cx.comp (sv 0) (aa (sv 1) (aa (sv 2) af))) (bF cx.comp (sv 1) (sv 2) (λ_ _=>rfl)))),(sv 2)⟩))))
omit t hB in
theorem aR{X:Cx}(t:Ty pt pe X.w X.K X.mg)(hB:X.K.In X.base):fv X (T X.K) 6 "movers" ["self","cells"] [] au:=λc _ hc e=>match c,hc,e with
 |0,_,e=>dm 22 t.tx (gP t hB) e
 |1,_,e=>dm 23 t.tx (gP t hB) e
 |2,_,e=>dm 24 t.tx (gP t hB) e
 |3,_,e=>dm 25 t.tx (gP t hB) e
 |4,_,e=>dm 26 t.tx (gP t hB) e
 |5,_,e=>dm 27 t.tx (gP t hB) e
 |6,_,e=>dm 28 t.tx (gP t hB) e
 |7,_,e=>dm 29 t.tx (gP t hB) e
 |9,_,e=>dm 30 t.tx (gP t hB) e
 |8,_,e=>nomatch e
 |_+10,h,_=>dno (n:=10) h
theorem iB:OkF pt hA P w K mg base 7 44 iM:=okC 44 t.tx λ_ _ _ _ _ _ cx nd=>
 (ak (aE (pQ cx.hK cx.hu (b8 cx.hK rfl (t.tx.b 0) (cP t.tx (aR t hB) cx (sv 0) (aa (sv 1) af))) (ai))))
theorem DI:OkF pt hA P w K mg base 7 45 uo:=okC 45 t.tx λ_ _ _ _ _ _ cx nd=>
 (ak (aE (pQ cx.hK cx.hu (b8 cx.hK rfl (t.tx.b 0) (cP t.tx (aR t hB) cx (sv 0) (aa (sv 1) af))) (ai))))
omit t hB in
theorem bE{X:Cx}(t:Ty pt pe X.w X.K X.mg)(hB:X.K.In X.base):fv X (T X.K) 7 "calm" ["self","cells"] [] ay:=λc _ hc e=>match c,hc,e with
 |0,_,e=>dm 31 t.tx (iB t hB) e
 |1,_,e=>dm 32 t.tx (iB t hB) e
 |2,_,e=>dm 33 t.tx (iB t hB) e
 |3,_,e=>dm 34 t.tx (iB t hB) e
 |4,_,e=>dm 35 t.tx (iB t hB) e
 |5,_,e=>dm 36 t.tx (iB t hB) e
 |6,_,e=>dm 37 t.tx (iB t hB) e
 |7,_,e=>dm 38 t.tx (iB t hB) e
 |9,_,e=>dm 39 t.tx (DI t hB) e
 |8,_,e=>nomatch e
 |_+10,h,_=>dno (n:=10) h
theorem Dh:OkF pt hA P w K mg base 1 46 ue:=okC 46 t.tx λ_ _ _ _ _ _ cx nd=>
 (ag (bv nd (i3 (aa (i3 af) af)))
 (ag (bM cx.po cx.calm (fJ cx.hK (sv 0)) (sgN nd) (eB (i:=1) (ak (bv nd (aO (sv 1) (dD ["named"] cx (br cx.hK (sv 1)) bV (λ_ _ _ _ nd=>⟨(sgN nd),bj,(aO (sv 1) (i3 (aa (sv 0) af)))⟩)))))))
 (eB (i:=1) (ak (aE (ir cx.hK (sv 1) (jx (ai)) jy))))))
theorem Dv:OkF pt hA P w K mg base 1 47 ym:=okC 47 t.tx λ_ _ _ _ _ _ cx nd=>
 (ag (a_ (SW.st (dY (bI cx.hK (aQ 8 t.tx cx (sv 0))) (dM (fV (b8 cx.hK rfl (t.tx.b 0) (sv 1)) (ai))))) (ak (b5 4 t.tx cx hB b0 (aa (bK) af))) aK)
 (ag (bM cx.po cx.calm (fJ cx.hK (sv 1)) (sgN nd) (ak (a_ (SW.st (fz (fU (sv 2) (ai)) (fg (pN (sv 2) (aQ 0 t.tx cx (sv 0)))))) (ak (b5 4 t.tx cx hB b0 (aa (bK) af))) aK)))
 (ak (a_ (st_ne cx.hK cx.hu (nC cx.hK cx.calm rfl (t.tx.b 0) rfl (t.tx.b 8) (sv 1)) (b8 cx.hK rfl (t.tx.b 0) (sv 1))) (ak (b5 4 t.tx cx hB b0 (aa (bK) af))) aK))))
theorem gO:OkF pt hA P w K mg base 6 48 hZ:=okC 48 t.tx λ_ _ _ _ _ _ cx nd=>
 (ag (dZ (aX t.tx (Dv t hB) cx (aa (sv 0) (aa (sv 2) af))))
 (ak (aE (dD ["at"] cx (b7 rfl (t.tx.b 1) (aa (aQ 0 t.tx cx (sv 0)) af)) bV (λ_ _ _ _ nd=>⟨(sgN nd),bj,(jD (pM cx.comp.hK cx.comp.hu2 (sv 3) (sv 0)) (cP t.tx (bW t hB) cx.comp (sv 1) (aa (sv 2) (aa (sv 3) af))) (bF cx.comp (sv 2) (sv 3) (λ_ _=>rfl)))⟩)))))
omit t hB in
theorem ee{X:Cx}(t:Ty pt pe X.w X.K X.mg)(hB:X.K.In X.base):fv X (T X.K) 6 "turned" ["self","cells","named"] [] aJ:=λc _ hc e=>match c,hc,e with
 |0,_,e=>dm 40 t.tx (gO t hB) e
 |1,_,e=>dm 41 t.tx (gO t hB) e
 |2,_,e=>dm 42 t.tx (gO t hB) e
 |3,_,e=>dm 43 t.tx (gO t hB) e
 |4,_,e=>dm 44 t.tx (gO t hB) e
 |5,_,e=>dm 45 t.tx (gO t hB) e
 |6,_,e=>dm 46 t.tx (gO t hB) e
 |7,_,e=>dm 47 t.tx (gO t hB) e
 |9,_,e=>dm 48 t.tx (gO t hB) e
 |8,_,e=>nomatch e
 |_+10,h,_=>dno (n:=10) h
theorem oB:OkD pt hA P w K mg base 7 (pe.at 0).1 jW:=okD (t.d 0) λ_ _ _ _ _ _ cx nd=>
 (ag (dZ (aX t.tx (rY t hB) cx (aa (sv 0) (aa (sv 2) af))))
 (ag (bv nd (cP t.tx (aR t hB) cx (sv 0) (aa (sv 1) af)))
 (ag (bv nd (jD (bI cx.hK (sv 2)) (aX t.tx (Dh t hB) cx (aa (sv 3) af)) (dD ["at"] cx (br cx.hK (sv 3)) bV (λ_ _ _ _ nd=>⟨(sgN nd),bj,(i3 (aa (sv 0) af))⟩))))
 (eB (i:=4) (ak (aE (dD ["named"] cx (br cx.hK (sv 4)) bV (λ_ _ _ _ nd=>⟨(sgN nd),bj,(gj (aa (sv 2) (aa (cP t.tx (ee t hB) cx.comp (sv 0) (aa (sv 1) (aa (sv 2) af))) af)))⟩))))))))
theorem lP:OkF pt hA P w K mg base 1 49 iK:=okC 49 t.tx λ_ _ _ _ _ _ cx nd=>
 (ag (bv nd (ai))
 (ag (bM cx.po cx.calm (fJ cx.hK (sv 1)) (sgN nd) (ak (bv nd (aO (cD (sv 2) (aQ 7 t.tx cx (sv 0))) (sv 3)))))
 (ak (cZ rfl (Or.inl rfl)))))
theorem Dg:OkF pt hA P w K mg base 2 50 xZ:=okC 50 t.tx λ_ _ _ _ _ _ cx nd=>
 (ag (bM cx.po cx.calm (jz cx.hK rfl (t.tx.b 7) (sv 2)) (eC cx.hK cx.calm (ba nd rfl (Or.inl rfl) (ba nd rfl (Or.inl rfl) dA))) (ak (bM cx.po cx.calm (fJ cx.hK (sv 4)) (eC cx.hK cx.calm (ba nd rfl (Or.inl rfl) (ba nd rfl (Or.inl rfl) dA))) (ak (a_ (SW.st (dY (bI cx.hK (bF cx (sv 1) (sv 3) (λ_ _=>rfl))) (dM (im (bI cx.hK (bF cx (sv 1) (aX t.tx (lP t hB) cx (aa (sv 0) (aa (sv 6) af))) (λ_ _=>rfl))))))) (ak (aE (gj (aa (bK) (aa (aX t.tx (oC t hB) cx (aa (sv 0) (aa (sv 3) af))) (aa (sv 5) af)))))) aK)))))
 (ak (aE (eD))))
theorem Df:OkF pt hA P w K mg base 2 51 xY:=okC 51 t.tx λ_ _ _ _ _ _ cx nd=>
 (ag (bM cx.po cx.calm (jz cx.hK rfl (t.tx.b 7) (sv 2)) (eC cx.hK cx.calm (ba nd rfl (Or.inl rfl) (ba nd rfl (Or.inl rfl) dA))) (ak (a_ (SW.st (dY (im (bI cx.hK (bF cx (sv 1) (sv 3) (λ_ _=>rfl)))) (dM (cJ cx.hK cx.hu (b8 cx.hK rfl (t.tx.b 0) (sv 4)) (ai))))) (ak (aE (gj (aa (bK) (aa (aX t.tx (oC t hB) cx (aa (sv 0) (aa (sv 3) af))) af))))) aK)))
 (ak (aE (eD))))
theorem Dw:OkF pt hA P w K mg base 1 52 uj:=okC 52 t.tx λ_ _ _ _ _ _ cx nd=>
 (ag (bv nd (dD ["calm"] cx (br cx.hK (sv 0)) bV (λ_ _ _ _ nd=>⟨(sgN nd),bj,(jD (bI cx.comp.hK (sv 0)) (ai) (eD))⟩)))
 (ag (bv nd (eT))
 (ag (io cx.po (bI cx.hK (sv 3)) (ag (bv nd (eT))
 (ak (bM cx.po cx.calm (jz cx.hK rfl (t.tx.b 7) (sv 1)) (eC cx.hK cx.calm (ba nd rfl (Or.inl rfl) (ba nd rfl (Or.inl rfl) dA))) (ak (a_ (SW.st (dY (rm (bF cx (sv 2) (sv 4) (λ_ _=>rfl)) (eD)) (dM (ik cx.hK cx.hu2 (eD) (dD ["other"] cx (br cx.hK (sv 5)) bV (λ_ _ _ _ nd=>⟨(sgN nd),bj,(bF cx.comp (sv 0) (sv 1) (λ_ _=>rfl))⟩)))))) (ag (jv rfl (Or.inr (Or.inl rfl)) (sv 4) (aO (ai) (on cx.hK cx.calm rfl (t.tx.b 2) (dD ["other"] cx (br cx.hK (sv 5)) bV (λ_ _ _ _ nd=>⟨(sgN nd),bj,(bF cx.comp (sv 0) (sv 1) (λ_ _=>rfl))⟩)))))
 (ak (bv nd (eT)))) aK))))))
 (ak (cZ rfl (Or.inr (Or.inl rfl)))))))
theorem Gu:OkF pt hA P w K mg base 2 53 Ec:=okC 53 t.tx λ_ _ _ _ _ _ cx nd=>
 (ag (dq ["pairs"] cx nd (br cx.hK (sv 2)) bV (λ_ _ _ _ nd=>⟨(sgN nd),bj,(dD ["pair"] cx.comp (br cx.comp.hK (sv 1)) bV (λ_ _ _ _ nd=>⟨(sgN nd),bj,(aX t.tx (lP t hB) cx.comp.comp (aa (sv 0) (aa (bF cx.comp.comp (sv 1) (ai) (λ_ _=>rfl)) af)))⟩))⟩))
 (ag (bv nd (aX t.tx (Dw t hB) cx (aa (sv 1) (aa (sv 3) af))))
 (ag (a_ (pM cx.hK cx.hu2 (eD) (sv 4)) (ak (aE (gj (aa (bK) (aa (dD ["number"] cx (br cx.hK (Cr)) bV (λ_ _ _ _ nd=>⟨(sgN nd),bj,(aX t.tx (oC t hB) cx.comp (aa (sv 0) (aa (sv 1) af)))⟩)) af))))) aK)
 (eB (i:=4) (ak (aE (gj (aa (bK) (aa (sv 4) af)))))))))
theorem De:OkD pt hA P w K mg base 8 (pe.at 1).1 xX:=okD (t.d 1) λ_ _ _ _ _ _ cx nd=>
 (ag (dZ (aX t.tx (rY t hB) cx (aa (sv 0) (aa (sv 1) af))))
 (ag (dZ (aX t.tx (Dz t hB) cx (aa (sv 0) (aa (sv 1) af))))
 (ag (dq ["number"] cx nd (b7 rfl (t.tx.b 1) (aa (aX t.tx (wN t hB) cx (aa (sv 0) af)) af)) bV (λ_ _ _ _ nd=>⟨(sgN nd),bj,(aX t.tx (oC t hB) cx.comp (aa (sv 0) (aa (sv 1) af)))⟩))
 (ag (dq ["cells"] cx nd (br cx.hK (sv 2)) bV (λ_ _ _ _ nd=>⟨(sgN nd),bj,(cP t.tx (bE t hB) cx.comp (sv 0) (aa (sv 1) af))⟩))
 (ag (dq ["cells"] cx nd (br cx.hK (sv 2)) bV (λ_ _ _ _ nd=>⟨(sgN nd),bj,(j9 (t.d 0) (oB t hB) cx.comp (aa (sv 0) (aa (sv 2) (aa (sv 1) af))))⟩))
 (eB (i:=4) (ag (bv nd (aX t.tx (Dg t hB) cx (aa (sv 0) (aa (sv 3) (aa (sv 4) af)))))
 (ag (a_ (rm (sv 5) (eD)) (ak (bv nd (aX t.tx (Df t hB) cx (aa (sv 0) (aa (sv 3) (aa (sv 4) af)))))) aK)
 (ag (a_ (rm (sv 5) (eD)) (ak (bv nd (aX t.tx (Gu t hB) cx (aa (sv 0) (aa (sv 3) (aa (sv 4) af)))))) aK)
 (ak (cZ rfl (Or.inl rfl))))))))))))
theorem Dn:OkF pt hA P w K mg base 1 54 B4:=okC 54 t.tx λ_ _ _ _ _ _ cx nd=>
 (ak (b5 6 t.tx cx hB b0 (aa (bK) af)))
theorem kg:OkF pt hA P w K mg base 1 55 kW:=okC 55 t.tx λ_ _ _ _ _ _ cx nd=>
 (ag (bv nd (ai))
 (ag (bM cx.po cx.calm (cU rfl (t.tx.b 1) (aa (sv 1) af)) (sgN nd) (ak (bv nd (cD (sv 2) (sv 0)))))
 (ak (cZ rfl (Or.inl rfl)))))
theorem rZ:OkF pt hA P w K mg base 2 56 qB:=okC 56 t.tx λ_ _ _ _ _ _ cx nd=>
 (ak (aE (cW (aX t.tx (kg t hB) cx (aa (ai) (aa (aQ 0 t.tx cx (sv 0)) af))) (ai))))
theorem tW:OkF pt hA P w K mg base 2 57 vn:=okC 57 t.tx λ_ _ _ _ _ _ cx nd=>
 (ak (aE (cW (aX t.tx (kg t hB) cx (aa (aO (aQ 0 t.tx cx (sv 0)) (ai)) (aa (cD (ai) (aQ 3 t.tx cx (sv 0))) af))) (ai))))
omit t hB in
theorem mX{X:Cx}(t:Ty pt pe X.w X.K X.mg)(hB:X.K.In X.base):fv X (T X.K) 2 "most" ["self"] [] jh:=λc _ hc e=>match c,hc,e with
 |5,_,e=>dm 49 t.tx (tW t hB) e
 |0,_,e|1,_,e|2,_,e|3,_,e|4,_,e|6,_,e|7,_,e|8,_,e|9,_,e=>nomatch e
 |_+10,h,_=>dno (n:=10) h
theorem DK:OkF pt hA P w K mg base 3 58 yx:=okC 58 t.tx λ_ _ _ _ _ _ cx nd=>
 (ak (aE (cW (cD (aO (v5 t.tx (mX t hB) cx (aQ 9 t.tx cx (sv 0))) (ai)) (aX t.tx (kg t hB) cx (aa (ai) (aa (aQ 0 t.tx cx (sv 0)) af)))) (ai))))
theorem DE:OkF pt hA P w K mg base 1 59 yu:=okC 59 t.tx λ_ _ _ _ _ _ cx nd=>
 (ak (aE (di (cD (cD (ai) (aQ 0 t.tx cx (sv 0))) (cW (aQ 0 t.tx cx (sv 0)) (ai))) (ai))))
omit t hB in
theorem cK{X:Cx}(t:Ty pt pe X.w X.K X.mg)(hB:X.K.In X.base):fv X (T X.K) 3 "most" ["self"] [] aG:=λc _ hc e=>match c,hc,e with
 |0,_,e=>dm 50 t.tx (Dn t hB) e
 |1,_,e=>dm 51 t.tx (rZ t hB) e
 |2,_,e=>dm 52 t.tx (rZ t hB) e
 |3,_,e=>dm 53 t.tx (rZ t hB) e
 |4,_,e=>dm 54 t.tx (tW t hB) e
 |5,_,e=>dm 49 t.tx (tW t hB) e
 |6,_,e=>dm 55 t.tx (tW t hB) e
 |7,_,e=>dm 56 t.tx (DK t hB) e
 |9,_,e=>dm 57 t.tx (DE t hB) e
 |8,_,e=>nomatch e
 |_+10,h,_=>dno (n:=10) h
theorem Dp:OkF pt hA P w K mg base 1 60 yf:=okC 60 t.tx λ_ _ _ _ _ _ cx nd=>
 (ak (aE ((lD (lC cx.hK A7 rfl (t.tx.b 12) dL rfl (t.tx.b 14) EH (sv 0)) (oi (v3 (lC cx.hK xG rfl (t.tx.b 12) dL rfl (t.tx.b 13) BC (sv 0))))))))
theorem wM:OkF pt hA P w K mg base 1 61 ug:=okC 61 t.tx λ_ _ _ _ _ _ cx nd=>
 (ag (bv nd (i3 af))
 (ag (bM cx.po cx.calm (cU rfl (t.tx.b 1) (aa (sv 1) af)) (sgN nd) (ag (bv nd (aO (i3 (aa (bJ (sv 0) (sv 2)) af)) (sv 3)))
 (ak (bv nd (di (sv 0) (sv 2))))))
 (ak (cZ rfl (Or.inl rfl)))))
theorem Dy:OkF pt hA P w K mg base 1 62 B5:=okC 62 t.tx λ_ _ _ _ _ _ cx nd=>
 (ak (b5 6 t.tx cx hB b0 (aa (bK) af)))
theorem DH:OkF pt hA P w K mg base 1 63 B6:=okC 63 t.tx λ_ _ _ _ _ _ cx nd=>
 (ak (aE (ai)))
theorem Gy:OkF pt hA P w K mg base 1 64 Ef:=okC 64 t.tx λ_ _ _ _ _ _ cx nd=>
 (ak (aE (cW (cW (aQ 0 t.tx cx (sv 0)) (ai)) (sv 1))))
theorem Gs:OkF pt hA P w K mg base 1 65 Eb:=okC 65 t.tx λ_ _ _ _ _ _ cx nd=>
 (ak (cZ rfl (Or.inl rfl)))
omit t hB in
theorem jJ{X:Cx}(t:Ty pt pe X.w X.K X.mg)(hB:X.K.In X.base):fv X (T X.K) 1 "rank" ["self","at"] [] dz:=λc _ hc e=>match c,hc,e with
 |1,_,e=>dm 58 t.tx (DH t hB) e
 |2,_,e=>dm 59 t.tx (Gy t hB) e
 |3,_,e=>dm 60 t.tx (Gs t hB) e
 |0,_,e|4,_,e|5,_,e|6,_,e|7,_,e|8,_,e|9,_,e=>nomatch e
 |_+10,h,_=>dno (n:=10) h
theorem wK:OkF pt hA P w K mg base 7 66 xW:=okC 66 t.tx λ_ _ _ _ _ _ cx nd=>
 (ak (aE (lB cx.hK cx.calm rfl (t.tx.b 10) (dD ["at"] cx (br cx.hK (cP t.tx (aR t hB) cx (sv 0) (aa (sv 1) af))) bV (λ_ _ _ _ nd=>⟨(sgN nd),bj,(aX t.tx (kg t hB) cx.comp (aa (ai) (aa (cP t.tx (jJ t hB) cx.comp (sv 0) (aa (sv 1) af)) af)))⟩)))))
theorem tX:OkF pt hA P w K mg base 6 67 sF:=okC 67 t.tx λ_ _ _ _ _ _ cx nd=>
 (ag (dq ["at"] cx nd (b7 rfl (t.tx.b 1) (aa (aQ 0 t.tx cx (sv 0)) af)) bV (λ_ _ _ _ nd=>⟨(sgN nd),bj,(cP t.tx (bW t hB) cx.comp (sv 0) (aa (sv 1) (aa (sv 2) af)))⟩))
 (ag (bv nd (aO (aQ 0 t.tx cx (sv 0)) (ai)))
 (ag (bv nd (ai))
 (ag (bM cx.po cx.calm (cU rfl (t.tx.b 1) (aa (aQ 3 t.tx cx (sv 0)) af)) (sgN nd) (ag (dq ["cell", "due"] cx nd (oe cx.hK rfl (t.tx.b 11) (aa (sv 1) (aa (sv 2) af))) (iS (cv bV (cv bV gg))) (λ_ _ _ _ nd=>⟨(eC cx.comp.hK cx.comp.calm (ba nd rfl (Or.inl rfl) (ba nd rfl (Or.inl rfl) dA))),(cY (SW.st (dY (cJ cx.comp.hK cx.comp.hu (sv 1) (sv 0)) (dM (fV (sv 2) (sv 0)))))),(sv 1)⟩))
 (ag (dq ["cell", "due"] cx nd (oe cx.hK rfl (t.tx.b 11) (aa (sv 1) (aa (sv 2) af))) (iS (cv bV (cv bV gg))) (λ_ _ _ _ nd=>⟨(eC cx.comp.hK cx.comp.calm (ba nd rfl (Or.inl rfl) (ba nd rfl (Or.inl rfl) dA))),(cY (SW.st (dY (fV (sv 1) (sv 0)) (dM (cJ cx.comp.hK cx.comp.hu (sv 2) (sv 0)))))),(sv 1)⟩))
 (ak (bv nd (aO (cD (aO (cD (sv 4) (sv 3)) (b8 cx.hK rfl (t.tx.b 0) (sv 6))) (sv 3)) (b8 cx.hK rfl (t.tx.b 0) (sv 7))))))))
 (ak (cZ rfl (Or.inl rfl)))))))
theorem Dx:OkF pt hA P w K mg base 1 68 yn:=okC 68 t.tx λ_ _ _ _ _ _ cx nd=>
 (ag (dq ["other"] cx nd (b7 rfl (t.tx.b 1) (aa (b8 cx.hK rfl (t.tx.b 0) (sv 0)) af)) bV (λ_ _ _ _ nd=>⟨(sgN nd),(cY (Cj cx.comp.hK cx.comp.hu (gj (aa (bF cx.comp (sv 0) (sv 2) (λ_ _=>rfl)) (aa (sv 2) af))) (gj (aa (bF cx.comp (sv 0) (sv 1) (λ_ _=>rfl)) (aa (sv 1) af))))),(sv 2)⟩))
 (ak (aE (b8 cx.hK rfl (t.tx.b 0) (sv 2)))))
omit t hB in
theorem kh{X:Cx}(t:Ty pt pe X.w X.K X.mg)(hB:X.K.In X.base):fv X (T X.K) 6 "measure" ["self","cells"] [] gc:=λc _ hc e=>match c,hc,e with
 |5,_,e=>dm 61 t.tx (tX t hB) e
 |0,_,e|1,_,e|2,_,e|3,_,e|4,_,e|6,_,e|7,_,e|8,_,e|9,_,e=>nomatch e
 |_+10,h,_=>dno (n:=10) h
theorem GJ:OkF pt hA P w K mg base 7 69 Ek:=okC 69 t.tx λ_ _ _ _ _ _ cx nd=>
 (ag (bv nd (cP t.tx (f7 t hB) cx (sv 0) (aa (sv 1) af)))
 (ag (bv nd (cP t.tx (fh t hB) cx (sv 0) (aa (sv 1) af)))
 (ag (dq ["at"] cx nd (b7 rfl (t.tx.b 1) (aa (aQ 0 t.tx cx (sv 0)) af)) bV (λ_ _ _ _ nd=>⟨(sgN nd),(cY (st_ne cx.comp.hK cx.comp.hu (bF cx.comp (sv 0) (sv 3) (λ_ _=>rfl)) (cP t.tx (fL t hB) cx.comp (sv 1) (aa (sv 2) (aa (sv 3) af))))),(sv 3)⟩))
 (ag (dq ["at"] cx nd (br cx.hK (sv 4)) bV (λ_ _ _ _ nd=>⟨(sgN nd),bj,(aX t.tx (kg t hB) cx.comp (aa (ai) (aa (aX t.tx (Dx t hB) cx.comp (aa (sv 0) (aa (sv 1) af))) af)))⟩))
 (ak (aE (aO (cD (cP t.tx (kh t hB) cx (aQ 9 t.tx cx (sv 0)) (aa (sv 2) af)) (aX t.tx (kg t hB) cx (aa (ai) (aa (aQ 0 t.tx cx (sv 0)) af)))) (lB cx.hK cx.calm rfl (t.tx.b 10) (sv 5)))))))))
theorem Do:OkF pt hA P w K mg base 1 70 ye:=okC 70 t.tx λ_ _ _ _ _ _ cx nd=>
 (ag (bv nd (ai))
 (ag (io cx.po (SW.st (dY (fU (sv 1) (b8 cx.hK rfl (t.tx.b 0) (sv 0))) (dM (cJ cx.hK cx.hu (bF cx (sv 0) (sv 1) (λ_ _=>rfl)) (bF cx (sv 0) (ai) (λ_ _=>rfl)))))) (ak (bv nd (aO (sv 1) (ai)))))
 (ak (cZ rfl (Or.inl rfl)))))
theorem GB:OkF pt hA P w K mg base 2 71 Eh:=okC 71 t.tx λ_ _ _ _ _ _ cx nd=>
 (ag (a_ (ik cx.hK cx.hu2 (bF cx (sv 0) (ai) (λ_ _=>rfl)) (ir cx.hK (sv 0) (jx (aX t.tx (Do t hB) cx (aa (sv 0) af))) jy)) (ak (aE (ai))) aK)
 (ag (bv nd (ai))
 (ag (io cx.po (pM cx.hK cx.hu2 (bJ (aO (bF cx (sv 0) (ai) (λ_ _=>rfl)) (sv 2)) (sv 1)) (ir cx.hK (sv 0) (jx (ai)) jy)) (ak (bv nd (aO (sv 2) (ai)))))
 (ak (cZ rfl (Or.inl rfl))))))
theorem GH:OkF pt hA P w K mg base 7 72 xV:=okC 72 t.tx λ_ _ _ _ _ _ cx nd=>
 (ag (dq ["at"] cx nd (br cx.hK (cP t.tx (aR t hB) cx (sv 0) (aa (sv 1) af))) bV (λ_ _ _ _ nd=>⟨(sgN nd),(cY (st_ne cx.comp.hK cx.comp.hu (sv 1) (ai))),(cW (aQ 0 t.tx cx.comp (sv 0)) (sv 1))⟩))
 (ak (aE (aO (cD (aQ 0 t.tx cx (sv 0)) (aX t.tx (GB t hB) cx (aa (sv 1) (aa (aQ 7 t.tx cx (sv 0)) af)))) (lB cx.hK cx.calm rfl (t.tx.b 10) (sv 2))))))
omit t hB in
theorem cA{X:Cx}(t:Ty pt pe X.w X.K X.mg)(hB:X.K.In X.base):fv X (T X.K) 7 "measure" ["self","cells"] [] aD:=λc _ hc e=>match c,hc,e with
 |0,_,e=>dm 62 t.tx (Dy t hB) e
 |1,_,e=>dm 63 t.tx (wK t hB) e
 |2,_,e=>dm 64 t.tx (wK t hB) e
 |3,_,e=>dm 65 t.tx (wK t hB) e
 |4,_,e=>dm 66 t.tx (tX t hB) e
 |5,_,e=>dm 61 t.tx (tX t hB) e
 |6,_,e=>dm 67 t.tx (tX t hB) e
 |7,_,e=>dm 68 t.tx (GJ t hB) e
 |9,_,e=>dm 69 t.tx (GH t hB) e
 |8,_,e=>nomatch e
 |_+10,h,_=>dno (n:=10) h
theorem wO:OkF pt hA P w K mg base 1 73 qz:=okC 73 t.tx λ_ _ _ _ _ _ cx nd=>
 (ag (bv nd (ai))
 (ag (bM cx.po cx.calm (fJ cx.hK (sv 0)) (sgN nd) (ak (bv nd (aO (cD (sv 2) (sv 1)) (sv 3)))))
 (ak (cZ rfl (Or.inl rfl)))))
theorem Dr:OkF pt hA P w K mg base 8 74 yh:=okC 74 t.tx λ_ _ _ _ _ _ cx nd=>
 (ag (bv nd (j9 (t.d 0) (oB t hB) cx (aa (sv 0) (aa (sv 1) (aa (sv 5) af)))))
 (ag (a_ (SW.st (dY (bI cx.hK (sv 5)) (dM (st_ne cx.hK cx.hu (b8 cx.hK rfl (t.tx.b 0) (sv 6)) (cW (Cv (ai) (b8 cx.hK rfl (t.tx.b 0) (cP t.tx (aR t hB) cx (sv 0) (aa (sv 1) af)))) (ai)))))) (ak (aE (eT))) aK)
 (ag (dq ["_law_named", "_law_after"] cx nd (br cx.hK (sv 6)) (iS (cv bV (cv bV gg))) (λ_ _ _ _ nd=>⟨(eC cx.comp.hK cx.comp.calm (ba nd rfl (Or.inl rfl) (ba nd rfl (Or.inl rfl) dA))),bj,(bF cx.comp (sv 0) (aX t.tx (wO t hB) cx.comp (aa (sv 3) (aa (sv 1) af))) (λ_ _=>rfl))⟩))
 (ag (a_ (cJ cx.hK cx.hu (sv 2) (ai)) (ak (aE (cP t.tx (bE t hB) cx (sv 0) (aa (sv 1) af)))) aK)
 (ak (aE ((lD (v3 (cP t.tx (bE t hB) cx (sv 0) (aa (sv 1) af))) (lD (pQ cx.hK cx.hu (Ac cx.hK cx.calm rfl (t.tx.b 2) (sv 7)) (cW (sv 2) (ai))) (oi (FX (sv 2) (cP t.tx (cA t hB) cx (sv 0) (aa (sv 1) af)))))))))))))
theorem Di:OkD pt hA P w K mg base 8 (pe.at 2).1 x_:=okD (t.d 2) λ_ _ _ _ _ _ cx nd=>
 (ag (dZ (aX t.tx (rY t hB) cx (aa (sv 0) (aa (sv 3) af))))
 (ag (bv nd (i3 (aa (tm cx.hK rfl (t.tx.b 6) j0 (sv 2)) af)))
 (ag (io cx.po (fV (bF cx (sv 1) (aX t.tx (lP t hB) cx (aa (sv 0) (aa (bF cx (sv 4) (oj (ai)) (λ_ _=>rfl)) af))) (λ_ _=>rfl)) (ai)) (ag (bv nd (cW (bF cx (sv 1) (aX t.tx (lP t hB) cx (aa (sv 0) (aa (bF cx (sv 4) (oj (ai)) (λ_ _=>rfl)) af))) (λ_ _=>rfl)) (ai)))
 (ag (dq ["pair"] cx nd (br cx.hK (BP (j9 (t.d 0) (oB t hB) cx (aa (sv 0) (aa (bF cx (sv 4) (oj (ai)) (λ_ _=>rfl)) (aa (sv 3) af)))))) bV (λ_ _ _ _ nd=>⟨(sgN nd),bj,(bF cx.comp (sv 0) (ai) (λ_ _=>rfl))⟩))
 (ak (rG cx (bF cx (dD ["other"] cx (br cx.hK (sv 6)) bV (λ_ _ _ _ nd=>⟨(sgN nd),(cY (cJ cx.comp.hK cx.comp.hu (bF cx.comp (sv 0) (aX t.tx (lP t hB) cx.comp (aa (sv 1) (aa (sv 3) af))) (λ_ _=>rfl)) (sv 2))),(sv 3)⟩)) (ai) (λ_ _=>rfl)))))))
 (ak (cZ rfl (Or.inl rfl))))))
theorem Dl:OkF pt hA P w K mg base 9 75 yb:=okC 75 t.tx λ_ _ _ _ _ _ cx nd=>
 (ag (bv nd (j9 (t.d 2) (Di t hB) cx (aa (sv 0) (aa (sv 2) (aa (sv 1) (aa (sv 4) af))))))
 (eB (i:=5) (ag (a_ (SW.st (fz (im (bI cx.hK (lC cx.hK qo rfl (t.tx.b 12) dL rfl (t.tx.b 6) j0 (sv 5)))) (fz (st_ne cx.hK cx.hu (b8 cx.hK rfl (t.tx.b 0) (sv 5)) (aO (ai) (bF cx (sv 2) (aX t.tx (wO t hB) cx (aa (sv 1) (aa (sv 3) af))) (λ_ _=>rfl)))) (fg (st_ne cx.hK cx.hu (bF cx (sv 5) (ai) (λ_ _=>rfl)) (sv 1)))))) (ak (aE (eT))) aK)
 (ag (bM cx.po cx.calm (nv rfl (t.tx.b 1) (aa (ai) (aa (b8 cx.hK rfl (t.tx.b 0) (sv 5)) af))) (sgN nd) (ak (a_ (ik cx.hK cx.hu2 (bF cx (sv 5) (sv 6) (λ_ _=>rfl)) (dD ["_law_named", "_law_after"] cx (br cx.hK (BP (j9 (t.d 0) (oB t hB) cx (aa (sv 0) (aa (bF cx (sv 5) (cW (sv 6) (ai)) (λ_ _=>rfl)) (aa (sv 4) af)))))) (iS (cv bV (cv bV gg))) (λ_ _ _ _ nd=>⟨(eC cx.comp.hK cx.comp.calm (ba nd rfl (Or.inl rfl) (ba nd rfl (Or.inl rfl) dA))),bj,(sv 1)⟩))) (ak (aE (eT))) aK)))
 (ak (aE (cP t.tx (bE t hB) cx (sv 0) (aa (bF cx (sv 5) (oj (ai)) (λ_ _=>rfl)) af))))))))
theorem DN:OkF pt hA P w K mg base 11 76 B7:=okC 76 t.tx λ_ _ _ _ _ _ cx nd=>
 (ag (Co (aX t.tx (Dm t hB) cx (aa (sv 0) af)) (eC cx.hK cx.calm (ba nd rfl (Or.inl rfl) (ba nd rfl (Or.inl rfl) (ba nd rfl (Or.inl rfl) dA)))))
 (ag (bv nd ((lD (FW (bJ (aX t.tx (iC t hB) cx (aa (sv 0) (aa (ai) af))) (ai)) (ai)) (oi (pQ cx.hK cx.hu (bJ (di (aX t.tx (iC t hB) cx (aa (sv 0) (aa (ai) af))) (ai)) (ai)) (ai))))))
 (ag (bv nd (ai))
 (ag (bM cx.po cx.calm (cU rfl (t.tx.b 1) (aa (sv 2) af)) (sgN nd) (ak (bv nd (cD (sv 5) (sv 3)))))
 (ag (bv nd (j9 (t.d 1) (De t hB) cx (aa (sv 1) (aa (sv 4) af))))
 (ag (a_ (SW.st (fz (im (bI cx.hK (lC cx.hK vf rfl (t.tx.b 12) dL rfl (t.tx.b 5) gG (sv 7)))) (fz (st_ne cx.hK cx.hu (b8 cx.hK rfl (t.tx.b 0) (sv 7)) (ai)) (fz (st_ne cx.hK cx.hu (bF cx (sv 7) (ai) (λ_ _=>rfl)) (bK)) (fg (im (bI cx.hK (lC cx.hK qo rfl (t.tx.b 12) dL rfl (t.tx.b 6) j0 (bF cx (sv 7) (ai) (λ_ _=>rfl)))))))))) (ak (aE (eT))) aK)
 (ag (bv nd (bF cx (sv 7) (ai) (λ_ _=>rfl)))
 (ag (a_ (st_ne cx.hK cx.hu (b8 cx.hK rfl (t.tx.b 0) (sv 8)) (sv 5)) (ak (aE (eT))) aK)
 (ag (bM cx.po cx.calm (fJ cx.hK (sv 8)) (sgN nd) (ak (a_ (SW.st (fz (im (bI cx.hK (aX t.tx (Dp t hB) cx (aa (sv 9) af)))) (fz (fU (sv 9) (ai)) (fg (fV (sv 9) (v5 t.tx (cK t hB) cx (sv 1))))))) (ak (aE (eT))) aK)))
 (ag (bM cx.po cx.calm (cU rfl (t.tx.b 1) (aa (sv 5) af)) (sgN nd) (ag (bv nd (aX t.tx (wM t hB) cx (aa (sv 10) (aa (sv 2) (aa (sv 3) af)))))
 (ag (a_ (fV (cP t.tx (cA t hB) cx (sv 1) (aa (sv 11) af)) (v5 t.tx (cK t hB) cx (sv 1))) (ak (aE (eT))) aK)
 (ak (a_ (im (bI cx.hK (aX t.tx (Dr t hB) cx (aa (sv 1) (aa (sv 11) (aa (bF cx (sv 8) (sv 10) (λ_ _=>rfl)) (aa (sv 8) (aa (sv 3) (aa (sv 4) af))))))))) (ak (aE (eT))) aK)))))
 (ag (bM cx.po cx.calm (jz cx.hK rfl (t.tx.b 7) (ir cx.hK (sv 0) jy (jx (ai)))) (eC cx.hK cx.calm (ba nd rfl (Or.inl rfl) (ba nd rfl (Or.inl rfl) dA))) (ak (a_ (im (bI cx.hK (aX t.tx (Dl t hB) cx (aa (sv 1) (aa (aX t.tx (wM t hB) cx (aa (bJ (di (sv 12) (ai)) (sv 5)) (aa (sv 2) (aa (sv 3) af)))) (aa (sv 8) (aa (sv 3) (aa (sv 4) af)))))))) (ak (aE (eT))) aK)))
 (ak (aE (eT))))))))))))))
end
end
section
theorem rK(n k:Int)(h1:k<=n)(h2:n<=10):yk [.int n,.int k]=.ok .non:=by refine nE (e:=[some (.int n),some (.int k)]) ?_;show zj [some (.int n),some (.int k)]=_;unfold zj;exact bL (by simp;rw[if_neg (),decide_eq_false ()]) az
theorem rX{fl:Fl}{n:Nat}{ws:Jc}(g:Fa n ws)(hf:fl.Jp=fl)(hl:fl.Ju=false):yA [.int n,.lst fl (prL ws)]=.ok (.lst .own (prL (dg (ws.map mm)))):=by
 refine av (v:=.lst .own (prL (dg (ws.map mm)))) ?_;show zI [some (.int n),some (.lst fl (prL ws)),none,none,none]=_;unfold zI;refine ah (ar (v:=.lst .own []) (by simp)) ?_;simp only[s0_,s1_];refine cH (λk e=>∃c d,e=[some (.int n),some (.lst fl (prL ws)),some (.lst .own (prL ((ws.take k).map mm))),c,d]) (xs:=prL ws) (dh (by simp[hf]) hl (by simp) (by simp)) ⟨_,_,rfl⟩ (λk x e hx hP=>?_) (λe hP=>?_)
 .obtain⟨c,d,rfl⟩:=hP;rw[Ar]at hx;obtain⟨w,hw,rfl⟩:∃w,ws[k]?=some w/\x=prV w:=by
   cases e:ws[k]? with
   |none=>rw[e]at hx;cases hx
   |some w=>rw[e]at hx;cases hx;exact⟨w,rfl,rfl⟩
  have hk:k<ws.length:=(List.getElem?_eq_some_iff.mp hw).1;obtain⟨r1,r2,r3,r4,r5⟩:=g.rg w (List.mem_of_getElem? hw);have hn:((ws.take k).map mm).contains (mm w)=false:=by
   rw[Bool.eq_false_iff];intro z;have z':mm w ∈(ws.take k).map mm:=by simpa using z
   have nd:=g.nd;rw[<- List.take_append_drop k ws,List.map_append,nodup_append]at nd;refine nd.2.2 _ z' (mm w) (mem_map_of_mem ?_) rfl;rw[List.drop_eq_getElem_cons hk];obtain⟨_,e⟩:=List.getElem?_eq_some_iff.mp hw;rw[e];exact mem_cons_self
  have hn':mm w ∉(ws.map mm).take k:=by rw[<- List.map_take];simpa using hn
  have ht:(ws.take (k+1)).map mm=(ws.take k).map mm++[mm w]:=by rw[take_add_one,hw];simp
  have hz:=g.sz;refine⟨_,cu rfl,bZ (ar (v:=prV (mm w)) (by simp[p1,n5,mm])) ?_⟩;simp only[s0_,s1_];refine bZ (bL (by simp[mm];rw[if_neg (),decide_eq_false ()]) az) ?_;refine bZ (bL (by simp[mm];omega) az) ?_;refine bZ (bL (by simp only[gZ,gC,fq];simp[hn']) az) ?_;refine a9 (eP (v:=prV (mm w)) (xs:=prL ((ws.take k).map mm)) (by simp) rfl (by simp) (by simp;omega)) ⟨some (prV w),some (prV (mm w)),?_⟩;simp only[s0_,s1_];rw[ht,<- As];rfl
 .obtain⟨c,d,rfl⟩:=hP;refine a6 ?_ (by simp);have e:ws.take (prL ws).length=ws:=by rw[lf,take_length]
  simp only[e];simp[p1,rp (f:=.lnt) (ps:=ws.map mm) (by simpa using g.sz) g.nd]
theorem kN(a:Int):∀(ps:Jc),(∀x∈ps,x.1≠x.2)->(ps.filter λx=>decide (x.2=a)).length+(ps.filter λx=>decide (x.1=a)).length<=ps.length
 | [],_=>Nat.le_refl _
 |x::ps,h=>by
  have:=kN a ps λy hy=>h y (mem_cons_of_mem _ hy);have hx:=h x mem_cons_self;rw[filter_cons,filter_cons];by_cases h1:x.2=a
  .have h2:x.1≠a:=λz=>hx (z.trans h1.symm);simp[h1,h2];omega
  .by_cases h2:x.1=a
   .simp[h1,h2];omega
   .simp[h1,h2];omega
theorem wX(ps:Jc)(a:Int)(h:ps.length<64)(hne:∀x∈ps,x.1≠x.2):uh [.tup (prL ps),.int a]=.ok (.lst .own (iL (nbL ps a))):=by
 refine av (v:=.lst .own (iL (nbL ps a))) ?_;show zg [some (.tup (prL ps)),some (.int a),none,none]=_;unfold zg;refine ah (ar (v:=.lst .own (iL ((ps.filter λx=>decide (x.2=a)).map (·.1)))) ?_) ?_
 .refine aP (xs:=prL ps) (by simp) (by simp;omega) ?_;unfold iL prL;rw[map_map];exact b6 (a:=prV) (f:=PV.int ∘ Prod.fst) (p:=λx=>decide (x.2=a)) ps λx _=>⟨[some (.int a),some (prV x)],by simp[tgN,aT,bN],by simp,λ_=>⟨by simp,rfl,rfl⟩⟩
 simp only[s0_,s1_];refine ah (ar (v:=.lst .own (iL ((ps.filter λx=>decide (x.1=a)).map (·.2)))) ?_) ?_
 .refine aP (xs:=prL ps) (by simp) (by simp;omega) ?_;rw[show iL ((ps.filter λx=>decide (x.1=a)).map (·.2))=(ps.filter λx=>decide (x.1=a)).map (PV.int ∘ Prod.snd)from map_map ..];exact b6 (a:=prV) (f:=PV.int ∘ Prod.snd) (p:=λx=>decide (x.1=a)) ps λx _=>⟨[some (.int a),some (prV x)],by simp[tgN,aT,bN],by simp,λ_=>⟨by simp,rfl,rfl⟩⟩
 simp only[s0_,s1_];refine a6 ?_ (by simp);have h1:=kN a ps hne;simp only[fX,eS,gC,fq,f_];simp[p1];rw[gn (by decide) (by decide) (by simp;omega)];simp;rw[uG _ (by simp;omega)];rfl
abbrev net(fl:Fl)(n:Nat)(ps:Jc):PV:=.obj fl 8 [0,1,2] [.int n,.tup (prL ps),.tup ((range n).map λk:Nat=>.tup (iL (nbL ps k)))]
@[simp] theorem HG{n:Nat}{ps:Jc}{p:Fl->Bool}:hasL p ((range n).map λk:Nat=>PV.tup (iL (nbL ps k)))=false:=by
 induction range n with
 |nil=>rfl
 |cons a l ih=>simp[hasL,PV.has,ih]
@[simp] theorem HF{n:Nat}{ps:Jc}{g:Fl->Fl}:mapL g ((range n).map λk:Nat=>PV.tup (iL (nbL ps k)))=(range n).map λk:Nat=>PV.tup (iL (nbL ps k)):=by
 induction range n with
 |nil=>rfl
 |cons a l ih=>simp[mapL,PV.Jx,ih]
theorem vB{n:Nat}{ps:Jc}{k:Nat}(hk:k<n):ui [net .bor n ps,.int k]=.ok (.lst .own (iL (nbL ps k))):=by
 refine av (v:=.lst .own (iL (nbL ps k))) ?_;show qW [some (net .bor n ps),some (.int k)]=_;unfold qW;refine a6 ?_ (by simp);have e:aH (.tup ((range n).map λk:Nat=>PV.tup (iL (nbL ps k)))) (.int k)=.ok (.tup (iL (nbL ps k))):=by
  have hk':((range n).map λk:Nat=>PV.tup (iL (nbL ps k)))[k]?=some (.tup (iL (nbL ps k))):=by simp[hk]
  exact d8 rfl hk' (by simp[PV.has])
 simp[ao,bw,p1,kO,e,aW]
def mQ(ps:Jc)(i j:Nat):Prop:=((i:Int),(j:Int))∈ ps \/((j:Int),(i:Int))∈ ps
theorem D9{n r:Nat}{ps:Jc}(hr:r<n)(hn:n<=10)(g:∀x∈ps,0<=x.1/\x.1<n/\0<=x.2/\x.2<n) :
  ∃far,uf [net .bor n ps,.int r]=.ok (.lst .own (iL far))/\sN n r (mQ ps) far:=by
 have a0:ao 0 (net .bor n ps)=.ok (.int n):=by simp[ao,bw]
 have end_:∀e:En,(∃far a b c,e=[some (net .bor n ps),some (.int r),some (.lst .own (iL far)),a,b,c]/\Far n r (mQ ps) n 0 (λ_=>False) far)->∃far,d6 2 e=.ret (.lst .own (iL far))/\sN n r (mQ ps) far:=λe ⟨far,a,b,c,he,F⟩=>⟨far,by subst he;exact d5 rfl,F.dist⟩
 let P:Nat->En->Prop:=λs e=>∃far a b c,e=[some (net .bor n ps),some (.int r),some (.lst .own (iL far)),a,b,c]/\Far n r (mQ ps) s 0 (λ_=>False) far
 have loop:∃e2,cF (bY (ae (mUn (ao 0) (ac 0)) am)) (tgN 3)
   (cF (bY (ae (mUn (ao 0) (ac 0)) am)) (tgN 4)
   (mBr (ax (mOp pEq (mOp aH (ac 2) (ac 4)) (ac 3)))
   (cF (eY (bU bT (ac 0) (ae (ac 4) am))) (tgN 5)
   (f9 2 (ac 5) (ap (gN min) (ae (mOp aH (ac 2) (ac 5)) (ae (mOp aL (ac 3) (JA 1)) am)))))
   aU)) [some (net .bor n ps),some (.int r),some (.lst .own (iL (((range n).map λ_=>(n:Int)).set r 0))),none,none,none]=.next e2/\P (dv 0 n).length e2:=by
  refine iY P (bR (n:=n) (by simp[a0]) ()) ⟨_,_,_,_,rfl,Far.start hr (λi hi=>?_) (by simp)⟩ (λs x e hx hP=>?_)
  .rw[eJ _ (by simpa using hr)];simp[gt,hi]
  .obtain⟨far,a,b,c,rfl,F⟩:=hP;obtain⟨hs,rfl⟩:=cQ hx
   suffices kM _ _ by obtain⟨e2,h1,h2⟩:=this;exact⟨_,e2,cu rfl,h1,h2⟩
   refine kz (λk e=>∃far b c,e=[some (net .bor n ps),some (.int r),some (.lst .own (iL far)),some (.int (0+(s:Int))),b,c]/\Far n r (mQ ps) s k (λ_=>False) far) (bR (n:=n) (by simp[a0]) ()) ⟨_,_,_,rfl,F⟩ (λk x e hx hP=>?_) (λe hP=>?_)
   .obtain⟨far,b,c,rfl,F⟩:=hP;obtain⟨hk,rfl⟩:=cQ hx;have ix:∀ (f:Fl) (i:Nat),i < n->aH (.lst f (iL far)) (.int i)=.ok (.int (gt far i)):=λf i hi=>jV _ () (by
     have:i<far.length:=by rw[F.len];exact hi
     simp[gt,this])
    refine⟨_,cu rfl,?_⟩;simp only[s0_,s1_];by_cases hv:gt far k=s
    .refine kA (by simp[ix _ k hk,hv]) ?_;have nbs:∀o∈nbL ps k,∃j:Nat,o=j/\j<n/\mQ ps j k:=λo ho=>by
      rcases oI.mp ho with q|q
      .have:=g _ q;exact⟨o.toNat,by omega,by omega,.inl (by rw[show((o.toNat:Nat):Int)=o by omega];exact q)⟩
      .have:=g _ q;exact⟨o.toNat,by omega,by omega,.inr (by rw[show((o.toNat:Nat):Int)=o by omega];exact q)⟩
     refine kz (λq e=>∃far c,e=[some (net .bor n ps),some (.int r),some (.lst .own (iL far)),some (.int (0+(s:Int))),some (.int (0+(k:Int))),c]/\Far n r (mQ ps) s k (λj=>(j:Int)∈(nbL ps k).take q) far/\gt far k=s) (xs:=iL (nbL ps k)) ?_ ⟨far,_,rfl,F.none (by simp),hv⟩ (λq x e hx hP=>?_) (λe hP=>?_)
     .have bk:=vB (ps:=ps) hk;refine dh (f:=.own) ?_ rfl (by simp) (by simp);simp[bT,bk,aw]
     .obtain⟨far,c,rfl,F,hv⟩:=hP;rw[xJ]at hx;obtain⟨o,ho,rfl⟩:∃o,(nbL ps k)[q]?=some o/\x=.int o:=by
       cases e:(nbL ps k)[q]? with
       |none=>rw[e]at hx;cases hx
       |some w=>rw[e]at hx;cases hx;exact⟨w,rfl,rfl⟩
      obtain⟨j,rfl,hj,aj⟩:=nbs o (List.mem_of_getElem? ho);have ix:∀ (f:Fl) (i:Nat),i < n->aH (.lst f (iL far)) (.int i)=.ok (.int (gt far i)):=λf i hi=>jV _ () (by
       have:i<far.length:=by rw[F.len];exact hi
       simp[gt,this])
      obtain⟨F',hv'⟩:=F.relax hk hv hj aj hs;refine⟨_,cu rfl,a9 (jC (v:=.int (min (gt far j) ((s:Int)+1))) (xs:=iL far) (j:=j) (n:=j) (by simp[ix _ j hj,gN]) rfl (by simp) (jT (by rw[bG,F.len];exact hj)) (by simp)) ⟨_,some (.int j),?_,?_,hv'⟩⟩
      .rw[qq];rfl
      .have e:∀i:Nat,((i:Int)∈(nbL ps k).take (q+1))=((i:Int)∈(nbL ps k).take q\/i=j):=λi=>by rw[take_add_one,ho];simp;exact or_congr_right ⟨λh=>by omega,λh=>by omega⟩
       simp only[e];exact F'
     .obtain⟨far,c,rfl,F,hv⟩:=hP;refine⟨far,_,_,rfl,F.close λj hj a=>?_⟩;rw[bG,take_length];exact oI.mpr (a.elim .inr .inl)
    .refine kB (by simp[ix _ k hk,hv]) (a9 az ⟨far,_,_,rfl,F.skip hv⟩)
   .obtain⟨far,b,c,rfl,F⟩:=hP;rw[bC]at F;exact⟨far,_,_,_,rfl,F.next⟩
 obtain⟨e2,h1,h2⟩:=loop;rw[bC]at h2;obtain⟨far,h3,h4⟩:=end_ e2 h2;refine⟨far,av (v:=.lst .own (iL far)) ?_,h4⟩;show yZ [some (net .bor n ps),some (.int r),none,none,none,none]=_;unfold yZ;refine ah (ar (v:=.lst .own (iL ((range n).map λ_=>(n:Int)))) ?_) ?_
 .refine aP (xs:=dv 0 n) (bR (n:=n) (by simp[a0]) ()) (by rw[bC];omega) ?_;rw[show iL ((range n).map λ_=>(n:Int))=(range n).map (λ_=>PV.int n)from by simp[iL]];exact aY (a:=λk:Nat=>PV.int (0+(k:Int))) (f:=λ_=>PV.int n) (range n) λk _=>⟨[some (net .bor n ps),some (.int (0+k))],by simp[tgN,aT,bN,PV.Js],by simp[a0],rfl,rfl⟩
 simp only[s0_,s1_];refine ah (jC (v:=.int 0) (xs:=iL ((range n).map λ_=>(n:Int))) (j:=r) (n:=r) (by simp) rfl (by simp) (jT (by simpa using hr)) (by simp)) ?_;rw[qq];exact ah h1 h3
theorem DU{far:Jf}{b:Int}(h:far≠[])(hb:∀x∈far,x<b):c_ far<b:=hb _ (iE h).1
theorem Ba{fl:Fl}{n:Nat}{ws:Jc}(g:Fa n ws)(h1:1<=n)(hn:n<=10)(hf:fl.Jp.Jq=.bor\/fl.Jp.Jq=.frz)(conn:∀S:Nat->Prop,S 0->(∀i<n,∀j<n,mQ (dg (ws.map mm)) i j->S i->S j)->∀i<n,S i) :
  ya [.obj .own 8 [] [],.int n,.lst fl (prL ws)]=.ok (net .own n (dg (ws.map mm))):=by
 have hfl:fl.Jp.Jq.Jp=fl.Jp.Jq:=by rcases hf with e|e<;>rw[e]<;>rfl
 have hfi:fl.Jp.Jq.Ju=false:=by rcases hf with e|e<;>rw[e]<;>rfl
 have o1:=rX (fl:=fl.Jp.Jq) g hfl hfi;have rg:∀x∈dg (ws.map mm),0<=x.1/\x.1<n/\0<=x.2/\x.2<n/\x.1≠x.2:=λx hx=>by obtain⟨w,hw,rfl⟩:=mem_map.mp ((db _).mem_iff.mp hx);have:=g.rg w hw;simp only[mm];omega
 have sz:(dg (ws.map mm)).length<64:=by rw[(db _).length_eq,length_map];exact g.sz
 generalize hps:dg (ws.map mm)=ps at *;have nb:∀k:Nat,uh [.tup (prL ps),.int k]=.ok (.lst .own (iL (nbL ps k))):=λk=>wX ps k sz λx hx=>(rg x hx).2.2.2.2;obtain⟨far,e1,D⟩:=D9 (n:=n) (r:=0) (ps:=ps) () hn λx hx=>⟨(rg x hx).1,(rg x hx).2.1,(rg x hx).2.2.1,(rg x hx).2.2.2.1⟩
 have hall:=D.all () conn;have hne:far≠[]:=λz=>by have:=D.len;rw[z]at this;simp at this;omega
 have hmx:c_ far<n:=DU hne λx hx=>by obtain⟨i,hi,rfl⟩:=getElem_of_mem hx;have:=hall i (by rw[<- D.len];exact hi);simpa[gt,hi]using this
 refine cL (e:=[some (net .own n ps),some (.int n),some (.lst fl (prL ws))]) ?_ rfl;show yY [some (.obj .own 8 [] []),some (.int n),some (.lst fl (prL ws))]=_;unfold yY;have rf:=rK n 1 () ();refine ah (d9 (v:=.non) (by simp[rf,aw])) ?_;refine ah (bP (v:=.int n) (ks:=[]) (vs:=[]) (by simp) rfl (by simp) rfl (by decide)) ?_;simp only[s0_,s1_];refine ah (bP (v:=.tup (prL ps)) (ks:=[0]) (vs:=[.int n]) ?_ rfl (by simp) rfl (by decide)) ?_
 .simp[o1,aw,p1,eG,aW]
 simp only[s0_,s1_];refine ah (bP (v:=.tup ((range n).map λk:Nat=>.tup (iL (nbL ps k)))) (ks:=[0,1]) (vs:=[.int n,.tup (prL ps)]) ?_ rfl (by simp) rfl (by decide)) ?_
 .simp only[fX,eS,f_];rw [aP (xs:=dv 0 n) (ys:=(range n).map λk:Nat=>.tup (iL (nbL ps k))) (bR (n:=n) (by simp) ()) (by rw [bC];omega)
   (aY (a:=λk:Nat=>PV.int (0+(k:Int))) (f:=λk:Nat=>.tup (iL (nbL ps k))) (range n) λk _=>⟨[some (.obj .bor 8 [0,1] [.int n,.tup (prL ps)]),some (.int (0+k))],by simp[tgN,aT,bN],by simp[ao,bw,nb,aw,p1,eG,aW],by simp[PV.has],by simp[PV.has]⟩)]
  simp[p1,eG,aW]
 simp only[s0_,s1_];refine bL ?_ az;have hi:far.isEmpty=false:=by cases far with|nil=>exact absurd rfl hne|cons a l=>rfl
 have e2:uf [net .bor n ps,.int 0]=.ok (.lst .own (iL far)):=e1;simp[e2,aw,p1,dw,aW,hi];omega
def cell(ns:Jf)(k:Nat):Int:=ns.getD k 0
theorem lq{fl:Fl}(ns:Jf)(k:Nat)(h:Scr fl):dE [.lst fl (iL ns),.int k]=.ok (.int (cell ns k)):=by
 refine av ?_;show zi [some (.lst fl (iL ns)),some (.int k)]=_;unfold zi cell;by_cases hk:k<ns.length
 .refine dN (g_ (by simp[h.Jp,hk]) (a6 ?_));simp only[gC,fq];simp[h.Jp];rw[jV ns () (n:=ns.getD k 0) (by simp[hk])];simp[hk]
 .refine ah (bL (by simp[h.Jp,hk]) az) (a6 (by simp[List.getElem?_eq_none (Nat.le_of_not_lt hk)]))
theorem vM(n:Int):yf [.int n]=.ok (.bl true):=by refine av (v:=.bl true) ?_;show zc [some (.int n)]=_;unfold zc;exact a6 (by simp[k6]) (by simp)
def oV:Jj->PV
 |none=>.non
 |some s=>.int s
def oL(os:List (Jj)):Jn:=os.map oV
@[simp] theorem r6(os:List (Jj)):(oL os).length=os.length:=by simp[oL]
@[simp] theorem Iv{p:Fl->Bool}{os:List (Jj)}:hasL p (oL os)=false:=by
 induction os with
 |nil=>rfl
 |cons o os ih=>cases o<;>simpa[oL,oV,hasL,PV.has]using ih
@[simp] theorem Iu{g:Fl->Fl}{os:List (Jj)}:mapL g (oL os)=oL os:=by
 induction os with
 |nil=>rfl
 |cons o os ih=>cases o<;>simpa[oL,oV,mapL,PV.Jx]using ih
@[simp] theorem Ix{os:List (Jj)}:PyData.canLayAll0 (dataL (oL os))=true:=by
 induction os with
 |nil=>rfl
 |cons o os ih=>cases o <;>(simp only[oL,map_cons,oV,dataL,PV.data,PyData.canLayAll0]at ih ⊢;rw[ih];rfl)
@[simp] theorem Iw{os:List (Jj)}:PyData.depthAll (dataL (oL os))=0:=by
 induction os with
 |nil=>rfl
 |cons o os ih=>cases o <;>(simp only[oL,map_cons,oV,dataL,PV.data,PyData.depthAll]at ih ⊢;rw[ih];rfl)
def OkS(tp:Int)(os:List (Jj)):Prop:=∀s,some s∈os->0<=s/\s<tp
def Fc(f:Fl):Prop:=f=.bor\/f=.frz
theorem Fc.le{f:Fl}(h:Fc f):f.Jp=f:=by rcases h with rfl|rfl<;>rfl
theorem Fc.tb{f:Fl}(h:Fc f):f.Jq=f:=by rcases h with rfl|rfl<;>rfl
theorem Fc.bo{f:Fl}(h:Fc f):f.Js=f:=by rcases h with rfl|rfl<;>rfl
theorem Fc.nl{f:Fl}(h:Fc f):f.Ju=false:=by rcases h with rfl|rfl<;>rfl
theorem Fc.of{f:Fl}(h:Fc f\/f=.own):Fc f.Js:=by
 rcases h with(rfl|rfl)|rfl
 .exact .inl rfl
 .exact .inr rfl
 .exact .inl rfl
theorem jp{n:Nat}{ps:Jc}{k:Nat}(hk:k<n):ui [net .frz n ps,.int k]=.ok (.lst .own (iL (nbL ps k))):=by
 refine av (v:=.lst .own (iL (nbL ps k))) ?_;show qW [some (net .frz n ps),some (.int k)]=_;unfold qW;refine a6 ?_ (by simp);have e:aH (.tup ((range n).map λk:Nat=>PV.tup (iL (nbL ps k)))) (.int k)=.ok (.tup (iL (nbL ps k))):=by
  have hk':((range n).map λk:Nat=>PV.tup (iL (nbL ps k)))[k]?=some (.tup (iL (nbL ps k))):=by simp[hk]
  exact d8 rfl hk' (by simp[PV.has])
 simp[ao,bw,p1,kO,e,aW]
abbrev pnt(fl:Fl)(n:Nat)(ps:Jc):PV:=.obj fl 2 [4,0,7,8] [net .frz n ps,.int n,.int n,.bl false]
theorem uK{n:Nat}{ps:Jc}:gB [.obj .own 2 [4] [net .frz n ps],.int n,.int n,.bl false]=.ok (pnt .own n ps):=by refine cL (e:=[some (pnt .own n ps),some (.int n),some (.int n),some (.bl false)]) ?_ rfl;show iR [some (.obj .own 2 [4] [net .frz n ps]),some (.int n),some (.int n),some (.bl false)]=_;unfold iR;refine ah (bP (v:=.int n) (ks:=[4]) (vs:=[net .frz n ps]) (by simp) rfl (by simp) rfl (by decide)) ?_;refine ah (bP (v:=.int n) (ks:=[4,0]) (vs:=[net .frz n ps,.int n]) (by simp) rfl (by simp) rfl (by decide)) ?_;exact bP (v:=.bl false) (ks:=[4,0,7]) (vs:=[net .frz n ps,.int n,.int n]) (by simp) rfl (by simp) rfl (by decide)
theorem vv{n:Nat}{ps:Jc}:mw [.obj .own 2 [4] [net .frz n ps],.int n,.int n]=.ok (pnt .own n ps):=by refine cL (e:=[some (pnt .own n ps),some (.int n),some (.int n)]) ?_ rfl;show qX [some (.obj .own 2 [4] [net .frz n ps]),some (.int n),some (.int n)]=_;unfold qX;exact gI (xs:=[.int n,.int n,.bl false]) rfl (by simp) (by simp) (by simpa using uK (n:=n) (ps:=ps)) (by simp[PV.has])
theorem uU{n:Nat}{ps:Jc}:Bg [.obj .own 2 [] [],net .own n ps]=.ok (pnt .own n ps):=by refine cL (e:=[some (pnt .own n ps),some (net .frz n ps)]) ?_ rfl;show EN [some (.obj .own 2 [] []),some (net .own n ps)]=_;unfold EN;refine ah (eK (v:=net .own n ps) rfl) ?_;simp only[s0_,s1_];refine ah (bP (v:=net .frz n ps) (ks:=[]) (vs:=[]) (by simp[PV.Jx,Fl.Jr]) rfl (by simp[PV.Jw,PV.has]) rfl (by decide)) ?_;simp only[s0_,s1_];have:=gI (env:=[some (.obj .own 2 [4] [net .frz n ps]),some (net .frz n ps)]) (m:=mw) (ms:=ae (mUn (ao 0) (ac 1)) (ae (mUn (ao 0) (ac 1)) am)) (xs:=[.int n,.int n]) rfl (by simp[ao,bw]) (by simp) (by simpa using vv (n:=n) (ps:=ps)) (by simp[PV.has]);simpa[PV.Jx,Fl.Jr]using this
def lU(ps:Jc)(i:Nat):Jf:=(nbL ps i).filter λx=>decide (x <(i:Int))
theorem xN{n:Nat}{ps:Jc}{i:Nat}(hi:i<n)(hl:(nbL ps i).length<=1000):El [pnt .bor n ps,.int i]=.ok (.lst .own (iL (lU ps i))):=by
 refine av ?_;show E1 [some (pnt .bor n ps),some (.int i)]=_;unfold E1 lU;have be:=jp (ps:=ps) hi;refine a6 ?_ (by simp);have:=iP (env:=bN [1] 1 [some (pnt .bor n ps),some (.int i)]) (g:=tgN 1) (mc:=ax (mOp pLt (ac 1) (ac 0))) (me:=ac 1) (λx=>decide (x <(i:Int))) (λx=>x) (nbL ps i) λx hx=>⟨[some (.int i),some (.int x)],by simp[tgN,aT,bN],by simp,λ_=>by simp⟩
 rw[List.map_id']at this;exact aP (xs:=iL (nbL ps i)) (by simp[ao,bw,bT,be,aw]) (by rw[bG];omega) this
def kj(l:Jf):Nat:=((range (l.length+1)).find? λj:Nat=>!l.contains (j:Int)).getD 0
theorem qe(l:Jf):((kj l:Nat):Int)∉ l/\∀j,j<kj l->(j:Int)∈ l:=by
 have ex:∃j,j<l.length+1/\(j:Int)∉ l:=by
  apply Classical.byContradiction;intro no;have h:=jL (l:=(range (l.length+1)).map λk:Nat=>(k:Int)) (l':=l) (Pairwise.map _ (λa b h e=>h ()) nodup_range) λx hx=>by obtain⟨k,hk,rfl⟩:=mem_map.mp hx;exact Classical.byContradiction λz=>no ⟨k,mem_range.mp hk,z⟩
  simp at h;omega
 unfold kj;cases e:(range (l.length+1)).find? λj:Nat=>!l.contains (j:Int)with
 |none=>exfalso;obtain⟨j,h1,h2⟩:=ex;have:=List.find?_eq_none.mp e j (mem_range.mpr h1);simp at this;exact h2 this
 |some m=>simp only[getD_some];have h1:=List.find?_some e;refine⟨by simpa using h1,λj hj=>?_⟩;have h2:=(List.find?_range_eq_some.mp e).2.2 j hj;simpa using h2
theorem xp{l L':Jf}(h:∀x∈l,x∈L'):kj l<=L'.length:=by
 have:=jL (l:=(range (kj l)).map λk:Nat=>(k:Int)) (l':=L') (Pairwise.map _ (λa b h e=>h ()) nodup_range) λx hx=>by obtain⟨k,hk,rfl⟩:=mem_map.mp hx;exact h _ ((qe l).2 k (mem_range.mp hk))
 simpa using this
def kF(ps:Jc)(cs:Jf)(i:Nat):Int:=kj ((lU ps i).map λo=>gt cs o.toNat)
theorem oM{ps:Jc}{i:Nat}{n:Nat}(rg:∀x∈ps,0<=x.1/\x.1<n/\0<=x.2/\x.2<n/\x.1≠x.2){o:Int}(h:o∈lU ps i):0<=o/\o<n/\o<i/\((o,(i:Int))∈ ps \/((i:Int),o)∈ ps):=by
 obtain⟨h1,h2⟩:=mem_filter.mp h;have h3:=oI.mp h1;simp only[decide_eq_true_eq]at h2;rcases h3 with z|z
 .have:=rg _ z;exact⟨this.1,this.2.1,h2,.inl z⟩
 .have:=rg _ z;exact⟨this.2.2.1,this.2.2.2.1,h2,.inr z⟩
theorem Bp{ps:Jc}{cs:Jf}{i n:Nat}(rg:∀x∈ps,0<=x.1/\x.1<n/\0<=x.2/\x.2<n/\x.1≠x.2)(hi:i<n):0<=kF ps cs i/\kF ps cs i<n:=by
 unfold kF;have:=xp (l:=(lU ps i).map λo=>gt cs o.toNat) (L':=(range i).map λk=>gt cs k) λx hx=>by obtain⟨o,ho,rfl⟩:=mem_map.mp hx;have:=oM rg ho;exact mem_map.mpr ⟨o.toNat,mem_range.mpr (),rfl⟩
 simp at this;omega
theorem yG{ps:Jc}{cs cs':Jf}{i n:Nat}(rg:∀x∈ps,0<=x.1/\x.1<n/\0<=x.2/\x.2<n/\x.1≠x.2)(h:∀j,j<i->gt cs j=gt cs' j):kF ps cs i=kF ps cs' i:=by unfold kF;congr 2;refine List.map_congr_left λo ho=>?_;have:=oM rg ho;exact h _ ()
theorem zU{n:Nat}{ps:Jc}{cs:Jf}{i:Nat}(rg:∀x∈ps,0<=x.1/\x.1<n/\0<=x.2/\x.2<n/\x.1≠x.2){fc:Fl}(hfc:Fc fc)(hl:∀i,(nbL ps i).length<=1000)(hn:cs.length=n)(hi:i<n):yv [pnt .bor n ps,.lst fc (iL cs),.int i]=.ok (.int (kF ps cs i)):=by
 refine av ?_;show zB [some (pnt .bor n ps),some (.lst fc (iL cs)),some (.int i),none,none]=_;unfold zB kF;have ha:=xN (ps:=ps) hi (hl i);have ll:(lU ps i).length<=1000:=Nat.le_trans (length_filter_le _ _) (hl i);refine ah (ar (v:=.lst .own (iL ((lU ps i).map λo=>gt cs o.toNat))) ?_) ?_
 .refine aP (xs:=iL (lU ps i)) (by simp[bQ,ha,aw]) (by rw[bG];omega) (g8 (λo=>gt cs o.toNat) (lU ps i) λo ho=>⟨[some (.lst fc (iL cs)),some (.int o)],by simp[tgN,aT,bN,hfc.bo],?_⟩);have:=oM rg ho;simp[hfc.le,cX (f:=fc) (cs:=cs) (i:=o) this.1 ()]
 simp only[s0_,s1_];have tkl:((lU ps i).map λo=>gt cs o.toNat).length<=1000:=by rw[length_map];exact ll
 generalize(lU ps i).map (λo=>gt cs o.toNat)=tk at *;obtain⟨m1,m2⟩:=qe tk;refine ah (ar (v:=.int 0) (by simp)) ?_;simp only[s0_,s1_];have mb:kj tk<100000:=by have:=xp (l:=tk) (L':=tk) λx hx=>hx;omega
 refine uH (Fin:=λe=>e=[some (pnt .bor n ps),some (.lst fc (iL cs)),some (.int i),some (.lst .own (iL tk)),some (.int (kj tk))]) (λm e=>∃c:Nat,e=[some (pnt .bor n ps),some (.lst fc (iL cs)),some (.int i),some (.lst .own (iL tk)),some (.int c)]/\m=kj tk-c/\c<=kj tk) (kj tk) mb ⟨0,rfl,by omega,by omega⟩ (λm e hP=>?_) λe hF=>?_
 .obtain⟨c,rfl,rfl,hc⟩:=hP;by_cases q:c=kj tk
  .subst q;exact .inl ⟨by simp;exact m1,rfl⟩
  .have:=m2 c ();exact .inr ⟨by simp;exact this,kj tk-(c+1),[some (pnt .bor n ps),some (.lst fc (iL cs)),some (.int i),some (.lst .own (iL tk)),some (.int (c+1:Nat))],by omega,.inl (ar (v:=.int ((c+1:Nat):Int)) (by simp)),c+1,rfl,rfl,by omega⟩
 .subst hF;exact d5 rfl
abbrev lea(fl:Fl)(c:Nat)(n:Nat)(ps:Jc)(os:List (Jj))(st tp:Int):PV:=.obj fl c [3,4,5,6,0,7,8] [.int tp,net .frz n ps,.tup (oL os),.int st,.int n,.int (tp+1),.bl true]
theorem tU{x:Int}(h1:1<=x)(h2:x<=10):uk [.int x]=.ok .non:=by refine eE ⟨[some (.int x)],?_⟩;show zq [some (.int x)]=_;unfold zq;exact bL (by simp[show ¬x<1 by omega,show ¬10<x by omega]) az
theorem rH{n:Nat}{ps:Jc}{os:List (Jj)}{tp:Int}{f gf:Fl}(hg:gf=.bor\/gf=.frz)(hf:f=.bor\/f=.frz)(hn:os.length=n)(ho:OkS tp os):yz [net gf n ps,.lst f (oL os),.int tp]=.ok .non:=by
 have hf1:f.Jp=f:=by rcases hf with rfl|rfl<;>rfl
 have hf2:f.Ju=false:=by rcases hf with rfl|rfl<;>rfl
 have hg1:gf.Jp=gf:=by rcases hg with rfl|rfl<;>rfl
 refine eE ?_;show Ends (zH [some (net gf n ps),some (.lst f (oL os)),some (.int tp),none]);unfold zH;refine gD (bL (by simp[hf1,hg1,p1,cz,aW,ao,bw,hn]) az) ?_;refine oU (λ_ e=>∃x,e=[some (net gf n ps),some (.lst f (oL os)),some (.int tp),x]) (λr=>∃e,r=.next e) (xs:=oL os) (dh (f:=f) (by simp[hf1]) hf2 (by simp) (by simp)) ⟨_,rfl⟩ (λk x e hx hP=>?_) (λe hP=>⟨e,rfl⟩);obtain⟨y,rfl⟩:=hP;simp only[oL,getElem?_map]at hx;obtain⟨o,ho1,rfl⟩:=map_eq_some_iff.mp hx;refine⟨_,cu rfl,.inl ⟨_,.inl (bL ?_ az),_,rfl⟩⟩;cases o with
 |none=>simp[oV,i6,PV.isNon]
 |some s=>have:=ho s (List.mem_of_getElem? ho1);simp[oV,i6,PV.isNon,show ¬s<0 by omega,show ¬tp<=s by omega]
theorem uL{cc n:Nat}{ps:Jc}{os:List (Jj)}{st tp:Int}:gB [.obj .own cc [3,4,5,6] [.int tp,net .frz n ps,.tup (oL os),.int st],.int n,.int (tp+1),.bl true]=.ok (lea .own cc n ps os st tp):=by refine cL (e:=[some (lea .own cc n ps os st tp),some (.int n),some (.int (tp+1)),some (.bl true)]) ?_ rfl;show iR [some (.obj .own cc [3,4,5,6] [.int tp,net .frz n ps,.tup (oL os),.int st]),some (.int n),some (.int (tp+1)),some (.bl true)]=_;unfold iR;refine ah (bP (v:=.int n) (ks:=[3,4,5,6]) (vs:=[.int tp,net .frz n ps,.tup (oL os),.int st]) (by simp) rfl (by simp) rfl (by decide)) ?_;refine ah (bP (v:=.int (tp+1)) (ks:=[3,4,5,6,0]) (vs:=[.int tp,net .frz n ps,.tup (oL os),.int st,.int n]) (by simp) rfl (by simp) rfl (by decide)) ?_;exact bP (v:=.bl true) (ks:=[3,4,5,6,0,7]) (vs:=[.int tp,net .frz n ps,.tup (oL os),.int st,.int n,.int (tp+1)]) (by simp) rfl (by simp) rfl (by decide)
theorem xC{cc n:Nat}{ps:Jc}{os:List (Jj)}{st bk:Int}{f gf:Fl}(hg:gf=.frz\/gf=.own)(hf:f.Jp.Jq=.bor\/f.Jp.Jq=.frz)(h1:1<=st)(h2:st<=10)(h3:1<=bk)(h4:bk<=10)(hn:os.length=n)(ho:OkS (st*bk) os):sE [.obj .own cc [] [],net gf n ps,.lst f (oL os),.int st,.int bk]=.ok (lea .own cc n ps os st (st*bk)):=by
 refine cL (e:=[some (lea .own cc n ps os st (st*bk)),some (net .frz n ps),some (.lst f (oL os)),some (.int st),some (.int bk)]) ?_ rfl;show EQ [some (.obj .own cc [] []),some (net gf n ps),some (.lst f (oL os)),some (.int st),some (.int bk)]=_;unfold EQ;have r1:=tU h1 h2;have r2:=tU h3 h4;have r3:=rH (ps:=ps) (gf:=gf.Jp.Jq) (by rcases hg with rfl|rfl;exact .inr rfl;exact .inl rfl) hf hn ho;have mu:cy (.int st) (.int bk)=.ok (.int (st*bk)):=cM (.inl ⟨by omega,by omega⟩);generalize st*bk=tp at *;refine ah (d9 (v:=.non) (by simp[r1,aw])) ?_;refine ah (d9 (v:=.non) (by simp[r2,aw])) ?_;refine ah (bP (v:=.int tp) (ks:=[]) (vs:=[]) (by simp[mu]) rfl (by simp) rfl (by decide)) ?_;simp only[s0_,s1_];refine ah (d9 (v:=.non) (by simp[ao,bw,r3,aw])) ?_;refine ah (eK (v:=net gf n ps) rfl) ?_;have efz:(net gf n ps).Jx Fl.Jr=net .frz n ps:=by rcases hg with rfl|rfl<;>simp[PV.Jx,Fl.Jr]
 simp only[s0_,s1_,efz];refine ah (bP (v:=net .frz n ps) (ks:=[3]) (vs:=[.int tp]) (by simp) rfl (by simp[PV.Jw,PV.has]) rfl (by decide)) ?_;simp only[s0_,s1_];refine ah (bP (v:=.tup (oL os)) (ks:=[3,4]) (vs:=[.int tp,net .frz n ps]) (by simp[p1,eG,aW]) rfl (by simp[PV.Jw,PV.has]) rfl (by decide)) ?_;simp only[s0_,s1_];refine ah (bP (v:=.int st) (ks:=[3,4,5]) (vs:=[.int tp,net .frz n ps,.tup (oL os)]) (by simp) rfl (by simp) rfl (by decide)) ?_;simp only[s0_,s1_];have:=gI (env:=[some (.obj .own cc [3,4,5,6] [.int tp,net .frz n ps,.tup (oL os),.int st]),some (net .frz n ps),some (.lst f (oL os)),some (.int st),some (.int bk)]) (m:=gB) (ms:=ae (mUn (ao 0) (ac 1)) (ae (mOp aL (mUn (ao 3) (ac 0)) (JA 1)) (ae (mC (.bl true)) am))) (xs:=[.int n,.int (tp+1),.bl true]) rfl (by simp[ao,bw]) (by simp) (by simpa using uL (cc:=cc) (n:=n) (ps:=ps) (os:=os) (st:=st) (tp:=tp)) (by simp[PV.has]);simpa using this
def qj{cc n:Nat}{ps:Jc}{os:List (Jj)}{st bk:Int}{f:Fl}:=xC (cc:=cc) (n:=n) (ps:=ps) (os:=os) (st:=st) (bk:=bk) (f:=f) (.inl rfl)
def tZ(st tp c:Int):Bool:=decide (c≠tp)&&decide ((c+1)%st≠0)
def ib(ps:Jc)(st tp:Int)(cs:Jf)(i:Nat):Jf:=(((nbL ps i).map λo=>gt cs o.toNat).filter (tZ st tp)).map (· + 1)
def fT(ps:Jc)(os:List (Jj))(st tp:Int)(cs:Jf)(i:Nat):Int:=gx (ib ps st tp cs i ++(os.getD i none).toList++[tp])
theorem tK{f:Fl}{l:Jf}(h:l≠[]):dw gx (.lst f (iL l))=.ok (.int (gx l)):=by unfold dw;simp only[aW,eH];rw[if_neg (by simpa using h)]
theorem wU{cc n:Nat}{ps:Jc}{os:List (Jj)}{st tp c:Int}(hs:0<st):vp [lea .bor cc n ps os st tp,.int c]=.ok (.bl (tZ st tp c)):=by
 refine av ?_;show E4 [some (lea .bor cc n ps os st tp),some (.int c)]=_;unfold E4 tZ;refine a6 ?_ (by simp);by_cases h:c=tp
 .simp[ao,bw,h]
 .simp[ao,bw,h,bD hs]
theorem qk{fc:Fl}(hfc:Fc fc){cc n:Nat}{ps:Jc}{os:List (Jj)}{st tp:Int}{cs:Jf}{i:Nat}(hcc:dH cc=some vp)(hnb:∀x∈nbL ps i,0<=x/\x<n)(hl:(nbL ps i).length<=1000)(hs:0<st)(hn:cs.length=n)(ho:os.length=n)(hi:i<n):nR [lea .bor cc n ps os st tp,.lst fc (iL cs),.int i]=.ok (.int (fT ps os st tp cs i)):=by
 refine av ?_;show zJ [some (lea .bor cc n ps os st tp),some (.lst fc (iL cs)),some (.int i),none,none]=_;unfold zJ;have e3:=hfc.bo;have be:=jp (ps:=ps) hi;have l1:((nbL ps i).map λo=>gt cs o.toNat).length<=1000:=by simpa using hl
 refine ah (ar (v:=.lst .own (iL ((nbL ps i).map λo=>gt cs o.toNat))) ?_) ?_
 .refine aP (xs:=iL (nbL ps i)) (by simp[ao,bw,bT,be,aw]) (by rw[bG];omega) (g8 (λo=>gt cs o.toNat) _ λx hx=>⟨[some (.lst fc (iL cs)),some (.int x)],by simp[tgN,aT,bN,e3],?_⟩);obtain⟨h1,h2⟩:=hnb x hx;simp[hfc.le,cX (f:=fc) (cs:=cs) (i:=x) () ()]
 simp only[s0_,s1_];have l2:(ib ps st tp cs i).length<=1000:=by unfold ib;rw[length_map];exact Nat.le_trans (length_filter_le _ _) l1
 refine ah (ar (v:=.lst .own (iL (ib ps st tp cs i))) ?_) ?_
 .unfold ib;exact aP (xs:=iL ((nbL ps i).map λo=>gt cs o.toNat)) (by simp) (by rw[bG];omega) (iP (tZ st tp) (· + 1) _ λx hx=>⟨[some (lea .bor cc n ps os st tp),some (.int x)],by simp[tgN,aT,bN],by simp[hcc,wU hs,aw],λ_=>by simp⟩)
 simp only[s0_,s1_];have hio:i<os.length:=by omega
 have ix:aH (.tup (oL os)) (.int (i:Int))=.ok (oV os[i]):=d8 rfl (by simp[oL,hio]) (by cases os[i]<;>rfl);have eg:os.getD i none=os[i]:=by simp[hio]
 unfold fT;rw[eg];generalize os[i]=o at *;generalize ib ps st tp cs i=of at *;cases o with
 |none=>
  refine ah (bL (by simp[ao,bw,ix,oV,i6,PV.isNon]) az) (a6 ?_);have pl:aL (.lst .lnt (iL of)) (.lst .own [.int tp])=.ok (.lst .own (iL (of++[tp]))):=by rw[gn (by decide) (by decide) (by simp;omega)];simp[iL]
  simp[ao,bw,pl,p1,tK (l:=of++[tp]) (by simp)]
 |some s=>
  refine ah (g_ (by simp[ao,bw,ix,oV,i6,PV.isNon]) (eP (v:=.int s) (xs:=iL of) (by simp[ao,bw,ix,oV]) rfl (by simp) (by rw[bG];omega))) ?_;simp only[s0_,s1_];rw[show iL of++[PV.int s]=iL (of++[s]) by simp[iL]];refine a6 ?_ (by simp);have pl:aL (.lst .lnt (iL (of++[s]))) (.lst .own [.int tp])=.ok (.lst .own (iL (of++[s]++ [tp]))):=by rw[gn (by decide) (by decide) (by simp;omega)];simp[iL]
  have pm:=tK (f:=.own) (l:=of++[s]++ [tp]) (by simp);show _=Res.ok (PV.int (gx (of++[s]++ [tp])));generalize of++[s]=of2 at *;simp[ao,bw,pl,p1];exact pm
def fs(n r:Nat):List (Jj):=(range n).map λi=>if i=r then some 0 else none
theorem Hk{n r:Nat}:oL (fs n r)=(range n).map λi=>oV (if i=r then some 0 else none):=by simp[oL,fs]
theorem qx{f:Fl}{n r:Nat}{ps:Jc}(hf:f=.frz\/f=.own)(n1:1<=n)(n10:n<=10)(hr:r<n):ul [.obj .own 5 [] [],net f n ps,.int r]=.ok (lea .own 5 n ps (fs n r) n n):=by
 refine cL (e:=[some (lea .own 5 n ps (fs n r) n n),some (net .frz n ps),some (.int r),some (.lst .frz (oL (fs n r)))]) ?_ rfl;show zv [some (.obj .own 5 [] []),some (net f n ps),some (.int r),none]=_;unfold zv;refine ah (bL (by simp[ao,bw,show ¬(r:Int)<0 by omega,show ¬(n:Int)<= r by omega]) az) ?_;refine ah (ar (v:=.lst .own (oL (fs n r))) ?_ (by simp[PV.Jw,PV.has]) rfl) ?_
 .refine aP (xs:=dv 0 n) (bR (n:=n) (by simp[ao,bw]) ()) (by rw[bC];omega) ?_;rw[Hk];refine aY (a:=λk:Nat=>PV.int (0+(k:Int))) (f:=λi=>oV (if i=r then some 0 else none)) (range n) λk hk=>⟨[some (.int r),some (.int (0+k))],by simp[tgN,aT,bN],?_,?_,?_⟩
  .by_cases e:k=r
   .simp[e,oV]
   .simp[e,oV,show ¬(k:Int)=r by omega]
  .by_cases e:k=r<;>simp[e,oV,PV.has]
  .by_cases e:k=r<;>simp[e,oV,PV.has]
 simp only[s0_,s1_];refine ah (eK (v:=.lst .own (oL (fs n r))) rfl) ?_;simp only[s0_,s1_];refine ah (eK (v:=net f n ps) rfl) ?_;have efz:(net f n ps).Jx Fl.Jr=net .frz n ps:=by rcases hf with rfl|rfl<;>simp[PV.Jx,Fl.Jr]
 simp only[s0_,s1_,efz];have li:=qj (cc:=5) (n:=n) (ps:=ps) (os:=fs n r) (st:=n) (bk:=1) (f:=.frz) (.inr rfl) () () (by decide) (by decide) (by simp [fs]) (λs hs=>by
  simp only[fs,mem_map,mem_range]at hs;obtain⟨i,_,e⟩:=hs;split at e
  .cases e;omega
  .cases e)
 rw[Int.mul_one]at li;have:=gI (env:=[some (.obj .own 5 [] []),some (net .frz n ps),some (.int r),some (.lst .frz (oL (fs n r)))]) (m:=sE) (ms:=ae (ac 1) (ae (ac 3) (ae (mUn (ao 0) (ac 1)) (ae (JA 1) am)))) (xs:=[net .frz n ps,.lst .frz (oL (fs n r)),.int n,.int 1]) rfl (by simp[ao,bw,Fl.Jp]) (by simp[PV.has]) (by simpa[Fl.Jq]using li) (by simp[PV.has]);simpa[PV.Jx,Fl.Jr]using this
structure OkM(n:Nat)(ms:Jf):Prop where
 ml:ms.length=n
 nd:ms.Nodup
 mr:∀x∈ms,0<=x/\x<=9
def ls(n:Nat)(ms:Jf):List (Jj):=ms.map λx=>some ((9-x)*n)
theorem wY{n:Nat}{ps:Jc}{ms:Jf}(N:OkM n ms)(n10:n<=10):yp [net .frz n ps,.lst .bor (iL ms)]=.ok .non:=by have lu:=N.ml;refine eE ?_;show Ends (zu [some (net .frz n ps),some (.lst .bor (iL ms)),none]);unfold zu;refine gD (bL (by simp[p1,cz,aW,ao,bw,lu,Fl.Jp]) az) ?_;refine gD (bL (by simp[p1,cz,aW,nN (show ms.length<=1000 by omega),qJ N.nd,Fl.Jp]) az) ?_;refine oU (λ_ e=>∃x,e=[some (net .frz n ps),some (.lst .bor (iL ms)),x]) (λr=>∃e,r=.next e) (xs:=iL ms) (dh (f:=.bor) (by simp[Fl.Jp]) rfl (by simp) (by simp)) ⟨_,rfl⟩ (λk x e hx hP=>?_) (λe hP=>⟨e,rfl⟩);obtain⟨y,rfl⟩:=hP;obtain⟨z,hz,rfl⟩:=gY hx;have:=N.mr z (List.mem_of_getElem? hz);refine⟨_,cu rfl,.inl ⟨_,.inl (bL ?_ az),_,rfl⟩⟩;simp[show ¬z<0 by omega,show ¬(9:Int)<z by omega]
theorem ve{n:Nat}{ps:Jc}{ms:Jf}{fm:Fl}(hf:fm=.bor\/fm=.own)(N:OkM n ms)(n1:1<=n)(n10:n<=10):um [.obj .own 6 [] [],net .own n ps,.lst fm (iL ms)]=.ok (lea .own 6 n ps (ls n ms) n (10*n)):=by
 refine cL (e:=[some (lea .own 6 n ps (ls n ms) n (10*n)),some (net .frz n ps),some (.lst fm (iL ms)),some (.lst .frz (oL (ls n ms)))]) ?_ rfl;show zA [some (.obj .own 6 [] []),some (net .own n ps),some (.lst fm (iL ms)),none]=_;unfold zA;have e1:fm.Jp.Jq=.bor:=by rcases hf with rfl|rfl<;>rfl
 have rn:=wY (ps:=ps) N n10;refine ah (eK (v:=net .own n ps) rfl) ?_;have efz:(net .own n ps).Jx Fl.Jr=net .frz n ps:=by simp[PV.Jx,Fl.Jr]
 simp only[s0_,s1_,efz];refine ah (d9 (v:=.non) (by simp[e1,rn,aw,PV.Jx])) ?_;have eL:oL (ls n ms)=iL (ms.map λx=>(9-x)*n):=by simp[oL,ls,iL,oV]
 refine ah (ar (v:=.lst .own (oL (ls n ms))) ?_ (by simp[PV.Jw,PV.has]) rfl) ?_
 .rw[eL];refine aP (xs:=iL ms) (by simp) (by rw[bG,N.ml];omega) (g8 (λx=>(9-x)*n) ms λx hx=>⟨[some (net .frz n ps),some (.int x)],by simp[tgN,aT,bN,PV.Js,Fl.Js,PV.Jx],?_⟩);have m:cy (.int (9-x)) (.int (n:Int))=.ok (.int ((9-x)*n)):=cM (.inr ⟨by omega,by omega⟩);simp[ao,bw,m]
 simp only[s0_,s1_];refine ah (eK (v:=.lst .own (oL (ls n ms))) rfl) ?_;simp only[s0_,s1_];have li:=qj (cc:=6) (n:=n) (ps:=ps) (os:=ls n ms) (st:=n) (bk:=10) (f:=.frz) (.inr rfl) () () (by decide) (by decide) (by simp [ls,N.ml]) (λs hs=>by
  simp only[ls,mem_map]at hs;obtain⟨x,hx,e⟩:=hs;have:=N.mr x hx;cases e;have h1:0 <=(9-x)*(n:Int):=Int.mul_nonneg () ();have h2:(9-x)*(n:Int)<= 9*n:=Int.mul_le_mul_of_nonneg_right () ();omega)
 rw[Int.mul_comm (n:Int) 10]at li;have:=gI (env:=[some (.obj .own 6 [] []),some (net .frz n ps),some (.lst fm (iL ms)),some (.lst .frz (oL (ls n ms)))]) (m:=sE) (ms:=ae (ac 1) (ae (ac 3) (ae (mUn (ao 0) (ac 1)) (ae (JA 10) am)))) (xs:=[net .frz n ps,.lst .frz (oL (ls n ms)),.int n,.int 10]) rfl (by simp[ao,bw,Fl.Jp]) (by simp[PV.has]) (by simpa[Fl.Jq]using li) (by simp[PV.has]);simpa[PV.Jx,Fl.Jr]using this
abbrev gro(fl:Fl)(n:Nat)(ps:Jc)(r:Nat):PV:=.obj fl 7 [9,4,10,0,7,8] [lea fl 5 n ps (fs n r) n n,net .frz n ps,.int r,.int n,.int (((n:Int)+1)*((n:Int)+1)),.bl true]
theorem uM{n:Nat}{ps:Jc}{r:Nat}:gB [.obj .own 7 [9,4,10] [lea .own 5 n ps (fs n r) n n,net .frz n ps,.int r],.int n,.int (((n:Int)+1)*((n:Int)+1)),.bl true]=.ok (gro .own n ps r):=by refine cL (e:=[some (gro .own n ps r),some (.int n),some (.int (((n:Int)+1)*((n:Int)+1))),some (.bl true)]) ?_ rfl;show iR [some (.obj .own 7 [9,4,10] [lea .own 5 n ps (fs n r) n n,net .frz n ps,.int r]),some (.int n),some (.int (((n:Int)+1)*((n:Int)+1))),some (.bl true)]=_;unfold iR;refine ah (bP (v:=.int n) (ks:=[9,4,10]) (vs:=[lea .own 5 n ps (fs n r) n n,net .frz n ps,.int r]) (by simp) rfl (by simp) rfl (by decide)) ?_;refine ah (bP (v:=.int (((n:Int)+1)*((n:Int)+1))) (ks:=[9,4,10,0]) (vs:=[lea .own 5 n ps (fs n r) n n,net .frz n ps,.int r,.int n]) (by simp) rfl (by simp) rfl (by decide)) ?_;exact bP (v:=.bl true) (ks:=[9,4,10,0,7]) (vs:=[lea .own 5 n ps (fs n r) n n,net .frz n ps,.int r,.int n,.int (((n:Int)+1)*((n:Int)+1))]) (by simp) rfl (by simp) rfl (by decide)
theorem xQ{n:Nat}{ps:Jc}{r:Nat}{f:Fl}(hf:f=.frz\/f=.own)(n1:1<=n)(n10:n<=10)(hr:r<n):D_ [.obj .own 7 [] [],net f n ps,.int r]=.ok (gro .own n ps r):=by
 refine cL (e:=[some (gro .own n ps r),some (net .frz n ps),some (.int r)]) ?_ rfl;show EJ [some (.obj .own 7 [] []),some (net f n ps),some (.int r)]=_;unfold EJ;have fi:=qx (f:=.frz) (ps:=ps) (.inl rfl) n1 n10 hr;have mu:cy (.int ((n:Int)+1)) (.int ((n:Int)+1))=.ok (.int (((n:Int)+1)*((n:Int)+1))):=cM (.inl ⟨by omega,by omega⟩);have ri:=uM (n:=n) (ps:=ps) (r:=r);generalize((n:Int)+1)*((n:Int)+1)=sq at mu ri;refine ah (eK (v:=net f n ps) rfl) ?_;have efz:(net f n ps).Jx Fl.Jr=net .frz n ps:=by rcases hf with rfl|rfl<;>simp[PV.Jx,Fl.Jr]
 simp only[s0_,s1_,efz];refine ah (bP (v:=lea .own 5 n ps (fs n r) n n) (ks:=[]) (vs:=[]) (by simp[fi,aw,PV.has,Fl.Jp,Fl.Jq]) rfl (by simp[PV.Jw,PV.has]) rfl (by decide)) ?_;simp only[s0_,s1_];refine ah (bP (v:=net .frz n ps) (ks:=[9]) (vs:=[lea .own 5 n ps (fs n r) n n]) (by simp[PV.Jx,Fl.Jp]) rfl (by simp[PV.Jw,PV.has]) rfl (by decide)) ?_;simp only[s0_,s1_];refine ah (bP (v:=.int r) (ks:=[9,4]) (vs:=[lea .own 5 n ps (fs n r) n n,net .frz n ps]) (by simp) rfl (by simp) rfl (by decide)) ?_;simp only[s0_,s1_];have:=gI (env:=[some (.obj .own 7 [9,4,10] [lea .own 5 n ps (fs n r) n n,net .frz n ps,.int r]),some (net .frz n ps),some (.int r)]) (m:=gB) (ms:=ae (mUn (ao 0) (ac 1)) (ae (mOp cy (mOp aL (mUn (ao 0) (ac 1)) (JA 1)) (mOp aL (mUn (ao 0) (ac 1)) (JA 1))) (ae (mC (.bl true)) am))) (xs:=[.int n,.int sq,.bl true]) rfl (by simp[ao,bw,mu]) (by simp) (by simpa using ri) (by simp[PV.has]);simpa using this
def PT(n:Nat)(cs:Jf):Jc:=cs.map λc=>(c / ((n:Int)+1),c%((n:Int)+1))
def FA(n:Nat)(cs:Jf):Jf:=cs.map (· / ((n:Int)+1))
def CN(n:Nat)(cs:Jf):Jf:=cs.map (· % ((n:Int)+1))
@[simp] theorem IT{n:Nat}{cs:Jf}:(FA n cs).length=cs.length:=by simp[FA]
@[simp] theorem Fd{n:Nat}{cs:Jf}:(CN n cs).length=cs.length:=by simp[CN]
def nea(ps:Jc)(fa:Jf)(i:Nat):Jf:=(nbL ps i).filter λo=>decide (gt fa o.toNat=gt fa i-1)
def eld(ps:Jc)(r:Nat)(fa:Jf)(i:Nat):Jj:=if i=r then none else if(nea ps fa i).isEmpty then none else some (gx (nea ps fa i))
def kq(n:Nat)(ps:Jc)(r:Nat)(cs:Jf)(i:Nat):Jf:=((range n).filter λj=>decide (eld ps r (FA n cs) j=some (i:Int))).map (gt (CN n cs))
def dcn(n:Nat)(ps:Jc)(r:Nat)(cs:Jf)(i:Nat):Int:=min (n:Int) (1+(kq n ps r cs i).sum)
def my(n:Nat)(ps:Jc)(r:Nat)(cs:Jf)(i:Nat):Int:=
 fT ps (fs n r) n n (FA n cs) i*((n:Int)+1)+(if fT ps (fs n r) n n (FA n cs) i=gt (FA n cs) i then dcn n ps r cs i else gt (CN n cs) i)
theorem p5{n:Nat}{ps:Jc}{r:Nat}{cs:Jf}{fc:Fl}(hfc:Fc fc)(n10:n<=10)(hn:cs.length=n):Ea [gro .bor n ps r,.lst fc (iL cs)]=.ok (.lst .own (prL (PT n cs))):=by
 refine av ?_;show EK [some (gro .bor n ps r),some (.lst fc (iL cs))]=_;unfold EK;refine a6 ?_ (by simp[PV.Jw,PV.has]);have e4:fc≠.mod:=by rcases hfc with rfl|rfl<;>decide
 rw[show prL (PT n cs)=cs.map λc=>prV (c / ((n:Int)+1),c%((n:Int)+1)) by simp[prL,PT]];refine aP (xs:=iL cs) (by rcases hfc with rfl|rfl<;>simp) (by rw[bG];omega) (aY (a:=PV.int) (f:=λc=>prV (c / ((n:Int)+1),c%((n:Int)+1))) cs λc _=>⟨[some (gro .bor n ps r),some (.int c)],by simp[tgN,aT,bN,PV.Jx,Fl.Js],?_,by simp,by simp⟩);have np:(0:Int) <(n:Int)+1:=by omega
 simp[ao,bw,bD np,dI np (show(n:Int)+1<1073741824 by omega),prV]
theorem oX{n:Nat}{ps:Jc}{r:Nat}{cs:Jf}{fc:Fl}(hfc:Fc fc)(n10:n<=10)(hn:cs.length=n):yw [gro .bor n ps r,.lst fc (iL cs)]=.ok (.lst .own (iL (FA n cs))):=by refine av ?_;show zF [some (gro .bor n ps r),some (.lst fc (iL cs))]=_;unfold zF;refine a6 ?_ (by simp);have pt:=p5 (ps:=ps) (r:=r) hfc n10 hn;rw[show iL (FA n cs)=(PT n cs).map λx=>PV.int x.1 by simp[iL,FA,PT]];refine aP (xs:=prL (PT n cs)) (by rcases hfc with rfl|rfl<;>simp[e_,pt,aw,PV.has,Fl.Jp,Fl.Jq,PV.Jx]) (by simp[PT];omega) (aY (a:=prV) (f:=λx=>PV.int x.1) (PT n cs) λx _=>⟨[some (prV x)],by simp[tgN,aT,bN,dR],?_,by simp,by simp⟩);simp
theorem kH{n:Nat}{ps:Jc}{r:Nat}{cs:Jf}{fc:Fl}(hfc:Fc fc)(n10:n<=10)(hn:cs.length=n):Ej [gro .bor n ps r,.lst fc (iL cs)]=.ok (.lst .own (iL (CN n cs))):=by refine av ?_;show EW [some (gro .bor n ps r),some (.lst fc (iL cs))]=_;unfold EW;refine a6 ?_ (by simp);have pt:=p5 (ps:=ps) (r:=r) hfc n10 hn;rw[show iL (CN n cs)=(PT n cs).map λx=>PV.int x.2 by simp[iL,CN,PT]];refine aP (xs:=prL (PT n cs)) (by rcases hfc with rfl|rfl<;>simp[e_,pt,aw,PV.has,Fl.Jp,Fl.Jq,PV.Jx]) (by simp[PT];omega) (aY (a:=prV) (f:=λx=>PV.int x.2) (PT n cs) λx _=>⟨[some (prV x)],by simp[tgN,aT,bN,dR],?_,by simp,by simp⟩);simp
theorem AX{f:Fl}{l:Jf}:nK (.lst f (iL l))=.ok (if l.isEmpty then .non else .int (gx l)):=by unfold nK;simp only[aW,eH]
theorem yF{n:Nat}{ps:Jc}{r:Nat}{fa:Jf}{i:Nat}(hnb:∀x∈nbL ps i,0<=x/\x<n)(hl:(nbL ps i).length<=1000)(hn:fa.length=n)(hi:i<n):Eg [gro .bor n ps r,.lst .bor (iL fa),.int i]=.ok (oV (eld ps r fa i)):=by
 refine av ?_;show ET [some (gro .bor n ps r),some (.lst .bor (iL fa)),some (.int i),none]=_;unfold ET eld;by_cases q:i=r
 .rw[if_pos q];exact dN (g_ (by simp[ao,bw,q]) (a6 (by simp[oV]) (by simp[oV])))
 rw[if_neg q];refine ah (bL (by simp[ao,bw,show ¬(i:Int)=r by omega]) az) ?_;have be:=jp (ps:=ps) hi;refine ah (ar (v:=.lst .own (iL (nea ps fa i))) ?_) ?_
 .have hz:nea ps fa i=((nbL ps i).filter λo=>decide (gt fa o.toNat=gt fa i-1)).map id:=by simp[nea]
  rw[hz];refine aP (xs:=iL (nbL ps i)) (by simp[ao,bw,bT,be,aw]) (by rw[bG];omega) (iP (λo=>decide (gt fa o.toNat=gt fa i-1)) id _ λx hx=>⟨[some (.lst .bor (iL fa)),some (.int i),some (.int x)],by simp[tgN,aT,bN,Fl.Js],?_,λ_=>by simp⟩);obtain⟨h1,h2⟩:=hnb x hx;simp[cX (f:=.bor) (cs:=fa) (i:=x) () (),cX (f:=.bor) (cs:=fa) (i:=i) () ()]
 simp only[s0_,s1_];generalize nea ps fa i=l;refine a6 ?_ (by cases l<;>simp[oV]);simp only[Hn,fq,getElem?_cons_zero,getElem?_cons_succ,AC,Res.Jz,PV.Jx,Fl.Jp,iW];rw[AX];cases l<;>simp[oV]
abbrev ELs(n:Nat)(ps:Jc)(r:Nat)(fa:Jf):List (Jj):=(range n).map (eld ps r fa)
theorem vt{n:Nat}{ps:Jc}{r:Nat}{cs:Jf}{fc:Fl}(hfc:Fc fc)(n10:n<=10)(hnb:∀i:Nat,∀x∈nbL ps i,0<=x/\x<n)(hl:∀i:Nat,(nbL ps i).length<=1000)(hn:cs.length=n):Ei [gro .bor n ps r,.lst fc (iL cs)]=.ok (.lst .own (oL (ELs n ps r (FA n cs)))):=by
 refine av ?_;show EV [some (gro .bor n ps r),some (.lst fc (iL cs)),none]=_;unfold EV;have fo:=oX (ps:=ps) (r:=r) hfc n10 hn;refine ah (ar (v:=.lst .own (iL (FA n cs))) (by rcases hfc with rfl|rfl<;>simp[dS,fo,aw,PV.has,Fl.Jp,Fl.Jq,PV.Jx])) ?_;simp only[s0_,s1_];refine a6 ?_ (by simp[PV.Jw,PV.has]);rw[show oL (ELs n ps r (FA n cs))=(range n).map λi=>oV (eld ps r (FA n cs) i) by simp[oL]];refine aP (xs:=dv 0 n) (bR (n:=n) (by simp[ao,bw]) ()) (by rw[bC];omega) (aY (a:=λk:Nat=>PV.int (0+(k:Int))) (f:=λi=>oV (eld ps r (FA n cs) i)) (range n) λk hk=>⟨[some (gro .bor n ps r),some (.lst .bor (iL (FA n cs))),some (.int (0+k))],by simp[tgN,aT,bN,Fl.Js,PV.Jx],?_,?_,?_⟩)
 .have el:=yF (r:=r) (hnb k) (hl k) (show(FA n cs).length=n by simpa using hn) (mem_range.mp hk);simp[iO,el,aw,PV.has,Fl.Jp,Fl.Jq,PV.Jx];cases eld ps r (FA n cs) k<;>simp[oV,PV.has]
 .cases eld ps r (FA n cs) k<;>simp[oV,PV.has]
 .cases eld ps r (FA n cs) k<;>simp[oV,PV.has]
theorem pC(f:Nat->Int)(g:Nat->Jj):∀l:List Nat,ii (iL (l.map f)) (oL (l.map g))=l.map λi=>PV.tup [.int (f i),oV (g i)]
 | []=>rfl
 |i::l=>by have:=pC f g l;simp only[iL,oL,map_cons,ii]at this ⊢;rw[this]
theorem eqO(o:Jj)(i:Int):pEq (oV o) (.int i)=.ok (.bl (decide (o=some i))):=by
 cases o with
 |none=>simp[oV,pEq,PV.data];rfl
 |some s=>simp[oV]
theorem gtR(l:Jf):(range l.length).map (gt l)=l:=by apply ext_getElem (by simp);intro i h1 h2;simp[gt,h2]
theorem sO{n:Nat}{cs:Jf}(hn:cs.length=n):∀i,i<n->0<=gt (CN n cs) i/\gt (CN n cs) i<=n:=λi hi=>by have hm:=dG (far:=CN n cs) (i:=i) (by simpa using hn▸hi);obtain⟨c,_,e⟩:=mem_map.mp hm;rw[<- e];have:=emod_nonneg c (show(n:Int)+1≠0 by omega);have:=emod_lt_of_pos c (show(0:Int) <(n:Int)+1 by omega);omega
theorem lY{n:Nat}{ps:Jc}{r:Nat}{cs:Jf}{i:Nat}(hn:cs.length=n){x:Int}(hx:x∈kq n ps r cs i):0<=x/\x<=n:=by obtain⟨j,hj,rfl⟩:=mem_map.mp hx;exact sO hn j (mem_range.mp (mem_filter.mp hj).1)
theorem xH{n:Nat}{ps:Jc}{r:Nat}{cs:Jf}{i:Nat}:(kq n ps r cs i).length<=n:=by have:=length_filter_le (λj=>decide (eld ps r (FA n cs) j=some (i:Int))) (range n);simpa[kq]using this
theorem yJ{n:Nat}{ps:Jc}{r:Nat}{cs:Jf}{i:Nat}{fc:Fl}(hfc:Fc fc)(n10:n<=10)(hnb:∀i:Nat,∀x∈nbL ps i,0<=x/\x<n)(hl:∀i:Nat,(nbL ps i).length<=1000)(hn:cs.length=n):Em [gro .bor n ps r,.lst fc (iL cs),.int i]=.ok (.int (dcn n ps r cs i)):=by
 refine av ?_;show E2 [some (gro .bor n ps r),some (.lst fc (iL cs)),some (.int i),none]=_;unfold E2;have co:=kH (ps:=ps) (r:=r) hfc n10 hn;have eo:=vt (ps:=ps) (r:=r) hfc n10 hnb hl hn;have zp:ii (iL (CN n cs)) (oL (ELs n ps r (FA n cs)))=(range n).map λj=>PV.tup [.int (gt (CN n cs) j),oV (eld ps r (FA n cs) j)]:=by
  have:=pC (gt (CN n cs)) (eld ps r (FA n cs)) (range n)
  rwa [show(range n).map (gt (CN n cs))=CN n cs by have:=gtR (CN n cs);rw[Fd,hn]at this;exact this]at this
 refine ah (ar (v:=.lst .own (iL (kq n ps r cs i))) ?_) ?_
 .rw[show iL (kq n ps r cs i)=((range n).filter λj=>decide (eld ps r (FA n cs) j=some (i:Int))).map λj=>PV.int (gt (CN n cs) j) by simp[iL,kq]];refine aP (xs:=(range n).map λj=>PV.tup [.int (gt (CN n cs) j),oV (eld ps r (FA n cs) j)]) ?_ (by simp;omega) (b6 (a:=λj=>PV.tup [.int (gt (CN n cs) j),oV (eld ps r (FA n cs) j)]) (f:=λj=>.int (gt (CN n cs) j)) (p:=λj=>decide (eld ps r (FA n cs) j=some (i:Int))) (range n) λj hj=>⟨[some (.int i),some (.int (gt (CN n cs) j)),some (oV (eld ps r (FA n cs) j))],?_,?_,λ_=>⟨by simp,rfl,rfl⟩⟩)
  .unfold jO;rcases hfc with rfl|rfl<;>simp[cN,g7,co,eo,aw,PV.has,Fl.Jp,Fl.Jq,PV.Jx,fk,zp]
  .cases eld ps r (FA n cs) j<;>rfl
  .have ob:∀o:Jj,PV.Jx Fl.Jp (oV o)=oV o:=λo=>by cases o<;>rfl
   simp[ob,eqO]
 simp only[s0_,s1_];have sm:jI (.lst .lnt (iL (kq n ps r cs i)))=.ok (.int (kq n ps r cs i).sum):=k8 (by have:=xH (n:=n) (ps:=ps) (r:=r) (cs:=cs) (i:=i);omega) λx hx=>by have:=lY hn hx;omega
 refine a6 ?_ (by simp);simp[ao,bw,p1,sm,dcn,gN]
theorem Br{n:Nat}{ps:Jc}{r:Nat}{cs:Jf}{i:Nat}{fc:Fl}(hfc:Fc fc)(n1:1<=n)(n10:n<=10)(hnb:∀i:Nat,∀x∈nbL ps i,0<=x/\x<n)(hl:∀i:Nat,(nbL ps i).length<=1000)(hn:cs.length=n)(hi:i<n):yr [gro .bor n ps r,.lst fc (iL cs),.int i]=.ok (.int (my n ps r cs i)):=by
 refine av ?_;show zx [some (gro .bor n ps r),some (.lst fc (iL cs)),some (.int i),none,none,none]=_;unfold zx;have fo:=oX (ps:=ps) (r:=r) hfc n10 hn;have co:=kH (ps:=ps) (r:=r) hfc n10 hn;have dc:=yJ (ps:=ps) (r:=r) (i:=i) hfc n10 hnb hl hn;have fl:(FA n cs).length=n:=by simpa using hn
 have cl:(CN n cs).length=n:=by simpa using hn
 have ld:=qk (.inl rfl) (cc:=5) (os:=fs n r) (st:=n) (tp:=n) (cs:=FA n cs) rfl (hnb i) (hl i) () fl (by simp[fs]) hi;refine ah (ar (v:=.lst .own (iL (FA n cs))) (by rcases hfc with rfl|rfl<;>simp[dS,fo,aw,PV.has,Fl.Jp,Fl.Jq,PV.Jx])) ?_;simp only[s0_,s1_];unfold my;generalize fT ps (fs n r) n n (FA n cs) i=df at *;refine ah (ar (v:=.int df) (by simp[ao,bw,kG,ld,aw,PV.has,Fl.Jp,Fl.Jq,PV.Jx])) ?_;simp only[s0_,s1_];have ic:∀f,aH (.lst f (iL (CN n cs))) (.int (i:Int))=.ok (.int (gt (CN n cs) i)):=λf=>by simpa using cX (f:=f) (cs:=CN n cs) (i:=i) () ()
 have ia:∀f,aH (.lst f (iL (FA n cs))) (.int (i:Int))=.ok (.int (gt (FA n cs) i)):=λf=>by simpa using cX (f:=f) (cs:=FA n cs) (i:=i) () ()
 refine ah (ar (v:=.int (gt (CN n cs) i)) (by rcases hfc with rfl|rfl<;>simp[cN,co,ic,aw,PV.has,Fl.Jp,Fl.Jq,PV.Jx])) ?_;simp only[s0_,s1_];have mu:cy (.int df) (.int ((n:Int)+1))=.ok (.int (df*((n:Int)+1))):=cM (.inr ⟨by omega,by omega⟩);by_cases q:df=gt (FA n cs) i
 .rw[if_pos q];refine ah (g_ (by simp[ia,q]) (ar (v:=.int (dcn n ps r cs i)) (by rcases hfc with rfl|rfl<;>simp[cT,dc,aw,PV.has,Fl.Jp,Fl.Jq,PV.Jx]))) ?_;simp only[s0_,s1_];exact a6 (by simp[ao,bw,mu]) (by simp)
 .rw[if_neg q];refine ah (bL (by simp[ia,q]) az) ?_;exact a6 (by simp[ao,bw,mu]) (by simp)
def dW(at_:Int):Int->Jf->Jf
 |_,[]=>[]
 |k,p::ps=>if p=at_ then k::dW at_ (k+1) ps else dW at_ (k+1) ps
theorem iH{at_:Int}:∀{k:Int}{ps:Jf}{x:Int},x∈dW at_ k ps->k<=x/\x<k+ps.length/\ps[(x-k).toNat]?=some at_
 |_,[],x,h=>by simp[dW]at h
 |k,p::ps,x,h=>by
  have key:x∈dW at_ (k+1) ps->k<=x/\x<k+(p::ps).length/\(p::ps)[(x-k).toNat]?=some at_:=λh=>by obtain⟨h1,h2,h3⟩:=iH h;refine⟨by omega,by simp only[length_cons];omega,?_⟩;rw[show(x-k).toNat=(x-(k+1)).toNat+1 by omega,getElem?_cons_succ];exact h3
  unfold dW at h;split at h
  .rename_i hp
   rcases mem_cons.mp h with rfl|h
   .refine⟨by omega,by simp only[length_cons];omega,by simp[hp]⟩
   .exact key h
  .exact key h
theorem qp{at_:Int}:∀{k:Int}{ps:Jf},(dW at_ k ps).length<=ps.length
 |_,[]=>by simp[dW]
 |k,p::ps=>by have:=qp (at_:=at_) (k:=k+1) (ps:=ps);unfold dW;split<;>simp<;>omega
def i5(cs l:Jf):Int:=(l.map λk=>gt cs k.toNat).sum
def oZ(n:Nat)(ps cs:Jf)(i:Nat):Int:=min (n:Int) (1+i5 cs (dW i 1 ps))
theorem pJ{cs cs':Jf}:∀{l:Jf},(∀k∈l,gt cs k.toNat=gt cs' k.toNat)->i5 cs l=i5 cs' l
 | [],_=>rfl
 |k::l,h=>by have:=pJ (cs:=cs) (cs':=cs') (l:=l) λx hx=>h x (mem_cons_of_mem _ hx);simp only[i5,map_cons,sum_cons]at this ⊢;rw[h k mem_cons_self,this]
theorem pI{cs:Jf}:∀{l:Jf},(∀k∈l,0<=gt cs k.toNat)->0<=i5 cs l
 | [],_=>by simp[i5]
 |k::l,h=>by have:=pI (cs:=cs) (l:=l) λx hx=>h x (mem_cons_of_mem _ hx);have h2:=h k mem_cons_self;simp only[i5,map_cons,sum_cons]at this ⊢;omega
theorem jg(l:Jf)(k:Nat)(h:k<l.length):gt l k=l[k]:=by simp[gt,h]
theorem si:∀{l:Jf},(∀x∈l,0<=x)->∀x∈l,x<=l.sum
 | [],_,x,h=>by simp at h
 |y::l,hp,x,h=>by
  have h1:∀{l:Jf},(∀x∈l,0<=x)->0<=l.sum:=λ{l}=>by
   intro h
   induction l with
   |nil=>simp
   |cons a l ih=>have:=ih λx hx=>h x (mem_cons_of_mem _ hx);have:=h a mem_cons_self;simp;omega
  have h0:=h1 λx hx=>hp x (mem_cons_of_mem y hx);have hy:=hp y mem_cons_self;simp only[sum_cons];rcases mem_cons.mp h with rfl|h
  .omega
  .have:=si (λx hx=>hp x (mem_cons_of_mem y hx)) x h;omega
def Tree(ps:Jf):Prop:=∀i (h:i<ps.length),0<=ps[i]/\ps[i]<= i
structure I_(ps hs:Jf)(j:Nat):Prop where
 len:hs.length=ps.length+1
 eqn:∀i:Nat,i<=ps.length->gt hs i=1+i5 hs (dW i (j+1) (ps.drop j))
 bnd:∀i:Nat,i<=ps.length->1<=gt hs i/\gt hs i<=ps.length+1
 sum:(hs.take (j+1)).sum=ps.length+1
structure I9(ps hs:Jf):Prop where
 len:hs.length=ps.length+1
 eqn:∀i:Nat,i<=ps.length->gt hs i=1+i5 hs (dW i 1 ps)
 bnd:∀i:Nat,i<=ps.length->1<=gt hs i/\gt hs i<=ps.length+1
abbrev cnt(fl:Fl)(ps:Jf):PV:=.obj fl 3 [11,0,7,8] [.tup (iL ps),.int (ps.length+1),.int (ps.length+2),.bl false]
theorem uN{ps:Jf}:gB [.obj .own 3 [11] [.tup (iL ps)],.int (ps.length+1),.int (ps.length+2),.bl false]=.ok (cnt .own ps):=by refine cL (e:=[some (cnt .own ps),some (.int (ps.length+1)),some (.int (ps.length+2)),some (.bl false)]) ?_ rfl;show iR [some (.obj .own 3 [11] [.tup (iL ps)]),some (.int (ps.length+1)),some (.int (ps.length+2)),some (.bl false)]=_;unfold iR;refine ah (bP (v:=.int (ps.length+1)) (ks:=[11]) (vs:=[.tup (iL ps)]) (by simp) rfl (by simp) rfl (by decide)) ?_;refine ah (bP (v:=.int (ps.length+2)) (ks:=[11,0]) (vs:=[.tup (iL ps),.int (ps.length+1)]) (by simp) rfl (by simp) rfl (by decide)) ?_;exact bP (v:=.bl false) (ks:=[11,0,7]) (vs:=[.tup (iL ps),.int (ps.length+1),.int (ps.length+2)]) (by simp) rfl (by simp) rfl (by decide)
theorem vw{ps:Jf}:mw [.obj .own 3 [11] [.tup (iL ps)],.int (ps.length+1),.int (ps.length+2)]=.ok (cnt .own ps):=by refine cL (e:=[some (cnt .own ps),some (.int (ps.length+1)),some (.int (ps.length+2))]) ?_ rfl;show qX [some (.obj .own 3 [11] [.tup (iL ps)]),some (.int (ps.length+1)),some (.int (ps.length+2))]=_;unfold qX;exact gI (xs:=[.int (ps.length+1),.int (ps.length+2),.bl false]) rfl (by simp) (by simp) (by simpa using uN (ps:=ps)) (by simp[PV.has])
theorem Ev{f:Fl}{m:ME}{env:En}{ps:Jf}(h:m env=.ok (.lst f (iL ps)))(hf:f.Ju=false):vb m env=.ok (enP 1 (iL ps)):=by unfold vb;rw[h];simp[hf,fk]
theorem rM{f:Fl}{ps:Jf}(T:Tree ps)(hl:ps.length<=9)(hf:f=.bor\/f=.frz):Ee [.lst f (iL ps)]=.ok .non:=by
 have hf1:f.Jp=f:=by rcases hf with rfl|rfl<;>rfl
 have hf2:f.Ju=false:=by rcases hf with rfl|rfl<;>rfl
 have key:∃e,EO [some (.lst f (iL ps)),none,none]=.next e:=by
  unfold EO;have s1:∀a:MS,mBr (ax (mOp pGt (ap (p1 cz) (ae (ac 0) am)) (JA 9))) a aU [some (.lst f (iL ps)),none,none]=.next [some (.lst f (iL ps)),none,none]:=λa=>bL (by simp[p1,cz,aW];omega) az
  suffices hh:∃e,cF (vb (ac 0)) (tgT 2 (aZ (tgN 1) (aZ (tgN 2) dJ))) (mBr ((gy (ax (mOp pLt (ac 2) (JA 0))) (ax (mOp pGe (ac 2) (ac 1))))) (bA 2 (ae (mC (.str "a parent is no machine of a lower number than its kid")) am)) aU) [some (.lst f (iL ps)),none,none]=.next e by obtain⟨e,h⟩:=hh;exact⟨e,ah (s1 _) h⟩
  refine oU (λ_ e=>∃a b,e=[some (.lst f (iL ps)),a,b]) (λr=>∃e,r=.next e) (xs:=enP 1 (iL ps)) (Ev (f:=f) (by simp[hf1]) hf2) ⟨_,_,rfl⟩ (λk x e hx hP=>?_) (λe hP=>⟨e,rfl⟩);obtain⟨a,b,rfl⟩:=hP;rw[fY]at hx;obtain⟨y,hy,rfl⟩:=map_eq_some_iff.mp hx;obtain⟨v,hv,rfl⟩:=gY hy;obtain⟨hk,ev⟩:=List.getElem?_eq_some_iff.mp hv;have:=T k hk;rw[ev]at this;refine⟨[some (.lst f (iL ps)),some (.int (1+k)),some (.int v)],rfl,.inl ⟨_,.inl (bL ?_ az),_,_,rfl⟩⟩;simp[show ¬v<0 by omega,show ¬1+(k:Int)<= v by omega]
 obtain⟨e,h⟩:=key;exact eE ⟨e,h⟩
theorem yM{f:Fl}{ps:Jf}(T:Tree ps)(hl:ps.length<=9)(hf:f.Jp.Jq=.bor\/f.Jp.Jq=.frz):Ed [.obj .own 3 [] [],.lst f (iL ps)]=.ok (cnt .own ps):=by refine cL (e:=[some (cnt .own ps),some (.lst f (iL ps))]) ?_ rfl;show EM [some (.obj .own 3 [] []),some (.lst f (iL ps))]=_;unfold EM;have rf:=rM T hl hf;refine ah (d9 (v:=.non) (by simp[rf,aw])) ?_;refine ah (bP (v:=.tup (iL ps)) (ks:=[]) (vs:=[]) (by simp[p1,eG,aW]) rfl (by simp[PV.Jw,PV.has]) rfl (by decide)) ?_;have:=gI (env:=[some (.obj .own 3 [11] [.tup (iL ps)]),some (.lst f (iL ps))]) (m:=mw) (ms:=ae (mOp aL (ap (p1 cz) (ae (ac 1) am)) (JA 1)) (ae (mOp aL (ap (p1 cz) (ae (ac 1) am)) (JA 2)) am)) (xs:=[.int (ps.length+1),.int (ps.length+2)]) rfl (by simp[p1,cz,aW]) (by simp) (by simpa using vw (ps:=ps)) (by simp[PV.has]);exact this
theorem qM{env:En}{g:TgM}{mc:MT}{me:ME}{at_:Int}:∀(ps:Jf) (k:Int),(∀j v:Int,v∈ps->∃e1,g (.tup [.int j,.int v]) env=some e1/\mc e1=.ok (decide (v=at_))/\me e1=.ok (.int j))->d_ g mc me env (enP k (iL ps))=.ok (iL (dW at_ k ps))
 | [],_,_=>rfl
 |p::ps,k,h=>by
  obtain⟨e1,h1,h2,h3⟩:=h k p mem_cons_self;have ih:=qM (at_:=at_) ps (k+1) λj v hv=>h j v (mem_cons_of_mem _ hv);simp only[gA,enP,d_];have b:(PV.tup [.int k,.int p]).Js=.tup [.int k,.int p]:=by simp[PV.Js]
  rw[b,h1];simp only[h2,Res.Jz];unfold dW;by_cases hc:p=at_
  .simp[hc,h3,ih]
  .simp[hc,ih]
theorem vj{ps:Jf}{i:Int}(hl:ps.length<=1000):Eo [cnt .bor ps,.int i]=.ok (.lst .own (iL (dW i 1 ps))):=by refine av ?_;show E3 [some (cnt .bor ps),some (.int i)]=_;unfold E3;refine a6 (aP (xs:=enP 1 (iL ps)) ?_ (by rw[iZ,bG];omega) (qM ps 1 λj v _=>⟨[some (.int i),some (.int j),some (.int v)],by simp[tgT,aZ,tgN,dJ,aT,bN],by simp,by simp⟩)) (by simp);unfold A0;simp[ao,bw,aW]
def Sm(cs:Jf):Prop:=∀c∈cs,0<=c/\c<=1000
theorem Bz{ps cs:Jf}{i:Nat}{fc:Fl}(hfc:Fc fc)(hl:ps.length<=9)(hs:Sm cs)(hn:cs.length=ps.length+1):yt [cnt .bor ps,.lst fc (iL cs),.int i]=.ok (.int (oZ (ps.length+1) ps cs i)):=by
 refine av ?_;show zy [some (cnt .bor ps),some (.lst fc (iL cs)),some (.int i)]=_;unfold zy oZ i5;have ho:=vj (ps:=ps) (i:=(i:Int)) ();have kl:=qp (at_:=(i:Int)) (k:=1) (ps:=ps);have hc:aM [1] 1 (bu (bU bQ (ac 0) (ae (ac 2) am))) (tgN 1) bp (mOp aH (ac 0) (ac 1)) [some (cnt .bor ps),some (.lst fc (iL cs)),some (.int i)]=.ok (.lst .own (iL ((dW i 1 ps).map λk=>gt cs k.toNat))):=by refine aP (xs:=iL (dW i 1 ps)) (by simp[bQ,ho,aw]) (by rw[bG];omega) (g8 (λk=>gt cs k.toNat) _ λx hx=>⟨[some (.lst fc (iL cs)),some (.int x)],by simp[tgN,aT,bN,hfc.bo],?_⟩);obtain⟨h1,h2,_⟩:=iH hx;simp[hfc.le,cX (f:=fc) (cs:=cs) (i:=x) () ()]
 have sm:jI (.lst .own (iL ((dW i 1 ps).map λk=>gt cs k.toNat)))=.ok (.int ((dW i 1 ps).map λk=>gt cs k.toNat).sum):=k8 (by simp;omega) λx hx=>by obtain⟨k,hk,rfl⟩:=mem_map.mp hx;obtain⟨h1,h2,_⟩:=iH hk;have:=hs _ (dG (far:=cs) (i:=k.toNat) ());omega
 refine a6 ?_ (by simp);simp only[fX,eS,f_,gC,hc];simp[ao,bw,p1,sm,gN]
def InS(sp:Int)(cs:Jf):Prop:=∀c∈cs,0<=c/\c<sp
structure Rl(o:PV)(n:Nat)(sp:Int)(al ip:Bool)(D:Jf->Nat->Int):Prop where
 le:o.Jx Fl.Jp=o
 tb:o.Jx Fl.Jq=o
 bo:o.Jx Fl.Js=o
 a0:ao 0 o=.ok (.int n)
 a7:ao 7 o=.ok (.int sp)
 a8:ao 8 o=.ok (.bl al)
 s0:0<sp
 n1:1<=n
 n20:n<=20
 due:∀fc cs k,Fc fc->cs.length=n->InS sp cs->k<n->gp aF (.ok [.lst fc (iL cs),.int k]) o=.ok (.int (D cs k))/\0<=D cs k/\D cs k<sp
 mv:∀r,gp au r o=r.bind λxs=>aB h8 (o::xs)
 tu:∀r,gp aJ r o=r.bind λxs=>aB hZ (o::xs)
 ca:∀r,gp ay r o=r.bind λxs=>aB (if ip then uo else iM) (o::xs)
def mvR(n:Nat)(D:Jf->Nat->Int)(cs:Jf):Jf:=((range n).filter λi=>decide (D cs i≠gt cs i)).map λi:Nat=>(i:Int)
def stR(n:Nat)(D:Jf->Nat->Int)(cs nm:Jf):Jf:=(range n).map λi:Nat=>if nm.contains (i:Int)then D cs i else gt cs i
def uA(n:Nat)(al:Bool)(nm:Jf):Prop:=nm.Nodup/\(∀x∈nm,0<=x/\x<n)/\(al=true->nm.length<=1)/\nm.length<=1000
def caR(n:Nat)(ip:Bool)(D:Jf->Nat->Int)(cs:Jf):Bool:=decide ((mvR n D cs).length=if ip then 1 else 0)
section
variable{o:PV}{n:Nat}{sp:Int}{al ip:Bool}{D:Jf->Nat->Int}{cs nm:Jf}{f fn:Fl}
theorem vU(r:Rl o n sp al ip D)(hn:cs.length=n)(hc:InS sp cs)(nm:Jf):(stR n D cs nm).length=n/\InS sp (stR n D cs nm):=by
 refine⟨by simp[stR],λc hc'=>?_⟩;unfold stR at hc';obtain⟨i,hi,rfl⟩:=mem_map.mp hc';have hi:=mem_range.mp hi;split
 .exact(r.due .bor cs i (.inl rfl) hn hc hi).2
 .exact hc _ (dG ())
theorem iV:(mvR n D cs).length<=n:=by
 unfold mvR;rw[length_map];have:=length_filter_le (λi=>decide (D cs i≠gt cs i)) (range n)
 rwa [length_range]at this
theorem gu(r:Rl o n sp al ip D)(hf:Fc f\/f=.own)(hn:cs.length=n)(hc:InS sp cs):h8 [o,.lst f (iL cs)]=.ok (.lst .own (iL (mvR n D cs))):=by
 have n20:=r.n20;have fb:=Fc.of hf;refine av ?_;show zn [some o,some (.lst f (iL cs))]=_;unfold zn mvR;refine a6 ?_ (by simp);refine aP (xs:=dv 0 n) (bR (n:=n) (by simp[r.le,r.a0]) ()) (by rw[bC];omega) (jk (λk=>decide (D cs k≠gt cs k)) (λk=>(k:Int)) n λk hk=>⟨[some o,some (.lst f.Js (iL cs)),some (.int (0+k))],by simp[tgN,aT,bN,PV.Js,r.bo],?_,λ_=>by simp⟩);generalize f.Js=fc at *;have gk:aH (.lst fc (iL cs)) (.int (k:Int))=.ok (.int (gt cs k)):=by simpa using cX (f:=fc) (cs:=cs) (i:=k) () ()
 simp[r.le,fb.le,(r.due fc cs k fb hn hc hk).1,gk]
theorem o8(r:Rl o n sp al ip D)(hf:Fc f\/f=.own)(hn:cs.length=n)(hc:InS sp cs):gp ay (.ok [.lst f (iL cs)]) o=.ok (.bl (caR n ip D cs)):=by
 have e:∀f',Fc f'\/f'=.own->(if ip then uo else iM) [o,.lst f' (iL cs)]=.ok (.bl (caR n ip D cs)):=λf' hf=>by
  have fb:Fc f'.Jp.Jq:=by
   rcases hf with(rfl|rfl)|rfl
   .exact .inl rfl
   .exact .inr rfl
   .exact .inl rfl
  have mo:=gu r (.inl fb) hn hc;cases ip with
  |false=>refine av ?_;show za [some o,some (.lst f' (iL cs))]=_;unfold za caR;exact a6 (by simp[r.le,r.tb,r.mv,mo,aw]) (by simp)
  |true=>
   refine av ?_;show zE [some o,some (.lst f' (iL cs))]=_;unfold zE caR;have e1:((mvR n D cs).length:Int)=1 ↔(mvR n D cs).length=1:=by omega
   exact a6 (by simp[r.le,r.tb,r.mv,mo,aw,e1]) (by simp)
 have hf2:Fc f.Jq\/f.Jq=.own:=by
  rcases hf with(rfl|rfl)|rfl
  .exact .inl (.inl rfl)
  .exact .inl (.inr rfl)
  .exact .inr rfl
 simp[r.ca,r.tb,e _ hf2,aw]
theorem uP(r:Rl o n sp al ip D)(hf:Fc fn)(hg:uA n al nm):ym [o,.lst fn (iL nm)]=.ok .non:=by
 obtain⟨hd,hr,ha,hl⟩:=hg;refine eE ?_;show Ends (zm [some o,some (.lst fn (iL nm)),none]);unfold zm;refine gD (bL ?_ az) ?_
 .cases al with
  |false=>simp[r.le,r.a8]
  |true=>have:=ha rfl;simp[r.le,r.a8];omega
 refine yE (λ_ e=>∃x,e=[some o,some (.lst fn (iL nm)),x]) (xs:=iL nm) (dh (f:=fn) (by simp[hf.le]) hf.nl (by simp) (by simp)) ⟨_,rfl⟩ (λk x e hx hP=>?_) (λe hP=>?_)
 .obtain⟨y,rfl⟩:=hP;obtain⟨m,hm,rfl⟩:=gY hx;obtain⟨h1,h2⟩:=hr m (List.mem_of_getElem? hm);refine⟨_,cu rfl,a9 (bL ?_ az) ⟨_,rfl⟩⟩;simp[r.le,r.a0,show ¬m<0 by omega,show ¬(n:Int)<= m by omega]
 .obtain⟨y,rfl⟩:=hP;exact kE (bL (by simp[nN hl,qJ hd]) az)
theorem Fc.call{f:Fl}(h:Fc f\/f=.own):Fc f.Jp.Jq:=by
 rcases h with(rfl|rfl)|rfl
 .exact .inl rfl
 .exact .inr rfl
 .exact .inl rfl
theorem uB(r:Rl o n sp al ip D)(hf:Fc f\/f=.own)(hfn:Fc fn\/fn=.own)(hn:cs.length=n)(hc:InS sp cs)(hg:uA n al nm):hZ [o,.lst f (iL cs),.lst fn (iL nm)]=.ok (.lst .own (iL (stR n D cs nm))):=by
 have n20:=r.n20;have fb:=Fc.of hf;refine av ?_;show zk [some o,some (.lst f (iL cs)),some (.lst fn (iL nm))]=_;unfold zk stR;refine ah (d9 (v:=.non) (by simp[r.le,r.tb,uP r (Fc.call hfn) hg,aw])) (a6 ?_);refine aP (xs:=dv 0 n) (bR (n:=n) (by simp[r.le,r.a0]) ()) (by rw[bC];omega) (kI 0 (λi:Nat=>if nm.contains (i:Int)then D cs i else gt cs i) n λk hk=>⟨[some (.lst fn.Js (iL nm)),some o,some (.lst f.Js (iL cs)),some (.int (0+k))],by simp[tgN,aT,bN,PV.Js,r.bo],?_⟩);generalize f.Js=fc at *;have gk:∀f,aH (.lst f (iL cs)) (.int (k:Int))=.ok (.int (gt cs k)):=λf=>by simpa using cX (f:=f) (cs:=cs) (i:=k) () ()
 have dk:=(r.due fc cs k fb hn hc hk).1;by_cases q:nm.contains (k:Int)=true
 .simp only[q,if_true];simp at q;simp[q,r.le,fb.le,dk,aw]
 .simp only[q];simp at q;simp[q,gk]
end
abbrev h_(f:Fl)(size span:Int):PV:=.obj f 9 [0,7,8] [.int size,.int span,.bl false]
theorem wv{size span:Int}(h1:2<=size)(h2:size<=20)(h3:size<=span):Bf [.obj .own 9 [] [],.int size,.int span]=.ok (h_ .own size span):=by
 refine cL (e:=[some (h_ .own size span),some (.int size),some (.int span)]) ?_ rfl;show EI [some (.obj .own 9 [] []),some (.int size),some (.int span)]=_;unfold EI;refine ah (bL (by simp[show ¬size<2 by omega,show ¬20<size by omega]) az) ?_;refine ah (bL (by simp[show ¬span<size by omega]) az) ?_;have ri:gB [.obj .own 9 [] [],.int size,.int span,.bl false]=.ok (h_ .own size span):=by refine cL (e:=[some (h_ .own size span),some (.int size),some (.int span),some (.bl false)]) ?_ rfl;show iR [some (.obj .own 9 [] []),some (.int size),some (.int span),some (.bl false)]=_;unfold iR;refine ah (bP (v:=.int size) (ks:=[]) (vs:=[]) (by simp) rfl (by simp) rfl (by decide)) ?_;refine ah (bP (v:=.int span) (ks:=[0]) (vs:=[.int size]) (by simp) rfl (by simp) rfl (by decide)) ?_;exact bP (v:=.bl false) (ks:=[0,7]) (vs:=[.int size,.int span]) (by simp) rfl (by simp) rfl (by decide)
 have:=gI (env:=[some (.obj .own 9 [] []),some (.int size),some (.int span)]) (m:=gB) (ms:=ae (ac 1) (ae (ac 2) (ae (mC (.bl false)) am))) (xs:=[.int size,.int span,.bl false]) rfl (by simp) (by simp) (by simpa using ri) (by simp[PV.has]);simpa using this
def cq(sp:Int)(cs:Jf)(i:Nat):Int:=if i=0 then(if gt cs 0=gt cs (cs.length-1)then(gt cs 0+1)%sp else gt cs 0)else gt cs (i-1)
theorem AB{n:Nat}{sp:Int}{cs:Jf}{i:Nat}{fc:Fl}(hfc:Fc fc)(hn:cs.length=n)(hi:i<n)(hs:0<sp):yq [h_ .bor n sp,.lst fc (iL cs),.int i]=.ok (.int (cq sp cs i)):=by
 refine av ?_;show zw [some (h_ .bor n sp),some (.lst fc (iL cs)),some (.int i)]=_;unfold zw cq;by_cases h0:i=0
 .subst h0;rw[if_pos rfl];have g0:aH (.lst fc (iL cs)) (.int 0)=.ok (.int (gt cs 0)):=cX () ();have gl:aH (.lst fc (iL cs)) (.int ((n:Int)-1))=.ok (.int (gt cs (cs.length-1))):=by rw[cX () ()];congr 3;omega
  refine ah (bL (by simp) az) ?_;by_cases hc:gt cs 0=gt cs (cs.length-1)
  .rw[if_pos hc];exact dN (g_ (by simp[ao,bw,hfc.le,g0,gl,<- hc]) (a6 (by simp[ao,bw,hfc.le,g0,bD hs])))
  .rw[if_neg hc];exact ah (bL (by simp[ao,bw,hfc.le,g0,gl,hc]) az) (a6 (by simp[hfc.le,g0]))
 .rw[if_neg h0];have gl:aH (.lst fc (iL cs)) (.int ((i:Int)-1))=.ok (.int (gt cs (i-1))):=by rw[cX () ()];congr 3;omega
  exact dN (g_ (by simp;omega) (a6 (by simp[hfc.le,gl])))
theorem Bq{n:Nat}{sp:Int}{cs:Jf}{i:Nat}(hn:cs.length=n)(hc:InS sp cs)(hi:i<n)(hs:0<sp):0<=cq sp cs i/\cq sp cs i<sp:=by
 unfold cq;split
 .split
  .exact⟨emod_nonneg _ (),emod_lt_of_pos _ hs⟩
  .exact hc _ (dG ())
 .exact hc _ (dG ())
theorem tz{n:Nat}{sp:Int}(h1:1<=n)(h20:n<=20)(hs:0<sp):Rl (h_ .bor n sp) n sp false true (cq sp) where
 le:=by simp
 tb:=by simp
 bo:=by simp
 a0:=by simp[ao,bw]
 a7:=by simp[ao,bw]
 a8:=by simp[ao,bw]
 s0:=hs
 n1:=h1
 n20:=h20
 due:=λfc cs k hfc hn hc hk=>⟨by simp[aF,hfc.tb,AB hfc hn hk hs,aw],Bq hn hc hk hs⟩
 mv:=λr=>by simp[au]
 tu:=λr=>by simp[aJ]
 ca:=λr=>by simp[ay]
theorem pT{n:Nat}{ps:Jc}(h1:1<=n)(h20:n<=20)(rg:∀x∈ps,0<=x.1/\x.1<n/\0<=x.2/\x.2<n/\x.1≠x.2)(hl:∀i,(nbL ps i).length<=1000):Rl (pnt .bor n ps) n n false false (kF ps) where
 le:=by simp
 tb:=by simp
 bo:=by simp
 a0:=by simp[ao,bw]
 a7:=by simp[ao,bw]
 a8:=by simp[ao,bw]
 s0:=by omega
 n1:=h1
 n20:=h20
 due:=λfc cs k hfc hn hc hk=>⟨by simp[aF,hfc.tb,zU rg hfc hl hn hk,aw],Bp rg hk⟩
 mv:=λr=>by simp[au]
 tu:=λr=>by simp[aJ]
 ca:=λr=>by simp[ay]
theorem pU{ps:Jf}(hl:ps.length<=9):Rl (cnt .bor ps) (ps.length+1) ((ps.length:Int)+2) false false (oZ (ps.length+1) ps) where
 le:=by simp
 tb:=by simp
 bo:=by simp
 a0:=by simp[ao,bw]
 a7:=by simp[ao,bw]
 a8:=by simp[ao,bw]
 s0:=by omega
 n1:=by omega
 n20:=by omega
 due:=λfc cs k hfc hn hc hk=>by
  have sm:Sm cs:=λc hc'=>by have:=hc c hc';omega
  refine⟨by simp[aF,hfc.tb,Bz (i:=k) hfc hl sm hn,aw],?_⟩;have nn:=pI (cs:=cs) (l:=dW k 1 ps) λj hj=>by obtain⟨h1,h2,_⟩:=iH hj;exact(hc _ (dG (far:=cs) (i:=j.toNat) ())).1
  unfold oZ;omega
 mv:=λr=>by simp[au]
 tu:=λr=>by simp[aJ]
 ca:=λr=>by simp[ay]
theorem oY{n:Nat}{ps:Jc}{os:List (Jj)}{st tp:Int}{cs:Jf}{i:Nat}(ht:0<=tp)(ho:OkS tp os)(hn:cs.length=n)(hnb:∀x∈nbL ps i,0<=x/\x<n)(hc:∀c∈cs,0<=c):0<=fT ps os st tp cs i/\fT ps os st tp cs i<=tp:=by
 unfold fT;obtain⟨m1,m2⟩:=gw (l:=ib ps st tp cs i ++(os.getD i none).toList++[tp]) (by simp);have h2:=m2 tp (by simp);generalize gx (ib ps st tp cs i ++(os.getD i none).toList++[tp])=M at *;refine⟨?_,h2⟩;rcases mem_append.mp m1 with q|q
 .rcases mem_append.mp q with q|q
  .unfold ib at q;obtain⟨c,hc1,rfl⟩:=mem_map.mp q;obtain⟨o,ho1,rfl⟩:=mem_map.mp (mem_filter.mp hc1).1;have:=hnb o ho1;have:=hc _ (dG (far:=cs) (i:=o.toNat) ());omega
  .have e:os.getD i none=some M:=by
    cases eo:os.getD i none with
    |none=>rw[eo]at q;cases q
    |some s=>rw[eo]at q;exact congrArg some (mem_singleton.mp q).symm
   have hm:some M∈os:=by
    rw[getD_eq_getElem?_getD]at e;cases e2:os[i]? with
    |none=>rw[e2]at e;cases e
    |some x=>rw[e2]at e;rw[<- show x=some M from e];exact List.mem_of_getElem? e2
   exact(ho M hm).1
 .have:=mem_singleton.mp q;omega
theorem iu{cc n:Nat}{ps:Jc}{os:List (Jj)}{st tp:Int}(hcc:cc=4\/cc=5\/cc=6)(h1:1<=n)(h20:n<=20)(hst:0<st)(ht:0<=tp)(ho:OkS tp os)(hol:os.length=n)(hnb:∀i:Nat,∀x∈nbL ps i,0<=x/\x<n)(hl:∀i,(nbL ps i).length<=1000):Rl (lea .bor cc n ps os st tp) n (tp+1) true false (fT ps os st tp) where
 le:=by simp
 tb:=by simp
 bo:=by simp
 a0:=by simp[ao,bw]
 a7:=by simp[ao,bw]
 a8:=by simp[ao,bw]
 s0:=by omega
 n1:=h1
 n20:=h20
 due:=λfc cs k hfc hn hc hk=>by have d:=qk (cc:=cc) (ps:=ps) (os:=os) (st:=st) (tp:=tp) (cs:=cs) (i:=k) hfc (by rcases hcc with rfl|rfl|rfl<;>rfl) (hnb k) (hl k) hst hn hol hk;have b:=oY (st:=st) (i:=k) ht ho hn (hnb k) λc hc'=>(hc c hc').1;refine⟨?_,b.1,by omega⟩;rcases hcc with rfl|rfl|rfl<;>simp[aF,hfc.tb,d,aw]
 mv:=λr=>by rcases hcc with rfl|rfl|rfl<;>simp[au]
 tu:=λr=>by rcases hcc with rfl|rfl|rfl<;>simp[aJ]
 ca:=λr=>by rcases hcc with rfl|rfl|rfl<;>simp[ay]
theorem l_{n r:Nat}(h:1<=n):OkS n (fs n r):=λs hs=>by
 simp only[fs,mem_map,mem_range]at hs;obtain⟨i,_,e⟩:=hs;split at e
 .cases e;omega
 .cases e
theorem Bs{n r:Nat}{ps:Jc}{cs:Jf}{i:Nat}(h1:1<=n)(hn:cs.length=n)(hi:i<n)(hnb:∀i:Nat,∀x∈nbL ps i,0<=x/\x<n)(hc:InS (((n:Int)+1)*((n:Int)+1)) cs):0<=my n ps r cs i/\my n ps r cs i <((n:Int)+1)*((n:Int)+1):=by
 have hfa:∀c∈FA n cs,0<=c:=λc hc'=>by obtain⟨x,hx,rfl⟩:=mem_map.mp hc';exact Int.ediv_nonneg (hc x hx).1 ()
 obtain⟨b1,b2⟩:=oY (ps:=ps) (os:=fs n r) (st:=n) (tp:=n) (cs:=FA n cs) (i:=i) () (l_ h1) (show(FA n cs).length=n by simpa using hn) (hnb i) hfa;have c1:=sO hn i hi;have sn:0 <=(kq n ps r cs i).sum:=by
  have:∀l:Jf,(∀x∈l,0<=x)->0<=l.sum:=λl=>by
   induction l with
   |nil=>simp
   |cons a l ih=>intro h;have:=ih λx hx=>h x (mem_cons_of_mem _ hx);have:=h a mem_cons_self;simp;omega
  exact this _ λx hx=>(lY hn hx).1
 unfold my dcn;generalize fT ps (fs n r) n n (FA n cs) i=d at *;have m1:0<=d*((n:Int)+1):=Int.mul_nonneg b1 ();have m2:d*((n:Int)+1)<= n*((n:Int)+1):=Int.mul_le_mul_of_nonneg_right b2 ();have m3:((n:Int)+1)*((n:Int)+1)=n*((n:Int)+1)+((n:Int)+1):=by rw[Int.add_mul,Int.one_mul]
 split<;>omega
theorem Ak{n r:Nat}{ps:Jc}(h1:1<=n)(h10:n<=10)(hnb:∀i:Nat,∀x∈nbL ps i,0<=x/\x<n)(hl:∀i:Nat,(nbL ps i).length<=1000):Rl (gro .bor n ps r) n (((n:Int)+1)*((n:Int)+1)) true false (my n ps r) where
 le:=by simp
 tb:=by simp
 bo:=by simp
 a0:=by simp[ao,bw]
 a7:=by simp[ao,bw]
 a8:=by simp[ao,bw]
 s0:=Int.mul_pos () ()
 n1:=h1
 n20:=by omega
 due:=λfc cs k hfc hn hc hk=>⟨by simp[aF,hfc.tb,Br (r:=r) hfc h1 h10 hnb hl hn hk,aw],Bs h1 hn hk hnb hc⟩
 mv:=λr=>by simp[au]
 tu:=λr=>by simp[aJ]
 ca:=λr=>by simp[ay]
structure Ms(o:PV)(n:Nat)(sp:Int)(al ip:Bool)(D:Jf->Nat->Int)(M:Jf->Int):Prop where
 me:∀f cs,Fc f\/f=.own->cs.length=n->InS sp cs->gp aD (.ok [.lst f (iL cs)]) o=.ok (.int (M cs))
 fa:∀cs nm,cs.length=n->InS sp cs->uA n al nm->caR n ip D cs=false->stR n D cs nm≠cs->M (stR n D cs nm)<M cs
 mv:∀cs,cs.length=n->InS sp cs->caR n ip D cs=false->mvR n D cs≠[]
theorem Fc.tb2{f:Fl}(h:Fc f\/f=.own):Fc f.Jq\/f.Jq=.own:=by
 rcases h with(rfl|rfl)|rfl
 .exact .inl (.inl rfl)
 .exact .inl (.inr rfl)
 .exact .inr rfl
theorem ux{n:Nat}{D:Jf->Nat->Int}{cs:Jf}(h:caR n false D cs=false):mvR n D cs≠[]:=λe=>by simp[caR,e]at h
theorem fG{e:Nat}{b:Int}(h1:0<b)(h2:b<=1000)(he:e<=1000):kW [.int b,.int e]=.ok (.int (b ^ e)):=by
 refine av ?_;show yS [some (.int b),some (.int e),none,none]=_;unfold yS;refine ah (ar (v:=.int 1) (by simp)) ?_;simp only[s0_,s1_];refine cH (λk en=>∃x,en=[some (.int b),some (.int e),some (.int (b ^ k)),x]) (bR (n:=e) (by simp) ()) ⟨none,by simp⟩ (λk x en hx hP=>?_) (λen hP=>?_)
 .obtain⟨y,rfl⟩:=hP;obtain⟨hk,rfl⟩:=cQ hx;have m1:cy (.int (b ^ k)) (.int b)=.ok (.int (b ^ k*b)):=cM (.inr ⟨by omega,by omega⟩);exact⟨_,cu rfl,a9 (ar (v:=.int (b ^ (k+1))) (by simp[m1,Int.pow_succ])) ⟨_,rfl⟩⟩
 .obtain⟨y,rfl⟩:=hP;rw[bC];exact d5 rfl
theorem q_{n:Nat}(h:n<=10):(0:Int)<2 ^ n/\(2:Int) ^ n<=1024:=by
 refine⟨Int.pow_pos (by decide),?_⟩;rcases Nat.lt_or_ge n 10 with q|q
 .exact Int.le_of_lt (Int.pow_lt_pow_of_lt (c:=10) (by decide) q)
 .rw[show n=10 by omega];decide
section
variable{n:Nat}{D:Jf->Nat->Int}{cs nm:Jf}{i:Nat}
theorem gJ(hi:i<n):gt (stR n D cs nm) i=if nm.contains (i:Int)then D cs i else gt cs i:=by simp[stR,gt,hi]
theorem ly(hn:cs.length=n)(h:stR n D cs nm≠cs):∃i,i<n/\nm.contains (i:Int)=true/\D cs i≠gt cs i:=by
 apply Classical.byContradiction;intro no;refine h (ext_getElem (by simp[stR,hn]) λi a b=>?_);rw[<- jg _ _ a,<- jg _ _ b,gJ ()];split
 .exact Classical.byContradiction λz=>no ⟨i,by omega,‹_›,z⟩
 .rfl
theorem sZ(hn:cs.length=n)(hl:nm.length<=1)(hi:i<n)(hc:nm.contains (i:Int)=true):stR n D cs nm=cs.set i (D cs i):=by
 have e:nm=[(i:Int)]:=by
  cases nm with
  |nil=>simp at hc
  |cons a l=>
   cases l with
   |nil=>simp at hc;rw[hc]
   |cons b l=>simp at hl
 subst e;refine ext_getElem (by simp[stR,hn]) λj a b=>?_;have hj:j<n:=by simpa[stR]using a
 rw[<- jg _ _ a,<- jg _ _ b,gJ hj,eJ _ ()];by_cases e:j=i
 .simp[e]
 .rw[if_neg (by simp;omega),if_neg e]
def Wl(rk:Nat->Nat)(n:Nat)(p:Nat->Bool):Int:=(((range n).filter p).map λi=>(2:Int) ^ rk i).sum
theorem oy:∀(n:Nat) (l:List Nat),l.Nodup->(∀x∈l,x<n)->(l.map λx=>2 ^ x).sum<2 ^ n
 |0,l,_,h=>by
  cases l with
  |nil=>decide
  |cons x l=>exact absurd (h x mem_cons_self) ()
 |n+1,l,nd,h=>by
  rw[Nat.pow_succ];by_cases q:n∈l
  .have p:=List.perm_cons_erase q;rw[(p.map λx=>2 ^ x).sum_nat,map_cons,sum_cons];have nd':=nodup_cons.mp (p.nodup_iff.mp nd);have:=oy n (l.erase n) nd'.2 λx hx=>by have h1:=h x (List.mem_of_mem_erase hx);have h2:x≠n:=λe=>nd'.1 (e▸hx);omega
   omega
  .have:=oy n l nd λx hx=>by have h1:=h x hx;have h2:x≠n:=λe=>q (e▸hx);omega
   omega
theorem pH:∀l:List Nat,((l.sum:Nat):Int)=(l.map λx:Nat=>(x:Int)).sum
 | []=>by simp
 |x::l=>by have:=pH l;simp only[map_cons,sum_cons];omega
variable{rk:Nat->Nat}{p p':Nat->Bool}
theorem pD{K:Nat}(inj:∀i j,i<n->j<n->rk i=rk j->i=j)(hk:∀i,i<n->p i=true->rk i<K):0<=Wl rk n p/\Wl rk n p<2 ^ K:=by
 have mm:∀i ∈(range n).filter p,i<n/\p i=true:=λi hi=>⟨mem_range.mp (mem_filter.mp hi).1,(mem_filter.mp hi).2⟩
 have nd:(((range n).filter p).map rk).Nodup:=by rw[Nodup,List.pairwise_map];exact Pairwise.imp_of_mem (λ{a b} ha hb hab e=>hab (inj a b (mm a ha).1 (mm b hb).1 e)) (nodup_range.filter _)
 have b:=oy K (((range n).filter p).map rk) nd λx hx=>by obtain⟨i,hi,rfl⟩:=mem_map.mp hx;exact hk i (mm i hi).1 (mm i hi).2
 have e:Wl rk n p=(((((range n).filter p).map rk).map λx=>2 ^ x).sum:Nat):=by rw[pH];unfold Wl;congr 1;simp[map_map,Function.comp_def]
 rw[e];exact⟨by omega,by exact_mod_cast b⟩
theorem vL{m:Nat}(inj:∀i j,i<n->j<n->rk i=rk j->i=j)(hm:m<n)(h1:p m=true)(h2:p' m=false)(h3:∀i,i<n->rk m<rk i->p' i=p i):Wl rk n p'<Wl rk n p:=by
 have sp:∀p:Nat->Bool,Wl rk n p=Wl rk n (λi=>p i&&decide (rk m<rk i))+Wl rk n (λi=>p i&&!decide (rk m<rk i)):=λp=>by
  unfold Wl;generalize range n=l
  induction l with
  |nil=>rfl
  |cons a l ih=>simp only[filter_cons];cases p a<;>cases decide (rk m<rk a)<;>simp[ih]<;>omega
 have e:Wl rk n (λi=>p' i&&decide (rk m<rk i))=Wl rk n (λi=>p i&&decide (rk m<rk i)):=by
  unfold Wl;rw[filter_congr λi hi=>?_];by_cases q:rk m<rk i
  .rw[h3 i (mem_range.mp hi) q]
  .simp[q]
 have lo:=(pD (n:=n) (p:=λi=>p' i && !decide (rk m < rk i)) (K:=rk m) inj λi hi hp=>by
  simp at hp;have:rk i≠rk m:=λe=>by rw[inj i m hi hm e,h2]at hp;simp at hp
  omega).2
 have up:(2:Int) ^ rk m<=Wl rk n λi=>p i&&!decide (rk m<rk i):=by refine si (λx hx=>?_) _ (mem_map.mpr ⟨m,mem_filter.mpr ⟨mem_range.mpr hm,by simp[h1]⟩,rfl⟩);obtain⟨i,_,rfl⟩:=mem_map.mp hx;exact Int.le_of_lt (Int.pow_pos (by decide))
 rw[sp p',sp p,e];omega
theorem vK{f:Fl}(n10:n<=10)(hr:∀i,i<n->rk i<n):jI (.lst f (iL (((range n).filter p).map λi=>(2:Int) ^ rk i)))=.ok (.int (Wl rk n p)):=by
 refine k8 ?_ λx hx=>?_
 .rw[length_map];exact Nat.le_trans (length_filter_le _ _) (by simp;omega)
 .obtain⟨i,hi,rfl⟩:=mem_map.mp hx;have:=hr i (mem_range.mp (mem_filter.mp hi).1);have:=q_ (n:=rk i) ();omega
abbrev mvB(D:Jf->Nat->Int)(cs:Jf)(i:Nat):Bool:=decide (D cs i≠gt cs i)
theorem mD(inj:∀i j,i<n->j<n->rk i=rk j->i=j)(rl:∀i,i<n->rk i<n)(loc:∀cs cs' i,i<n->(∀j,j<n->rk i<rk j->gt cs j=gt cs' j)->D cs i=D cs' i)(hn:cs.length=n)(hne:stR n D cs nm≠cs):Wl rk n (mvB D (stR n D cs nm))<Wl rk n (mvB D cs):=by
 have mx:∀(d i:Nat),i<n->nm.contains (i:Int)=true/\D cs i≠gt cs i->n-rk i=d->∃m,m<n/\(nm.contains (m:Int)=true/\D cs m≠gt cs m)/\∀j,j<n->rk m<rk j->nm.contains (j:Int)=true->D cs j=gt cs j:=by
  intro d
  induction d using Nat.strongRecOn with
  |_ d ih=>
   intro i hi hP hd;by_cases h:∃j,j<n/\(nm.contains (j:Int)=true/\D cs j≠gt cs j)/\rk i<rk j
   .obtain⟨j,hj,hPj,hlt⟩:=h;have:=rl j hj;exact ih (n-rk j) () j hj hPj rfl
   .exact⟨i,hi,hP,λj hj hl hc=>Classical.byContradiction λz=>h ⟨j,hj,⟨hc,z⟩,hl⟩⟩
 obtain⟨i,hi,hP⟩:=ly hn hne;obtain⟨m,hm,⟨m1,m2⟩,top⟩:=mx _ i hi hP rfl;have same:∀j,j<n->rk m<rk j->gt (stR n D cs nm) j=gt cs j:=λj hj hlt=>by
  rw[gJ hj];split
  .exact top j hj hlt ‹_›
  .rfl
 have du:∀j,j<n->rk m<=rk j->D (stR n D cs nm) j=D cs j:=λj hj hle=>loc _ _ j hj λk hk hl=>same k hk ();refine vL inj hm (by simp[m2]) ?_ λj hj hlt=>?_
 .simp only[mvB,du m hm (Nat.le_refl _),gJ hm,m1];simp
 .simp only[mvB,du j hj (),same j hj hlt]
theorem qI{o:PV}{sp:Int}{al ip:Bool}{f:Fl}(r:Rl o n sp al ip D)(n10:n<=10)(hr:∀i:Nat,i<n->gp dz (.ok [.int i]) o=.ok (.int (rk i))/\rk i<n)(hf:Fc f\/f=.own)(hn:cs.length=n)(hc:InS sp cs):xW [o,.lst f (iL cs)]=.ok (.int (Wl rk n (mvB D cs))):=by
 refine av ?_;show EZ [some o,some (.lst f (iL cs))]=_;unfold EZ;have mo:=gu r (.inl (Fc.call hf)) hn hc;have ml:=iV (n:=n) (D:=D) (cs:=cs);refine a6 ?_ (by simp);simp only[fX,eS,f_];rw[aP (xs:=iL (mvR n D cs)) (ys:=iL (((range n).filter (mvB D cs)).map λi=>(2:Int) ^ rk i)) (by simp[r.le,r.tb,r.mv,mo,aw]) (by rw[bG];omega) ?_]
 .simp[p1,vK n10 λi hi=>(hr i hi).2]
 .unfold mvR;rw[show ∀l:List Nat,iL (l.map λi:Nat=>(i:Int))=l.map λi:Nat=>PV.int i from λl=>by simp[iL],show ∀l:List Nat,iL (l.map λi=>(2:Int) ^ rk i)=l.map λi=>PV.int (2 ^ rk i)from λl=>by simp[iL]];refine aY (a:=λi:Nat=>PV.int i) (f:=λi=>PV.int (2 ^ rk i)) _ λx hx=>⟨[some o,some (.int x)],by simp[tgN,aT,bN,r.bo],?_,by simp,by simp⟩
  have hx:=hr x (mem_range.mp (mem_filter.mp hx).1);have pw:=fG (e:=rk x) (b:=2) (by decide) (by decide) ();simp[r.le,hx.1,pw,aw]
end
theorem w9{n:Nat}{ps:Jc}(h1:1<=n)(n10:n<=10)(rg:∀x∈ps,0<=x.1/\x.1<n/\0<=x.2/\x.2<n/\x.1≠x.2)(hl:∀i,(nbL ps i).length<=1000):Ms (pnt .bor n ps) n n false false (kF ps) λcs=>Wl (λi=>n-1-i) n (mvB (kF ps) cs) where
 me:=λf cs hf hn hc=>by
  have rk:∀i:Nat,i<n->Ef [pnt .bor n ps,.int i]=.ok (.int ((n-1-i:Nat):Int)):=λi hi=>by refine av ?_;show ES [some (pnt .bor n ps),some (.int i)]=_;unfold ES;exact a6 (by simp[ao,bw];omega) (by simp)
  have:=qI (rk:=λi=>n-1-i) (pT h1 () rg hl) n10 (λi hi=>⟨by simp[dz,rk i hi,aw],by omega⟩) (Fc.tb2 hf) hn hc;simp[aD,this,aw]
 fa:=λcs nm hn hc _ _ h=>mD () () (λa b i hi h=>yG rg λj hj=>h j () ()) hn h
 mv:=λcs _ _ h=>ux h
theorem xb{ps:Jf}(T:Tree ps)(hl:ps.length<=9):Ms (cnt .bor ps) (ps.length+1) ((ps.length:Int)+2) false false (oZ (ps.length+1) ps) λcs=>Wl id (ps.length+1) (mvB (oZ (ps.length+1) ps) cs) where
 me:=λf cs hf hn hc=>by
  have rk:∀i:Nat,Eb [cnt .bor ps,.int i]=.ok (.int i):=λi=>by refine av ?_;show Hr [some (cnt .bor ps),some (.int i)]=_;exact d5 rfl
  have:=qI (rk:=id) (pU hl) () (λi hi=>⟨by simp[dz,rk i,aw],hi⟩) (Fc.tb2 hf) hn hc;simp[aD,this,aw]
 fa:=λcs nm hn hc _ _ h=>mD (λ_ _ _ _ h=>h) (λ_ h=>h) (λa b i hi h=>by
  unfold oZ;rw[pJ λk hk=>?_];obtain⟨k1,k2,k3⟩:=iH hk;obtain⟨k4,k5⟩:=List.getElem?_eq_some_iff.mp k3;have:=T _ k4;exact h _ () (by simp only[id];omega)) hn h
 mv:=λcs _ _ h=>ux h
def num(b:Int)(r f:Nat->Nat):Nat->Int
 |0=>0
 |m+1=>(num b r f m*b+r m)*b+f m
def uJ(n:Nat)(A x:Nat->Int)(m:Nat):Nat:=((range n).filter λi=>decide (x i=m)&&decide ((m:Int)<A i)).length
def vm(n:Nat)(A x:Nat->Int)(m:Nat):Nat:=((range n).filter λi=>decide ((m:Int)<x i)&&decide (A i=m)).length
theorem oW{n:Nat}{p:Nat->Bool}:((range n).filter p).length<=n:=by
 have:=length_filter_le p (range n)
 rwa [length_range]at this
def mL(n T:Nat)(A x:Nat->Int):Int:=num ((n:Int)+1) (uJ n A x) (vm n A x) T
theorem pz(f g:Nat->Int):∀l:List Nat,ii (iL (l.map f)) (iL (l.map g))=l.map λi=>prV (f i,g i)
 | []=>rfl
 |i::l=>by have:=pz f g l;simp only[iL,map_cons,ii]at this ⊢;rw[this];rfl
theorem qi{cc n:Nat}{ps:Jc}{os:List (Jj)}{st:Int}{T:Nat}{D:Nat->Int}{cs:Jf}{fc:Fl}(hf:Fc fc\/fc=.own)(hd:∀f k,Fc f->k<n->gp aF (.ok [.lst f (iL cs),.int k]) (lea .bor cc n ps os st T)=.ok (.int (D k)))(hn:cs.length=n)(n10:n<=10)(hT:T<=1000) :
  sF [lea .bor cc n ps os st T,.lst fc (iL cs)]=.ok (.int (mL n T D (gt cs))):=by
 have fb:=Fc.of hf;refine av ?_;show E0 [some (lea .bor cc n ps os st T),some (.lst fc (iL cs)),none,none,none,none,none,none]=_;unfold E0 mL;refine ah (ar (v:=.lst .own (iL ((range n).map D))) ?_) ?_
 .refine aP (xs:=dv 0 n) (bR (n:=n) (by simp[ao,bw]) ()) (by rw[bC];omega) (kI 0 D n λk hk=>⟨[some (lea .bor cc n ps os st T),some (.lst fc.Js (iL cs)),some (.int (0+k))],by simp[tgN,aT,bN],?_⟩);have:=hd _ k fb hk;simp[fb.le,this]
 simp only[s0_,s1_];refine ah (ar (v:=.int ((n:Int)+1)) (by simp[ao,bw])) ?_;simp only[s0_,s1_];refine ah (ar (v:=.int 0) (by simp)) ?_;simp only[s0_,s1_];have zp:ii (iL cs) (iL ((range n).map D))=(range n).map λi=>prV (gt cs i,D i):=by have:=pz (gt cs) D (range n);rw[<- hn,gtR]at this;rw[<- hn];exact this
 refine cH (λk e=>∃x5 x6 x7,e=[some (lea .bor cc n ps os st T),some (.lst fc (iL cs)),some (.lst .own (iL ((range n).map D))),some (.int ((n:Int)+1)),some (.int (num ((n:Int)+1) (uJ n D (gt cs)) (vm n D (gt cs)) k)),x5,x6,x7]) (bR (n:=T) (by simp[ao,bw]) ()) ⟨_,_,_,rfl⟩ (λk x e hx hP=>?_) (λe hP=>?_)
 .obtain⟨x5,x6,x7,rfl⟩:=hP;obtain⟨hk,rfl⟩:=cQ hx;generalize hN:num ((n:Int)+1) (uJ n D (gt cs)) (vm n D (gt cs)) k=N;have mz:∀x6 x7,jO (ae (ac 1) (ae (ac 2) am)) [some (lea .bor cc n ps os st T),some (.lst fc (iL cs)),some (.lst .own (iL ((range n).map D))),some (.int ((n:Int)+1)),some (.int N),some (.int k),x6,x7]=.ok ((range n).map λi=>prV (gt cs i,D i)):=λx6 x7=>by unfold jO;simp only[eS,fq,f_,getElem?_cons_zero,getElem?_cons_succ,AC];simp[fk,zp]
  have row:∀(p:Nat->Bool) (mc:MT) (x6 x7:Option PV),(∀i,mc [some (.int k),some (.int (gt cs i)),some (.int (D i))]=.ok (p i))->aM [5] 2 (jO (ae (ac 1) (ae (ac 2) am))) (tgT 2 (aZ (tgN 1) (aZ (tgN 2) dJ))) mc (ac 1) [some (lea .bor cc n ps os st T),some (.lst fc (iL cs)),some (.lst .own (iL ((range n).map D))),some (.int ((n:Int)+1)),some (.int N),some (.int k),x6,x7]=.ok (.lst .own (iL (((range n).filter p).map (gt cs)))):=λp mc x6 x7 hp=>by rw[show iL (((range n).filter p).map (gt cs))=((range n).filter p).map λi=>PV.int (gt cs i) by simp[iL]];exact aP (mz _ _) (by simp;omega) (b6 (a:=λi=>prV (gt cs i,D i)) (f:=λi=>.int (gt cs i)) (p:=p) (range n) λi hi=>⟨[some (.int k),some (.int (gt cs i)),some (.int (D i))],rfl,hp i,λ_=>⟨by simp,rfl,rfl⟩⟩)
  refine⟨_,cu rfl,?_⟩;simp only[s0_,s1_,Int.zero_add];refine bZ (ar (v:=.lst .own (iL (((range n).filter λi=>decide (gt cs i=k)&&decide ((k:Int)<D i)).map (gt cs)))) (row _ _ _ _ λi=>by by_cases q:gt cs i=k<;>simp[q])) ?_;simp only[s0_,s1_];refine bZ (ar (v:=.lst .own (iL (((range n).filter λi=>decide ((k:Int)<gt cs i)&&decide (D i=k)).map (gt cs)))) (row _ _ _ _ λi=>by by_cases q:(k:Int)<gt cs i<;>simp[q])) ?_;simp only[s0_,s1_];have m1:∀x:Int,cy (.int x) (.int ((n:Int)+1))=.ok (.int (x*((n:Int)+1))):=λx=>cM (.inr ⟨by omega,by omega⟩);exact a9 (ar (v:=.int ((N*((n:Int)+1)+uJ n D (gt cs) k)*((n:Int)+1)+vm n D (gt cs) k)) (by simp[m1,p1,cz,aW,uJ,vm])) ⟨_,_,_,by subst hN;rfl⟩
 .obtain⟨x5,x6,x7,rfl⟩:=hP;rw[bC];exact d5 rfl
theorem jf{b x' x r' r:Int}(hb:0<b)(h:x'<x)(h1:r'<b)(h2:0<=r):x'*b+r'<x*b+r:=by have:(x'+1)*b<=x*b:=Int.mul_le_mul_of_nonneg_right () ();rw[Int.add_mul,Int.one_mul]at this;omega
theorem u7{b:Int}{r f r' f':Nat->Nat}(hb:0<b)(hr:∀m,(r' m:Int)<b)(hf:∀m,(f' m:Int)<b){k:Nat}(he:∀m<k,r' m=r m/\f' m=f m)(hk:r' k<r k \/(r' k=r k/\f' k<f k)):∀t,k<t->num b r' f' t<num b r f t:=by
 have same:∀m,m<=k->num b r' f' m=num b r f m:=λm=>by
  induction m with
  |zero=>intro _;rfl
  |succ m ih=>intro h;obtain⟨e1,e2⟩:=he m ();simp only[num,ih (),e1,e2]
 intro t ht
 induction t with
 |zero=>omega
 |succ t ih=>
  simp only[num];by_cases q:k=t
  .subst q;rw[same k (Nat.le_refl _)];rcases hk with h |⟨h,h2⟩
   .exact jf hb () (hf k) ()
   .rw[h];omega
  .exact jf hb (jf hb (ih ()) (hr t) ()) (hf t) ()
theorem e9{p q:Nat->Bool}:∀(l:List Nat) (i:Nat),i∈l->(∀j∈l,q j=true->p j=true)->p i=true->q i=false->(l.filter q).length <(l.filter p).length
 | [],_,h,_,_,_=>nomatch h
 |a::l,i,h,hs,hp,hq=>by
  have le:∀l:List Nat,(∀j∈l,q j=true->p j=true)->(l.filter q).length <=(l.filter p).length:=λl hl=>by
   induction l with
   |nil=>simp
   |cons b l ih=>have:=ih λj hj=>hl j (mem_cons_of_mem _ hj);have hb:=hl b mem_cons_self;rw[filter_cons,filter_cons];cases e1:q b<;>cases e2:p b<;>simp_all<;>omega
  rw[filter_cons,filter_cons];rcases mem_cons.mp h with rfl|h
  .have:=le l λj hj=>hs j (mem_cons_of_mem _ hj);rw[hp,hq];simp;omega
  .have ih:=e9 l i h (λj hj=>hs j (mem_cons_of_mem _ hj)) hp hq;have ha:=hs a mem_cons_self;cases e1:q a<;>cases e2:p a<;>simp_all<;>omega
theorem xw{n T i:Nat}{x y A B:Nat->Int}(hi:i<n)(hx:0<=x i/\x i<=T)(hA:0<=A i/\A i<=T)(hd:A i≠x i)(yi:y i=A i)(yj:∀j,j≠i->y j=x j)(eq:∀j v,v<=x i->v<=A i->(B j=v↔A j=v)):mL n T B y<mL n T A x:=by
 have gv:∀j v,v<=x i->v<=A i->(v<B j↔v<A j):=λj v h1 h2=>by have e1:=eq j (B j);have e2:=eq j (A j);omega
 have bd:∀p:Nat->Bool,(((range n).filter p).length:Int) <(n:Int)+1:=λp=>by have:=oW (n:=n) (p:=p);omega
 obtain⟨k,k1,k2,k3⟩:∃k:Nat,(k:Int)<= x i/\(k:Int)<= A i/\(k=x i\/k=A i):=⟨(min (x i) (A i)).toNat,by omega⟩
 have df:∀{p:Prop} [Decidable p],¬p->decide p=false:=λh=>decide_eq_false h;refine u7 (k:=k) () (λm=>bd _) (λm=>bd _) (λm hm=>⟨?_,?_⟩) ?_ T ()
 .refine congrArg _ (filter_congr λj _=>?_);by_cases e:j=i
  .cases e;rw[df (show ¬y i=m by omega),df (show ¬x i=m by omega)];rfl
  .rw[yj j e,decide_eq_decide.mpr (gv j m () ())]
 .refine congrArg _ (filter_congr λj _=>?_);rw[decide_eq_decide.mpr (eq j m () ())];by_cases e:j=i
  .cases e;rw[df (show ¬A i=m by omega),Bool.and_false,Bool.and_false]
  .rw[yj j e]
 .by_cases q:A i<x i
  .have ek:(k:Int)=A i:=by omega
   refine .inr ⟨congrArg _ (filter_congr λj _=>?_),e9 (range n) i (mem_range.mpr hi) (λj _ h=>?_) ?_ ?_⟩
   .rw[decide_eq_decide.mpr (gv j k k1 k2)];by_cases e:j=i
    .cases e;rw[df (show ¬(k:Int)<A i by omega),Bool.and_false,Bool.and_false]
    .rw[yj j e]
   .rw[decide_eq_decide.mpr (eq j k k1 k2)]at h;by_cases e:j=i
    .cases e;rw[df (show ¬(k:Int)<y i by omega)]at h;cases h
    .rwa [yj j e]at h
   .rw[decide_eq_true (show(k:Int)<x i by omega),decide_eq_true ek.symm];rfl
   .rw[df (show ¬(k:Int)<y i by omega)];rfl
  .have ek:(k:Int)=x i:=by omega
   refine .inl (e9 (range n) i (mem_range.mpr hi) (λj _ h=>?_) ?_ ?_)
   .rw[decide_eq_decide.mpr (gv j k k1 k2)]at h;by_cases e:j=i
    .cases e;rw[df (show ¬y i=k by omega)]at h;cases h
    .rwa [yj j e]at h
   .rw[decide_eq_true ek.symm,decide_eq_true (show(k:Int)<A i by omega)];rfl
   .rw[df (show ¬y i=k by omega)];rfl
section
variable{n:Nat}{ps:Jc}{os:List (Jj)}{st tp:Int}{cs cs':Jf}{k:Int}{i j:Nat}
theorem ur(he:∀x,x<=k->(x∈ib ps st tp cs j↔x∈ib ps st tp cs' j)):∀v,v<=k->fT ps os st tp cs j=v->fT ps os st tp cs' j=v:=λv hv h=>by
 unfold fT at h ⊢;obtain⟨a1,a2⟩:=gw (l:=ib ps st tp cs j ++(os.getD j none).toList++[tp]) (by simp);obtain⟨b1,b2⟩:=gw (l:=ib ps st tp cs' j ++(os.getD j none).toList++[tp]) (by simp);rw[h]at a1 a2;have m:∀x,x<=k->(x∈ib ps st tp cs j ++(os.getD j none).toList++[tp]↔ x∈ib ps st tp cs' j ++(os.getD j none).toList++[tp]):=λx hx=>by simp only[mem_append,he x hx]
 have h1:=b2 v ((m v hv).mp a1);have h2:=a2 _ ((m _ ()).mpr b1);omega
theorem wT{d:Int}(hi:i<cs.length)(h1:k<=gt cs i)(h2:k<=d):∀x,x<=k->(x∈ib ps st tp cs j↔x∈ib ps st tp (cs.set i d) j):=λx hx=>by
 simp only[ib,mem_map,mem_filter];constructor
 .rintro⟨c,⟨⟨o,ho,rfl⟩,h⟩,rfl⟩;have:o.toNat≠i:=λe=>by rw[e]at hx;omega
  exact⟨gt cs o.toNat,⟨⟨o,ho,by rw[eJ _ hi,if_neg this]⟩,h⟩,rfl⟩
 .rintro⟨c,⟨⟨o,ho,rfl⟩,h⟩,rfl⟩;rw[eJ _ hi]at hx h ⊢;by_cases e:o.toNat=i
  .rw[if_pos e]at hx;omega
  .rw[if_neg e]at h ⊢;exact⟨gt cs o.toNat,⟨⟨o,ho,rfl⟩,h⟩,rfl⟩
abbrev mT(n:Nat)(ps:Jc)(os:List (Jj))(st:Int)(T:Nat)(cs:Jf):Int:=mL n T (fT ps os st T cs) (gt cs)
theorem kU{T:Nat}(ho:OkS T os)(hnb:∀i:Nat,∀x∈nbL ps i,0<=x/\x<n)(hn:cs.length=n)(hc:∀c∈cs,0<=c/\c<=T)(hi:i<n)(hm:fT ps os st T cs i≠gt cs i):mT n ps os st T (cs.set i (fT ps os st T cs i))<mT n ps os st T cs:=by have hd:=oY (st:=st) (i:=i) () ho hn (hnb i) λc h=>(hc c h).1;refine xw hi (hc _ (dG ())) hd hm (by rw[eJ _ (),if_pos rfl]) (λj hj=>by rw[eJ _ (),if_neg hj]) λj v h1 h2=>?_;have he:=wT (ps:=ps) (st:=st) (tp:=T) (cs:=cs) (i:=i) (j:=j) (k:=v) () h1 h2;exact⟨ur (λx hx=>(he x hx).symm) v (Int.le_refl _),ur he v (Int.le_refl _)⟩
theorem w_{cc T:Nat}(hcc:cc=4\/cc=5\/cc=6)(h1:1<=n)(n10:n<=10)(hst:0<st)(hT:T<=1000)(ho:OkS T os)(hol:os.length=n)(hnb:∀i:Nat,∀x∈nbL ps i,0<=x/\x<n)(hl:∀i,(nbL ps i).length<=1000):Ms (lea .bor cc n ps os st T) n ((T:Int)+1) true false (fT ps os st T) (mT n ps os st T) where
 me:=λf cs hf hn hc=>by have r:=iu (cc:=cc) hcc h1 () hst (Int.natCast_nonneg T) ho hol hnb hl;have:=qi (Fc.tb2 hf) (λf k hf hk=>(r.due f cs k hf hn hc hk).1) hn n10 hT;rcases hcc with rfl|rfl|rfl<;>simp[aD,this,aw]
 fa:=λcs nm hn hc hg _ h=>by obtain⟨i,hi,hi1,hi2⟩:=ly hn h;rw[sZ hn (hg.2.2.1 rfl) hi hi1];exact kU ho hnb hn (λc h=>by have:=hc c h;omega) hi hi2
 mv:=λcs _ _ h=>ux h
end
def ltF(fa:Jf)(j i:Nat):Bool:=decide (gt fa j<gt fa i) ||(decide (gt fa j=gt fa i)&&decide (j<i))
def rnk(n:Nat)(fa:Jf)(i:Nat):Nat:=((range n).filter λj=>ltF fa j i).length
section
variable{n:Nat}{ps:Jc}{r:Nat}{cs fa:Jf}{i j:Nat}{fc:Fl}
theorem Al(hn:fa.length=n)(n10:n<=10)(hi:i<n):yn [.lst .bor (iL fa),.int i]=.ok (.int (rnk n fa i)):=by
 refine av ?_;show zr [some (.lst .bor (iL fa)),some (.int i),none]=_;unfold zr;refine ah (ar (v:=.lst .own (iL (((range n).filter λj=>ltF fa j i).map λj:Nat=>(j:Int)))) ?_) ?_
 .refine aP (xs:=dv 0 n) (bR (n:=n) (by simp[p1,cz,aW,hn]) ()) (by rw[bC];omega) (jk (λj=>ltF fa j i) (λj:Nat=>(j:Int)) n λk hk=>⟨[some (.lst .bor (iL fa)),some (.int i),some (.int (0+k))],by simp[tgN,aT,bN,Fl.Js],?_,λ_=>by simp⟩);have a1:∀(f:Fl) (k:Nat),k<n->aH (.lst f (iL fa)) (.int (k:Int))=.ok (.int (gt fa k)):=λf k hk=>by simpa using cX (f:=f) (cs:=fa) (i:=k) () ()
  have e:HT.lexLt [gt fa k,(k:Int)] [gt fa i,(i:Int)]=ltF fa k i:=by
   simp only[HT.lexLt,ltF];by_cases h:gt fa k=gt fa i
   .rw[if_pos h];by_cases h2:k=i
    .subst h2;simp
    .rw[if_neg ()];simp[h]
   .rw[if_neg h];simp[h]
  rw[<- e];simp[a1 _ k hk,a1 _ i hi,wF,bH]
 simp only[s0_,s1_];exact a6 (by simp[p1,cz,aW,rnk]) (by simp)
theorem rJ(hi:i<n)(h:ltF fa i j=true):rnk n fa i<rnk n fa j:=
 e9 (range n) i (mem_range.mpr hi) (λk _ q=>by
  simp only[ltF,or_eq_true,and_eq_true,decide_eq_true_eq]at *;omega) h (by simp[ltF])
theorem k_(hi:i<n):rnk n fa i<n:=by
 have:=e9 (p:=λ_=>true) (q:=λj=>ltF fa j i) (range n) i (mem_range.mpr hi) (λ_ _ _=>rfl) rfl (by simp[ltF])
 rwa [List.filter_eq_self.mpr (λ_ _=>rfl),length_range]at this
theorem tq(hi:i<n)(hj:j<n)(e:rnk n fa i=rnk n fa j):i=j:=by
 apply Classical.byContradiction;intro h;have:ltF fa i j=true\/ltF fa j i=true:=by simp only[ltF,or_eq_true,and_eq_true,decide_eq_true_eq];omega
 rcases this with q|q
 .have:=rJ hi q;omega
 .have:=rJ hj q;omega
abbrev wrg(n:Nat)(ps:Jc)(r:Nat)(cs:Jf)(i:Nat):Bool:=decide (gt (CN n cs) i≠dcn n ps r cs i)
def MG(n:Nat)(ps:Jc)(r:Nat)(cs:Jf):Int:=mT n ps (fs n r) n n (FA n cs)*2 ^ n+Wl (rnk n (FA n cs)) n (wrg n ps r cs)
theorem xP{M:Int}(hf:Fc fc\/fc=.own)(n10:n<=10)(hnb:∀i:Nat,∀x∈nbL ps i,0<=x/\x<n)(hl:∀i:Nat,(nbL ps i).length<=1000)(hn:cs.length=n)
  (hM:sF [lea .bor 5 n ps (fs n r) n n,.lst .bor (iL (FA n cs))]=.ok (.int M)):Ek [gro .bor n ps r,.lst fc (iL cs)]=.ok (.int (M*2 ^ n+Wl (rnk n (FA n cs)) n (wrg n ps r cs))):=by
 refine av ?_;show EY [some (gro .bor n ps r),some (.lst fc (iL cs)),none,none,none,none]=_;unfold EY;have fo:=oX (ps:=ps) (r:=r) (Fc.call hf) n10 hn;have co:=kH (ps:=ps) (r:=r) (Fc.call hf) n10 hn;have fb:=Fc.of hf;have fl:(FA n cs).length=n:=by simpa using hn
 refine ah (ar (v:=.lst .own (iL (FA n cs))) (by simp[dS,fo,aw])) ?_;simp only[s0_,s1_];refine ah (ar (v:=.lst .own (iL (CN n cs))) (by simp[cN,co,aw])) ?_;simp only[s0_,s1_];refine ah (ar (v:=.lst .own (iL (((range n).filter (wrg n ps r cs)).map λj:Nat=>(j:Int)))) ?_) ?_
 .refine aP (xs:=dv 0 n) (bR (n:=n) (by simp[ao,bw]) ()) (by rw[bC];omega) (jk (wrg n ps r cs) (λj:Nat=>(j:Int)) n λk hk=>⟨[some (.lst .bor (iL (CN n cs))),some (gro .bor n ps r),some (.lst fc.Js (iL cs)),some (.int (0+k))],by simp[tgN,aT,bN,Fl.Js],?_,λ_=>by simp⟩);have a1:∀f,aH (.lst f (iL (CN n cs))) (.int (k:Int))=.ok (.int (gt (CN n cs) k)):=λf=>by simpa using cX (f:=f) (cs:=CN n cs) (i:=k) () (by simp;omega)
  have dc:=yJ (ps:=ps) (r:=r) (i:=k) fb n10 hnb hl hn;generalize fc.Js=g at fb dc ⊢;simp[a1,cT,fb.le,fb.tb,dc,aw]
 simp only[s0_,s1_];refine ah (ar (v:=.lst .own (iL (((range n).filter (wrg n ps r cs)).map λi=>(2:Int) ^ rnk n (FA n cs) i))) ?_) ?_
 .rw[show ∀l:List Nat,iL (l.map λi=>(2:Int) ^ rnk n (FA n cs) i)=l.map λi=>PV.int (2 ^ rnk n (FA n cs) i)from λl=>by simp[iL]];have hx:∀l:List Nat,iL (l.map λj:Nat=>(j:Int))=l.map λj:Nat=>PV.int (j:Int):=λl=>by simp[iL]
  refine aP (xs:=((range n).filter (wrg n ps r cs)).map λj:Nat=>PV.int (j:Int)) (by rw[<- hx];simp) (by have:=oW (n:=n) (p:=wrg n ps r cs);rw[length_map];omega) (aY (a:=λj:Nat=>PV.int (j:Int)) (f:=λi=>PV.int ((2:Int) ^ rnk n (FA n cs) i)) _ λk hk=>⟨[some (.lst .bor (iL (FA n cs))),some (.int k)],by simp[tgN,aT,bN,Fl.Js],?_,by simp,by simp⟩);have hk:=mem_range.mp (mem_filter.mp hk).1;have rl:=k_ (fa:=FA n cs) hk;have pw:=fG (e:=rnk n (FA n cs) k) (b:=2) (by decide) (by decide) ();simp[Al fl n10 hk,pw,aw,Fl.Jp,Fl.Jq]
 simp only[s0_,s1_];have pn:=fG (e:=n) (b:=2) (by decide) (by decide) ();have p2:=q_ n10;have mu:cy (.int M) (.int (2 ^ n))=.ok (.int (M*2 ^ n)):=cM (.inr ⟨by omega,by omega⟩);have sm:=λf=>vK (f:=f) (p:=wrg n ps r cs) n10 λi hi=>k_ (fa:=FA n cs) hi;generalize((range n).filter (wrg n ps r cs)).map (λi=>(2:Int) ^ rnk n (FA n cs) i)=WS at *;generalize(2:Int) ^ n=PN at *;exact a6 (by simp[ao,bw,gc,hM,pn,mu,p1,sm,aw]) (by simp)
theorem Hg(hi:i<cs.length):gt (FA n cs) i=gt cs i / ((n:Int)+1):=by simp[FA,gt,hi]
theorem Hh(hi:i<cs.length):gt (CN n cs) i=gt cs i%((n:Int)+1):=by simp[CN,gt,hi]
theorem lz{a b m:Int}(hb:0<=b/\b<=m):(a*(m+1)+b) / (m+1)=a/\(a*(m+1)+b)%(m+1)=b:=by
 rw[Int.add_comm];constructor
 .rw[Int.add_mul_ediv_right _ _ (),Int.ediv_eq_zero_of_lt hb.1 ()];omega
 .rw[Int.add_mul_emod_self_right];exact emod_eq_of_lt hb.1 ()
theorem sy(n1:1<=n)(hnb:∀i:Nat,∀x∈nbL ps i,0<=x/\x<n)(hn:cs.length=n)(hc:InS (((n:Int)+1)*((n:Int)+1)) cs)(hi:i<n)(hm:my n ps r cs i≠gt cs i):MG n ps r (cs.set i (my n ps r cs i))<MG n ps r cs:=by
 have fl:(FA n cs).length=n:=by simpa using hn
 have cl:(CN n cs).length=n:=by simpa using hn
 have np:(0:Int) <(n:Int)+1:=by omega
 have hfa:∀c∈FA n cs,0<=c/\c <=(n:Int):=λc hx=>by obtain⟨x,hm,rfl⟩:=mem_map.mp hx;obtain⟨h1,h2⟩:=hc x hm;have a:=Int.ediv_nonneg h1 (show 0 <=(n:Int)+1 by omega);have b:=Int.ediv_lt_of_lt_mul np h2;exact⟨a,by omega⟩
 have sn:0 <=(kq n ps r cs i).sum:=by
  cases e:kq n ps r cs i with
  |nil=>simp
  |cons a l=>have h:=λx hx=>(lY (ps:=ps) (r:=r) (i:=i) hn (x:=x) (by rw[e];exact hx)).1;exact Int.le_trans (h a mem_cons_self) (si h a mem_cons_self)
 have dr:0<=dcn n ps r cs i/\dcn n ps r cs i<=n:=by unfold dcn;omega
 have cr:=sO hn i hi;have inj:∀fa:Jf,∀i j,i<n->j<n->rnk n fa i=rnk n fa j->i=j:=λfa i j h1 h2 e=>tq h1 h2 e;have fS:∀v,FA n (cs.set i v)=(FA n cs).set i (v / ((n:Int)+1)):=λv=>by simp[FA,map_set]
 have cS:∀v,CN n (cs.set i v)=(CN n cs).set i (v%((n:Int)+1)):=λv=>by simp[CN,map_set]
 unfold MG;unfold my at hm ⊢;by_cases q:fT ps (fs n r) n n (FA n cs) i=gt (FA n cs) i
 .rw[if_pos q]at hm ⊢;rw[q]at hm ⊢;obtain⟨d1,d2⟩:=lz (a:=gt (FA n cs) i) dr;have e1:FA n (cs.set i (gt (FA n cs) i*((n:Int)+1)+dcn n ps r cs i))=FA n cs:=by rw[fS,d1,jg _ _ (),List.set_getElem_self]
  have e2:CN n (cs.set i (gt (FA n cs) i*((n:Int)+1)+dcn n ps r cs i))=(CN n cs).set i (dcn n ps r cs i):=by rw[cS,d2]
  generalize cs.set i (gt (FA n cs) i*((n:Int)+1)+dcn n ps r cs i)=cs' at *;have hw:gt (CN n cs) i ≠ dcn n ps r cs i:=λe=>hm (by
   rw[<- e,Hg (),Hh (),Int.mul_comm];exact Int.mul_ediv_add_emod _ _)
  have dc:∀j:Nat,eld ps r (FA n cs) i≠some (j:Int)->dcn n ps r cs' j=dcn n ps r cs j:=λj hj=>by unfold dcn kq;rw[e1,e2];congr 3;refine List.map_congr_left λx hx=>?_;rw[eJ _ (),if_neg λe=>hj ?_];subst e;simpa using(mem_filter.mp hx).2
  have el:∀j:Nat,eld ps r (FA n cs) i=some (j:Int)->gt (FA n cs) j=gt (FA n cs) i-1:=λj h=>by
   unfold eld at h;split at h
   .cases h
   split at h
   .cases h
   rename_i q2
   have a:=(mem_filter.mp (gw (l:=nea ps (FA n cs) i) (by simpa using q2)).1).2;rw[Option.some.inj h]at a;simpa using a
  have:=vL (p:=wrg n ps r cs) (p':=wrg n ps r cs') (inj (FA n cs)) hi (by simp [hw]) (by
   rw[wrg,e2,eJ _ (),if_pos rfl,dc i λe=>by have:=el i e;omega];simp) λj hj hl=>by
   have ji:j≠i:=λe=>by subst e;omega
   rw[wrg,wrg,e2,eJ _ (),if_neg ji,dc j λe=>?_];have:=rJ (n:=n) (fa:=FA n cs) hj (j:=i) (by simp[ltF,el j e];omega);omega
  rw[e1];omega
 .rw[if_neg q];obtain⟨d1,d2⟩:=lz (a:=fT ps (fs n r) n n (FA n cs) i) cr;rw[fS,d1];have f:=kU (T:=n) (st:=n) (l_ (r:=r) n1) hnb fl hfa hi q;have b:=λfa p=>pD (n:=n) (p:=p) (K:=n) (inj fa) λi hi _=>k_ hi;exact jf (Int.pow_pos (by decide)) f (b _ _).2 (b _ _).1
theorem AQ(h1:1<=n)(h10:n<=10)(hr:r<n)(hnb:∀i:Nat,∀x∈nbL ps i,0<=x/\x<n)(hl:∀i,(nbL ps i).length<=1000):Ms (gro .bor n ps r) n (((n:Int)+1)*((n:Int)+1)) true false (my n ps r) (MG n ps r) where
 me:=λf cs hf hn hc=>by
  have hfa:InS ((n:Int)+1) (FA n cs):=λc hx=>by obtain⟨x,hm,rfl⟩:=mem_map.mp hx;obtain⟨h1,h2⟩:=hc x hm;exact⟨Int.ediv_nonneg h1 (),Int.ediv_lt_of_lt_mul () h2⟩
  have rl:=iu (cc:=5) (st:=n) (tp:=n) (by decide) h1 () () () (l_ (r:=r) h1) (by simp[fs]) hnb hl;have:=xP (r:=r) (Fc.tb2 hf) h10 hnb (λi=>hl i) hn (qi (T:=n) (.inl (.inl rfl)) (λf k hf hk=>(rl.due f (FA n cs) k hf (by simpa using hn) hfa hk).1) (by simpa using hn) h10 ());simp[aD,this,aw,MG]
 fa:=λcs nm hn hc hg _ h=>by obtain⟨i,hi,hi1,hi2⟩:=ly hn h;rw[sZ hn (hg.2.2.1 rfl) hi hi1];exact sy h1 hnb hn hc hi hi2
 mv:=λcs _ _ h=>ux h
end
def kX(cs:Jf):Prop:=∃j i,j<i/\i<cs.length/\gt cs j≠gt cs 0/\gt cs i=gt cs 0
def IsJ(sp:Int)(cs:Jf)(J:Nat):Prop:=(¬kX cs/\J=0)\/(kX cs/\1<=J/\J<cs.length/\(gt cs 0+J)%sp∉cs.drop 1/\∀s:Nat,1<=s->s<J->(gt cs 0+s)%sp∈cs.drop 1)
theorem qG{c sp:Int}{a b:Nat}(h:(c+a)%sp=(c+b)%sp)(ha:(a:Int)<sp)(hb:(b:Int)<sp):a=b:=by
 have h1:((c+a)-(c+b))%sp=0:=Int.emod_eq_emod_iff_emod_sub_eq_zero.mp h;rw[show(c+(a:Int))-(c+b)=(a:Int)-b by omega]at h1;obtain⟨k,hk⟩:=Int.dvd_of_emod_eq_zero h1;rcases Int.lt_trichotomy k 0 with q|q|q
 .have:sp*k<=sp*(-1):=Int.mul_le_mul_of_nonneg_left () ();omega
 .subst q;omega
 .have:sp*1<=sp*k:=Int.mul_le_mul_of_nonneg_left () ();omega
section
variable{sp:Int}{cs nm:Jf}{n:Nat}
theorem xS(hs:(cs.length:Int)<= sp)(hc:0<=gt cs 0/\gt cs 0<sp)(h:kX cs):∃s:Nat,1<=s/\s<cs.length/\(gt cs 0+s)%sp∉cs.drop 1:=by
 apply Classical.byContradiction;intro no;obtain⟨j,i,h1,h2,h3,e⟩:=h;have nd:((range cs.length).map λs:Nat=>(gt cs 0+s)%sp).Nodup:=by rw[Nodup,List.pairwise_map];refine Pairwise.imp_of_mem (λ{a b} ha hb hab z=>?_) (nodup_range (n:=cs.length));have ha':=mem_range.mp ha;have hb':=mem_range.mp hb;exact hab (qG z () ())
 have le:=jL (l':=cs.drop 1) nd λx hx=>by
  obtain⟨s,hs',rfl⟩:=mem_map.mp hx;have hs2:=mem_range.mp hs';by_cases q:s=0
  .subst q;refine dy.mpr ⟨i,by omega,h2,?_⟩;rw[e,show gt cs 0+((0:Nat):Int)=gt cs 0 by omega,emod_eq_of_lt hc.1 hc.2]
  .exact Classical.byContradiction λz=>no ⟨s,by omega,hs2,z⟩
 simp at le;omega
theorem vT{fc:Fl}(hfc:Fc fc)(h1:1<=cs.length)(h2:cs.length<=1000)(hs:(cs.length:Int)<= sp)(hc:0<=gt cs 0/\gt cs 0<sp):∃J:Nat,Eh [.lst fc (iL cs),.int sp]=.ok (.int J)/\IsJ sp cs J:=by
 have g0:aH (.lst fc (iL cs)) (.int 0)=.ok (.int (gt cs 0)):=cX () ();have bg:∃b:Nat,ye [.lst fc (iL cs)]=.ok (.int b)/\b<=cs.length/\(gt cs 0∈cs.drop b↔kX cs):=by
  suffices hh:gd (y_ [some (.lst fc (iL cs)),none]) (λv=>∃b:Nat,v=.int b/\b<=cs.length/\(gt cs 0∈cs.drop b↔kX cs)) by obtain⟨v,h3,b,rfl,h4⟩:=hh;exact⟨b,av h3,h4⟩
  unfold y_;refine aS (ar (v:=.int 1) (by simp)) ?_;simp only[s0_,s1_];refine gK (Fin:=λe=>∃b:Nat,e=[some (.lst fc (iL cs)),some (.int b)]/\b<=cs.length/\(∀i,i<b->gt cs i=gt cs 0)/\(b<cs.length->gt cs b≠gt cs 0)) (λm e=>∃b:Nat,e=[some (.lst fc (iL cs)),some (.int b)]/\m=cs.length-b/\b<=cs.length/\∀i,i<b->gt cs i=gt cs 0) (cs.length-1) () ⟨1,rfl,rfl,h1,λi hi=>by rw[show i=0 by omega]⟩ (λm e hP=>?_) λe hF=>?_
  .obtain⟨b,rfl,rfl,b2,al⟩:=hP;by_cases q:b<cs.length
   .have gb:aH (.lst fc (iL cs)) (.int (b:Int))=.ok (.int (gt cs b)):=by simpa using cX (f:=fc) (cs:=cs) (i:=b) () ()
    by_cases q2:gt cs b=gt cs 0
    .refine .inr ⟨by simp[p1,cz,aW,hfc.le,g0,gb,q2];omega,cs.length-(b+1),[some (.lst fc (iL cs)),some (.int (b+1:Nat))],by omega,.inl (ar (v:=.int ((b+1:Nat):Int)) (by simp)),b+1,rfl,rfl,by omega,λi hi=>?_⟩;by_cases z:i=b
     .rw[z];exact q2
     .exact al i ()
    .exact .inl ⟨by simp[p1,cz,aW,hfc.le,g0,gb,q2],b,rfl,b2,al,λ_=>q2⟩
   .exact .inl ⟨by simp[p1,cz,aW];omega,b,rfl,b2,al,λz=>absurd z q⟩
  .obtain⟨b,rfl,hb,al,nx⟩:=hF;refine cV (d5 rfl) ⟨b,rfl,hb,?_⟩;rw[dy];constructor
   .rintro⟨i,h1,h2,e⟩;have hb:=nx ();refine⟨b,i,?_,h2,hb,e⟩;rcases Nat.lt_or_eq_of_le h1 with q|q
    .exact q
    .subst q;exact absurd e hb
   .rintro⟨j,i,h1,h2,h3,e⟩;have:¬j<b:=λz=>h3 (al j z);exact⟨i,by omega,h2,e⟩
 obtain⟨b,e1,bl,B⟩:=bg
 suffices hh:gd (EU [some (.lst fc (iL cs)),some (.int sp),none]) (λv=>∃J:Nat,v=.int J/\IsJ sp cs J) by obtain⟨v,h3,J,rfl,h4⟩:=hh;exact⟨J,av h3,h4⟩
 unfold EU;have cb:ig (iL cs) (some (b:Int)) none=iL (cs.drop b):=nT cs b bl;have c1:ig (iL cs) (some 1) none=iL (cs.drop 1):=nT cs 1 h1;have sp0:0<sp:=by omega
 by_cases st:kX cs
 .have hm:=B.mpr st;refine aS (bL (by simp only[gZ,gC,iN,jY,kC,fq,qD,fX,eS,f_];simp[hfc.le,hfc.tb,g0,e1,aw,cb];exact hm) az) ?_;refine aS (ar (v:=.int 1) (by simp)) ?_;simp only[s0_,s1_];obtain⟨s0,f1,f2,f3⟩:=xS hs hc st;refine gK (Fin:=λe=>∃J:Nat,e=[some (.lst fc (iL cs)),some (.int sp),some (.int J)]/\IsJ sp cs J) (λm e=>∃s:Nat,e=[some (.lst fc (iL cs)),some (.int sp),some (.int s)]/\m=s0-s/\1<=s/\s<=s0/\∀t:Nat,1<=t->t<s->(gt cs 0+t)%sp∈cs.drop 1) (s0-1) () ⟨1,rfl,rfl,by omega,f1,λt a b=>by omega⟩ (λm e hP=>?_) λe hF=>?_
  .obtain⟨s,rfl,rfl,b1,b2,al⟩:=hP;have tst:ax (mOp pIn (mOp cI (mOp aL (mOp aH (ac 0) (JA 0)) (ac 2)) (ac 1)) (gU (ac 0) (jP (JA 1)) fW)) [some (.lst fc (iL cs)),some (.int sp),some (.int s)]=.ok (decide ((gt cs 0+s)%sp∈cs.drop 1)):=by simp only[gZ,gC,iN,jY,kC,fq,qD];simp[hfc.le,g0,c1,bD sp0]
   by_cases q:(gt cs 0+s)%sp∈cs.drop 1
   .have ns:s≠s0:=λz=>f3 (by rw[<- z];exact q);refine .inr ⟨by rw[tst,decide_eq_true q],s0-(s+1),[some (.lst fc (iL cs)),some (.int sp),some (.int (s+1:Nat))],by omega,.inl (ar (v:=.int ((s+1:Nat):Int)) (by simp)),s+1,rfl,rfl,by omega,by omega,λt t1 t2=>?_⟩;by_cases z:t=s
    .rw[z];exact q
    .exact al t t1 ()
   .exact .inl ⟨by rw[tst,decide_eq_false q],s,rfl,.inr ⟨st,b1,by omega,q,al⟩⟩
  .obtain⟨J,rfl,hJ⟩:=hF;exact cV (d5 rfl) ⟨J,rfl,hJ⟩
 .have hm:gt cs 0∉cs.drop b:=λz=>st (B.mp z);exact v_ (by simp only[gZ,gC,iN,jY,kC,fq,qD,fX,eS,f_];simp[hfc.le,hfc.tb,g0,e1,aw,cb];exact hm) (cV (v:=.int ((0:Nat):Int)) (a6 (by simp)) ⟨0,rfl,.inl ⟨st,rfl⟩⟩)
def bc(cs:Jf):Nat->Int
 |0=>0
 |j+1=>bc cs j+if gt cs j=gt cs (j+1)then 0 else 1
def bS(cs:Jf):Nat->Int
 |0=>0
 |m+1=>bS cs m+bc cs m
theorem sP{c:Int}:∀m,((((range (m+1)).filter λi=>decide (cq sp cs i≠gt cs i)).filter λi=>decide (i≠0)).map λi:Nat=>c-i).sum=bS cs (m+1)+(c-1-m)*bc cs m
 |0=>by simp only[List.filter_filter];simp[bS,bc,List.range_succ]
 |m+1=>by
  have ih:=sP (c:=c) m;have d:cq sp cs (m+1)=gt cs m:=rfl;rw[List.range_succ,List.filter_append,List.filter_append,List.map_append,List.sum_append,ih];have e:c-1-(m:Int)=(c-1-((m+1:Nat):Int))+1:=by omega
  simp only[bS,bc];generalize bc cs m=x;by_cases q:gt cs m=gt cs (m+1)
  .simp[d,q,e,Int.add_mul];omega
  .simp[d,q,e,Int.add_mul,Int.mul_add];omega
abbrev tP(sp:Int)(cs nm:Jf):Jf:=stR cs.length (cq sp) cs nm
theorem zV{i:Nat}(hi:i+1<cs.length):gt (tP sp cs nm) (i+1)=if nm.contains ((i+1:Nat):Int)then gt cs i else gt cs (i+1):=gJ hi
theorem uy{e:Int}(h0:gt (tP sp cs nm) 0=gt cs 0/\e=0\/e=1):∀j,j<cs.length->bc (tP sp cs nm) j<=bc cs j+e/\(gt (tP sp cs nm) j≠gt cs j->bc (tP sp cs nm) j+1<=bc cs j+e)
 |0,_=>by simp only[bc];omega
 |j+1,hj=>by
  have ih:=uy h0 j ();have g:=zV (sp:=sp) (nm:=nm) hj;simp only[bc];rw[g];generalize bc (tP sp cs nm) j=u at *;generalize gt (tP sp cs nm) j=v at *;by_cases q:nm.contains ((j+1:Nat):Int)=true
  .rw[if_pos q];split<;>split<;>omega
  .rw[if_neg q];split<;>split<;>omega
theorem pj{e:Int}(h0:gt (tP sp cs nm) 0=gt cs 0/\e=0\/e=1):∀m,m<cs.length->bS (tP sp cs nm) (m+1)<= bS cs (m+1)+m*e/\(e=0->(∃i,i<=m/\gt (tP sp cs nm) i≠gt cs i)->bS (tP sp cs nm) (m+1)<bS cs (m+1))
 |0,_=>by refine⟨by simp[bS,bc],λz ⟨i,hi,hd⟩=>?_⟩;rw[show i=0 by omega]at hd;omega
 |m+1,hm=>by
  obtain⟨i1,i2⟩:=pj h0 m ();obtain⟨b1,b2⟩:=uy h0 (m+1) hm;rw[bS,show bS cs (m+1+1)=bS cs (m+1)+bc cs (m+1)from rfl];have:((m+1:Nat):Int)*e=m*e+e:=by rw[Int.natCast_add,Int.add_mul];omega
  refine⟨by omega,λz ⟨i,hi,hd⟩=>?_⟩;subst z;by_cases q:i=m+1
  .subst q;have:=b2 hd;omega
  .have:=i2 rfl ⟨i,by omega,hd⟩;omega
theorem mB{v:Int}(h:v ∈(tP sp cs nm).drop 1):v∈cs.drop 1\/v=gt cs 0:=by
 obtain⟨i,h1,h2,e⟩:=dy.mp h;simp[stR]at h2;obtain⟨j,rfl⟩:∃j,i=j+1:=⟨i-1,by omega⟩
 rw[zV h2]at e;split at e
 .by_cases q:j=0
  .subst q;exact .inr e.symm
  .exact .inl (dy.mpr ⟨j,by omega,by omega,e⟩)
 .exact .inl (dy.mpr ⟨j+1,by omega,h2,e⟩)
theorem E_{J J':Nat}(hs:(cs.length:Int)<= sp)(hc:0<=gt cs 0/\gt cs 0<sp)(h0:gt (tP sp cs nm) 0=gt cs 0)(hJ:IsJ sp cs J)(hJ':IsJ sp (tP sp cs nm) J'):J'<=J:=by
 rcases hJ' with⟨_,rfl⟩ |⟨st',j1',_,_,j4'⟩
 .omega
 rcases hJ with⟨st,rfl⟩ |⟨st,j1,j2,j3,j4⟩
 .exfalso;obtain⟨j,i,h1,h2,h3,e⟩:=st';simp[stR]at h2;rw[h0]at h3 e;have ini:∀i j,j<i->i<cs.length->gt cs i=gt cs 0->gt cs j=gt cs 0:=λi j a b c=>Classical.byContradiction λz=>st ⟨j,i,a,b,z,c⟩;have cj:∀m,m<i->(∀l,l<=m->gt cs l=gt cs 0)->gt (tP sp cs nm) m=gt cs 0:=λm hm al=>by
   cases m with
   |zero=>exact h0
   |succ m=>
    rw[zV ()];split
    .exact al m ()
    .exact al (m+1) ()
  obtain⟨p,rfl⟩:∃p,i=p+1:=⟨i-1,by omega⟩
  rw[zV h2]at e;refine h3 (cj j h1 λl hl=>?_);split at e
  .by_cases q:l=p
   .rw[q];exact e
   .exact ini p l () () e
  .exact ini (p+1) l () h2 e
 .apply Classical.byContradiction;intro no;have hm:=j4' J j1 ();rw[h0]at hm;rcases mB hm with z|z
  .exact j3 z
  .have z':(gt cs 0+J)%sp=(gt cs 0+((0:Nat):Int))%sp:=by rw[z,show gt cs 0+((0:Nat):Int)=gt cs 0 by omega,emod_eq_of_lt hc.1 hc.2]
   have:=qG z' () ();omega
theorem E9{J J':Nat}(n2:2<=cs.length)(hl:gt cs 0=gt cs (cs.length-1))(h0:gt (tP sp cs nm) 0=(gt cs 0+1)%sp)(hst:kX cs)(hJ:IsJ sp cs J)(hJ':IsJ sp (tP sp cs nm) J'):J'+1<=J:=by
 have sub:∀v,v ∈(tP sp cs nm).drop 1->v∈cs.drop 1:=λv hv=>by
  rcases mB hv with z|z
  .exact z
  .exact dy.mpr ⟨cs.length-1,by omega,by omega,by rw[z,hl]⟩
 rcases hJ with⟨st,_⟩ |⟨_,j1,j2,j3,j4⟩
 .exact absurd hst st
 rcases hJ' with⟨_,rfl⟩ |⟨st',j1',_,_,j4'⟩
 .omega
 apply Classical.byContradiction;intro no;refine j3 ?_;by_cases q:J=1
 .subst q;obtain⟨j,i,h1,h2,h3,e⟩:=st';refine sub _ (dy.mpr ⟨i,by omega,h2,?_⟩);rw[e,h0];rfl
 .have hm:=sub _ (j4' (J-1) () ());rw[h0,Int.emod_add_emod]at hm
  rwa [show gt cs 0+(J:Int)=gt cs 0+1+((J-1:Nat):Int) by omega]
theorem E8{J J':Nat}(h:IsJ sp cs J)(h':IsJ sp cs J'):J=J':=by
 rcases h with⟨s,rfl⟩ |⟨s,a1,a2,a3,a4⟩<;>rcases h' with⟨s',rfl⟩ |⟨s',b1,b2,b3,b4⟩
 .rfl
 .exact absurd s' s
 .exact absurd s s'
 .rcases Nat.lt_trichotomy J J' with q|q|q
  .exact absurd (b4 J a1 q) a3
  .exact q
  .exact absurd (a4 J' b1 q) b3
theorem rT{J J':Nat}(hs:(cs.length:Int)<= sp)(n2:2<=cs.length)(hc:0<=gt cs 0/\gt cs 0<sp)(hJ:IsJ sp cs J)(hJ':IsJ sp (tP sp cs nm) J')(hw:∃k,k+1<cs.length/\gt cs k≠gt cs (k+1))(hne:tP sp cs nm≠cs) :
  (cs.length:Int)*J'+bS (tP sp cs nm) cs.length<cs.length*J+bS cs cs.length:=by
 have g0:gt (tP sp cs nm) 0=if nm.contains ((0:Nat):Int)then cq sp cs 0 else gt cs 0:=gJ ()
 obtain⟨i,hi,hi1,hi2⟩:=ly rfl hne;have hi3:gt (tP sp cs nm) i≠gt cs i:=by rw[tP,gJ hi,if_pos hi1];exact hi2
 obtain⟨m,hm⟩:∃m,cs.length=m+1:=⟨cs.length-1,by omega⟩
 by_cases h0:gt (tP sp cs nm) 0=gt cs 0
 .have w:=(pj (e:=0) (.inl ⟨h0,rfl⟩) m ()).2 rfl ⟨i,by omega,hi3⟩;have jm:(cs.length:Int)*J'<=cs.length*J:=Int.mul_le_mul_of_nonneg_left (by have:=E_ hs hc h0 hJ hJ';omega) ();rw[<- hm]at w;omega
 .have hn0:nm.contains ((0:Nat):Int)=true:=Classical.byContradiction λz=>h0 (by rw[g0,if_neg z]);rw[if_pos hn0]at g0;unfold cq at g0;rw[if_pos rfl]at g0;by_cases hl:gt cs 0=gt cs (cs.length-1)
  .rw[if_pos hl]at g0;have hst:kX cs:=by
    obtain⟨k,k1,k2⟩:=hw;by_cases q:gt cs k=gt cs 0
    .have q2:gt cs (k+1)≠ gt cs 0:=λz=>k2 (q.trans z.symm);have:k+1≠cs.length-1:=λz=>q2 (by rw[z];exact hl.symm);exact⟨k+1,cs.length-1,by omega,by omega,q2,hl.symm⟩
    .exact⟨k,cs.length-1,by omega,by omega,q,hl.symm⟩
   have j:=E9 n2 hl g0 hst hJ hJ';have w:=(pj (sp:=sp) (cs:=cs) (nm:=nm) (e:=1) (.inr rfl) m ()).1;have jm:(cs.length:Int)*(J'+1)<= cs.length*J:=Int.mul_le_mul_of_nonneg_left () ();rw[Int.mul_add]at jm;rw[<- hm]at w;omega
  .rw[if_neg hl]at g0;exact absurd g0 h0
theorem FK(n2:2<=n)(hs:(n:Int)<= sp)(hn:cs.length=n)(hc:0<=gt cs 0/\gt cs 0<sp)(h:caR n true (cq sp) cs=false):∃k,k+1<n/\gt cs k≠gt cs (k+1):=by
 apply Classical.byContradiction;intro no;have al:∀i,i<n->gt cs i=gt cs 0:=λi=>by
  induction i with
  |zero=>intro _;rfl
  |succ i ih=>intro hi;rw[<- ih ()];exact Classical.byContradiction λz=>no ⟨i,hi,λe=>z e.symm⟩
 have d0:cq sp cs 0≠gt cs 0:=by
  unfold cq;rw[if_pos rfl,if_pos (al _ ()).symm];by_cases q:gt cs 0+1<sp
  .rw[emod_eq_of_lt () q];omega
  .rw[show gt cs 0+1=sp by omega,Int.emod_self];omega
 obtain⟨m,rfl⟩:∃m,n=m+1:=⟨n-1,by omega⟩
 have e:mvR (m+1) (cq sp) cs=[0]:=by
  unfold mvR;rw[List.range_succ_eq_map,filter_cons,if_pos (by simpa using d0),List.filter_eq_nil_iff.mpr]
  .rfl
  intro x hx;obtain⟨i,hi,rfl⟩:=mem_map.mp hx;have hi:=mem_range.mp hi;have:cq sp cs (i+1)=gt cs i:=rfl;simp[this,al i (),al (i+1) ()]
 simp[caR,e]at h
theorem w8(n2:2<=n)(n20:n<=20)(hs:(n:Int)<= sp):∃M,Ms (h_ .bor n sp) n sp false true (cq sp) M/\∀cs:Jf,cs.length=n->InS sp cs->∃J:Nat,IsJ sp cs J/\M cs=n*J+bS cs n:=by
 have r:=tz (n:=n) (sp:=sp) () n20 ();have ok:∀cs:Jf,cs.length=n->InS sp cs->∃m:Int,(∀f,Fc f\/f=.own->xV [h_ .bor n sp,.lst f (iL cs)]=.ok (.int m))/\∃J,IsJ sp cs J/\m=n*J+bS cs n:=λcs hn hc=>by
  have hc0:=hc _ (dG (far:=cs) (i:=0) ());have so:=λf hf=>vT (fc:=f) hf (cs:=cs) () () () hc0;obtain⟨J,_,hJ⟩:=so .bor (.inl rfl);refine⟨n*J+bS cs n,λf hf=>av ?_,J,hJ,rfl⟩;obtain⟨J',e1,hJ'⟩:=so _ (Fc.call hf);rw[E8 hJ' hJ]at e1;show EX [some (h_ .bor n sp),some (.lst f (iL cs)),none]=_;unfold EX;have mo:=gu r (.inl (Fc.call hf)) hn hc;have ml:=iV (n:=n) (D:=cq sp) (cs:=cs);have ws:((((range n).filter λi=>decide (cq sp cs i≠gt cs i)).filter λi=>decide (i≠0)).map λi:Nat=>(n:Int)-i).sum=bS cs n:=by
   obtain⟨m,rfl⟩:∃m,n=m+1:=⟨n-1,by omega⟩
   have:=sP (sp:=sp) (cs:=cs) (c:=((m+1:Nat):Int)) m;rw[show((m+1:Nat):Int)-1-m=0 by omega,Int.zero_mul,Int.add_zero]at this;exact this
  have sm:∀g:Fl,jI (.lst g (iL ((((range n).filter λi=>decide (cq sp cs i≠gt cs i)).filter λi=>decide (i≠0)).map λi:Nat=>(n:Int)-i)))=.ok (.int (bS cs n)):=λg=>by
   rw[<- ws];refine k8 ?_ λx hx=>?_
   .rw[length_map];refine Nat.le_trans (length_filter_le _ _) (Nat.le_trans (length_filter_le _ _) (by simp;omega))
   .obtain⟨i,hi,rfl⟩:=mem_map.mp hx;have:=mem_range.mp (mem_filter.mp (mem_filter.mp hi).1).1;omega
  refine ah (ar (v:=.lst .own (iL ((((range n).filter λi=>decide (cq sp cs i≠gt cs i)).filter λi=>decide (i≠0)).map λi:Nat=>(n:Int)-i))) ?_) ?_
  .refine aP (xs:=iL (mvR n (cq sp) cs)) (by simp[r.mv,mo,aw]) (by rw[bG];omega) ?_;unfold mvR;rw[show ∀l:List Nat,iL (l.map λi:Nat=>(i:Int))=l.map λi:Nat=>PV.int i from λl=>by simp[iL],show ∀l:List Nat,iL (l.map λi:Nat=>(n:Int)-i)=l.map λi:Nat=>PV.int ((n:Int)-i)from λl=>by simp[iL]];exact b6 (a:=λi:Nat=>PV.int i) (f:=λi:Nat=>PV.int ((n:Int)-i)) (p:=λi=>decide (i≠0)) _ λx _=>⟨[some (h_ .bor n sp),some (.int x)],by simp[tgN,aT,bN],by simp,λ_=>by simp[ao,bw]⟩
  simp only[s0_,s1_];have mu:cy (.int (n:Int)) (.int (J:Int))=.ok (.int (n*J)):=cM (.inl ⟨by omega,by omega⟩);generalize List.map (λi:Nat=>(n:Int)-i) _=WS at *;exact a6 (by simp[ao,bw,e1,aw,mu,p1,sm]) (by simp)
 obtain⟨M,hM⟩:∃M:Jf->Int,∀cs:Jf,cs.length=n->InS sp cs->(∀f,Fc f\/f=.own->xV [h_ .bor n sp,.lst f (iL cs)]=.ok (.int (M cs)))/\∃J,IsJ sp cs J/\M cs=n*J+bS cs n:=⟨λcs=>Classical.epsilon λm=>(∀f,Fc f\/f=.own->xV [h_ .bor n sp,.lst f (iL cs)]=.ok (.int m))/\∃J,IsJ sp cs J/\m=n*J+bS cs n,λcs hn hc=>Classical.epsilon_spec (ok cs hn hc)⟩
 refine⟨M,⟨λf cs hf hn hc=>?_,λcs nm hn hc hg h hne=>?_,λcs hn hc h e=>?_⟩,λcs hn hc=>(hM cs hn hc).2⟩
 .simp[aD,(hM cs hn hc).1 _ (Fc.tb2 hf),aw]
 .obtain⟨J,hJ,e⟩:=(hM cs hn hc).2;obtain⟨s1,s2⟩:=vU r hn hc nm;obtain⟨J',hJ',e'⟩:=(hM _ s1 s2).2;rw[e,e'];have hc0:=hc _ (dG (far:=cs) (i:=0) ());have hw:=FK n2 hs hn hc0 h;subst hn;exact rT hs n2 hc0 hJ hJ' hw hne
 .obtain⟨k,k1,k2⟩:=FK n2 hs hn (hc _ (dG (far:=cs) (i:=0) ())) h;have:((k+1:Nat):Int)∈ mvR n (cq sp) cs:=mem_map.mpr ⟨k+1,mem_filter.mpr ⟨mem_range.mpr k1,by simpa using(show cq sp cs (k+1)≠ gt cs (k+1)from k2)⟩,rfl⟩;rw[e]at this;exact nomatch this
end
structure Mx(o:PV)(n:Nat)(sp:Int)(al ip:Bool)(D:Jf->Nat->Int)(M:Jf->Int)(mo:Int):Prop where
 ms:Ms o n sp al ip D M
 mq:gp aG (.ok []) o=.ok (.int mo)
 bd:∀cs,cs.length=n->InS sp cs->0<=M cs/\M cs<=mo
 st:∀cs nm,cs.length=n->InS sp cs->caR n ip D cs=true->caR n ip D (stR n D cs nm)=true
theorem sW{n:Nat}{D:Jf->Nat->Int}{cs:Jf}(hn:cs.length=n)(nm:Jf)(h:caR n false D cs=true):caR n false D (stR n D cs nm)=true:=by
 have e:stR n D cs nm=cs:=Classical.byContradiction λz=>by obtain⟨i,hi,_,hd⟩:=ly hn z;have:(i:Int)∈ mvR n D cs:=mem_map.mpr ⟨i,mem_filter.mpr ⟨mem_range.mpr hi,by simpa using hd⟩,rfl⟩;simp[caR]at h;rw[h]at this;cases this
 rw[e];exact h
theorem qH{o:PV}{n:Nat}(le:o.Jx Fl.Jp=o)(a0:ao 0 o=.ok (.int n))(n10:n<=10):qB [o]=.ok (.int (2 ^ n-1)):=by have pn:=fG (e:=n) (b:=2) (by decide) (by decide) ();refine av ?_;show zD [some o]=_;unfold zD;exact a6 (by simp[le,a0,pn,aw]) (by simp)
theorem wW{b:Int}{r f:Nat->Nat}(hb:0<b)(hr:∀m,(r m:Int)<b)(hf:∀m,(f m:Int)<b):∀t,0<=num b r f t/\num b r f t<b ^ (2*t)
 |0=>by simp[num]
 |t+1=>by
  obtain⟨h1,h2⟩:=wW hb hr hf t;have e:b ^ (2*(t+1))=b ^ (2*t)*b*b:=by rw[show 2*(t+1)=2*t+1+1 by omega,Int.pow_succ,Int.pow_succ]
  have a:=jf (b:=b) (r:=0) hb h2 (hr t) ();have c:=jf (b:=b) (r:=0) hb a (hf t) ();have p1:=Int.mul_nonneg h1 (show 0<=b by omega);have p2:=Int.mul_nonneg (show 0<=num b r f t*b+r t by omega) (show 0<=b by omega);simp only[num];rw[e];simp only[Int.add_zero]at a c;exact⟨by omega,c⟩
theorem BZ{n T:Nat}{A x:Nat->Int}:0<=mL n T A x/\mL n T A x <((n:Int)+1) ^ (2*T):=wW () (λm=>by have:=oW (n:=n) (p:=λi=>decide (x i=m)&&decide ((m:Int)<A i));unfold uJ;omega) (λm=>by have:=oW (n:=n) (p:=λi=>decide ((m:Int)<x i)&&decide (A i=m));unfold vm;omega) T
theorem qh{cc n T:Nat}{ps:Jc}{os:List (Jj)}{st:Int}{f:Fl}(hf:Fc f)(n10:n<=10)(hT:T<=100):vn [lea f cc n ps os st T]=.ok (.int (((n:Int)+1) ^ (2*T)-1)):=by have pn:=fG (e:=2*T) (b:=(n:Int)+1) () () ();rw[show((2*T:Nat):Int)=2*(T:Int) by omega]at pn;have mu:cy (.int 2) (.int (T:Int))=.ok (.int (2*(T:Int))):=cM (.inl ⟨by decide,by decide⟩);refine av ?_;show ER [some (lea f cc n ps os st T)]=_;unfold ER;exact a6 (by simp[ao,bw,pn,mu,aw]) (by simp)
section
variable{n:Nat}{sp:Int}{cs nm:Jf}
theorem B_:∀m,(0<=bc cs m/\bc cs m<=m)/\0<=bS cs m/\2*bS cs m<=m*((m:Int)-1)
 |0=>by simp[bc,bS]
 |m+1=>by
  obtain⟨⟨h1,h2⟩,h3,h4⟩:=B_ m;have e:((m+1:Nat):Int)*(((m+1:Nat):Int)-1)=m*((m:Int)-1)+2*m:=by rw[show((m+1:Nat):Int)-1=m by omega,show((m+1:Nat):Int)=m+1 by omega,Int.add_mul,Int.mul_sub];omega
  simp only[bc,bS];refine⟨by split<;>omega,by omega,?_⟩;rw[e];omega
theorem wr(n20:n<=20):yu [h_ .bor n sp]=.ok (.int (3*n*((n:Int)-1) / 2)):=by refine av ?_;show zz [some (h_ .bor n sp)]=_;unfold zz;have m1:cy (.int 3) (.int (n:Int))=.ok (.int (3*n)):=cM (.inl ⟨by decide,by decide⟩);have m2:cy (.int (3*(n:Int))) (.int ((n:Int)-1))=.ok (.int (3*n*((n:Int)-1))):=cM (.inl ⟨by omega,by omega⟩);have d2:dB (.int (3*(n:Int)*((n:Int)-1))) (.int 2)=.ok (.int (3*n*((n:Int)-1) / 2)):=dI (by decide) (by decide);exact a6 (by simp[ao,bw,m1,m2,d2]) (by simp)
theorem sX{b sp:Int}(h:0<=b/\b<sp)(h2:2<=sp):(b+1)%sp≠b/\0 <=(b+1)%sp/\(b+1)%sp<sp:=by
 refine⟨?_,emod_nonneg _ (),emod_lt_of_pos _ ()⟩;by_cases q:b+1<sp
 .rw[emod_eq_of_lt () q];omega
 .rw[show b+1=sp by omega,Int.emod_self];omega
structure Cs(n:Nat)(sp:Int)(cs:Jf)(p:Nat)(a b:Int):Prop where
 len:cs.length=n
 pn:p<n
 lo:∀i,i<p->gt cs i=a
 hi:∀i,p<=i->i<n->gt cs i=b
 ra:0<=a/\a<sp
 rb:0<=b/\b<sp
 ne:p≠0->a≠b
theorem Cs.due{n:Nat}{sp:Int}{cs:Jf}{p:Nat}{a b:Int}(h:Cs n sp cs p a b)(h2:2<=sp):∀i<n,(cq sp cs i≠gt cs i↔i=p):=λi hi=>by
 have hl:=h.len;have hp:=h.pn;unfold cq;by_cases h0:i=0
 .subst h0;rw[if_pos rfl];by_cases p0:p=0
  .subst p0;have g0:=h.hi 0 () ();have gl:=h.hi (cs.length-1) () ();rw[if_pos (g0.trans gl.symm),g0];simp[(sX h.rb h2).1]
  .have g0:=h.lo 0 ();have gl:=h.hi (cs.length-1) () ();have:=h.ne p0;rw[if_neg (by rw[g0,gl];exact this)];simp;omega
 .rw[if_neg h0];rcases Nat.lt_trichotomy i p with q|q|q
  .rw[h.lo i q,h.lo (i-1) ()];simp;omega
  .subst q;rw[h.lo (i-1) (),h.hi i () hi];simp[h.ne h0]
  .rw[h.hi i () hi,h.hi (i-1) () ()];simp;omega
theorem Cs.next{n:Nat}{sp:Int}{cs:Jf}{p:Nat}{a b:Int}(h:Cs n sp cs p a b)(hn:2<=n)(h2:2<=sp):∃a' b',Cs n sp (cs.set p (cq sp cs p)) ((p+1)%n) a' b':=by
 have hl:=h.len;have hp:=h.pn;have gs:∀i,gt (cs.set p (cq sp cs p)) i=if i=p then cq sp cs p else gt cs i:=λi=>eJ _ () i
 by_cases p0:p=0
 .subst p0;have g0:=h.hi 0 () ();have gl:=h.hi (cs.length-1) () ();have hd:cq sp cs 0=(b+1)%sp:=by unfold cq;rw[if_pos rfl,if_pos (g0.trans gl.symm),g0]
  obtain⟨s1,s2⟩:=sX h.rb h2;rw[show(0+1)%n=1 from Nat.mod_eq_of_lt ()];refine⟨(b+1)%sp,b,⟨by simp[hl],by omega,λi hi=>?_,λi h1 hi=>?_,s2,h.rb,λ_=>s1⟩⟩
  .rw[gs,if_pos (),hd]
  .rw[gs,if_neg ()];exact h.hi i () hi
 .have hd:cq sp cs p=a:=by unfold cq;rw[if_neg p0];exact h.lo _ ()
  by_cases q:p+1<n
  .rw[Nat.mod_eq_of_lt q];refine⟨a,b,⟨by simp[hl],q,λi hi=>?_,λi h1 hi=>?_,h.ra,h.rb,λ_=>h.ne p0⟩⟩
   .rw[gs,hd];split
    .rfl
    .exact h.lo i ()
   .rw[gs,if_neg ()];exact h.hi i () hi
  .rw[show p+1=n by omega,Nat.mod_self];refine⟨a,a,⟨by simp[hl],by omega,λi hi=>by omega,λi h1 hi=>?_,h.ra,h.ra,λz=>absurd rfl z⟩⟩;rw[gs,hd];split
   .rfl
   .exact h.lo i ()
theorem sD{n p:Nat}{f:Nat->Bool}(hp:p<n)(h:∀i<n,(f i=true↔i=p)):(range n).filter f=[p]:=by
 have e:(range n).filter f=(range n).filter λi=>i==p:=filter_congr λi hi=>by have:=h i (mem_range.mp hi);rw[Bool.eq_iff_iff,this];simp
 rw[e];have hd:(range n).Nodup:=nodup_range;have hm:p∈range n:=mem_range.mpr hp;have:(range n).filter (λi=>i==p)=replicate ((range n).count p) p:=by rw[List.filter_beq]
 rw[this,Nodup.count hd,if_pos hm];rfl
theorem Hq(hn:cs.length=n)(n2:2<=n)(hc:InS sp cs)(h:caR n true (cq sp) cs=true):∃p a b,Cs n sp cs p a b:=by
 simp only[caR,mvR,length_map,if_true,decide_eq_true_eq]at h;obtain⟨p,hp⟩:=List.length_eq_one_iff.mp h;have hm:∀i,i<n->(cq sp cs i≠gt cs i↔i=p):=λi hi=>by
  have:i ∈(range n).filter (λi=>decide (cq sp cs i≠gt cs i))↔ i=p:=by rw[hp];simp
  rw[<- this,mem_filter];simp[hi]
 have pn:p<n:=by
  have:p ∈(range n).filter (λi=>decide (cq sp cs i≠gt cs i)):=by rw[hp];simp
  exact mem_range.mp (mem_filter.mp this).1
 have sm:∀i,i+1<n->i+1≠p->gt cs (i+1)=gt cs i:=λi hi hne=>by exact Classical.byContradiction λz=>hne ((hm (i+1) hi).mp λe=>z (e.symm.trans rfl))
 have lo:∀i,i<p->gt cs i=gt cs 0:=λi=>by
  induction i with
  |zero=>intro _;rfl
  |succ i ih=>intro hi;rw[sm i () ()];exact ih ()
 have hi:∀i,p<=i->i<n->gt cs i=gt cs p:=λi=>by
  induction i with
  |zero=>intro h1 _;rw[show p=0 by omega]
  |succ i ih=>
   intro h1 h2;by_cases e:i+1=p
   .rw[e]
   .rw[sm i h2 e];exact ih () ()
 refine⟨p,gt cs 0,gt cs p,hn,pn,lo,hi,hc _ (dG ()),hc _ (dG ()),λp0 e=>?_⟩;have:=(hm p pn).mpr rfl;obtain⟨q,rfl⟩:∃q,p=q+1:=⟨p-1,by omega⟩
 refine this ?_;rw[show cq sp cs (q+1)=gt cs q from rfl,lo q (),e]
theorem Bw{p:Nat}{a b:Int}(h:Cs n sp cs p a b)(s2:2<=sp):caR n true (cq sp) cs=true:=by simp only[caR,mvR,length_map,if_true,decide_eq_true_eq];rw[sD h.pn λi hi=>by simpa using h.due s2 i hi];rfl
theorem rS(hn:cs.length=n)(n2:2<=n)(s2:2<=sp)(hc:InS sp cs)(nm:Jf)(h:caR n true (cq sp) cs=true):caR n true (cq sp) (stR n (cq sp) cs nm)=true:=by
 obtain⟨p,a,b,C⟩:=Hq hn n2 hc h;have e:stR n (cq sp) cs nm=if nm.contains (p:Int)then cs.set p (cq sp cs p)else cs:=by
  refine ext_getElem (by split<;>simp[stR,hn]) λi h1 h2=>?_;have hi:i<n:=by simpa[stR]using h1
  have d:=C.due s2 i hi;rw[<- jg _ _ h1,<- jg _ _ h2,gJ hi];by_cases q:i=p
  .subst q;split
   .rw[eJ _ (),if_pos rfl]
   .rfl
  .have de:cq sp cs i=gt cs i:=Classical.byContradiction λz=>q (d.mp z);rw[de,ite_self];split
   .rw[eJ _ (by have:=C.pn;omega),if_neg q]
   .rfl
 rw[e];split
 .obtain⟨a',b',C'⟩:=C.next n2 s2;exact Bw C' s2
 .exact h
theorem AN(n2:2<=n)(n20:n<=20)(hs:(n:Int)<= sp):∃M mo,Mx (h_ .bor n sp) n sp false true (cq sp) M mo:=by
 obtain⟨M,h,hM⟩:=w8 n2 n20 hs;refine⟨M,3*n*((n:Int)-1) / 2,h,by simp[aG,wr n20,aw],λcs hn hc=>?_,λcs nm hn hc h=>rS hn n2 () hc nm h⟩;obtain⟨J,hJ,e⟩:=hM cs hn hc;obtain⟨_,b1,b2⟩:=B_ (cs:=cs) n;have j:J<=n-1:=by rcases hJ with⟨_,rfl⟩ |⟨_,_,q,_⟩<;>omega
 have m1:(0:Int)<= n*J:=Int.mul_nonneg () ();have m2:(n:Int)*J<=n*((n:Int)-1):=Int.mul_le_mul_of_nonneg_left () ();rw[e,Int.mul_assoc];omega
end
section
variable{n r:Nat}{ps:Jc}{os:List (Jj)}{st:Int}
theorem w4(h1:1<=n)(n10:n<=10)(rg:∀x∈ps,0<=x.1/\x.1<n/\0<=x.2/\x.2<n/\x.1≠x.2)(hl:∀i,(nbL ps i).length<=1000):∃M mo,Mx (pnt .bor n ps) n n false false (kF ps) M mo:=
 ⟨_,2 ^ n - 1,w9 h1 n10 rg hl,by simp [aG,qH (o:=pnt .bor n ps) (n:=n) (by simp) (by simp [ao,bw]) n10,aw],λcs hn hc=>by
  have:=pD (n:=n) (K:=n) (rk:=λi=>n-1-i) (p:=mvB (kF ps) cs) (λi j h1 h2 e=>by omega) (λi hi _=>by omega);exact⟨this.1,Int.le_sub_one_of_lt this.2⟩,λcs nm hn _ h=>sW hn nm h⟩
theorem w5{ps:Jf}(T:Tree ps)(hl:ps.length<=9):∃M mo,Mx (cnt .bor ps) (ps.length+1) ((ps.length:Int)+2) false false (oZ (ps.length+1) ps) M mo:=
 ⟨_,2 ^ (ps.length+1) - 1,xb T hl,by simp [aG,qH (o:=cnt .bor ps) (n:=ps.length+1) (by simp) (by simp [ao,bw]) (),aw],λcs hn hc=>by
  have:=pD (n:=ps.length+1) (K:=ps.length+1) (rk:=id) (p:=mvB (oZ (ps.length+1) ps) cs) (λi j h1 h2 e=>e) (λi hi _=>hi);exact⟨this.1,Int.le_sub_one_of_lt this.2⟩,λcs nm hn _ h=>sW hn nm h⟩
theorem lS{cc T:Nat}(hcc:cc=4\/cc=5\/cc=6)(h1:1<=n)(n10:n<=10)(hst:0<st)(hT:T<=100)(ho:OkS T os)(hol:os.length=n)(hnb:∀i:Nat,∀x∈nbL ps i,0<=x/\x<n)(hl:∀i,(nbL ps i).length<=1000):∃M mo,Mx (lea .bor cc n ps os st T) n ((T:Int)+1) true false (fT ps os st T) M mo:=
 ⟨_,((n:Int)+1) ^ (2 * T) - 1,w_ hcc h1 n10 hst () ho hol hnb hl,by rcases hcc with rfl | rfl | rfl <;> simp [aG,qh (f:=.bor) (by first | exact .inr rfl | exact .inl rfl) n10 hT,aw],λcs hn hc=>by
  have:=BZ (n:=n) (T:=T) (A:=fT ps os st T cs) (x:=gt cs);exact⟨this.1,Int.le_sub_one_of_lt this.2⟩,λcs nm hn _ h=>sW hn nm h⟩
theorem AO(h1:1<=n)(h10:n<=10)(hr:r<n)(hnb:∀i:Nat,∀x∈nbL ps i,0<=x/\x<n)(hl:∀i,(nbL ps i).length<=1000):∃M mo,Mx (gro .bor n ps r) n (((n:Int)+1)*((n:Int)+1)) true false (my n ps r) M mo:=by
 have lm:=λf hf=>qh (cc:=5) (n:=n) (T:=n) (ps:=ps) (os:=fs n r) (st:=n) (f:=f) hf h10 ();have pn:=fG (e:=n) (b:=2) (by decide) (by decide) ();have p2:=q_ h10;have mu:∀B:Int,cy (.int B) (.int (2 ^ n))=.ok (.int (B*2 ^ n)):=λB=>cM (.inr ⟨by omega,by omega⟩);have gm:yx [gro .bor n ps r]=.ok (.int (((n:Int)+1) ^ (2*n)*2 ^ n-1)):=by refine av ?_;show zG [some (gro .bor n ps r)]=_;unfold zG;refine a6 ?_ (by simp);generalize hB:((n:Int)+1) ^ (2*n)=B at lm ⊢;generalize(2:Int) ^ n=PN at *;simp[ao,bw,jh,lm .frz (.inr rfl),lm .bor (.inl rfl),pn,mu,aw,Int.sub_add_cancel]
 refine⟨_,((n:Int)+1) ^ (2*n)*2 ^ n-1,AQ h1 h10 hr hnb hl,by simp[aG,gm,aw],λcs hn hc=>?_,λcs nm hn _ h=>sW hn nm h⟩;obtain⟨a1,a2⟩:=BZ (n:=n) (T:=n) (A:=fT ps (fs n r) n n (FA n cs)) (x:=gt (FA n cs));obtain⟨b1,b2⟩:=pD (n:=n) (K:=n) (rk:=rnk n (FA n cs)) (p:=wrg n ps r cs) (λi j h1 h2 e=>tq h1 h2 e) (λi hi _=>k_ hi);unfold MG mT;generalize((n:Int)+1) ^ (2*n)=B at *;generalize(2:Int) ^ n=PN at *;have c:=jf (b:=PN) (r:=0) p2.1 a2 b2 ();have d:=Int.mul_nonneg a1 (show 0<=PN by omega);omega
end
end
section
def qt(s x:Int):Nat->Int
 |0=>x
 |k+1=>qt s x k / s
def dgs(s x:Int):Nat->Jf
 |0=>[]
 |k+1=>qt s x k%s::dgs s x k
theorem we{s x:Int}(hs:0<s)(h0:0<=x):∀k,0<=qt s x k/\qt s x k<=x
 |0=>⟨h0,Int.le_refl _⟩
 |k+1=>by have⟨h1,h2⟩:=we hs h0 k;exact⟨Int.ediv_nonneg h1 (),Int.le_trans (Int.ediv_le_self _ h1) h2⟩
theorem BT{s x:Int}(hs:0<s){n:Nat}(hx:x<s ^ n):∀k,k<=n->qt s x k<s ^ (n-k)
 |0,_=>hx
 |k+1,h=>by
  have h1:=BT hs hx k ();have e:n-k=n-(k+1)+1:=by omega
  rw[e,Int.pow_succ]at h1;exact Int.ediv_lt_of_lt_mul hs h1
theorem wf{s x:Int}(hs:0<s)(h0:0<=x){n:Nat}(hx:x<s ^ n):qt s x n=0:=by have h1:=BT hs hx n (Nat.le_refl _);have h2:=(we hs h0 n).1;rw[Nat.sub_self,Int.pow_zero]at h1;omega
theorem F6(s x:Int)(k:Nat):qt s x (k+1)*s+qt s x k%s=qt s x k:=by show qt s x k / s*s+qt s x k%s=qt s x k;have:=Int.mul_ediv_add_emod (qt s x k) s;rw[Int.mul_comm]at this;exact this
@[simp] theorem uu(s x:Int):∀k,(dgs s x k).length=k
 |0=>rfl
 |k+1=>by simp[dgs,uu s x k]
theorem yI{s x:Int}(hs:0<s):∀k,InS s (dgs s x k)
 |0,_,h=>nomatch h
 |k+1,c,h=>by
  rcases mem_cons.mp h with rfl|h
  .exact⟨emod_nonneg _ (),emod_lt_of_pos _ hs⟩
  .exact yI hs k c h
theorem rP{s:Int}(hs:0<s)(x m:Int)(k:Nat):∀j,j<=k->qt s (x+m*s ^ k) j=qt s x j+m*s ^ (k-j)
 |0,_=>rfl
 |j+1,h=>by
  have e:k-j=k-(j+1)+1:=by omega
  show qt s (x+m*s ^ k) j / s=qt s x j / s+m*s ^ (k-(j+1));rw[rP hs x m k j (),e,Int.pow_succ,<- Int.mul_assoc,Int.add_mul_ediv_right _ _ ()]
theorem uv{s:Int}(hs:0<s)(x m:Int)(k:Nat):∀j,j<=k->dgs s (x+m*s ^ k) j=dgs s x j
 |0,_=>rfl
 |j+1,h=>by
  have e:k-j=k-(j+1)+1:=by omega
  show qt s (x+m*s ^ k) j%s::dgs s (x+m*s ^ k) j=qt s x j%s::dgs s x j;rw[uv hs x m k j (),rP hs x m k j (),e,Int.pow_succ,<- Int.mul_assoc,Int.add_mul_emod_self_right]
def nmb(s:Int)(cs:Jf):Int:=cs.foldl (λa c=>a*s+c) 0
theorem mf(s:Int):∀(cs:Jf) (a:Int),cs.foldl (λa c=>a*s+c) a=a*s ^ cs.length+nmb s cs
 | [],a=>by simp[nmb]
 |c::cs,a=>by
  have h1:=mf s cs (a*s+c);have h2:=mf s cs (0*s+c);unfold nmb at *;rw[foldl_cons,foldl_cons,h1,h2,length_cons,Int.pow_succ];have e:a*(s ^ cs.length*s)=a*s*s ^ cs.length:=by rw[Int.mul_comm (s ^ cs.length) s,Int.mul_assoc]
  rw[e,Int.add_mul,Int.zero_mul,Int.zero_add];omega
theorem lR(s c:Int)(cs:Jf):nmb s (c::cs)=nmb s cs+c*s ^ cs.length:=by have:=mf s cs (0*s+c);rw[Int.zero_mul,Int.zero_add]at this;unfold nmb at *;rw[foldl_cons,Int.zero_mul,Int.zero_add,this];omega
theorem oH{s:Int}(hs:0<s):∀cs:Jf,InS s cs->0<=nmb s cs/\nmb s cs<s ^ cs.length
 | [],_=>by simp[nmb]
 |c::cs,h=>by obtain⟨h1,h2⟩:=oH hs cs λx hx=>h x (mem_cons_of_mem _ hx);obtain⟨c0,c1⟩:=h c mem_cons_self;rw[lR,length_cons,Int.pow_succ];have p:0<=c*s ^ cs.length:=Int.mul_nonneg c0 ();have q:(c+1)*s ^ cs.length<=s*s ^ cs.length:=Int.mul_le_mul_of_nonneg_right () ();rw[Int.add_mul,Int.one_mul]at q;rw[Int.mul_comm (s ^ cs.length) s];omega
theorem ut{s:Int}(hs:0<s):∀cs:Jf,InS s cs->dgs s (nmb s cs) cs.length=cs
 | [],_=>rfl
 |c::cs,h=>by have ht:InS s cs:=λx hx=>h x (mem_cons_of_mem _ hx);obtain⟨h1,h2⟩:=oH hs cs ht;obtain⟨c0,c1⟩:=h c mem_cons_self;rw[lR,length_cons];show qt s (nmb s cs+c*s ^ cs.length) cs.length%s::dgs s (nmb s cs+c*s ^ cs.length) cs.length=c::cs;rw[uv hs _ _ _ _ (Nat.le_refl _),rP hs _ _ _ _ (Nat.le_refl _),wf hs h1 h2,ut hs cs ht,Nat.sub_self,Int.pow_zero,Int.mul_one,Int.zero_add,emod_eq_of_lt c0 c1]
theorem qa(s x:Int):∀k,nmb s (dgs s x k)+qt s x k*s ^ k=x
 |0=>by simp[dgs,nmb,qt]
 |k+1=>by
  have ih:=qa s x k;have u:=F6 s x k;show nmb s (qt s x k%s::dgs s x k)+qt s x (k+1)*s ^ (k+1)=x;rw[lR,uu,Int.pow_succ,Int.mul_comm (s ^ k) s,<- Int.mul_assoc];have:qt s x k*s ^ k=qt s x (k+1)*s*s ^ k+qt s x k%s*s ^ k:=by rw[<- Int.add_mul,u]
  omega
theorem AL{s x:Int}(hs:0<s)(h0:0<=x){n:Nat}(hx:x<s ^ n):nmb s (dgs s x n)=x:=by have:=qa s x n;rw[wf hs h0 hx]at this;omega
def fH(l:Jf):List (Jf):=l.foldl (λS a=>S++S.map (·++[a])) [[]]
structure j5(l0:Jf)(S:List (Jf)):Prop where
 ex:∃S',S=[]::S'/\(∀nm∈S',nm≠[]/\(∀a∈nm,a∈l0)/\nm.Nodup)/\(l0≠[]->S'≠[])
 len:S.length=2 ^ l0.length
theorem j5.step{l0:Jf}{S:List (Jf)}{a:Int}(h:j5 l0 S)(ha:a∉l0):j5 (l0++[a]) (S++S.map (·++[a])):=by
 obtain⟨⟨S',rfl,h1,h2⟩,hl⟩:=h;refine⟨⟨S' ++([]::S').map (·++[a]),rfl,λnm hm=>?_,λ_=>by simp⟩,?_⟩
 .rcases mem_append.mp hm with hm|hm
  .obtain⟨p1,p2,p3⟩:=h1 nm hm;exact⟨p1,λx hx=>mem_append_left _ (p2 x hx),p3⟩
  .obtain⟨m,hm2,rfl⟩:=mem_map.mp hm;have hm':(∀x∈m,x∈l0)/\m.Nodup:=by
    rcases mem_cons.mp hm2 with e|hm2
    .subst e;exact⟨λx hx=>(nomatch hx),nodup_nil⟩
    .exact(h1 m hm2).2
   refine⟨by simp,λx hx=>?_,?_⟩
   .rcases mem_append.mp hx with hx|hx
    .exact mem_append_left _ (hm'.1 x hx)
    .exact mem_append_right _ hx
   .rw[nodup_append];exact⟨hm'.2,by simp,λx hx y hy e=>ha (by rw[mem_singleton]at hy;rw[<- hy,<- e];exact hm'.1 x hx)⟩
 .rw[length_append,length_map,hl,length_append,List.length_singleton,Nat.pow_succ];omega
theorem j5.fold:∀(l l0:Jf) (S:List (Jf)),j5 l0 S->(l0++l).Nodup->j5 (l0++l) (l.foldl (λS a=>S++S.map (·++[a])) S)
 | [],l0,S,h,_=>by simpa using h
 |a::l,l0,S,h,hn=>by
  have hn':((l0++[a])++ l).Nodup:=by simpa using hn
  have ha:a∉l0:=λhm=>by rw[nodup_append]at hn;exact hn.2.2 a hm a mem_cons_self rfl
  have:=j5.fold l (l0++[a]) _ (h.step ha) hn';simpa using this
theorem jt{l:Jf}(h:l.Nodup):j5 l (fH l):=by have:=j5.fold l [] [[]] ⟨⟨[],rfl,λ_ w=>(nomatch w),λw=>absurd rfl w⟩,rfl⟩ (by simpa using h);rw[List.nil_append]at this;exact this
structure Ce(n:Nat)(s:Int)(cs:Jf):Prop where
 len:cs.length=n
 inn:InS s cs
def trn(n:Nat)(D:Jf->Nat->Int)(many:Bool)(cs:Jf):List (Jf):=if many then(fH (mvR n D cs)).drop 1 else(mvR n D cs).map λa=>[a]
structure Ru(r:PV)(n:Nat)(s:Int)(al ip:Bool)(D:Jf->Nat->Int)(many:Bool):Prop where
 rl:Rl r n s al ip D
 s3:s<=256
 n4:n<=4
 big:s ^ n<=256
 md:many=true->al=false
section
variable{r:PV}{n:Nat}{s:Int}{al ip many:Bool}{D:Jf->Nat->Int}{cs nm:Jf}{fc:Fl}
theorem lT:(mvR n D cs).Nodup:=by unfold mvR;have:((range n).filter λi=>decide (D cs i≠gt cs i)).Nodup:=Pairwise.filter _ nodup_range;exact Pairwise.map _ (λa b (h:a≠b)=>by omega) this
theorem w6{a:Int}(h:a∈mvR n D cs):∃i:Nat,a=i/\i<n/\D cs i≠gt cs i:=by unfold mvR at h;obtain⟨i,hi,rfl⟩:=mem_map.mp h;obtain⟨h1,h2⟩:=mem_filter.mp hi;exact⟨i,rfl,mem_range.mp h1,by simpa using h2⟩
theorem sS(h:nm∈trn n D many cs):nm≠[]/\(∀a∈nm,a∈mvR n D cs)/\nm.Nodup/\(many=false->nm.length=1):=by
 unfold trn at h;cases many with
 |true=>obtain⟨⟨S',e,h1,_⟩,_⟩:=jt (lT (n:=n) (D:=D) (cs:=cs));rw[if_pos rfl,e]at h;obtain⟨p,q,t⟩:=h1 nm h;exact⟨p,q,t,nofun⟩
 |false=>rw[if_neg (by decide)]at h;obtain⟨a,ha,rfl⟩:=mem_map.mp h;exact⟨by simp,λx hx=>by rw[mem_singleton.mp hx];exact ha,by simp,λ_=>rfl⟩
theorem n8:(trn n D many cs).length=if many then 2 ^ (mvR n D cs).length-1 else(mvR n D cs).length:=by
 unfold trn;cases many with
 |true=>simp[(jt (lT (n:=n) (D:=D) (cs:=cs))).len]
 |false=>simp
theorem sR:trn n D many cs=[]↔ mvR n D cs=[]:=by
 have h:=n8 (n:=n) (D:=D) (cs:=cs) (many:=many);rw[<- List.length_eq_zero_iff,<- List.length_eq_zero_iff,h];cases many with
 |false=>simp
 |true=>
  rw[if_pos rfl];cases(mvR n D cs).length with
  |zero=>simp
  |succ m=>have:0<2 ^ m:=Nat.pow_pos (by decide);rw[Nat.pow_succ];omega
theorem jr(h4:n<=4):(trn n D many cs).length<=15:=by
 have hm:=iV (n:=n) (D:=D) (cs:=cs);rw[n8];split
 .have:2 ^ (mvR n D cs).length<=2 ^ 4:=Nat.pow_le_pow_right (by decide) ();omega
 .omega
theorem lx(K:Ru r n s al ip D many)(C:Ce n s cs)(nm:Jf):Ce n s (stR n D cs nm):=let⟨a,b⟩:=vU K.rl C.len C.inn nm;⟨a,b⟩
theorem t5(K:Ru r n s al ip D many)(h:nm∈trn n D many cs):uA n al nm:=by
 obtain⟨h1,h2,h3,h4⟩:=sS h;have hl:nm.length<=n:=Nat.le_trans (jL h3 h2) iV;have:=K.n4;refine⟨h3,λx hx=>?_,λha=>?_,by omega⟩
 .obtain⟨i,rfl,hi,_⟩:=w6 (h2 x hx);omega
 .cases many with
  |true=>have:=K.md rfl;rw[ha]at this;cases this
  |false=>have:=h4 rfl;omega
theorem st_ne(C:Ce n s cs)(h:nm∈trn n D many cs):stR n D cs nm≠cs:=λe=>by obtain⟨h1,h2,_⟩:=sS h;obtain⟨a,nm',rfl⟩:=List.exists_cons_of_ne_nil h1;obtain⟨i,rfl,hi,hd⟩:=w6 (h2 a mem_cons_self);have:=gJ (n:=n) (D:=D) (cs:=cs) (nm:=(i:Int)::nm') hi;rw[e]at this;simp at this;exact hd this.symm
theorem A4(S:List (Jf)):mapL Fl.Jr (llL .own S)=llL .frz S:=by rw[jN];rfl
theorem qf(g:Fl->Fl):∀xs ys:Jn,mapL g (xs++ys)=mapL g xs++mapL g ys
 | [],ys=>by simp
 |x::xs,ys=>by simp[qf g xs ys]
theorem qv(p:Fl->Bool):∀xs ys:Jn,hasL p (xs++ys)=(hasL p xs||hasL p ys)
 | [],ys=>by simp
 |x::xs,ys=>by simp[qv p xs ys,Bool.or_assoc]
theorem rD{l:Jf}(hl:l.length<=6)(hd:l.Nodup):ue [.lst .bor (iL l)]=.ok (.lst .own (llL .frz ((fH l).drop 1))):=by
 refine av ?_;show yV [some (.lst .bor (iL l)),none,none]=_;unfold yV;refine ah (ar (v:=.lst .own [.lst .own []]) (by simp)) ?_;simp only[s0_,s1_];refine cH (λk e=>∃xs x2,e=[some (.lst .bor (iL l)),some (.lst .own xs),x2]/\mapL Fl.Jr xs=llL .frz (fH (l.take k))) (xs:=iL l) (dh (f:=.bor) (by simp) rfl (by simp) (by simp)) ⟨[.lst .own []],none,rfl,by simp[fH]⟩ (λk x e hx hP=>?_) (λe hP=>?_)
 .obtain⟨xs,x2,rfl,hxs⟩:=hP;obtain⟨a,ha,rfl⟩:=gY hx;have hk:k<l.length:=(List.getElem?_eq_some_iff.mp ha).1;have hS:(fH (l.take k)).length<=64:=by rw[(jt (Sublist.nodup (List.take_sublist k l) hd)).len];have:2 ^ (l.take k).length<=2 ^ 6:=Nat.pow_le_pow_right (by decide) (by rw[length_take];omega);omega
  have hN:∀nm∈fH (l.take k),nm.length<=6:=λnm hm=>by
   obtain⟨⟨S',e,h1,_⟩,_⟩:=jt (Sublist.nodup (List.take_sublist k l) hd);rw[e]at hm;rcases mem_cons.mp hm with rfl|hm
   .simp
   .obtain⟨_,h2,h3⟩:=h1 nm hm;have:=jL h3 h2;rw[length_take]at this;omega
  have e1:fH (l.take (k+1))=fH (l.take k)++(fH (l.take k)).map (·++[a]):=by unfold fH;rw[List.take_succ,ha];simp
  refine⟨_,cu rfl,?_⟩;simp only[s0_,s1_];refine bZ (eK (v:=.lst .own xs) rfl) ?_;simp only[s0_,s1_,fN,hxs,eM];generalize fH (l.take k)=S at *;have cp:aM [2] 1 (bu (ac 1)) (tgN 1) bp (mOp aL (ac 1) (fE (ae (ac 0) am))) [some (.lst .bor (iL l)),some (.lst .frz (llL .frz S)),some (.int a)]=.ok (.lst .own (llL .own (S.map (·++[a])))):=by
   refine aP (xs:=llL .frz S) (by simp) (by simp;omega) ?_;have:=aY (env:=bN [2] 1 [some (.lst .bor (iL l)),some (.lst .frz (llL .frz S)),some (.int a)]) (g:=tgN 1) (me:=mOp aL (ac 1) (fE (ae (ac 0) am))) (a:=λnm:Jf=>PV.lst .frz (iL nm)) (f:=λnm=>PV.lst .own (iL (nm++[a]))) S λnm hm=>⟨[some (.int a),some (.lst .frz (iL nm))],by simp[tgN,aT,bN,PV.Js],?_,by simp,by simp⟩
   .rw[show llL .own (S.map (·++[a]))=S.map λnm=>PV.lst .own (iL (nm++[a])) by simp[llL]];exact this
   .have:=hN nm hm;simp;rw[gn (by decide) (by decide) (by simp;omega)];simp[iL]
  refine a9 (ar (v:=.lst .own (llL .frz S++llL .own (S.map (·++[a])))) ?_ ?_ rfl) ⟨_,_,rfl,?_⟩
  .simp only[gC,cp];simp;rw[gn (by decide) (by decide) (by simp;omega)]
  .simp only[eW,fF];rw[qv,cR _ _ _ rfl,cR _ _ _ rfl];rfl
  .rw[qf,A4,jN,e1,<- A5];rfl
 .obtain⟨xs,x2,rfl,hxs⟩:=hP;rw[bG,take_length]at hxs;refine ah (eK (v:=.lst .own xs) rfl) ?_;simp only[s0_,s1_,fN,hxs,eM];refine a6 (v:=.lst .own (llL .frz ((fH l).drop 1))) ?_ (by simp only[eW,fF];rw[cR _ _ _ rfl];rfl);have:=qK (llL .frz (fH l)) 1 (by rw[oN,(jt hd).len];exact Nat.pow_pos (by decide));simp;rw[show((1:Nat):Int)=1 from rfl]at this;rw[this];simp[llL]
def nxV(f:Fl)(n:Nat)(D:Jf->Nat->Int)(many:Bool)(cs:Jf):Jn:=(trn n D many cs).map λnm=>.tup [.lst .frz (iL nm),.lst f (iL (stR n D cs nm))]
theorem fM{p:Fl->Bool}{f:Fl}(h1:p .frz=false)(h2:p f=false):hasL p (nxV f n D many cs)=false:=by
 unfold nxV
 induction trn n D many cs with
 |nil=>simp
 |cons a l ih=>simp[ih,h1,h2]
theorem gR{g:Fl->Fl}{f:Fl}(h1:g .frz=.frz):mapL g (nxV f n D many cs)=nxV (g f) n D many cs:=by
 unfold nxV
 induction trn n D many cs with
 |nil=>simp
 |cons a l ih=>simp[ih,h1]
theorem fK(K:Ru r n s al ip D many):qA [r,.bl many]=.ok .non:=by
 refine eE ?_;show Ends (zl [some r,some (.bl many)]);unfold zl;refine kE (bL ?_ az);cases many with
 |false=>simp
 |true=>simp[K.rl.le,K.rl.a8,K.md rfl]
theorem jK(hB:Fc fc)(K:Ru r n s al ip D many)(C:Ce n s cs):jW [r,.lst fc (iL cs),.bl many]=.ok (.lst .own (nxV .own n D many cs)):=by
 have n6:=K.n4;have ml:=iV (n:=n) (D:=D) (cs:=cs);have md:=lT (n:=n) (D:=D) (cs:=cs);refine av ?_;show yT [some r,some (.lst fc (iL cs)),some (.bl many),none,none]=_;unfold yT;refine ah (d9 (v:=.non) (by simp[K.rl.le,K.rl.tb,fK K,aw])) ?_;refine ah (ar (v:=.lst .own (iL (mvR n D cs))) (by simp[K.rl.le,K.rl.tb,K.rl.mv,hB.le,hB.tb,gu K.rl (.inl hB) C.len C.inn,aw])) ?_;simp only[s0_,s1_];obtain⟨f,hf,hl,e⟩:∃f:Fl,f.Jr=.frz/\f.Ju=false/\(oK (bX (ac 2)) (ap (aB ue) (ae (ac 3) am)) (aM [] 1 (bu (ac 3)) (tgN 0) bp (fE (ae (ac 0) am)))) [some r,some (.lst fc (iL cs)),some (.bl many),some (.lst .own (iL (mvR n D cs))),none]=.ok (.lst .own (llL f (trn n D many cs))):=by
  cases many with
  |true=>refine⟨.frz,rfl,rfl,?_⟩;have:=rD (l:=mvR n D cs) () md;have hb:hasL Fl.Jv (llL .frz ((fH (mvR n D cs)).drop 1))=false:=cR _ _ _ rfl;simp only[yB,qC,fq,fX,eS,f_,mM];simp only[getElem?_cons_zero,getElem?_cons_succ,nJ,t9,fN,iW,Res.Jz,pF,if_true,xD,km,xr,mM,uD,this,trn];unfold aw;rw[fF,hb];rfl
  |false=>
   refine⟨.own,rfl,rfl,?_⟩;have:=aY (env:=bN [] 1 [some r,some (.lst fc (iL cs)),some (.bl false),some (.lst .own (iL (mvR n D cs))),none]) (g:=tgN 0) (me:=fE (ae (ac 0) am)) (a:=PV.int) (f:=λa=>PV.lst .own (iL [a])) (mvR n D cs) λa ha=>⟨[some (.int a)],by simp[tgN,aT,dR,bN],by simp,by simp,by simp⟩
   have c:=aP (caps:=[]) (k:=1) (mi:=bu (ac 3)) (env:=[some r,some (.lst fc (iL cs)),some (.bl false),some (.lst .own (iL (mvR n D cs))),none]) (xs:=iL (mvR n D cs)) (by simp) (by simp;omega) this;simp only[yB,qC,fq];simp only[getElem?_cons_zero,getElem?_cons_succ,nJ,t9,Res.Jz,pF,false_eq_true,if_false,c];simp[trn,llL]
 refine ah (ar e (by simp only[eW,fF];rw[cR _ _ _ hl];rfl) rfl) ?_;simp only[s0_,s1_];refine ah (eK (v:=.lst .own (llL f (trn n D many cs))) rfl) ?_;simp only[s0_,s1_,fN,jN,hf,eM];refine a6 (v:=.lst .own (nxV .own n D many cs)) ?_ (by simp only[eW,fF];rw[fM rfl rfl];rfl);refine aP (xs:=llL .frz (trn n D many cs)) (by simp) (by have:=jr (n:=n) (D:=D) (cs:=cs) (many:=many) n6;simp;omega) ?_;exact aY (a:=λnm:Jf=>PV.lst .frz (iL nm)) (f:=λnm=>PV.tup [.lst .frz (iL nm),.lst .own (iL (stR n D cs nm))]) (trn n D many cs) λnm hnm=>⟨[some r,some (.lst fc (iL cs)),some (.lst .frz (iL nm))],by simp[tgN,aT,bN,PV.Js,K.rl.bo,hB.bo],by simp[K.rl.le,K.rl.tb,K.rl.tu,hB.le,hB.tb,uB K.rl (.inl hB) (.inl (.inr rfl)) C.len C.inn (t5 K hnm),aw],by simp,by simp⟩
theorem p_(s c:Int)(l:Jf):nmb s (l++[c])=nmb s l*s+c:=by simp[nmb]
theorem fD(hB:Fc fc)(K:Ru r n s al ip D many):iK [r,.lst fc (iL cs)]=.ok (.int (nmb s cs)):=by
 have s2:=K.rl.s0;have s4:=K.s3;refine av ?_;show y9 [some r,some (.lst fc (iL cs)),none,none]=_;unfold y9;refine ah (ar (v:=.int 0) (by simp)) ?_;simp only[s0_,s1_];refine cH (λk e=>∃x3,e=[some r,some (.lst fc (iL cs)),some (.int (nmb s (cs.take k))),x3]) (xs:=iL cs) (dh (f:=fc) (by simp[hB.le]) hB.nl (by simp) (by simp)) ⟨none,rfl⟩ (λk y e hy hP=>?_) (λe hP=>?_)
 .obtain⟨x3,rfl⟩:=hP;obtain⟨z,hz,rfl⟩:=gY hy;refine⟨_,cu rfl,?_⟩;simp only[s0_,s1_];have mm:cy (.int (nmb s (cs.take k))) (.int s)=.ok (.int (nmb s (cs.take k)*s)):=cM (.inr ⟨by omega,by omega⟩);refine a9 (ar (v:=.int (nmb s (cs.take (k+1)))) ?_) ⟨_,rfl⟩;rw[List.take_succ,hz,toList_some,p_];simp[K.rl.le,K.rl.a7,mm]
 .obtain⟨x3,rfl⟩:=hP;rw[bG,take_length];exact d5 rfl
theorem qN(K:Ru r n s al ip D many)(x:Int):mt [r,.int x]=.ok (.lst .own (iL (dgs s x n))):=by
 have s2:=K.rl.s0;have s4:=K.s3;have n6:=K.n4;have hs:0<s:=by omega
 refine av ?_;show y7 [some r,some (.int x),none,none,none]=_;unfold y7;refine ah (ar (v:=.lst .own []) (by simp)) ?_;simp only[s0_,s1_];refine ah (ar (v:=.int x) (by simp)) ?_;simp only[s0_,s1_];refine cH (λk e=>∃x4,e=[some r,some (.int x),some (.lst .own (iL (dgs s x k).reverse)),some (.int (qt s x k)),x4]) (bR (n:=n) (by simp[K.rl.le,K.rl.a0]) ()) ⟨none,rfl⟩ (λk y e hy hP=>?_) (λe hP=>?_)
 .obtain⟨x4,rfl⟩:=hP;obtain⟨hk,rfl⟩:=cQ hy;refine⟨_,cu rfl,?_⟩;simp only[s0_,s1_];refine bZ (eP (v:=.int (qt s x k%s)) (xs:=iL (dgs s x k).reverse) (by simp[K.rl.le,K.rl.a7,bD hs]) rfl (by simp) (by simp;omega)) ?_;simp only[s0_,s1_];refine a9 (ar (v:=.int (qt s x (k+1))) (by simp[K.rl.le,K.rl.a7,dI hs (show s<1073741824 by omega),qt])) ⟨some (.int (0+(k:Int))),?_⟩;simp[dgs,iL]
 .obtain⟨x4,rfl⟩:=hP;rw[bC];refine a6 ?_ (by simp);have lr:∀f:Fl,gq (.lst f (iL (dgs s x n).reverse))=.ok (.lst .own (iL (dgs s x n))):=λf=>by unfold gq;dsimp only;rw[eH];dsimp only;rw[if_pos (by simp;omega),List.reverse_reverse];rfl
  simp[lr]
theorem oP{s:Int}(h:1<=s){a:Nat}:∀d,1<=s ^ a/\s ^ a<=s ^ (a+d)
 |0=>by refine⟨?_,Int.le_refl _⟩;have:0<s ^ a:=Int.pow_pos ();omega
 |d+1=>by obtain⟨h1,h2⟩:=oP h (a:=a) d;refine⟨h1,?_⟩;rw[<- Nat.add_assoc,Int.pow_succ];have:s ^ (a+d)*1<=s ^ (a+d)*s:=Int.mul_le_mul_of_nonneg_left h ();omega
theorem ju(K:Ru r n s al ip D many):qy [r]=.ok (.int (s ^ n)):=by
 have s2:=K.rl.s0;have s4:=K.s3;have n6:=K.n4;have big:=K.big;refine av ?_;show zf [some r,none,none]=_;unfold zf;refine ah (ar (v:=.int 1) (by simp)) ?_;simp only[s0_,s1_];refine cH (λk e=>∃x2,e=[some r,some (.int (s ^ k)),x2]) (bR (n:=n) (by simp[K.rl.le,K.rl.a0]) ()) ⟨none,by rw[Int.pow_zero]⟩ (λk y e hy hP=>?_) (λe hP=>?_)
 .obtain⟨x4,rfl⟩:=hP;obtain⟨hk,rfl⟩:=cQ hy;have h1:=(oP (s:=s) () (a:=k+1) (n-(k+1))).2;rw[show k+1+(n-(k+1))=n by omega]at h1;refine⟨_,cu rfl,?_⟩;simp only[s0_,s1_];have mm:cy (.int (s ^ k)) (.int s)=.ok (.int (s ^ (k+1))):=by rw[Int.pow_succ];exact cM (.inr ⟨by omega,by omega⟩)
  refine bZ (ar (v:=.int (s ^ (k+1))) (by simp[K.rl.le,K.rl.a7,mm])) ?_;simp only[s0_,s1_];refine a9 (bL ?_ az) ⟨_,rfl⟩;generalize s ^ (k+1)=u at *;simp[show ¬256<u by omega]
 .obtain⟨x4,rfl⟩:=hP;rw[bC];exact d5 rfl
theorem kY(K:Ru r n s al ip D many):yo [r,.bl many]=.ok .non:=by
 have big:=K.big;refine eE ?_;show Ends (zt [some r,some (.bl many)]);unfold zt;have st:=ju K;generalize s ^ n=u at *;refine gD (bL (by simp[K.rl.le,K.rl.tb,st,aw,show ¬256<u by omega]) az) ?_;refine kE (bL ?_ az);cases many with
 |false=>simp
 |true=>have:=K.n4;simp[K.rl.le,K.rl.a0];omega
end
end
section
section
variable{r:PV}{n:Nat}{s:Int}{al ip many:Bool}{D:Jf->Nat->Int}{cs nm:Jf}{fc:Fl}
theorem Ce.rng(s2:0<s)(C:Ce n s cs):0<=nmb s cs/\nmb s cs<s ^ n:=by
 have:=oH (s:=s) s2 cs C.inn
 rwa [C.len]at this
theorem Ce.dgs(s2:0<s)(C:Ce n s cs):dgs s (nmb s cs) n=cs:=by
 have:=ut (s:=s) s2 cs C.inn
 rwa [C.len]at this
theorem mJ(s2:0<s)(x:Int):Ce n s (dgs s x n):=⟨by simp,yI s2 n⟩
def sts(n:Nat)(s:Int):List (Jf):=(range (s ^ n).toNat).map λk:Nat=>dgs s k n
theorem iT:(sts n s).length=(s ^ n).toNat:=by simp[sts]
theorem k9(s2:0<s)(h:cs∈sts n s):Ce n s cs:=by unfold sts at h;obtain⟨k,_,rfl⟩:=mem_map.mp h;exact mJ s2 _
theorem j8{k:Nat}(h:k <(s ^ n).toNat):(sts n s)[k]?=some (dgs s k n):=by simp[sts,h]
theorem sU(s2:0<s)(C:Ce n s cs):(nmb s cs).toNat <(s ^ n).toNat/\(sts n s)[(nmb s cs).toNat]?=some cs:=by
 obtain⟨h0,h1⟩:=C.rng s2;have:(nmb s cs).toNat <(s ^ n).toNat:=by omega
 refine⟨this,?_⟩;rw[j8 this,Int.toNat_of_nonneg h0,C.dgs s2]
def fol(n:Nat)(s:Int)(D:Jf->Nat->Int)(many:Bool)(cs:Jf):Jf:=(trn n D many cs).map λnm=>nmb s (stR n D cs nm)
def cmV(n:Nat)(ip:Bool)(D:Jf->Nat->Int)(St:List (Jf)):Jn:=(St.map (caR n ip D)).map .bl
def wyV(f:Fl)(n:Nat)(D:Jf->Nat->Int)(many:Bool)(St:List (Jf)):Jn:=St.map λcs=>.lst f (nxV f n D many cs)
theorem kK(g:Fl->Fl):∀bs:List Bool,mapL g (bs.map .bl)=bs.map .bl
 | []=>by simp
 |b::bs=>by simp[kK g bs]
theorem yN(p:Fl->Bool):∀bs:List Bool,hasL p (bs.map .bl)=false
 | []=>by simp
 |b::bs=>by simp[yN p bs]
theorem j7{g:Fl->Fl}{f:Fl}(h1:g .frz=.frz)(St:List (Jf)):mapL g (wyV f n D many St)=wyV (g f) n D many St:=by
 unfold wyV
 induction St with
 |nil=>simp
 |cons a l ih=>simp[ih,gR h1]
theorem q9{p:Fl->Bool}{f:Fl}(h1:p .frz=false)(h2:p f=false)(St:List (Jf)):hasL p (wyV f n D many St)=false:=by
 unfold wyV
 induction St with
 |nil=>simp
 |cons a l ih=>simp[ih,fM h1 h2,h2]
theorem sH{St:List (Jf)}{k:Nat}(h:St[k]?=some cs)(f:Fl):aH (.lst f (cmV n ip D St)) (.int k)=.ok (.bl (caR n ip D cs)):=
 d8 rfl (by simp[cmV,h]) (by simp)
theorem BL{St:List (Jf)}{m:ME}{e:En}(h:m e=.ok (.lst .frz (wyV .frz n D many St))):iG m e=.ok (enP 0 (wyV .frz n D many St)):=by unfold iG;rw[h];simp[fk,q9 (p:=Fl.Jt) (f:=.frz) rfl rfl,q9 (p:=Fl.Ju) (f:=.frz) rfl rfl]
theorem vJ{St:List (Jf)}{f:Fl}{k:Nat}{y:PV}(h:(enP 0 (wyV f n D many St))[k]?=some y):∃cs,St[k]?=some cs/\y=.tup [.int k,.lst f (nxV f n D many cs)]:=by rw[fY]at h;obtain⟨z,hz,rfl⟩:=map_eq_some_iff.mp h;unfold wyV at hz;rw[getElem?_map]at hz;obtain⟨cs,hcs,rfl⟩:=map_eq_some_iff.mp hz;exact⟨cs,hcs,by rw[Int.zero_add]⟩
theorem DO{f:Fl}{k:Nat}{x:PV}(h:(nxV f n D many cs)[k]?=some x):∃nm∈trn n D many cs,x=.tup [.lst .frz (iL nm),.lst f (iL (stR n D cs nm))]:=by unfold nxV at h;rw[getElem?_map]at h;obtain⟨nm,h1,rfl⟩:=map_eq_some_iff.mp h;exact⟨nm,List.mem_of_getElem? h1,rfl⟩
theorem sf(K:Ru r n s al ip D many)(sc:∀cs nm,Ce n s cs->caR n ip D cs=true->caR n ip D (stR n D cs nm)=true):xZ [r,.lst .bor (cmV n ip D (sts n s)),.lst .frz (wyV .frz n D many (sts n s))]=.ok .non:=by
 have s2:=K.rl.s0;refine av ?_;show yU [some r,some (.lst .bor (cmV n ip D (sts n s))),some (.lst .frz (wyV .frz n D many (sts n s))),none,none,none,none]=_;unfold yU;refine cH (λ_ e=>∃x3 x4 x5 x6,e=[some r,some (.lst .bor (cmV n ip D (sts n s))),some (.lst .frz (wyV .frz n D many (sts n s))),x3,x4,x5,x6]) (BL (n:=n) (D:=D) (St:=sts n s) (many:=many) (by simp[j7 (g:=Fl.Jp) (f:=.frz) rfl])) ⟨_,_,_,_,rfl⟩ (λk y e hy hP=>?_) (λe hP=>?_)
 .obtain⟨x3,x4,x5,x6,rfl⟩:=hP;obtain⟨cs,hcs,rfl⟩:=vJ hy;have C:=k9 s2 (List.mem_of_getElem? hcs);refine⟨[some r,some (.lst .bor (cmV n ip D (sts n s))),some (.lst .frz (wyV .frz n D many (sts n s))),some (.int k),some (.lst .frz (nxV .frz n D many cs)),x5,x6],rfl,?_⟩;refine kz (λ_ e=>∃x5 x6,e=[some r,some (.lst .bor (cmV n ip D (sts n s))),some (.lst .frz (wyV .frz n D many (sts n s))),some (.int k),some (.lst .frz (nxV .frz n D many cs)),x5,x6]) (xs:=nxV .frz n D many cs) (dh (f:=.frz) (by simp[gR (g:=Fl.Jp) (f:=.frz) rfl]) rfl (fM rfl rfl) (fM rfl rfl)) ⟨_,_,rfl⟩ (λj w e hw hP=>?_) (λe hP=>?_)
  .obtain⟨x5,x6,rfl⟩:=hP;obtain⟨nm,hnm,rfl⟩:=DO hw;refine⟨[some r,some (.lst .bor (cmV n ip D (sts n s))),some (.lst .frz (wyV .frz n D many (sts n s))),some (.int k),some (.lst .frz (nxV .frz n D many cs)),some (.lst .frz (iL nm)),some (.lst .frz (iL (stR n D cs nm)))],rfl,?_⟩;have ci:=sH (ip:=ip) (n:=n) (D:=D) hcs .bor;have E:=lx K C nm;have cj:=sH (ip:=ip) (D:=D) (n:=n) (sU s2 E).2 .bor;rw[Int.toNat_of_nonneg (E.rng s2).1]at cj;have nk:=fD (fc:=.frz) (cs:=stR n D cs nm) (.inr rfl) K;have bm:∀g,mapL g (cmV n ip D (sts n s))=cmV n ip D (sts n s):=λg=>kK g _;refine a9 (bL ?_ az) ⟨_,_,rfl⟩;cases q:caR n ip D cs with
   |false=>rw[q]at ci;simp[bm,ci]
   |true=>rw[q]at ci;rw[sc cs nm C q]at cj;simp[K.rl.le,K.rl.tb,bm,ci,cj,nk,aw]
  .obtain⟨x5,x6,rfl⟩:=hP;exact⟨_,_,_,_,rfl⟩
 .obtain⟨x3,x4,x5,x6,rfl⟩:=hP;exact a6 (v:=.non) (by simp) (by simp)
theorem vS(s2:0<s)(mo:∀cs,Ce n s cs->caR n ip D cs=false->mvR n D cs≠[]):xY [r,.lst .bor (cmV n ip D (sts n s)),.lst .frz (wyV .frz n D many (sts n s))]=.ok .non:=by
 refine av ?_;show yR [some r,some (.lst .bor (cmV n ip D (sts n s))),some (.lst .frz (wyV .frz n D many (sts n s))),none,none]=_;unfold yR;refine cH (λk e=>∃x3 x4,e=[some r,some (.lst .bor (cmV n ip D (sts n s))),some (.lst .frz (wyV .frz n D many (sts n s))),x3,x4]) (BL (n:=n) (D:=D) (St:=sts n s) (many:=many) (by simp[j7 (g:=Fl.Jp) (f:=.frz) rfl])) ⟨_,_,rfl⟩ (λk y e hy hP=>?_) (λe hP=>?_)
 .obtain⟨x3,x4,rfl⟩:=hP;obtain⟨cs,hcs,rfl⟩:=vJ hy;refine⟨[some r,some (.lst .bor (cmV n ip D (sts n s))),some (.lst .frz (wyV .frz n D many (sts n s))),some (.int k),some (.lst .frz (nxV .frz n D many cs))],rfl,a9 (bL ?_ az) ⟨_,_,rfl⟩⟩;have ci:=sH (ip:=ip) (n:=n) (D:=D) hcs .bor;have bm:∀g,mapL g (cmV n ip D (sts n s))=cmV n ip D (sts n s):=λg=>kK g _;cases q:caR n ip D cs with
  |true=>rw[q]at ci;simp[bm,ci]
  |false=>
   rw[q]at ci;have h1:trn n D many cs≠[]:=λz=>mo cs (k9 s2 (List.mem_of_getElem? hcs)) q (sR.mp z);have h2:nxV .frz n D many cs≠[]:=by simpa[nxV]using h1
   simp[bm,ci,gR (g:=Fl.Jp) (f:=.frz) rfl,h2]
 .obtain⟨x3,x4,rfl⟩:=hP;exact a6 (v:=.non) (by simp) (by simp)
end
end
section
def rO:Jj->PV
 |some v=>.int v
 |none=>.non
def rL(r:List (Jj)):Jn:=r.map rO
theorem CD(g:Fl->Fl)(o:Jj):(rO o).Jx g=rO o:=by cases o<;>simp[rO]
theorem kb(p:Fl->Bool)(o:Jj):(rO o).has p=false:=by cases o<;>simp[rO]
theorem kc(g:Fl->Fl):∀r,mapL g (rL r)=rL r
 | []=>by simp[rL]
 |o::r=>by have:=kc g r;unfold rL at *;simp[this,CD]
theorem wc(p:Fl->Bool):∀r,hasL p (rL r)=false
 | []=>by simp[rL]
 |o::r=>by have:=wc p r;unfold rL at *;simp[this,kb]
theorem oh:∀r,(rL r).all shp=true
 | []=>rfl
 |o::r=>by have:=oh r;unfold rL at *;rw[map_cons,all_cons,this];cases o<;>rfl
theorem sx:∀r,inL .non (rL r)=r.any isNone
 | []=>rfl
 |o::r=>by have:=sx r;unfold rL inL at *;rw[map_cons,any_cons,this,any_cons];cases o<;>rfl
theorem p8(r:List (Jj))(f:Fl):dF .non (.lst f (rL r))=.ok (.bl (!r.any isNone)):=by unfold dF;simp only[aW,tf,oh,Bool.and_self,if_true,sx]
theorem Hb(r:List (Jj))(f:Fl):pIn .non (.lst f (rL r))=.ok (.bl (r.any isNone)):=by unfold pIn;simp only[aW,tf,oh,Bool.and_self,if_true,sx]
theorem xL{r:List (Jj)}{k:Nat}{o:Jj}(h:r[k]?=some o)(f:Fl):aH (.lst f (rL r)) (.int k)=.ok (rO o):=
 d8 rfl (by simp[rL,h]) (kb _ _)
theorem sj(o:Jj):lL (rO o) .non=.ok (.bl o.isNone):=by cases o<;>rfl
structure zM(Fw:List (Jf))(cal:List Bool)(mu:Nat->Nat):Prop where
 len:cal.length=Fw.length
 rng:∀k<Fw.length,∀y∈Fw.getD k [],0<=y/\y.toNat<Fw.length
 fal:∀k<Fw.length,cal[k]?=some false->Fw.getD k []≠ []/\∀y∈Fw.getD k [],mu y.toNat<mu k
def og(r:List (Jj))(y:Int):Jj:=r.getD y.toNat none
theorem tY{r:List (Jj)}{y:Int}(h:y.toNat<r.length):r[y.toNat]?=some (og r y):=by simp[og,h]
structure Rk(Fw:List (Jf))(cal:List Bool)(mu:Nat->Nat)(r:List (Jj)):Prop where
 len:r.length=Fw.length
 ok:∀(k:Nat) (v:Int),r[k]?=some (some v)->(cal[k]?=some true/\v=0)\/(cal[k]?=some false/\1<=v/\v<=mu k/\∃l,(Fw.getD k []).map (og r)=l.map some/\v=1+c_ l)
 no:∀k:Nat,r[k]?=some none->cal[k]?=some false
section
variable{Fw:List (Jf)}{cal:List Bool}{mu:Nat->Nat}{r:List (Jj)}{k:Nat}
theorem Rk.step{l:Jf}(F:zM Fw cal mu)(h:Rk Fw cal mu r)(hk:r[k]?=some none)(hl:(Fw.getD k []).map (og r)=l.map some):Rk Fw cal mu (r.set k (some (1+c_ l))):=by
 have kl:k<r.length:=(List.getElem?_eq_some_iff.mp hk).1;have hlen:=h.len;have hc:=h.no k hk;obtain⟨fn,ff⟩:=F.fal k () hc;have ne:l≠[]:=λe=>by rw[e]at hl;exact fn (List.map_eq_nil_iff.mp hl)
 have st:∀j,(r.set k (some (1+c_ l)))[j]?=if j=k then some (some (1+c_ l))else r[j]?:=λj=>by
  rw[List.getElem?_set];by_cases e:k=j
  .subst e;simp[kl]
  .rw[if_neg e,if_neg λq=>e q.symm]
 have sg:∀(L:Jf) (m:Jf),L.map (og r)=m.map some->L.map (og (r.set k (some (1+c_ l))))=m.map some:=λL m e=>by
  rw[<- e];refine List.map_congr_left λy hy=>?_;unfold og;rw[getD_eq_getElem?_getD,getD_eq_getElem?_getD,st,if_neg λq=>?_];have:og r y∈m.map some:=by rw[<- e];exact mem_map_of_mem hy
  obtain⟨x,_,ex⟩:=mem_map.mp this;unfold og at ex;rw[getD_eq_getElem?_getD,q,hk]at ex;cases ex
 refine⟨by simpa using h.len,λj v hj=>?_,λj hj=>?_⟩
 .rw[st]at hj;by_cases e:j=k
  .subst e;rw[if_pos rfl]at hj;cases hj;obtain⟨m1,_⟩:=iE ne;have:some (c_ l)∈(Fw.getD j []).map (og r):=by rw[hl];exact mem_map_of_mem m1
   obtain⟨y,hy,ey⟩:=mem_map.mp this;have y1:=(F.rng j () y hy).2;have y2:=ff y hy;have ry:r[y.toNat]?=some (some (c_ l)):=by rw[tY (),ey]
   refine .inr ⟨hc,?_,?_,l,sg _ _ hl,rfl⟩<;>rcases h.ok _ _ ry with⟨_,q⟩ |⟨_,q1,q2,_⟩<;>omega
  .rw[if_neg e]at hj;exact(h.ok j v hj).imp id λ⟨a,b,c,m,em,ev⟩=>⟨a,b,c,m,sg _ _ em,ev⟩
 .rw[st]at hj;by_cases e:j=k
  .rw[if_pos e]at hj;cases hj
  .rw[if_neg e]at hj;exact h.no j hj
def nns(r:List (Jj)):Nat:=(r.filter isNone).length
theorem t3:∀{r:List (Jj)}{k:Nat} (v:Int),r[k]?=some none->nns (r.set k (some v))+1=nns r
 | [],k,v,h=>by simp at h
 |o::r,0,v,h=>by simp at h;subst h;simp[nns]
 |o::r,k+1,v,h=>by have:=t3 (r:=r) (k:=k) v (by simpa using h);unfold nns at *;rw[s1_];cases o<;>simp<;>omega
theorem Rk.all(F:zM Fw cal mu)(h:Rk Fw cal mu r)(cl:∀k,r[k]?=some none->∃y∈Fw.getD k [],r[y.toNat]?=some none):∀(m k:Nat),mu k<m->r[k]?≠some none
 |0,_,h=>absurd h (not_lt_zero _)
 |m+1,k,hm=>λhk=>by obtain⟨y,hy,ry⟩:=cl k hk;have kl:k<r.length:=(List.getElem?_eq_some_iff.mp hk).1;have:=(F.fal k (by rw[<- h.len];exact kl) (h.no k hk)).2 y hy;exact Rk.all F h cl m y.toNat () ry
theorem la(l:Jf):rL (l.map some)=iL l:=by simp[rL,iL,rO]
theorem CF(r:List (Jj))(k:Nat)(v:Int):(rL r).set k (.int v)=rL (r.set k (some v)):=by simp[rL,map_set,rO]
theorem mP:∀{l:List (Jj)},l.any isNone=false->l=(l.map λo=>o.getD 0).map some
 | [],_=>rfl
 |none::l,h=>by simp at h
 |some v::l,h=>by have:=mP (l:=l) (by simpa using h);simp only[map_cons,getD_some];rw[<- this]
def Cl(Fw:List (Jf))(r:List (Jj)):Prop:=∀k,r[k]?=some none->∃y∈Fw.getD k [],r[y.toNat]?=some none
theorem rN{F:Jf}{x0 x1 x3 x4:Option PV}(hr:Rk Fw cal mu r)(W:zM Fw cal mu)(hk:Fw[k]?=some F)(hF:F.length<=1000):aM [2] 1 (bu (ac 5)) (tgN 1) bp (mOp aH (ac 0) (ac 1)) [x0,x1,some (.lst .own (rL r)),x3,x4,some (.lst .bor (iL F))]=.ok (.lst .own (rL (F.map (og r)))):=by
 have kl:k<Fw.length:=(List.getElem?_eq_some_iff.mp hk).1;have eF:Fw.getD k []=F:=by simp[getD_eq_getElem?_getD,hk]
 refine aP (xs:=iL F) (by simp) (by simp;omega) ?_;rw[show rL (F.map (og r))=F.map λy=>rO (og r y) by simp[rL]];refine aY (a:=PV.int) (f:=λy=>rO (og r y)) F λy hy=>⟨[some (.lst .bor (rL r)),some (.int y)],by simp[tgN,aT,bN,PV.Js,kc],?_,kb _ _,kb _ _⟩
 obtain⟨y0,y1⟩:=W.rng k kl y (by rw[eF];exact hy);have:=xL (tY (r:=r) (y:=y) (by rw[hr.len];exact y1)) .bor;rw[Int.toNat_of_nonneg y0]at this;simp[kc,this]
theorem wb{calms:List Bool}(W:zM Fw calms mu)(hl:Fw.length<=1000)(hF:∀F∈Fw,F.length<=1000) :
  ∃R:Jf,uj [.lst .bor (calms.map .bl),.lst .bor (llL .bor Fw)]=.ok (.lst .own (iL R))/\R.length=Fw.length/\∀k<Fw.length,(calms[k]?=some true/\gt R k=0)\/(calms[k]?=some false/\1<=gt R k/\gt R k<=mu k/\gt R k=1+c_ ((Fw.getD k []).map λy=>gt R y.toNat)):=by
 have hc:=W.len;have bmap:=λg=>kK g calms
 suffices hh:gd (zo [some (.lst .bor (calms.map .bl)),some (.lst .bor (llL .bor Fw)),none,none,none,none]) (λx=>∃r,x=.lst .own (rL r)/\Rk Fw calms mu r/\Cl Fw r) by
  obtain⟨x,e,r,rfl,hr,cl⟩:=hh;have al:=λk=>Rk.all W hr cl (mu k+1) k ();have es:r.any isNone=false:=by
   rw[List.any_eq_false];intro o ho q;obtain⟨k,hk,rfl⟩:=getElem_of_mem ho;refine al k ?_;rw[getElem?_eq_getElem hk];cases h:r[k]with
   |none=>rfl
   |some v=>rw[h]at q;simp at q
  have e2:=mP es;generalize(r.map λo=>o.getD 0)=R at e2;subst e2;rw[la]at e;have rl:=hr.len;rw[length_map]at rl;have ge:∀k,k<Fw.length->(R.map some)[k]?=some (some (gt R k)):=λk hk=>by simp[gt,show k<R.length by omega]
  refine⟨R,av e,rl,λk hk=>(hr.ok k _ (ge k hk)).imp id λ⟨a,b,c,l,el,ev⟩=>⟨a,b,c,?_⟩⟩;rw[ev];congr 2;have:(Fw.getD k []).map (og (R.map some))=((Fw.getD k []).map λy=>gt R y.toNat).map some:=by rw[map_map];refine List.map_congr_left λy hy=>?_;have y1:=(W.rng k hk y hy).2;have:=tY (r:=R.map some) (y:=y) (by simp;omega);rw[ge _ y1]at this;exact(Option.some.inj this).symm
  rw[this]at el;exact((List.map_inj_right λa b h=>Option.some.inj h).mp el).symm
 unfold zo;have c0:aM [] 1 (bu (ac 0)) (tgN 0) bp (oK (bX (ac 0)) (JA 0) (mC .non)) [some (.lst .bor (calms.map .bl)),some (.lst .bor (llL .bor Fw)),none,none,none,none]=.ok (.lst .own (rL (calms.map λb=>if b then some 0 else none))):=by refine aP (xs:=calms.map .bl) (by simp[bmap]) (by simp;omega) ?_;rw[show rL (calms.map λb=>if b then some (0:Int)else none)=calms.map λb=>rO (if b then some 0 else none) by simp[rL]];exact aY (a:=PV.bl) (f:=λb=>rO (if b then some 0 else none)) calms λb hb=>⟨[some (.bl b)],by simp[tgN,aT,dR,bN],by cases b<;>simp[rO],kb _ _,kb _ _⟩
 refine aS (ar c0 (by simp[wc]) rfl) ?_;simp only[s0_,s1_];refine aS (ar (v:=.bl true) (by simp)) ?_;simp only[s0_,s1_];have R0:Rk Fw calms mu (calms.map λb=>if b then some 0 else none):=by
  refine⟨by simpa using hc,λk v hk=>?_,λk hk=>?_⟩
  all_goals
   rw[getElem?_map]at hk;obtain⟨b,hb,e⟩:=map_eq_some_iff.mp hk;cases b<;>simp at e
  .exact .inl ⟨hb,e.symm⟩
  .exact hb
 generalize(calms.map λb=>if b then some (0:Int)else none)=r0 at *;have ns0:nns r0<=1000:=by have:=length_filter_le isNone r0;unfold nns;have:=R0.len;omega
 refine gK (Fin:=λe=>∃r x3 x4 x5,e=[some (.lst .bor (calms.map .bl)),some (.lst .bor (llL .bor Fw)),some (.lst .own (rL r)),x3,x4,x5]/\Rk Fw calms mu r/\Cl Fw r) (λm e=>∃r g x4 x5,e=[some (.lst .bor (calms.map .bl)),some (.lst .bor (llL .bor Fw)),some (.lst .own (rL r)),some (.bl g),x4,x5]/\Rk Fw calms mu r/\(g=true->m=nns r+1)/\(g=false->m=0/\Cl Fw r)) (nns r0+1) () ⟨r0,true,_,_,rfl,R0,λ_=>rfl,λh=>by cases h⟩ (λm e hP=>?_) (λe hP=>?_)
 .obtain⟨r,g,x4,x5,rfl,hr,hg1,hg2⟩:=hP;cases g with
  |false=>exact .inl ⟨by simp,r,_,_,_,rfl,hr,(hg2 rfl).2⟩
  |true=>
   refine .inr ⟨by simp,?_⟩;have it:iG (ac 1) [some (.lst .bor (calms.map .bl)),some (.lst .bor (llL .bor Fw)),some (.lst .own (rL r)),some (.bl false),x4,x5]=.ok (enP 0 (llL .bor Fw)):=by unfold iG;simp[fk,cR Fw Fl.Jt .bor rfl,cR Fw Fl.Ju .bor rfl]
   refine Exists.elim (iY (g:=tgT 2 (aZ (tgN 4) (aZ (tgN 5) dJ))) (body:=mBr ((eA (ax (mOp lL (mOp aH (ac 2) (ac 4)) (mC .non))) (ax (mOp dF (mC .non) (aM [2] 1 (bu (ac 5)) (tgN 1) bp (mOp aH (ac 0) (ac 1)))))))
  (aq (f9 2 (ac 4) (mOp aL (JA 1) (ap (p1 (dw c_)) (ae (aM [2] 1 (bu (ac 5)) (tgN 1) bp (mOp aH (ac 0) (ac 1))) am))))
 (aN 3 (mC (.bl true))))
  aU) (λk e=>∃r' g x4 x5,e=[some (.lst .bor (calms.map .bl)),some (.lst .bor (llL .bor Fw)),some (.lst .own (rL r')),some (.bl g),x4,x5]/\Rk Fw calms mu r'/\nns r'<=nns r/\(g=true->nns r'<nns r)/\(g=false->r'=r/\∀j<k,r[j]?=some none->∃y∈Fw.getD j [],r[y.toNat]?=some none)) it ⟨r,false,_,_,rfl,hr,Nat.le_refl _,nofun,λ_=>⟨rfl,λj hj=>absurd hj (not_lt_zero _)⟩⟩ (λk x e hx hP=>?_)) (λe2 b=>?_)
   rotate_left
   .obtain⟨b1,b2⟩:=b;rw[iZ,oN]at b2;obtain⟨r',g,y4,y5,rfl,hr',_,g1,g2⟩:=b2;have eb:=ah (a:=aN 3 (mC (.bl false))) (env:=[some (.lst .bor (calms.map .bl)),some (.lst .bor (llL .bor Fw)),some (.lst .own (rL r)),some (.bl true),x4,x5]) (ar (v:=.bl false) (by simp)) b1;cases g with
    |true=>exact⟨nns r'+1,_,by have:=hg1 rfl;have:=g1 rfl;omega,.inl eb,r',true,_,_,rfl,hr',λ_=>rfl,λh=>by cases h⟩
    |false=>obtain⟨e3,cl⟩:=g2 rfl;subst e3;refine⟨0,_,by have:=hg1 rfl;omega,.inl eb,r',false,_,_,rfl,hr',nofun,λ_=>⟨rfl,λk hk=>cl k ?_ hk⟩⟩;rw[<- hr.len];exact(List.getElem?_eq_some_iff.mp hk).1
   .obtain⟨r',g,x4,x5,rfl,hr',q0,q1,q2⟩:=hP;rw[fY]at hx;obtain⟨z,hz,rfl⟩:=map_eq_some_iff.mp hx;obtain⟨F,hkF,rfl⟩:=A3 _ _ hz;have kl:k<Fw.length:=(List.getElem?_eq_some_iff.mp hkF).1;have eF:Fw.getD k []=F:=by simp[getD_eq_getElem?_getD,hkF]
    have cm:=rN (x0:=some (.lst .bor (calms.map .bl))) (x1:=some (.lst .bor (llL .bor Fw))) (x3:=some (.bl g)) (x4:=some (.int k)) hr' W hkF (hF F (List.mem_of_getElem? hkF));obtain⟨o,ho⟩:∃o,r'[k]?=some o:=⟨_,getElem?_eq_getElem (by rw[hr'.len];exact kl)⟩
    have ix:∀f,aH (.lst f (rL r')) (.int k)=.ok (rO o):=xL ho;refine⟨[some (.lst .bor (calms.map .bl)),some (.lst .bor (llL .bor Fw)),some (.lst .own (rL r')),some (.bl g),some (.int k),some (.lst .bor (iL F))],?_⟩;rw[Int.zero_add];cases o with
    |some v=>
     refine⟨_,rfl,.inl (bL (by simp[kc,ix,sj]) az),r',g,_,_,rfl,hr',q0,q1,λh=>?_⟩;obtain⟨e3,cl⟩:=q2 h;refine⟨e3,λj hj hn=>?_⟩;by_cases e4:j=k
     .rw[e4,<- e3,ho]at hn;cases hn
     .exact cl j () hn
    |none=>
     cases an:(F.map (og r')).any isNone with
     |true=>
      refine⟨_,rfl,.inl (bL (by simp only[uq,gZ,gC,qD,cm];simp[kc,ix,sj,p8,an,-List.any_map]) az),r',g,_,_,rfl,hr',q0,q1,λh=>?_⟩;obtain⟨e3,cl⟩:=q2 h;refine⟨e3,λj hj hn=>?_⟩;by_cases e4:j=k
      .rw[e4,eF];obtain⟨o,h1,h2⟩:=List.any_eq_true.mp an;obtain⟨y,hy,rfl⟩:=mem_map.mp h1;obtain⟨y0,y1⟩:=W.rng k kl y (by rw[eF];exact hy);refine⟨y,hy,?_⟩;rw[<- e3,tY (by rw[hr'.len];exact y1)];cases h:og r' y with
       |none=>rfl
       |some v=>rw[h]at h2;simp at h2
      .exact cl j () hn
     |false=>
      have e5:=mP an;generalize(F.map (og r')).map (λo=>o.getD 0)=l at e5;have ne:l≠[]:=λe=>by rw[e]at e5;exact(W.fal k kl (hr'.no k ho)).1 (by rw[eF];exact List.map_eq_nil_iff.mp e5)
      have mx:dw c_ (.lst .own (iL l))=.ok (.int (c_ l)):=by unfold dw;simp only[aW,eH];rw[if_neg (by cases l<;>simp_all)]
      have st:=t3 (1+c_ l) ho;have ni:dF .non (.lst .own (iL l))=.ok (.bl true):=by rw[<- la,p8];simp
      rw[e5,la]at cm;refine⟨_,rfl,.inl (g_ (by simp only[uq,gZ,gC,qD,cm];simp[kc,ix,sj,ni]) (ah (jC (v:=.int (1+c_ l)) (xs:=rL r') (j:=k) (n:=k) (by simp only[gC,qD,fX,eS,f_,cm];simp[mx]) rfl (by simp) (jT (by simp[rL,hr'.len];exact kl)) (by simp)) (ar (v:=.bl true) (by simp)))),?_⟩;simp only[s0_,s1_,CF];exact⟨_,true,_,_,rfl,hr'.step W ho (by rw[eF];exact e5),by omega,λ_=>by omega,λh=>by cases h⟩
 .obtain⟨r,x3,x4,x5,rfl,hr,cl⟩:=hP;exact cV (d5 rfl) ⟨r,rfl,hr,cl⟩
end
abbrev rk(s:Int)(R:Jf)(cs:Jf):Int:=gt R (nmb s cs).toNat
structure m8(n:Nat)(s:Int)(ip:Bool)(D:Jf->Nat->Int)(many:Bool)(M:Jf->Int)(R:Jf):Prop where
 len:(R.length:Int)=s ^ n
 ok:∀cs,Ce n s cs->(caR n ip D cs=true/\rk s R cs=0)\/(caR n ip D cs=false/\trn n D many cs≠[]/\1<=rk s R cs/\rk s R cs<=M cs/\rk s R cs=1+c_ ((trn n D many cs).map λnm=>rk s R (stR n D cs nm)))
section
variable{r:PV}{n:Nat}{s mo:Int}{al ip many:Bool}{D:Jf->Nat->Int}{cs nm:Jf}{fc:Fl}{M:Jf->Int}{R:Jf}
theorem oT{k:Nat}{St:List (Jf)}(h:St[k]?=some cs):(St.map (fol n s D many)).getD k []=fol n s D many cs:=by simp[getD_eq_getElem?_getD,h]
theorem wZ(X:Mx r n s al ip D M mo)(C:Ce n s cs)(h:caR n ip D cs=false):trn n D many cs≠[]:=λz=>X.ms.mv cs C.len C.inn h (sR.mp z)
theorem Hj(K:Ru r n s al ip D many)(X:Mx r n s al ip D M mo):zM ((sts n s).map (fol n s D many)) ((sts n s).map (caR n ip D)) (λk=>(M (dgs s k n)).toNat):=by
 have s2:=K.rl.s0;refine⟨by simp,λk hk y hy=>?_,λk hk hc=>⟨?_,λy hy=>?_⟩⟩
 all_goals
  rw[length_map,iT]at hk;have C:=mJ (n:=n) s2 (k:Int)
 .rw[oT (j8 hk)]at hy;obtain⟨nm,hnm,rfl⟩:=mem_map.mp hy;obtain⟨h0,h1⟩:=(lx K C nm).rng s2;refine⟨h0,by rw[length_map,iT];omega⟩
 .rw[oT (j8 hk)];rw[getElem?_map,j8 hk]at hc;unfold fol;rw[Ne,List.map_eq_nil_iff];exact wZ X C (by simpa using hc)
 .rw[oT (j8 hk)]at hy;rw[getElem?_map,j8 hk]at hc;obtain⟨nm,hnm,rfl⟩:=mem_map.mp hy;have E:=lx K C nm;show(M (dgs s (((nmb s _).toNat:Nat):Int) n)).toNat <(M (dgs s k n)).toNat;rw[Int.toNat_of_nonneg (E.rng s2).1,E.dgs s2];have:=X.ms.fa _ nm C.len C.inn (t5 K hnm) (by simpa using hc) (st_ne C hnm);have:=(X.bd _ E.len E.inn).1;omega
theorem l8(a b:PV)(h:b.has Fl.Jt=false):aH (.tup [a,b]) (.int 1)=.ok b:=by have:=d8 (x:=.tup [a,b]) (k:=1) (y:=b) rfl rfl h;exact this
theorem CC(K:Ru r n s al ip D many)(X:Mx r n s al ip D M mo):∃R:Jf,Ec [r,.lst .bor (cmV n ip D (sts n s)),.lst .frz (wyV .frz n D many (sts n s))]=.ok (.tup [.str "calm",.lst .frz (iL R)])/\m8 n s ip D many M R:=by
 have big:=K.big;have s2:=K.rl.s0;have n4:=K.n4;have sl:(sts n s).length<=256:=by rw[iT];omega
 have pp:0<s ^ n:=Int.pow_pos s2;have few:=λcs=>jr (D:=D) (cs:=cs) (many:=many) n4;obtain ⟨R,hR,Rl,Ro⟩:=wb (Hj K X) (by rw [length_map];omega) (λF hF=>by
  obtain⟨cs,_,rfl⟩:=mem_map.mp hF;have:=few cs;simp[fol];omega)
 refine⟨R,?_,?_,λcs C=>?_⟩
 .refine av ?_;show EL [some r,some (.lst .bor (cmV n ip D (sts n s))),some (.lst .frz (wyV .frz n D many (sts n s))),none,none]=_;unfold EL;have cp:aM [0] 1 (bu (ac 2)) (tgN 1) bp (aM [0] 1 (bu (ac 1)) (tgN 1) bp (ap (aB iK) (ae (ac 0) (ae (mOp aH (ac 1) (JA 1)) am)))) [some r,some (.lst .bor (cmV n ip D (sts n s))),some (.lst .frz (wyV .frz n D many (sts n s))),none,none]=.ok (.lst .own (llL .own ((sts n s).map (fol n s D many)))):=by
   refine aP (xs:=wyV .frz n D many (sts n s)) (by simp[j7 (g:=Fl.Jp) (f:=.frz) rfl]) (by simp[wyV];omega) ?_;rw[show llL .own ((sts n s).map (fol n s D many))=(sts n s).map λcs=>PV.lst .own (iL (fol n s D many cs)) by simp[llL]];refine aY (a:=λcs=>PV.lst .frz (nxV .frz n D many cs)) (f:=λcs=>PV.lst .own (iL (fol n s D many cs))) (sts n s) λcs hcs=>⟨[some r,some (.lst .frz (nxV .frz n D many cs))],by simp[tgN,aT,bN,PV.Js,K.rl.bo,gR (g:=Fl.Js) (f:=.frz) rfl],?_,by simp,by simp⟩
   have tl:=few cs;refine aP (xs:=nxV .frz n D many cs) (by simp[gR (g:=Fl.Jp) (f:=.frz) rfl]) (by simp[nxV];omega) ?_;rw[show iL (fol n s D many cs)=(trn n D many cs).map λnm=>PV.int (nmb s (stR n D cs nm)) by simp[fol,iL]];refine aY (a:=λnm=>PV.tup [.lst .frz (iL nm),.lst .frz (iL (stR n D cs nm))]) (f:=λnm=>PV.int (nmb s (stR n D cs nm))) (trn n D many cs) λnm hm=>⟨[some r,some (.tup [.lst .frz (iL nm),.lst .frz (iL (stR n D cs nm))])],by simp[tgN,aT,bN,PV.Js,K.rl.bo],?_,by simp,by simp⟩
   have nk:=fD (fc:=.frz) (cs:=stR n D cs nm) (.inr rfl) K;have it:=l8 (.lst .frz (iL nm)) (.lst .frz (iL (stR n D cs nm))) (by simp);simp[K.rl.le,K.rl.tb,it,nk,aw]
  refine ah (ar cp (by simp only[eW,fF];rw[cR _ _ _ rfl];rfl) rfl) ?_;simp only[s0_,s1_];have bm:∀g,mapL g (cmV n ip D (sts n s))=cmV n ip D (sts n s):=λg=>kK g _;refine ah (ar (v:=.lst .own (iL R)) (by simp[bm,show uj [.lst .bor (cmV n ip D (sts n s)),_]=_ from hR,aw])) ?_;simp only[s0_,s1_];have ni:∀f,pIn .non (.lst f (iL R))=.ok (.bl false):=λf=>by rw[<- la,Hb];simp
  refine ah (bL (by simp[ni]) az) ?_;refine ah (eK (v:=.lst .own (iL R)) rfl) ?_;simp only[s0_,s1_,fN,iW,eM];exact a6 (by simp) (by simp)
 .rw[length_map,iT]at Rl;omega
 .obtain⟨h1,h2⟩:=sU s2 C;have:=Ro (nmb s cs).toNat (by rw[length_map,iT];exact h1);rw[oT h2,getElem?_map,h2,Int.toNat_of_nonneg (C.rng s2).1,C.dgs s2]at this;have mb:=(X.bd cs C.len C.inn).1;refine this.imp (λ⟨a,b⟩=>⟨by simpa using a,b⟩) λ⟨a,b,c,d⟩=>⟨by simpa using a,wZ X C (by simpa using a),b,Int.le_trans c (),?_⟩
  rw[fol,map_map]at d;exact d
theorem A2(K:Ru r n s al ip D many)(X:Mx r n s al ip D M mo):∃R:Jf,xX [r,.bl many]=.ok (.tup [.str "calm",.lst .frz (iL R)])/\m8 n s ip D many M R:=by
 have big:=K.big;have s2:=K.rl.s0;have sl:(sts n s).length<=256:=by rw[iT];omega
 have pp:0<s ^ n:=Int.pow_pos s2;obtain⟨R,hR,ok⟩:=CC K X;refine⟨R,av ?_,ok⟩;show yQ [some r,some (.bl many),none,none,none,none]=_;unfold yQ;refine ah (d9 (v:=.non) (by simp[K.rl.le,K.rl.tb,fK K,aw])) ?_;refine ah (d9 (v:=.non) (by simp[K.rl.le,K.rl.tb,kY K,aw])) ?_;obtain⟨S,hS⟩:∃S:Nat,s ^ n=(S:Int):=⟨(s ^ n).toNat,by omega⟩
 have st:=ju K;rw[hS]at st;have c1:aM [0] 1 (bY (ae (ap (aB qy) (ae (ac 0) am)) am)) (tgN 1) bp (ap (aB mt) (ae (ac 0) (ae (ac 1) am))) [some r,some (.bl many),none,none,none,none]=.ok (.lst .own (llL .own (sts n s))):=by
  refine aP (xs:=dv 0 S) (bR (n:=S) (by simp[K.rl.le,K.rl.tb,st,aw]) ()) (by rw[bC];omega) ?_;have e:llL .own (sts n s)=(range S).map λk:Nat=>PV.lst .own (iL (dgs s k n)):=by simp[llL,sts,hS]
  rw[e];exact aY (a:=λk:Nat=>PV.int (0+(k:Int))) (f:=λk:Nat=>PV.lst .own (iL (dgs s k n))) (range S) λk hk=>⟨[some r,some (.int (0+(k:Int)))],by simp[tgN,aT,bN,PV.Js,K.rl.bo],by simp[K.rl.le,K.rl.tb,qN K,aw],by simp,by simp⟩
 refine ah (ar c1 (by simp only[eW,fF];rw[cR _ _ _ rfl];rfl) rfl) ?_;simp only[s0_,s1_];have c2:aM [0] 1 (bu (ac 2)) (tgN 1) bp (bU ay (ac 0) (ae (ac 1) am)) [some r,some (.bl many),some (.lst .own (llL .own (sts n s))),none,none,none]=.ok (.lst .own (cmV n ip D (sts n s))):=by refine aP (xs:=llL .lnt (sts n s)) (by simp) (by simp;omega) ?_;rw[cmV,map_map];exact aY (a:=λcs=>PV.lst .lnt (iL cs)) (f:=λcs=>PV.bl (caR n ip D cs)) (sts n s) λcs hcs=>⟨[some r,some (.lst .bor (iL cs))],by simp[tgN,aT,bN,PV.Js,K.rl.bo],by have C:=k9 s2 hcs;simp[K.rl.le,o8 K.rl (.inl (.inl rfl)) C.len C.inn],by simp,by simp⟩
 have bh:=λp=>yN p ((sts n s).map (caR n ip D));have bm:∀g,mapL g (cmV n ip D (sts n s))=cmV n ip D (sts n s):=λg=>kK g _;refine ah (ar c2 (by simp only[eW,fF,cmV];rw[bh];rfl) rfl) ?_;simp only[s0_,s1_];have c3:aM [0,1] 1 (bu (ac 2)) (tgN 2) bp (ap (aB jW) (ae (ac 0) (ae (ac 2) (ae (ac 1) am)))) [some r,some (.bl many),some (.lst .own (llL .own (sts n s))),some (.lst .own (cmV n ip D (sts n s))),none,none]=.ok (.lst .own (wyV .own n D many (sts n s))):=by
  refine aP (xs:=llL .lnt (sts n s)) (by simp) (by simp;omega) ?_;refine aY (a:=λcs=>PV.lst .lnt (iL cs)) (f:=λcs=>PV.lst .own (nxV .own n D many cs)) (sts n s) λcs hcs=>⟨[some r,some (.bl many),some (.lst .bor (iL cs))],by simp[tgN,aT,bN,PV.Js,K.rl.bo],?_,?_,?_⟩
  .simp[K.rl.le,K.rl.tb,jK (.inl rfl) K (k9 s2 hcs),aw,fM (p:=Fl.Jv) (f:=.own) rfl rfl]
  .simp[fM (p:=Fl.Jv) (f:=.own) rfl rfl]
  .simp[fM (p:=Fl.Ju) (f:=.own) rfl rfl]
 refine ah (ar c3 (by simp[q9 (p:=Fl.Ju) (f:=.own) rfl rfl]) rfl) ?_;simp only[s0_,s1_];refine ah (eK (v:=.lst .own (wyV .own n D many (sts n s))) rfl) ?_;simp only[s0_,s1_,fN,j7 (g:=Fl.Jr) (f:=.own) rfl,eM];have wl:=j7 (n:=n) (D:=D) (many:=many) (g:=Fl.Jp) (f:=.frz) rfl (sts n s);have wt:=j7 (n:=n) (D:=D) (many:=many) (g:=Fl.Jq) (f:=.frz) rfl (sts n s);refine ah (ar (v:=.non) (by simp[K.rl.le,K.rl.tb,wl,wt,bm,sf K λcs nm C h=>X.st cs nm C.len C.inn h,aw])) ?_;simp only[s0_,s1_];refine ah (g_ (by simp[lL,PV.isNon]) (ar (v:=.non) (by simp[K.rl.le,K.rl.tb,wl,wt,bm,vS (r:=r) s2 λcs C h=>X.ms.mv cs C.len C.inn h,aw]))) ?_;simp only[s0_,s1_];refine ah (g_ (by simp[lL,PV.isNon]) (ar (v:=.tup [.str "calm",.lst .frz (iL R)]) (by simp[K.rl.le,K.rl.tb,wl,wt,bm,hR,aw]))) ?_;simp only[s0_,s1_];exact d5 rfl
end
end
section
section
variable{r:PV}{n:Nat}{s mo:Int}{al ip many:Bool}{D:Jf->Nat->Int}{cs nm:Jf}{fc fr:Fl}{M:Jf->Int}{R:Jf}
theorem tB(K:Ru r n s al ip D many)(hR:m8 n s ip D many M R)(C:Ce n s cs):aH (.lst fr (iL R)) (.int (nmb s cs))=.ok (.int (rk s R cs)):=by obtain⟨h0,h1⟩:=C.rng K.rl.s0;exact cX h0 (by rw[hR.len];exact h1)
theorem v8(K:Ru r n s al ip D many)(hR:m8 n s ip D many M R)(C:Ce n s cs):rk s R cs ∈ R:=dG (by
 obtain⟨h0,h1⟩:=C.rng K.rl.s0;have:=hR.len;omega)
theorem BQ(hR:m8 n s ip D many M R)(C:Ce n s cs)(h:rk s R cs≠0):∃nm∈trn n D many cs,rk s R (stR n D cs nm)=rk s R cs-1:=by obtain⟨_,ne,_,_,e⟩:=(hR.ok cs C).resolve_left λz=>h z.2;obtain⟨nm,hnm,em⟩:=mem_map.mp (iE (l:=(trn n D many cs).map λnm=>rk s R (stR n D cs nm)) (by simpa using ne)).1;exact⟨nm,hnm,by omega⟩
theorem BR(K:Ru r n s al ip D many)(hR:m8 n s ip D many M R):∀(m:Nat) (cs:Jf),Ce n s cs->rk s R cs=m->∀u:Nat,u<=m->(u:Int)∈ R
 |0,cs,C,h,u,hu=>by rw[show u=0 by omega,<- h];exact v8 K hR C
 |m+1,cs,C,h,u,hu=>by
  by_cases e:u=m+1
  .rw[e,<- h];exact v8 K hR C
  .obtain⟨nm,_,e2⟩:=BQ hR C ();exact BR K hR m _ (lx K C nm) () u ()
theorem v9(K:Ru r n s al ip D many)(hR:m8 n s ip D many M R)(C:Ce n s cs):0<=rk s R cs/\rk s R cs<=255:=by
 have h0:0<=rk s R cs:=by rcases hR.ok cs C with⟨_,q⟩ |⟨_,_,q,_⟩<;>omega
 refine⟨h0,?_⟩;have nd:((range ((rk s R cs).toNat+1)).map λk:Nat=>(k:Int)).Nodup:=Pairwise.map _ (λa b (h:a≠b)=>by omega) nodup_range;have:=jL nd (l':=R) λx hx=>by obtain⟨u,hu,rfl⟩:=mem_map.mp hx;exact BR K hR (rk s R cs).toNat cs C () u (by have:=mem_range.mp hu;omega)
 rw[length_map,length_range]at this;have:=hR.len;have:=K.big;omega
structure Wk(n:Nat)(s:Int)(D:Jf->Nat->Int)(many:Bool)(p:List (Jf)):Prop where
 ce:∀c∈p,Ce n s c
 st:∀(k:Nat) c d,p[k]?=some c->p[k+1]?=some d->∃nm∈trn n D many c,d=stR n D c nm
theorem Wk.more{p:List (Jf)}{c:Jf}(K:Ru r n s al ip D many)(h:Wk n s D many p)(hl:p.getLast?=some c)(hn:nm∈trn n D many c):Wk n s D many (p++[stR n D c nm]):=by
 refine⟨λd hd=>?_,λk a b ha hb=>?_⟩
 .rcases mem_append.mp hd with hd|hd
  .exact h.ce d hd
  .rw[mem_singleton.mp hd];exact lx K (h.ce c (List.mem_of_getLast? hl)) nm
 .have hk:k+1<p.length+1:=by have:=(List.getElem?_eq_some_iff.mp hb).1;simpa using this
  rw[getElem?_append_left ()]at ha;by_cases e:k+1<p.length
  .rw[getElem?_append_left e]at hb;exact h.st k a b ha hb
  .have e2:k+1=p.length:=by omega
   rw[e2]at hb;simp at hb;subst hb;rw[List.getLast?_eq_getElem?,show p.length-1=k by omega,ha]at hl;cases hl;exact⟨nm,hn,rfl⟩
theorem pE{f:Fl}(hf:f.Jt=false){w0 c:Jf}{aI:List (Jf)}(h:(w0::aI).getLast?=some c):∃g,(g=f\/g=.frz)/\aH (.lst f (.lst f (iL w0)::llL .frz aI)) (.int (-1))=.ok (.lst g (iL c)):=by
 have hi:(w0::aI)[aI.length]?=some c:=by rw[List.getLast?_eq_getElem?]at h;simpa using h
 obtain⟨g,hg,ho,e⟩:∃g,(g=f\/g=.frz)/\g.Jt=false/\(PV.lst f (iL w0)::llL .frz aI)[aI.length]?=some (.lst g (iL c)):=by
  cases hr:aI with
  |nil=>rw[hr]at hi;simp at hi;subst hi;exact⟨f,.inl rfl,hf,rfl⟩
  |cons a l=>rw[hr]at hi;refine⟨.frz,.inr rfl,rfl,?_⟩;simp only[length_cons,getElem?_cons_succ]at hi ⊢;rw[llL,getElem?_map,hi];rfl
 refine⟨g,hg,?_⟩;unfold aH;have a:atI (PV.lst f (iL w0)::llL .frz aI) (-1)=some (.lst g (iL c)):=by
  unfold atI;have e2:ixN (PV.lst f (iL w0)::llL .frz aI).length (-1)=some aI.length:=by rw[length_cons,oN];unfold ixN;rw[if_neg (),if_pos ()];congr 1;omega
  rw[e2];exact e
 simp only[aW,a];simp[ho]
theorem z0(hB:Fc fc)(hr:Fc fr)(K:Ru r n s al ip D many)(hR:m8 n s ip D many M R)(C:Ce n s cs):∃aI,x_ [r,.lst fr (iL R),.lst fc (iL cs),.bl many]=.ok (.lst .own (.lst .own (iL cs)::llL .frz aI))/\Wk n s D many (cs::aI)/\(aI.length:Int)=rk s R cs/\∃c,(cs::aI).getLast?=some c/\rk s R c=0:=by
 suffices hh:gd (yW [some r,some (.lst fr (iL R)),some (.lst fc (iL cs)),some (.bl many),none,none,none]) (λx=>∃aI,x=.lst .own (.lst .own (iL cs)::llL .frz aI)/\Wk n s D many (cs::aI)/\(aI.length:Int)=rk s R cs/\∃c,(cs::aI).getLast?=some c/\rk s R c=0) by obtain⟨x,e,aI,rfl,q⟩:=hh;exact⟨aI,av e,q⟩
 have n4:=K.n4;unfold yW;refine aS (d9 (v:=.non) (by simp[K.rl.le,K.rl.tb,fK K,aw])) ?_;refine aS (ar (v:=.lst .own [.lst .own (iL cs)]) (by simp[hB.le])) ?_;simp only[s0_,s1_];have r1:=v9 K hR C;refine gK (Fin:=λe=>∃aI x5 x6,e=[some r,some (.lst fr (iL R)),some (.lst fc (iL cs)),some (.bl many),some (.lst .own (.lst .own (iL cs)::llL .frz aI)),x5,x6]/\Wk n s D many (cs::aI)/\(aI.length:Int)=rk s R cs/\∃c,(cs::aI).getLast?=some c/\rk s R c=0)
  (λm e=>∃aI x5 x6 c,e=[some r,some (.lst fr (iL R)),some (.lst fc (iL cs)),some (.bl many),some (.lst .own (.lst .own (iL cs)::llL .frz aI)),x5,x6]/\Wk n s D many (cs::aI)/\(cs::aI).getLast?=some c/\m=(rk s R c).toNat/\(aI.length:Int)+rk s R c=rk s R cs) (rk s R cs).toNat () ⟨[],none,none,cs,rfl,⟨λc hc=>by rw[mem_singleton.mp hc];exact C,λk c d _ h=>by simp at h⟩,rfl,rfl,by simp⟩ (λm e hP=>?_) (λe hP=>?_)
 .obtain⟨aI,x5,x6,c,rfl,W,hl,hm,hb⟩:=hP;have Cc:=W.ce c (List.mem_of_getLast? hl);have v0:=v9 K hR Cc;obtain⟨g,hg,wl⟩:=pE (f:=.lnt) rfl hl;obtain⟨g',eg,hg'⟩:∃g',g.Jq=g'/\Fc g':=by
   rcases hg with rfl|rfl
   .exact⟨_,rfl,.inl rfl⟩
   .exact⟨_,rfl,.inr rfl⟩
  have nk:=fD (cs:=c) hg' K;have ra:=tB (fr:=fr) K hR Cc;have nx:=jK hg' K Cc;have nz:=BQ hR Cc;have o1:Fl.own.Jp=.lnt:=rfl;generalize hv:rk s R c=v at *;by_cases q:0<v
  .refine .inr ⟨by simp[K.rl.le,K.rl.tb,hr.le,wl,eg,nk,ra,aw,q],?_⟩;obtain⟨nm,hnm,hrk⟩:=nz ();clear nz;have tl:=jr (D:=D) (cs:=c) (many:=many) n4;have cb:aM [] 1 (bu (mFz (ap (aB jW) (ae (ac 0) (ae (mOp aH (ac 4) (mUn p6 (JA 1))) (ae (ac 3) am)))))) (tgN 0) bp (mOp aH (ac 0) (JA 1)) [some r,some (.lst fr (iL R)),some (.lst fc (iL cs)),some (.bl many),some (.lst .own (.lst .own (iL cs)::llL .frz aI)),some (.int (v-1)),x6]=.ok (.lst .own (llL .frz ((trn n D many c).map (stR n D c)))):=by
    refine aP (xs:=nxV .frz n D many c) ?_ (by simp[nxV];omega) ?_
    .simp[mFz,K.rl.le,K.rl.tb,wl,eg,nx,aw,fM (p:=Fl.Jv) (f:=.own) rfl rfl,gR (g:=Fl.Jr) (f:=.own) rfl]
    .rw[show llL .frz ((trn n D many c).map (stR n D c))=(trn n D many c).map λnm=>PV.lst .frz (iL (stR n D c nm)) by simp[llL]];refine aY (a:=λnm=>PV.tup [.lst .frz (iL nm),.lst .frz (iL (stR n D c nm))]) (f:=λnm=>PV.lst .frz (iL (stR n D c nm))) (trn n D many c) λnm hm=>⟨[some (.tup [.lst .frz (iL nm),.lst .frz (iL (stR n D c nm))])],by simp[tgN,aT,dR,bN,PV.Js],?_,by simp,by simp⟩
     have it:=l8 (.lst .frz (iL nm)) (.lst .frz (iL (stR n D c nm))) (by simp);simp[it]
   have cf:aM [1,0,5] 1 (bu (ac 6)) (tgN 3) (ax (mOp pEq (mOp aH (ac 0) (ap (aB iK) (ae (ac 1) (ae (ac 3) am)))) (ac 2))) (ac 3) [some r,some (.lst fr (iL R)),some (.lst fc (iL cs)),some (.bl many),some (.lst .own (.lst .own (iL cs)::llL .frz aI)),some (.int (v-1)),some (.lst .own (llL .frz ((trn n D many c).map (stR n D c))))]=.ok (.lst .own (llL .frz (((trn n D many c).map (stR n D c)).filter λd=>decide (rk s R d=v-1)))):=by
    refine aP (xs:=llL .frz ((trn n D many c).map (stR n D c))) (by simp) (by simp;omega) ?_;refine b6 (a:=λd=>PV.lst .frz (iL d)) (f:=λd=>PV.lst .frz (iL d)) (p:=λd=>decide (rk s R d=v-1)) ((trn n D many c).map (stR n D c)) λd hd=>⟨[some (.lst fr (iL R)),some r,some (.int (v-1)),some (.lst .frz (iL d))],by simp[tgN,aT,bN,PV.Js,K.rl.bo,hr.bo],?_,λ_=>by simp⟩
    obtain⟨nm,_,rfl⟩:=mem_map.mp hd;have nk:=fD (cs:=stR n D c nm) (.inr rfl) K;have ra:=tB (fr:=fr) K hR (lx K Cc nm);simp[K.rl.le,K.rl.tb,hr.le,nk,ra,aw]
   obtain⟨d,ds,ed⟩:∃d ds,((trn n D many c).map (stR n D c)).filter (λd=>decide (rk s R d=v-1))=d::ds:=by refine List.exists_cons_of_ne_nil λe=>?_;have:stR n D c nm ∈((trn n D many c).map (stR n D c)).filter (λd=>decide (rk s R d=v-1)):=mem_filter.mpr ⟨mem_map_of_mem hnm,by simpa using hrk⟩;rw[e]at this;exact nomatch this
   have hd:d ∈((trn n D many c).map (stR n D c)).filter (λd=>decide (rk s R d=v-1)):=by rw[ed];exact mem_cons_self
   obtain⟨hd1,hd2⟩:=mem_filter.mp hd;have hd2:rk s R d=v-1:=by simpa using hd2
   obtain⟨nm2,hnm2,rfl⟩:=mem_map.mp hd1;rw[ed]at cf;have i0:aH (.lst .own (llL .frz (stR n D c nm2::ds))) (.int 0)=.ok (.lst .frz (iL (stR n D c nm2))):=d8 (k:=0) rfl rfl (by simp);have b:=ah (env:=[some r,some (.lst fr (iL R)),some (.lst fc (iL cs)),some (.bl many),some (.lst .own (.lst .own (iL cs)::llL .frz aI)),x5,x6]) (ar (i:=5) (m:=mOp fB (mOp aH (ac 1) (ap (aB iK) (ae (ac 0) (ae (mOp aH (ac 4) (mUn p6 (JA 1))) am)))) (JA 1)) (v:=.int (v-1)) (by simp[K.rl.le,K.rl.tb,hr.le,wl,eg,nk,ra,aw])) (ah (ar (i:=6) cb (by simp only[eW,fF];rw[cR _ _ _ rfl];rfl) rfl) (eP (i:=4) (xs:=.lst .own (iL cs)::llL .frz aI) (show mOp aH (aM [1,0,5] 1 (bu (ac 6)) (tgN 3) (ax (mOp pEq (mOp aH (ac 0) (ap (aB iK) (ae (ac 1) (ae (ac 3) am)))) (ac 2))) (ac 3)) (JA 0) [some r,some (.lst fr (iL R)),some (.lst fc (iL cs)),some (.bl many),some (.lst .own (.lst .own (iL cs)::llL .frz aI)),some (.int (v-1)),some (.lst .own (llL .frz ((trn n D many c).map (stR n D c))))]=.ok (.lst .frz (iL (stR n D c nm2))) by rw[gC,cf];exact i0) rfl (by simp) (by simp;omega)));refine⟨(v-1).toNat,_,by omega,.inl b,aI++[stR n D c nm2],some (.int (v-1)),some (.lst .own (llL .frz ((trn n D many c).map (stR n D c)))),stR n D c nm2,?_,?_,?_,by rw[hd2],by rw[length_append,List.length_singleton,hd2];omega⟩
   .simp[llL]
   .simpa using W.more K hl hnm2
   .rw[<- List.cons_append,List.getLast?_append];rfl
  .refine .inl ⟨by simp[K.rl.le,K.rl.tb,hr.le,wl,eg,nk,ra,aw,q],aI,x5,x6,rfl,W,by omega,c,hl,by omega⟩
 .obtain⟨aI,x5,x6,rfl,q⟩:=hP;exact cV (d5 rfl) ⟨aI,rfl,q⟩
theorem ja(hB:Fc fc)(s0:0<s)(s4:s<=256):qz [.lst fc (iL cs),.int s]=.ok (.int (nmb s cs)):=by
 refine av ?_;show zh [some (.lst fc (iL cs)),some (.int s),none,none]=_;unfold zh;refine ah (ar (v:=.int 0) (by simp)) ?_;simp only[s0_,s1_];refine cH (λk e=>∃x3,e=[some (.lst fc (iL cs)),some (.int s),some (.int (nmb s (cs.take k))),x3]) (xs:=iL cs) (dh (f:=fc) (by simp[hB.le]) hB.nl (by simp) (by simp)) ⟨none,rfl⟩ (λk y e hy hP=>?_) (λe hP=>?_)
 .obtain⟨x3,rfl⟩:=hP;obtain⟨z,hz,rfl⟩:=gY hy;refine⟨_,cu rfl,?_⟩;simp only[s0_,s1_];have mm:cy (.int (nmb s (cs.take k))) (.int s)=.ok (.int (nmb s (cs.take k)*s)):=cM (.inr ⟨by omega,by omega⟩);refine a9 (ar (v:=.int (nmb s (cs.take (k+1)))) ?_) ⟨_,rfl⟩;rw[List.take_succ,hz,toList_some,p_];simp[mm]
 .obtain⟨x3,rfl⟩:=hP;rw[bG,take_length];exact d5 rfl
theorem jS(n4:n<=4)(hs:0<s)(s4:s<=256)(x:Int):ug [.int x,.int n,.int s]=.ok (.lst .own (iL (dgs s x n))):=by
 refine av ?_;show zb [some (.int x),some (.int n),some (.int s),none,none]=_;unfold zb;refine ah (ar (v:=.lst .own []) (by simp)) ?_;simp only[s0_,s1_];refine cH (λk e=>∃x4,e=[some (.int (qt s x k)),some (.int n),some (.int s),some (.lst .own (iL (dgs s x k))),x4]) (bR (n:=n) (by simp) ()) ⟨none,rfl⟩ (λk y e hy hP=>?_) (λe hP=>?_)
 .obtain⟨x4,rfl⟩:=hP;obtain⟨hk,rfl⟩:=cQ hy;have pl:∀f,f≠.mod->aL (.lst .own [.int (qt s x k%s)]) (.lst f (iL (dgs s x k)))=.ok (.lst .own (iL (dgs s x (k+1)))):=λf hf=>by rw[gn (by decide) hf (by simp;omega)];rfl
  refine⟨_,cu rfl,?_⟩;simp only[s0_,s1_];refine bZ (ar (v:=.lst .own (iL (dgs s x (k+1)))) (by simp[bD hs,pl])) ?_;simp only[s0_,s1_];refine a9 (ar (v:=.int (qt s x (k+1))) (by simp[dI hs (show s<1073741824 by omega),qt])) ⟨_,rfl⟩
 .obtain⟨x4,rfl⟩:=hP;rw[bC];exact d5 rfl
theorem pP:∀l:List (Jf),(llL .frz l).all shp=true
 | []=>rfl
 |a::l=>by rw[show llL .frz (a::l)=.lst .frz (iL a)::llL .frz l from rfl,all_cons,pP l,jA];rfl
theorem qm(hB:Fc fc\/fc=.own)(hr:Fc fr)(K:Ru r n s al ip D many)(hR:m8 n s ip D many M R)(C:Ce n s cs):yb [r,.lst fc (iL cs),.lst fr (iL R),.int s,.bl many]=.ok (.bl true):=by
 have hb:=Fc.call hB;obtain⟨aI,h,W,wl,c,hc,rc⟩:=z0 hb hr K hR C;have s0:=K.rl.s0;have n4:=K.n4;have r5:=v9 K hR C;have nk:=ja (cs:=cs) hb s0 K.s3;have ra:=tB (fr:=fr) K hR C;refine av ?_;show y3 [some r,some (.lst fc (iL cs)),some (.lst fr (iL R)),some (.int s),some (.bl many),none,none]=_;unfold y3;have nb:hasL Fl.Jv (llL .frz aI)=false:=cR _ _ _ rfl;have nl:hasL Fl.Ju (llL .frz aI)=false:=cR _ _ _ rfl;refine ah (ar (v:=.lst .own (.lst .own (iL cs)::llL .frz aI)) (by simp[K.rl.le,K.rl.tb,hr.le,hr.tb,h,aw,nb]) (by simp[nl]) rfl) ?_;simp only[s0_,s1_];refine ah (eK (v:=.lst .own (.lst .own (iL cs)::llL .frz aI)) rfl) ?_;simp only[s0_,s1_,fN,km,iW,jN,eM,sC];have ix:∀ (k:Nat) d,(cs::aI)[k]?=some d->aH (.lst .frz (.lst .frz (iL cs)::llL .frz aI)) (.int k)=.ok (.lst .frz (iL d)):=λk d hd=>d8 rfl (by
  have:(llL .frz (cs::aI))[k]?=some (.lst .frz (iL d)):=by rw[llL,getElem?_map,hd];rfl
  exact this) (by simp)
 have i0:aH (.lst .frz (.lst .frz (iL cs)::llL .frz aI)) (.int 0)=.ok (.lst .frz (iL cs)):=ix 0 cs rfl;refine ah (bL (by simp[hr.le,k6,i0,nk,ra,aw];omega) az) ?_;have rg:kQ (ae (JA 1) (ae (ap (p1 cz) (ae (ac 5) am)) am)) [some r,some (.lst fc (iL cs)),some (.lst fr (iL R)),some (.int s),some (.bl many),some (.lst .frz (.lst .frz (iL cs)::llL .frz aI)),none]=.ok (dv 1 aI.length):=by
  have:=tw (env:=[some r,some (.lst fc (iL cs)),some (.lst fr (iL R)),some (.int s),some (.bl many),some (.lst .frz (.lst .frz (iL cs)::llL .frz aI)),none]) (ms:=ae (JA 1) (ae (ap (p1 cz) (ae (ac 5) am)) am)) (lo:=1) (hi:=(aI.length:Int)+1) (by simp) () ()
  rwa [show((aI.length:Int)+1-1).toNat=aI.length by omega]at this
 refine cH (λ_ e=>∃x6,e=[some r,some (.lst fc (iL cs)),some (.lst fr (iL R)),some (.int s),some (.bl many),some (.lst .frz (.lst .frz (iL cs)::llL .frz aI)),x6]) rg ⟨_,rfl⟩ (λk x e hx hP=>?_) (λe hP=>?_)
 .obtain⟨x6,rfl⟩:=hP;obtain⟨hk,rfl⟩:=cQ hx;obtain⟨a,ha⟩:∃a,(cs::aI)[k]?=some a:=⟨_,getElem?_eq_getElem (by simp;omega)⟩
  obtain⟨b,hb⟩:∃b,(cs::aI)[k+1]?=some b:=⟨_,getElem?_eq_getElem (by simp;omega)⟩
  obtain⟨nm,hnm,rfl⟩:=W.st k a b ha hb;have Ca:=W.ce a (List.mem_of_getElem? ha);have i1:=ix k a ha;have i2:=ix (k+1) _ hb;rw[show((k+1:Nat):Int)=1+(k:Int) by omega]at i2;have nx:=jK (.inr rfl) K Ca;have k1:(1:Int)+k-1=k:=by omega
  have tl:=jr (D:=D) (cs:=a) (many:=many) n4;refine⟨[some r,some (.lst fc (iL cs)),some (.lst fr (iL R)),some (.int s),some (.bl many),some (.lst .frz (.lst .frz (iL cs)::llL .frz aI)),some (.int (1+(k:Int)))],cu rfl,a9 (bL ?_ az) ⟨_,rfl⟩⟩;have cp:aM [] 2 (bu (mFz (ap (aB jW) (ae (ac 0) (ae (mOp aH (ac 5) (mOp fB (ac 6) (JA 1))) (ae (ac 4) am)))))) (tgT 2 (aZ (tgN 0) (aZ (tgN 1) dJ))) bp (ac 1) [some r,some (.lst fc (iL cs)),some (.lst fr (iL R)),some (.int s),some (.bl many),some (.lst .frz (.lst .frz (iL cs)::llL .frz aI)),some (.int (1+(k:Int)))]=.ok (.lst .own (llL .frz ((trn n D many a).map (stR n D a)))):=by
   refine aP (xs:=nxV .frz n D many a) ?_ (by simp[nxV];omega) ?_
   .simp[mFz,K.rl.le,K.rl.tb,i1,k1,nx,aw,fM (p:=Fl.Jv) (f:=.own) rfl rfl,gR (g:=Fl.Jr) (f:=.own) rfl]
   .rw[show llL .frz ((trn n D many a).map (stR n D a))=(trn n D many a).map λnm=>PV.lst .frz (iL (stR n D a nm)) by simp[llL]];exact aY (a:=λnm=>PV.tup [.lst .frz (iL nm),.lst .frz (iL (stR n D a nm))]) (f:=λnm=>PV.lst .frz (iL (stR n D a nm))) (trn n D many a) λnm hm=>⟨[some (.lst .frz (iL nm)),some (.lst .frz (iL (stR n D a nm)))],by simp[PV.Js];rfl,by simp,by simp,by simp⟩
  have ni:dF (.lst .frz (iL (stR n D a nm))) (.lst .own (llL .frz ((trn n D many a).map (stR n D a))))=.ok (.bl false):=by
   unfold dF;simp only[aW,jA,pP,Bool.and_self,if_true];have:inL (.lst .frz (iL (stR n D a nm))) (llL .frz ((trn n D many a).map (stR n D a)))=true:=by unfold inL;rw[List.any_eq_true];refine⟨.lst .frz (iL (stR n D a nm)),mem_map.mpr ⟨_,mem_map_of_mem hnm,rfl⟩,?_⟩;simp only[PV.data,PyData.eqv,kD];simp
   rw[this];rfl
  simp only[gZ,gC,cp];simp[i2,ni]
 .obtain⟨x6,rfl⟩:=hP;have il:aH (.lst .frz (.lst .frz (iL cs)::llL .frz aI)) (.int (-1))=.ok (.lst .frz (iL c)):=by obtain⟨g,hg,e⟩:=pE (f:=.frz) rfl hc;rcases hg with rfl|rfl<;>exact e
  have Cc:=W.ce c (List.mem_of_getLast? hc);have cc:caR n ip D c=true:=by
   rcases hR.ok c Cc with q |⟨_,_,q,_⟩
   .exact q.1
   .omega
  have ca:=o8 (f:=.frz) K.rl (.inl (.inr rfl)) Cc.len Cc.inn;exact a6 (by simp[K.rl.le,il,ca,cc]) (by simp)
end
end
section
section
variable{r:PV}{n:Nat}{s mo:Int}{al ip many:Bool}{D:Jf->Nat->Int}{cs nm:Jf}{fc fr:Fl}{M:Jf->Int}{R:Jf}
theorem DT{l:Jf}{f:Fl}(h:l≠[]):dw c_ (.lst f (iL l))=.ok (.int (c_ l)):=by unfold dw;simp only[aW,eH];rw[if_neg (by cases l<;>simp_all)]
theorem oO(hB:Fc fc)(hr:Fc fr)(K:Ru r n s al ip D many)(X:Mx r n s al ip D M mo)(hR:m8 n s ip D many M R)(C:Ce n s cs):yh [r,.lst fc (iL cs),.int (rk s R cs),.lst fr (iL R),.int s,.bl many]=.ok (.bl true):=by
 have s0:=K.rl.s0;have n4:=K.n4;have ml:=iV (n:=n) (D:=D) (cs:=cs);have tl:=jr (D:=D) (cs:=cs) (many:=many) n4;have mv:=gu K.rl (.inl hB) C.len C.inn;have ca:=o8 K.rl (.inl hB) C.len C.inn;have me:=X.ms.me fc cs (.inl hB) C.len C.inn;refine av ?_;show ze [some r,some (.lst fc (iL cs)),some (.int (rk s R cs)),some (.lst fr (iL R)),some (.int s),some (.bl many),none,none]=_;unfold ze;refine ah (ar (v:=.lst .own (nxV .own n D many cs)) (by simp[K.rl.le,K.rl.tb,hB.le,hB.tb,jK hB K C,aw,fM (p:=Fl.Jv) (f:=.own) rfl rfl]) (by simp[fM (p:=Fl.Ju) (f:=.own) rfl rfl]) rfl) ?_;simp only[s0_,s1_];refine ah (bL ?_ az) ?_
 .cases many with
  |false=>simp
  |true=>
   have l:=n8 (n:=n) (D:=D) (cs:=cs) (many:=true);rw[if_pos rfl]at l;have sh:wD (.int 1) (.int ((mvR n D cs).length:Int))=.ok (.int (2 ^ (mvR n D cs).length)):=by rw[Cq () () (by decide),Int.one_mul,toNat_natCast]
   have p2:0<2 ^ (mvR n D cs).length:=Nat.pow_pos (by decide);have e:((nxV .lnt n D true cs).length:Int)=2 ^ (mvR n D cs).length-1:=by
    have:((2 ^ (mvR n D cs).length:Nat):Int)=2 ^ (mvR n D cs).length:=by simp
    simp only[nxV,length_map];omega
   simp[K.rl.le,K.rl.tb,hB.le,hB.tb,K.rl.mv,mv,sh,e,aw,gR (g:=Fl.Jp) (f:=.own) rfl]
 have cp:aM [3,4] 2 (bu (ac 6)) (tgT 2 (aZ (tgN 2) (aZ (tgN 3) dJ))) bp (mOp aH (ac 0) (ap (aB qz) (ae (ac 3) (ae (ac 1) am)))) [some r,some (.lst fc (iL cs)),some (.int (rk s R cs)),some (.lst fr (iL R)),some (.int s),some (.bl many),some (.lst .own (nxV .own n D many cs)),none]=.ok (.lst .own (iL ((trn n D many cs).map λnm=>rk s R (stR n D cs nm)))):=by
  refine aP (xs:=nxV .lnt n D many cs) (by simp[gR (g:=Fl.Jp) (f:=.own) rfl]) (by simp[nxV];omega) ?_;rw[show iL ((trn n D many cs).map λnm=>rk s R (stR n D cs nm))=(trn n D many cs).map λnm=>PV.int (rk s R (stR n D cs nm)) by simp[iL]];refine aY (a:=λnm=>PV.tup [.lst .frz (iL nm),.lst .lnt (iL (stR n D cs nm))]) (f:=λnm=>PV.int (rk s R (stR n D cs nm))) (trn n D many cs) λnm hm=>⟨[some (.lst fr (iL R)),some (.int s),some (.lst .frz (iL nm)),some (.lst .bor (iL (stR n D cs nm)))],by simp[PV.Js,bN,hr.bo];rfl,?_,by simp,by simp⟩
  have nk:=ja (fc:=.bor) (cs:=stR n D cs nm) (.inl rfl) s0 K.s3;have ra:=tB (fr:=fr) K hR (lx K C nm);simp[hr.le,nk,ra,aw]
 refine ah (ar cp) ?_;simp only[s0_,s1_];rcases hR.ok cs C with⟨a,b⟩ |⟨a,ne,b,c,d⟩
 .exact dN (g_ (by simp[b]) (a6 (by simp[K.rl.le,hB.le,ca,a])))
 .have mx:=λf=>DT (f:=f) (l:=(trn n D many cs).map λnm=>rk s R (stR n D cs nm)) (by simpa using ne);generalize(trn n D many cs).map (λnm=>rk s R (stR n D cs nm))=L at *;generalize rk s R cs=v at *;refine ah (bL (by simp;omega) az) (a6 ?_);have e1:c_ L=v-1:=by omega
  simp[K.rl.le,hB.le,ca,a,mx,me,wG,e1,c]
end
end
section
def tri:Nat->Nat
 |0=>0
 |k+1=>tri k+k
theorem tJ{α:Type}(y:α)(xs:List α):PR.iy xs.length y xs=xs++[y]:=by simp[PR.iy]
theorem Bx{n m r:Nat}{ws:Jc}(Wh:mR n m ws)(hr:r<n)(S:Nat->Prop)(h0:S r)(hc:∀i<n,∀j<n,mQ (dg (ws.map mm)) i j->S i->S j):∀i<n,S i:=λi hi=>by
 have:=Wh.cn (λx=>S x.toNat) (λw hw=>?_) r i hr hi (by simpa using h0)
 .simpa using this
 .have rg:=Wh.rg w hw;have hm:mm w∈dg (ws.map mm):=(db _).mem_iff.mpr (mem_map_of_mem hw);have e1:((w.1.toNat:Nat):Int)=w.1:=by omega
  have e2:((w.2.toNat:Nat):Int)=w.2:=by omega
  have ad:mQ (dg (ws.map mm)) w.1.toNat w.2.toNat:=by
   unfold mQ;rw[e1,e2];rcases Int.le_total w.1 w.2 with h|h
   .left;rw[show(w.1,w.2)=mm w by simp only[mm,Prod.mk.injEq];omega];exact hm
   .right;rw[show(w.2,w.1)=mm w by simp only[mm,Prod.mk.injEq];omega];exact hm
  exact⟨hc _ () _ () ad,hc _ () _ () (ad.elim .inr .inl)⟩
theorem m_{n m:Nat}{ws:Jc}(h:mR n m ws)(n4:n<=4):ws.length<=16:=by
 have rg:∀x∈ws.map mm,0<=x.1/\x.1<4/\0<=x.2/\x.2<4:=λx hx=>by obtain⟨w,hw,rfl⟩:=mem_map.mp hx;have:=h.rg w hw;simp only[mm];omega
 have nd:((ws.map mm).map λp=>p.1 * 4+p.2).Nodup:=List.pairwise_map.mpr (Pairwise.imp_of_mem (λ{a b} ha hb (q:a ≠ b) e=>q (by
  have:=rg a ha;have:=rg b hb;exact Prod.ext () ())) h.nd)
 have:=jL nd (l':=(range 16).map λk:Nat=>(k:Int)) λx hx=>by obtain⟨p,hp,rfl⟩:=mem_map.mp hx;have:=rg p hp;exact mem_map.mpr ⟨(p.1*4+p.2).toNat,mem_range.mpr (),by omega⟩
 simpa using this
structure Nt(n:Nat)(ps:Jc):Prop where
 rg:∀x∈ps,0<=x.1/\x.1<n/\0<=x.2/\x.2<n/\x.1≠x.2
 hl:∀i,(nbL ps i).length<=1000
theorem Nt.nb{n:Nat}{ps:Jc}(h:Nt n ps)(i:Nat):∀x∈nbL ps i,0<=x/\x<n:=λx hx=>by
 rcases oI.mp hx with q|q
 .have:=h.rg _ q;omega
 .have:=h.rg _ q;omega
theorem lh{fl:Fl}{n:Nat}(ns:Jf)(h:Scr fl)(n1:1<=n)(n4:n<=4):∃ps,jX [.lst fl (iL ns),.int n]=.ok (net .own n ps)/\Nt n ps:=by
 suffices hh:gd (yX [some (.lst fl (iL ns)),some (.int n),none,none,none,none,none]) (λv=>∃ps,v=net .own n ps/\Nt n ps) by obtain⟨v,h1,ps,rfl,h2⟩:=hh;exact⟨ps,av h1,h2⟩
 unfold yX;have np:(0:Int)<n:=by omega
 have cl:∀k:Nat,dE [.lst fl (iL ns),.int k]=.ok (.int (cell ns k)):=λk=>lq ns k h;refine aS (ar (v:=.lst .own []) (by simp)) ?_;simp only[s0_,s1_];have od:∀k,k<n->((range n).map λk:Nat=>(k:Int)).getD k 0=k:=λk hk=>by simp[hk]
 have nd:((range n).map λk:Nat=>(k:Int)).Nodup:=Pairwise.map _ (λa b h z=>h ()) nodup_range;refine lE (λq e=>∃ws a,e=[some (.lst fl (iL ns)),some (.int n),some (.lst .own (prL ws)),a,none,none,none]/\PR.Tree n ((range n).map λk:Nat=>(k:Int)) (q+1) ws) (xs:=dv 1 (n-1)) ?_ ⟨[],_,rfl,PR.Tree.start (by simp) n1⟩ (λq x e hx hP=>?_) (λe hP=>?_)
 .rw[tw (lo:=1) (hi:=n) (by simp) () ()];rw[show((n:Int)-1).toNat=n-1 by omega]
 .obtain⟨ws,a,rfl,T⟩:=hP;obtain⟨hq,rfl⟩:=cQ hx;have lt:=T.ln;have kp:(0:Int)<1+(q:Int):=by omega
  have ck:dE [.lst fl (iL ns),.int (1+(1+(q:Int)))]=.ok (.int (cell ns (2+q))):=by
   have:=cl (2+q)
   rwa [show((2+q:Nat):Int)=1+(1+(q:Int)) by omega]at this
  generalize cell ns (2+q)=z at ck;have b1:=emod_nonneg z (show(1:Int)+q≠0 by omega);have b2:=emod_lt_of_pos z kp;refine⟨_,cu rfl,a9 (eP (v:=prV (1+(q:Int),z%(1+(q:Int)))) (xs:=prL ws) (by simp[h.Jp,h.Jq,ck,bD kp,aw,prV]) rfl (by simp) (by rw[lf];omega)) ⟨ws++[(1+(q:Int),z%(1+(q:Int)))],some (.int (1+(q:Int))),by simp[prL],?_⟩⟩;rw[<- tJ];refine T.more (j:=(z%(1+(q:Int))).toNat) nd (by simp;omega) () (.inl ?_);rw[od _ (),od _ ()];exact Prod.ext (by dsimp only;omega) (by dsimp only;omega)
 obtain⟨ws,a,rfl,T⟩:=hP;rw[bC,show n-1+1=n by omega]at T;have Wh:=T.whole (.refl _);refine lE (λq e=>∃ws b c d m,e=[some (.lst fl (iL ns)),some (.int n),some (.lst .own (prL ws)),a,b,c,d]/\mR n m ws) (xs:=iL (ns.drop 2)) ?_ ⟨ws,_,_,_,_,rfl,Wh⟩ (λq x e hx hP=>?_) (λe hP=>?_)
 .have e:ig (iL ns) (some 2) none=iL (ns.drop 2):=Bv ns 2 rfl;refine dh (f:=.own) ?_ rfl (by simp) (by simp);simp only[iN,fq,jY,qD];simp[h.Jp,e]
 .obtain⟨ws,b,c,d,m,rfl,Wh⟩:=hP;obtain⟨z,hz,rfl⟩:=gY hx;have few:=m_ Wh n4;have d2:dB (.int z) (.int 2)=.ok (.int (z / 2)):=dI (by decide) (by decide);have m2:cy (.int 2) (.int (n:Int))=.ok (.int (2*(n:Int))):=cM (.inl ⟨by decide,by decide⟩);have d3:dB (.int z) (.int (2*(n:Int)))=.ok (.int (z / (2*(n:Int)))):=dI () ();have b1:=emod_nonneg (z / 2) (show(n:Int)≠ 0 by omega);have b2:=emod_lt_of_pos (z / 2) np;have b3:=emod_nonneg (z / (2*(n:Int))) (show(n:Int)≠ 0 by omega);have b4:=emod_lt_of_pos (z / (2*(n:Int))) np;refine⟨_,cu rfl,?_⟩;simp only[s0_,s1_];refine bZ (ar (v:=.int (z / 2%n)) (by simp[bD np,d2])) ?_;simp only[s0_,s1_];refine bZ (ar (v:=.int (z / (2*(n:Int))%n)) (by simp[bD np,m2,d3])) ?_;simp only[s0_,s1_];generalize z / 2%(n:Int)=one at *;generalize z / (2*(n:Int))%(n:Int)=other at *;by_cases hc:z%2=1/\one≠other/\(one,other)∉ ws/\(other,one)∉ ws
  .obtain⟨c0,c1,c2,c3⟩:=hc;refine kA (by simp[bD,n5,c0,c1,c2,c3]) (a9 (eP (v:=prV (one,other)) (xs:=prL ws) (by simp;rfl) rfl (by simp) (by rw[lf];omega)) ⟨ws++[(one,other)],some (.int z),some (.int one),some (.int other),m+1,by simp[prL],?_⟩);rw[<- tJ];exact Wh.more ⟨b1,b2⟩ ⟨b3,b4⟩ c1 c2 c3
  .refine kB ?_ (a9 az ⟨ws,_,_,_,m,rfl,Wh⟩);by_cases c0:z%2=1
   .by_cases c1:one=other
    .simp[bD,c0,c1]
    .by_cases c2:(one,other)∈ ws
     .simp[bD,n5,c0,c1,c2]
     .have c3:(other,one)∈ ws:=Classical.byContradiction λq=>hc ⟨c0,c1,c2,q⟩;simp[bD,n5,c0,c1,c2,c3]
   .simp[bD,c0]
 .obtain⟨ws,b,c,d,m,rfl,Wh⟩:=hP;have few:=m_ Wh n4;have Gd:Fa n ws:=⟨Wh.rg,Wh.nd,by omega⟩
  have hin:=Ba (fl:=.bor) Gd n1 () (.inl rfl) λS h0 hc=>Bx Wh () S h0 hc;refine cV (a6 (v:=net .own n (dg (ws.map mm))) (by simp[hin,aw,PV.has]) (by simp[PV.Jw,PV.has])) ⟨_,rfl,λx hx=>?_,λi=>?_⟩
  .obtain⟨w,hw,rfl⟩:=mem_map.mp ((db _).mem_iff.mp hx);have:=Gd.rg w hw;simp only[mm];omega
  .unfold nbL;rw[(fI _).length_eq,length_append,length_map,length_map];have h1:=length_filter_le (λx:Int×Int=>decide (x.2=(i:Int))) (dg (ws.map mm));have h2:=length_filter_le (λx:Int×Int=>decide (x.1=(i:Int))) (dg (ws.map mm));have h3:(dg (ws.map mm)).length<64:=by rw[(db _).length_eq,length_map];exact Gd.sz
   omega
end
section
structure KR(O o:PV)(n:Nat)(sp:Int)(al ip:Bool)(D:Jf->Nat->Int):Prop where
 own:O.has Fl.Jv=false
 nl:O.Jw=true
 lb:(O.Jx Fl.Jp).Jx Fl.Jq=o
 r:Rl o n sp al ip D
def Rz(q:Prop)(v:PV):Prop:=∃O o n sp al ip D M mo,v=.tup [O,.int (n:Nat),.int sp]/\KR O o n sp al ip D/\Mx o n sp al ip D M mo/\n<=4/\sp<=256/\sp ^ n<=256/\(q->al=false)
theorem oz{s m:Int}(h0:0<=s)(h:s<=m)(n:Nat):s ^ n<=m ^ n:=by
 induction n with
 |zero=>simp
 |succ n ih=>rw[Int.pow_succ,Int.pow_succ];have:0<=s ^ n:=Int.pow_nonneg h0;exact Int.mul_le_mul ih h h0 ()
theorem CS{s:Int}{n:Nat}(h0:0<=s)(h:s<=4)(n4:n<=4):s ^ n<=256:=by
 have:∀n,n<=4->(4:Int) ^ n<=256:=by decide
 exact Int.le_trans (oz h0 h n) (this n n4)
section
variable{fl:Fl}{ns:Jf}{c:Int}
theorem vX{kd:Nat}(h:Scr fl)(h3:3<=kd)(h7:kd<7):∃v,yg [.lst fl (iL ns),.int kd,.int c]=.ok v/\Rz False v/\v.has Fl.Jv=false/\v.Jw=true:=by
 suffices hh:gd (zd [some (.lst fl (iL ns)),some (.int kd),some (.int c),none,none,none,none,none,none,none]) (λv=>Rz False v/\v.has Fl.Jv=false/\v.Jw=true) by obtain⟨v,h1,h2⟩:=hh;exact⟨v,av h1,h2⟩
 have m3:cI (.int c) (.int 3)=.ok (.int (c%3)):=bD (by decide);have d3:dB (.int c) (.int 3)=.ok (.int (c / 3)):=dI (by decide) (by decide);obtain⟨n,hn⟩:∃n:Nat,1+c%3=n:=⟨(1+c%3).toNat,by omega⟩
 have n1:1<=n:=by omega
 have n3:n<=3:=by omega
 have np:(0:Int)<n:=by omega
 obtain⟨ps,hp,N⟩:=lh (n:=n) ns h n1 ();unfold zd;have:kd=3\/kd=4\/kd=5\/kd=6:=by omega
 rcases this with rfl|rfl|rfl|rfl
 .obtain⟨r,hr0⟩:∃r:Nat,c / 3%(n:Int)=r:=⟨(c / 3%(n:Int)).toNat,by have:=emod_nonneg (c / 3) (show(n:Int)≠ 0 by omega);omega⟩
  have hr:r<n:=by have:=emod_lt_of_pos (c / 3) np;omega
  have pi:=qx (f:=.own) (ps:=ps) (.inr rfl) n1 () hr;obtain⟨M,mo,X⟩:=lS (cc:=5) (T:=n) (by decide) n1 () np () (l_ (r:=r) n1) (by simp[fs]) N.nb λi=>N.hl i;refine⟨.tup [lea .own 5 n ps (fs n r) n n,.int n,.int ((n:Int)+1)],dN (g_ (by simp) (ah (ar (v:=.int n) (by simp[m3,hn])) (a6 ?_ (by simp[PV.Jw,PV.has])))),⟨_,lea .bor 5 n ps (fs n r) n n,n,_,_,_,_,M,mo,rfl,⟨by simp[PV.has],by simp[PV.Jw,PV.has],by simp[Fl.Jp,Fl.Jq],iu (by decide) n1 () np () (l_ n1) (by simp[fs]) N.nb λi=>N.hl i⟩,X,by omega,by omega,?_,nofun⟩,by simp[PV.has],by simp[PV.Jw,PV.has]⟩
  .simp[h.Jp,h.Jq,hp,d3,bD np,hr0,pi,aw,PV.has]
  .exact CS () () ()
 .obtain⟨tp,ht,t1,t10,tb⟩:∃tp:Int,(∀f,aH (.lst f [.int 10,.int 8,.int 3]) (.int ((n:Int)-1))=.ok (.int tp))/\1<=tp/\tp<=10/\(tp+1) ^ n<=256:=by
   have:n=1\/n=2\/n=3:=by omega
   rcases this with rfl|rfl|rfl
   .exact⟨10,λf=>d8 (k:=0) rfl rfl rfl,by decide,by decide,by decide⟩
   .exact⟨8,λf=>d8 (k:=1) rfl rfl rfl,by decide,by decide,by decide⟩
   .exact⟨3,λf=>d8 (k:=2) rfl rfl rfl,by decide,by decide,by decide⟩
  have d30:dB (.int c) (.int 30)=.ok (.int (c / 30)):=dI (by decide) (by decide);obtain⟨st,hst⟩:∃st,1+c / 3%tp=st:=⟨_,rfl⟩
  have a1:=emod_nonneg (c / 3) (show tp≠0 by omega);have a2:=emod_lt_of_pos (c / 3) (show 0<tp by omega);have dt:dB (.int tp) (.int st)=.ok (.int (tp / st)):=dI () ();have q1:1<=tp / st:=(Int.le_ediv_iff_mul_le ()).mpr ();have q2:tp / st<=10:=Int.le_trans (Int.ediv_le_self st ()) t10;have q3:=Int.mul_ediv_self_le (x:=tp) (k:=st) ();obtain⟨bk,hbk⟩:∃bk,1+c / 30%(tp / st)=bk:=⟨_,rfl⟩
  have a3:=emod_nonneg (c / 30) (show tp / st≠0 by omega);have a4:=emod_lt_of_pos (c / 30) (show 0<tp / st by omega);have q4:st*bk<=st*(tp / st):=Int.mul_le_mul_of_nonneg_left () ();have q5:0<st*bk:=Int.mul_pos () ();obtain⟨T,hT⟩:∃T:Nat,st*bk=T:=⟨(st*bk).toNat,by omega⟩
  have mu:cy (.int st) (.int bk)=.ok (.int T):=by rw[<- hT];exact cM (.inl ⟨by omega,by omega⟩)
  have cl:∀k:Nat,dE [.lst fl (iL ns),.int k]=.ok (.int (cell ns k)):=λk=>lq ns k h;refine aS (bL (by simp) az) ?_
  suffices ok:gd (_:Out) _ from let⟨v,h1,h2⟩:=ok;⟨v,dN (g_ (by simp) h1),h2⟩
  refine aS (ar (v:=.int n) (by simp[m3,hn])) ?_;simp only[s0_,s1_];refine aS (ar (v:=.int tp) (by simp[ht])) ?_;simp only[s0_,s1_];refine aS (ar (v:=.int st) (by simp[d3,bD (show 0<tp by omega),hst])) ?_;simp only[s0_,s1_];refine aS (ar (v:=.int bk) (by simp[d30,dt,bD (show 0<tp / st by omega),hbk])) ?_;simp only[s0_,s1_];refine aS (ar (v:=.lst .own []) (by simp)) ?_;simp only[s0_,s1_];refine lE (λk e=>∃os x8 x9,e=[some (.lst fl (iL ns)),some (.int (4:Nat)),some (.int c),some (.int n),some (.int tp),some (.int st),some (.int bk),some (.lst .own (oL os)),x8,x9]/\os.length=k/\OkS T os) (bR (n:=n) (by simp) ()) ⟨[],_,_,rfl,rfl,nofun⟩ (λk x e hx hP=>?_) (λe hP=>?_)
  .obtain⟨os,x8,x9,rfl,ol,ok⟩:=hP;obtain⟨hk,rfl⟩:=cQ hx;have ck:dE [.lst fl (iL ns),.int (2+(k:Int))]=.ok (.int (cell ns (2+k))):=by have:=cl (2+k);simpa using this
   have d7:dB (.int (cell ns (2+k))) (.int 7)=.ok (.int (cell ns (2+k) / 7)):=dI (by decide) (by decide);generalize cell ns (2+k) / 7=w at d7;have d2:dB (.int w) (.int 2)=.ok (.int (w / 2)):=dI (by decide) (by decide);have b1:=emod_nonneg (w / 2) (show(T:Int)≠ 0 by omega);have b2:=emod_lt_of_pos (w / 2) (show(0:Int)<T by omega);have ok':∀o:Jj,(∀s,o=some s->0<=s/\s<T)->OkS T (os++[o]):=λo ho s hs=>by
    rcases mem_append.mp hs with hs|hs
    .exact ok s hs
    .exact ho s (mem_singleton.mp hs).symm
   refine⟨_,cu rfl,?_⟩;simp only[s0_,s1_,Int.zero_add];refine bZ (ar (v:=.int w) (by simp[h.Jp,h.Jq,ck,d7,aw])) ?_;simp only[s0_,s1_];refine bZ (eP (v:=.int (w / 2%T)) (xs:=oL os) (by simp[d2,mu,bD (show(0:Int)<T by omega)]) rfl (by simp) (by rw[r6];omega)) ?_;simp only[s0_,s1_];by_cases od:w%2=1
   .refine kA (by simp[bD,od]) (a9 (jC (v:=.non) (xs:=oL os++[.int (w / 2%T)]) (j:=k) (n:=k) (by simp) rfl (by simp) (jT (by simp[ol])) (by simp)) ⟨os++[none],some (.int k),some (.int w),?_,by simp[ol],ok' none nofun⟩);have e:(oL os++[PV.int (w / 2%T)]).set k PV.non=oL (os++[none]):=by rw[List.set_append_right _ _ (by rw[r6];omega),r6,ol,Nat.sub_self];simp[oL,oV]
    simp[e]
   .exact kB (by simp[bD,od]) (a9 az ⟨os++[some (w / 2%T)],some (.int k),some (.int w),by simp[oL,oV],by simp[ol],ok' _ λs e=>by cases e;exact⟨b1,b2⟩⟩)
  .obtain⟨os,x8,x9,rfl,ol,ok⟩:=hP;rw[bC]at ol;have pi:=xC (cc:=4) (n:=n) (ps:=ps) (os:=os) (st:=st) (bk:=bk) (f:=.bor) (gf:=.own) (.inr rfl) (.inl rfl) () () () () ol (by rw[hT];exact ok);rw[hT]at pi;obtain⟨M,mo,X⟩:=lS (cc:=4) (T:=T) (st:=st) (by decide) n1 () () () ok ol N.nb λi=>N.hl i;refine cV (a6 (v:=.tup [lea .own 4 n ps os st T,.int n,.int ((T:Int)+1)]) (by simp[h.Jp,h.Jq,hp,pi,mu,aw,PV.has]) (by simp[PV.Jw,PV.has])) ⟨⟨_,lea .bor 4 n ps os st T,n,_,_,_,_,M,mo,rfl,⟨by simp[PV.has],by simp[PV.Jw,PV.has],by simp[Fl.Jp,Fl.Jq],iu (by decide) n1 () () () ok ol N.nb λi=>N.hl i⟩,X,by omega,by omega,Int.le_trans (oz () () n) tb,nofun⟩,by simp[PV.has],by simp[PV.Jw,PV.has]⟩
 .obtain⟨m,hm⟩:∃m:Nat,1+c%2=m:=⟨(1+c%2).toNat,by omega⟩
  have m1:1<=m:=by omega
  have mp:(0:Int)<m:=by omega
  obtain⟨ps,hp,N⟩:=lh (n:=m) ns h m1 ();have m2:cI (.int c) (.int 2)=.ok (.int (c%2)):=bD (by decide);have d2:dB (.int c) (.int 2)=.ok (.int (c / 2)):=dI (by decide) (by decide);obtain⟨r,hr0⟩:∃r:Nat,c / 2%(m:Int)=r:=⟨(c / 2%(m:Int)).toNat,by have:=emod_nonneg (c / 2) (show(m:Int)≠ 0 by omega);omega⟩
  have hr:r<m:=by have:=emod_lt_of_pos (c / 2) mp;omega
  have pi:=xQ (f:=.own) (ps:=ps) (.inr rfl) m1 () hr;have mu:cy (.int ((m:Int)+1)) (.int ((m:Int)+1))=.ok (.int (((m:Int)+1)*((m:Int)+1))):=cM (.inl ⟨by omega,by omega⟩);obtain⟨M,mo,X⟩:=AO m1 () hr N.nb λi=>N.hl i;refine⟨.tup [gro .own m ps r,.int m,.int (((m:Int)+1)*((m:Int)+1))],ah (bL (by simp) az) (ah (bL (by simp) az) (dN (g_ (by simp) (ah (ar (v:=.int m) (by simp[m2,hm])) (a6 (by simp[h.Jp,h.Jq,hp,d2,bD mp,hr0,pi,mu,aw,PV.has]) (by simp[PV.Jw,PV.has])))))),⟨_,gro .bor m ps r,m,_,_,_,_,M,mo,rfl,⟨by simp[PV.has],by simp[PV.Jw,PV.has],by simp[Fl.Jp,Fl.Jq],Ak m1 () N.nb λi=>N.hl i⟩,X,by omega,?_,?_,nofun⟩,by simp[PV.has],by simp[PV.Jw,PV.has]⟩
  all_goals
   have:m=1\/m=2:=by omega
   rcases this with rfl|rfl<;>decide
 .obtain⟨ps,hp,N⟩:=lh (n:=1) ns h (by decide) (by decide);have m10:cI (.int c) (.int 10)=.ok (.int (c%10)):=bD (by decide);have O:OkM 1 [c%10]:=⟨rfl,by simp,λx hx=>by rw[mem_singleton.mp hx];omega⟩
  have pi:=ve (ps:=ps) (fm:=.own) (.inr rfl) O (by decide) (by decide);have os:OkS ((10:Nat):Int) (ls 1 [c%10]):=λs hs=>by simp only[ls,map_cons,map_nil,mem_singleton,Option.some.injEq]at hs;omega
  obtain⟨M,mo,X⟩:=lS (cc:=6) (n:=1) (st:=1) (T:=10) (by decide) (by decide) (by decide) (by decide) (by decide) os rfl N.nb λi=>N.hl i;refine⟨.tup [lea .own 6 1 ps (ls 1 [c%10]) 1 10,.int (1:Nat),.int 11],ah (bL (by simp) az) (ah (bL (by simp) az) (ah (bL (by simp) az) (a6 ?_ (by simp[PV.Jw,PV.has])))),⟨_,lea .bor 6 1 ps (ls 1 [c%10]) 1 10,1,_,_,_,_,M,mo,rfl,⟨by simp[PV.has],by simp[PV.Jw,PV.has],by simp[Fl.Jp,Fl.Jq],iu (by decide) (by decide) (by decide) (by decide) (by decide) os rfl N.nb λi=>N.hl i⟩,X,by decide,by decide,by decide,nofun⟩,by simp[PV.has],by simp[PV.Jw,PV.has]⟩;have hp':jX [.lst fl (iL ns),.int 1]=.ok (net .own 1 ps):=hp;have pi':um [.obj .own 6 [] [],net .own 1 ps,.lst .own [.int (c%10)]]=.ok (lea .own 6 1 ps (ls 1 [c%10]) 1 10):=pi;simp[net,-List.range_one]at pi';simp[h.Jp,h.Jq,hp',m10,pi',aw,PV.has,net,-List.range_one]
end
end
section
theorem xq{d:Nat->Option (Jn->Jo)}{r:Res (Jn)}{x o:PV}(h:x.Jx Fl.Jq=o)(ho:o.Jx Fl.Jq=o):gp d r x=gp d r o:=by
 subst h;cases x with
 |obj f c ks vs=>
  rw[PV.Jx]at ho ⊢;unfold gp;dsimp only;cases d c with
  |none=>rfl
  |some m=>
   cases r with
   |ok xs=>simp only[Res.Jz,mM,km,ho];rfl
   |exc c|stuck=>rfl
 |_=>first|rfl|simp[PV.Jx,gp]
section
variable{fl:Fl}{ns:Jf}
theorem Ah(h:Scr fl):∃v,yd [.lst fl (iL ns)]=.ok v/\Rz (cell ns 0%7<3) v/\v.has Fl.Jv=false/\v.Jw=true:=by
 suffices hh:gd (y8 [some (.lst fl (iL ns)),none,none,none,none,none]) (λv=>Rz (cell ns 0%7<3) v/\v.has Fl.Jv=false/\v.Jw=true) by obtain⟨v,h1,h2⟩:=hh;exact⟨v,av h1,h2⟩
 have cl:∀k:Nat,dE [.lst fl (iL ns),.int k]=.ok (.int (cell ns k)):=λk=>lq ns k h;have c0:dE [.lst fl (iL ns),.int 0]=.ok (.int (cell ns 0)):=cl 0;have c1:dE [.lst fl (iL ns),.int 1]=.ok (.int (cell ns 1)):=cl 1;generalize cell ns 0=z at *;generalize cell ns 1=c at *;obtain⟨kd,hk⟩:∃kd:Nat,z%7=kd:=⟨(z%7).toNat,by omega⟩
 have d14:dB (.int z) (.int 14)=.ok (.int (z / 14)):=dI (by decide) (by decide);have m3:cI (.int c) (.int 3)=.ok (.int (c%3)):=bD (by decide);obtain⟨n,hn⟩:∃n:Nat,1+c%3=n:=⟨(1+c%3).toNat,by omega⟩
 unfold y8;refine aS (ar (v:=.int c) (by simp[h.Jp,h.Jq,c1,aw])) ?_;simp only[s0_,s1_];refine aS (ar (v:=.int kd) (by simp[h.Jp,h.Jq,c0,aw,bD,hk])) ?_;simp only[s0_,s1_];refine aS (ar (v:=.bl (decide (z / 14%8=3))) (by simp[h.Jp,h.Jq,c0,aw,bD,d14])) ?_;simp only[s0_,s1_];generalize decide (z / 14%8=3)=b;have:kd=0\/kd=1\/kd=2\/3<=kd/\kd<7:=by omega
 rcases this with rfl|rfl|rfl|hk3
 .have d2:dB (.int c) (.int 2)=.ok (.int (c / 2)):=dI (by decide) (by decide);obtain⟨m,sp,q,hm,hq,q0,hsp,g1,g2,g3,g4⟩:∃(m:Nat) (sp q:Int),2+c%2=m/\(∀f,aH (.lst f [.int 8,.int 2]) (.int ((m:Int)-2))=.ok (.int q))/\0<q/\(m:Int)+c / 2%q=sp/\2<=m/\m<=sp/\sp<=9/\(m<=3/\sp ^ m<=256):=by
   have:c%2=0\/c%2=1:=by omega
   rcases this with e|e
   .exact⟨2,2+c / 2%8,8,by omega,λf=>d8 (k:=0) rfl rfl rfl,by decide,rfl,by decide,by omega,by omega,by decide,Int.le_trans (oz () (show 2+c / 2%8<=9 by omega) 2) (by decide)⟩
   .exact⟨3,3+c / 2%2,2,by omega,λf=>d8 (k:=1) rfl rfl rfl,by decide,rfl,by decide,by omega,by omega,by decide,Int.le_trans (oz () (show 3+c / 2%2<=4 by omega) 3) (by decide)⟩
  have key:∀(n:Nat) (s:Int),2<=n->n<=s->n<=4->s<=9->s ^ n<=256->gd (bt (eX (ae (je 9 Bf (ae (ac 4) (ae (ac 5) am))) (ae (ac 4) (ae (ac 5) am)))) [some (.lst fl (iL ns)),some (.int c),some (.int (0:Nat)),some (.bl b),some (.int n),some (.int s)]) (λv=>Rz (z%7<3) v/\v.has Fl.Jv=false/\v.Jw=true):=λn s n2 ns n4 s9 big=>by have pi:=wv (size:=n) (span:=s) () () ns;obtain⟨M,mo,X⟩:=AN (n:=n) n2 () ns;exact cV (a6 (v:=.tup [h_ .own n s,.int n,.int s]) (by simp[pi,aw,PV.has]) (by simp[PV.Jw,PV.has])) ⟨⟨_,h_ .bor n s,n,s,_,_,_,M,mo,rfl,⟨by simp[PV.has],by simp[PV.Jw,PV.has],by simp[Fl.Jp,Fl.Jq],tz () () ()⟩,X,n4,by omega,big,λ_=>rfl⟩,by simp[PV.has],by simp[PV.Jw,PV.has]⟩
  suffices ok:gd (_:Out) _ from let⟨v,h1,h2⟩:=ok;⟨v,dN (g_ (by simp) h1),h2⟩
  refine aS (ar (v:=.int m) (by simp[bD,hm])) ?_;simp only[s0_,s1_];refine aS (ar (v:=.int sp) (by simp[d2,hq,bD q0,hsp])) ?_;simp only[s0_,s1_];cases b with
  |false=>exact aS (bL (by simp) az) (key m sp g1 g2 () g3 g4.2)
  |true=>exact aS (g_ (by simp) (ah (ar (v:=.int (4:Nat)) (by simp)) (ar (v:=.int 4) (by simp)))) (key 4 4 (by decide) (by decide) (by decide) (by decide) (by decide))
 .have key:∀n:Nat,1<=n->n<=4->gd (bt (eX (ae (je 2 Bg (ae (ap (aB jX) (ae (ac 0) (ae (ac 4) am))) am)) (ae (ac 4) (ae (ac 4) am)))) [some (.lst fl (iL ns)),some (.int c),some (.int (1:Nat)),some (.bl b),some (.int n),none]) (λv=>Rz (z%7<3) v/\v.has Fl.Jv=false/\v.Jw=true):=λn n1 n4=>by obtain⟨ps,hp,N⟩:=lh (n:=n) ns h n1 n4;have pi:=uU (n:=n) (ps:=ps);obtain⟨M,mo,X⟩:=w4 n1 () N.rg λi=>N.hl i;exact cV (a6 (v:=.tup [pnt .own n ps,.int n,.int n]) (by simp[h.Jp,h.Jq,hp,pi,aw,PV.has]) (by simp[PV.Jw,PV.has])) ⟨⟨_,pnt .bor n ps,n,n,_,_,_,M,mo,rfl,⟨by simp[PV.has],by simp[PV.Jw,PV.has],by simp[Fl.Jp,Fl.Jq],pT n1 () N.rg λi=>N.hl i⟩,X,n4,by omega,CS () () n4,λ_=>rfl⟩,by simp[PV.has],by simp[PV.Jw,PV.has]⟩
  refine aS (bL (by simp) az) ?_
  suffices ok:gd (_:Out) _ from let⟨v,h1,h2⟩:=ok;⟨v,dN (g_ (by simp) h1),h2⟩
  refine aS (ar (v:=.int n) (by simp[m3,hn])) ?_;simp only[s0_,s1_];cases b with
  |false=>exact aS (bL (by simp) az) (key n () ())
  |true=>exact aS (g_ (by simp) (ar (v:=.int (4:Nat)) (by simp))) (key 4 (by decide) (by decide))
 .obtain⟨qs,hqs⟩:∃qs,((range (n-1)).map λk:Nat=>cell ns (2+k)%((k:Int)+1))=qs:=⟨_,rfl⟩
  have ql:qs.length+1=n:=by rw[<- hqs];simp;omega
  have T:Tree qs:=λi hi=>by subst hqs;simp only[List.getElem_map,List.getElem_range];have:=emod_nonneg (cell ns (2+i)) (show(i:Int)+1≠0 by omega);have:=emod_lt_of_pos (cell ns (2+i)) (show(0:Int) <(i:Int)+1 by omega);omega
  have hc:aM [0] 1 (bY (ae (mOp fB (ac 4) (JA 1)) am)) (tgN 1) bp (mOp cI (ap (aB dE) (ae (ac 0) (ae (mOp aL (JA 2) (ac 1)) am))) (mOp aL (ac 1) (JA 1))) [some (.lst fl (iL ns)),some (.int c),some (.int (2:Nat)),some (.bl b),some (.int n),none]=.ok (.lst .own (iL qs)):=by
   rw[<- hqs];refine aP (xs:=dv 0 (n-1)) ?_ (by rw[bC];omega) (kI 0 (λk:Nat=>cell ns (2+k)%((k:Int)+1)) (n-1) λk hk=>⟨[some (.lst fl (iL ns)),some (.int (0+k))],by simp[tgN,aT,bN,PV.Js,h.Js],?_⟩)
   .have:=bR (env:=[some (.lst fl (iL ns)),some (.int c),some (.int (2:Nat)),some (.bl b),some (.int n),none]) (ms:=ae (mOp fB (ac 4) (JA 1)) am) (n:=n-1) (by simp;omega) ();exact this
   .have ck:dE [.lst fl (iL ns),.int (2+(k:Int))]=.ok (.int (cell ns (2+k))):=by have:=cl (2+k);simpa using this
    simp[h.Jp,h.Jq,ck,aw,bD (show(0:Int) <(k:Int)+1 by omega)]
  have pi:=yM (f:=.own) T () (.inl rfl);obtain⟨M,mo,X⟩:=w5 T ();refine aS (bL (by simp) az) (aS (bL (by simp) az) ?_);refine⟨.tup [cnt .own qs,.int (qs.length+1:Nat),.int ((qs.length:Int)+2)],dN (g_ (by simp) (ah (ar (v:=.int n) (by simp[m3,hn])) (a6 ?_ (by simp[PV.Jw,PV.has])))),⟨_,cnt .bor qs,qs.length+1,_,_,_,_,M,mo,rfl,⟨by simp[PV.has],by simp[PV.Jw,PV.has],by simp[Fl.Jp,Fl.Jq],pU ()⟩,X,by omega,by omega,CS () () (),λ_=>rfl⟩,by simp[PV.has],by simp[PV.Jw,PV.has]⟩;simp only[s0_,s1_,Er,Es,eS,f_,hc];subst ql;simp[pi,aw,PV.has];omega
 .obtain⟨v,h1,h2,h3,h4⟩:=vX (ns:=ns) (c:=c) h hk3.1 hk3.2;refine aS (bL (by simp;omega) az) (aS (bL (by simp;omega) az) (aS (bL (by simp;omega) az) ?_));refine cV (a6 (v:=v) (by simp[h.Jp,h.Jq,h1,aw,h3]) h4) ⟨?_,h3,h4⟩;obtain⟨O,o,m,sp,al,ip,D,M,mo,e,K,X,e1,e2,e3,_⟩:=h2;exact⟨O,o,m,sp,al,ip,D,M,mo,e,K,X,e1,e2,e3,λq=>by omega⟩
end
end
section
theorem Bu(ns:Jf)(hi:Nat){h:Int}(hh:h=hi):ig (iL ns) none (some h)=iL (ns.take hi):=by
 have e:ig (iL ns) none (some h)=ig (iL ns) (some 0) (some h):=by unfold ig;rw[show(0:Int)=((0:Nat):Int)from rfl,HT.sIx_nat,HT.sIx_none];simp
 rw[e,Ew ns 0 hi (l:=0) rfl hh];simp
theorem GR{d:Nat->Option (Jn->Jo)}{o:PV}{cs:Jf}:gp d (.ok [.lst .lnt (iL cs)]) o=gp d (.ok [.lst .bor (iL cs)]) o:=by
 cases o with
 |obj f c ks vs=>
  unfold gp;dsimp only;cases d c with
  |none=>rfl
  |some m=>simp
 |_=>rfl
theorem law_true(fl:Fl)(ns:Jf)(h:Scr fl)(hl:ns.length<=63):B7 [.lst fl (ns.map .int)]=.ok (.bl true):=by
 rw[show ns.map PV.int=iL ns from rfl];obtain⟨v,hv,⟨O,o,n,sp,al,ip,D,M,mo,rfl,K,X,n4,s3,big,ha⟩,hb,hln⟩:=Ah (ns:=ns) h;have s0:=K.r.s0;have c0:dE [.lst fl (iL ns),.int 0]=.ok (.int (cell ns 0)):=lq ns 0 h;generalize cell ns 0=z at *;have d7:dB (.int z) (.int 7)=.ok (.int (z / 7)):=dI (by decide) (by decide);refine av ?_;show zK [some (.lst fl (iL ns)),none,none,none,none,none,none,none,none,none,none,none,none]=_;unfold zK;refine ah (E5 (v:=.tup [O,.int n,.int sp]) (e:=[some (.lst fl (iL ns)),some O,some (.int n),some (.int sp),none,none,none,none,none,none,none,none,none]) (by simp[h.Jp,h.Jq,hv,aw,hb]) hln rfl) ?_;obtain⟨many,hm,hmd⟩:∃many:Bool,i8 (mOp pLt (mOp cI (ap (aB dE) (ae (ac 0) (ae (JA 0) am))) (JA 7)) (JA 3)) (mOp pEq (mOp cI (mOp dB (ap (aB dE) (ae (ac 0) (ae (JA 0) am))) (JA 7)) (JA 2)) (JA 1)) [some (.lst fl (iL ns)),some O,some (.int n),some (.int sp),none,none,none,none,none,none,none,none,none]=.ok (.bl many)/\(many=true->al=false):=by
  by_cases q:z%7<3
  .exact⟨decide (z / 7%2=1),by simp[h.Jp,h.Jq,c0,aw,bD,d7,q,wG],λ_=>ha q⟩
  .exact⟨false,by simp[h.Jp,h.Jq,c0,aw,bD,q,wG],nofun⟩
 refine ah (ar (v:=.bl many) hm) ?_;simp only[s0_,s1_];refine ah (ar (v:=.int 1) (by simp)) ?_;simp only[s0_,s1_];have U:Ru o n sp al ip D many:=⟨K.r,s3,n4,big,hmd⟩
 obtain⟨R,hR,ok⟩:=A2 U X;have pp:0<sp ^ n:=Int.pow_pos s0;have mq:gp aG (.ok []) (O.Jx Fl.Jp)=.ok (.int mo):=(xq K.lb K.r.tb).trans X.mq;have rb:∀cs,Ce n sp cs->0<=rk sp R cs/\rk sp R cs<=mo:=λcs C=>by have:=X.bd cs C.len C.inn;rcases ok.ok cs C with⟨_,q⟩ |⟨_,_,q,q2,_⟩<;>omega
 have rkd:∀k:Nat,(k:Int)<sp ^ n->rk sp R (dgs sp k n)=gt R k:=λk hk=>by rw[rk,AL s0 () hk,toNat_natCast]
 refine cH (λk e=>∃x6,e=[some (.lst fl (iL ns)),some O,some (.int n),some (.int sp),some (.bl many),some (.int (sp ^ k)),x6,none,none,none,none,none,none]) (bR (n:=n) (by simp) ()) ⟨_,by rw[Int.pow_zero]⟩ (λk x e hx hP=>?_) (λe hP=>?_)
 .obtain⟨x6,rfl⟩:=hP;obtain⟨hk,rfl⟩:=cQ hx;have h1:=(oP (s:=sp) () (a:=k+1) (n-(k+1))).2;rw[show k+1+(n-(k+1))=n by omega]at h1;have mm:cy (.int (sp ^ k)) (.int sp)=.ok (.int (sp ^ (k+1))):=by rw[Int.pow_succ];exact cM (.inr ⟨by omega,by omega⟩)
  refine⟨_,cu rfl,?_⟩;simp only[s0_,s1_];exact a9 (ar (v:=.int (sp ^ (k+1))) (by simp[mm])) ⟨_,rfl⟩
 obtain⟨x6,rfl⟩:=hP;rw[bC];refine ah (ar (v:=.tup [.str "calm",.lst .frz (iL R)]) (by simp[K.lb,hR,aw])) ?_;simp only[s0_,s1_];have i0:aH (.tup [.str "calm",.lst .frz (iL R)]) (.int 0)=.ok (.str "calm"):=d8 (k:=0) rfl rfl (by simp);have i1:=l8 (.str "calm") (.lst .frz (iL R)) (by simp);have nc:pNe (.str "calm") (.str "calm")=.ok (.bl false):=AM rfl (by decide +kernel);refine ah (bL (by simp[k6,i0,i1,nc]) az) ?_;refine ah (ar (v:=.lst .frz (iL R)) (by simp[i1])) ?_;simp only[s0_,s1_];refine ah (bL (by simp[ok.len]) az) ?_;obtain⟨S,hS⟩:∃S:Nat,sp ^ n=(S:Int):=⟨(sp ^ n).toNat,by omega⟩
 have Rl:R.length=S:=by have:=ok.len;omega
 rw[hS];refine cH (λ_ e=>∃x9,e=[some (.lst fl (iL ns)),some O,some (.int n),some (.int sp),some (.bl many),some (.int S),x6,some (.tup [.str "calm",.lst .frz (iL R)]),some (.lst .frz (iL R)),x9,none,none,none]) (xs:=iL R) (dh (f:=.frz) (by simp) rfl (by simp) (by simp)) ⟨_,rfl⟩ (λk x e hx hP=>?_) (λe hP=>?_)
 .obtain⟨x9,rfl⟩:=hP;obtain⟨w,hw,rfl⟩:=gY hx;have kl:=(List.getElem?_eq_some_iff.mp hw).1;have e:=rkd k ();rw[show gt R k=w by simp[gt,hw]]at e;have:=rb _ (mJ (n:=n) s0 (k:Int));refine⟨_,cu rfl,?_⟩;simp only[s0_,s1_];exact a9 (bL (by simp[vM,mq,aw,show ¬w<0 by omega,show ¬mo<w by omega]) az) ⟨_,rfl⟩
 obtain⟨x9,rfl⟩:=hP;refine cH (λ_ e=>∃x10 x11,e=[some (.lst fl (iL ns)),some O,some (.int n),some (.int sp),some (.bl many),some (.int S),x6,some (.tup [.str "calm",.lst .frz (iL R)]),some (.lst .frz (iL R)),x9,x10,x11,none]) (bR (n:=S) (by simp) ()) ⟨_,_,rfl⟩ (λk x e hx hP=>?_) (λe hP=>?_)
 .obtain⟨x10,x11,rfl⟩:=hP;obtain⟨hk,rfl⟩:=cQ hx;have C:=mJ (n:=n) s0 (k:Int);have lc:=jS n4 s0 s3 (k:Int);have fa:=oO (fc:=.bor) (fr:=.frz) (.inl rfl) (.inr rfl) U X ok C;rw[rkd k ()]at fa;have gk:aH (.lst .frz (iL R)) (.int (k:Int))=.ok (.int (gt R k)):=by simpa using cX (f:=.frz) (cs:=R) (i:=k) () ()
  have bd:=(X.bd _ C.len C.inn).2;have me:gp aD (.ok [.lst .lnt (iL (dgs sp k n))]) (O.Jx Fl.Jp)=.ok (.int (M (dgs sp k n))):=by rw[xq K.lb K.r.tb,GR];exact X.ms.me .bor _ (.inl (.inl rfl)) C.len C.inn
  generalize dgs sp k n=cs at *;refine⟨_,cu rfl,?_⟩;simp only[s0_,s1_,Int.zero_add];refine bZ (ar (v:=.lst .own (iL cs)) (by simp[lc,aw])) ?_;simp only[s0_,s1_];refine bZ (bL (by simp[me,mq,show ¬mo<M cs by omega]) az) ?_;exact a9 (bL (by simp[K.lb,gk,fa,aw]) az) ⟨_,_,rfl⟩
 obtain⟨x10,x11,rfl⟩:=hP;refine cH (λ_ e=>∃x6 x12,e=[some (.lst fl (iL ns)),some O,some (.int n),some (.int sp),some (.bl many),some (.int S),x6,some (.tup [.str "calm",.lst .frz (iL R)]),some (.lst .frz (iL R)),x9,x10,x11,x12]) (xs:=enP 0 (iL (ns.take 5))) ?_ ⟨_,_,rfl⟩ (λk x e hx hP=>?_) (λe hP=>?_)
 .have e:ig (iL ns) none (some 5)=iL (ns.take 5):=Bu ns 5 rfl;unfold iG;simp only[iN,fq,jY,qD];simp[h.Jp,e,fk]
 .obtain⟨y6,x12,rfl⟩:=hP;rw[fY]at hx;obtain⟨y,hy,rfl⟩:=map_eq_some_iff.mp hx;obtain⟨w,hw,rfl⟩:=gY hy;have d3:dB (.int w) (.int 3)=.ok (.int (w / 3)):=dI (by decide) (by decide);have C:=mJ (n:=n) s0 (w / 3%(S:Int));have lc:=jS n4 s0 s3 (w / 3%(S:Int));have sl:=qm (fc:=.own) (fr:=.frz) (.inr rfl) (.inr rfl) U ok C;refine⟨[some (.lst fl (iL ns)),some O,some (.int n),some (.int sp),some (.bl many),some (.int S),some (.int (0+k)),some (.tup [.str "calm",.lst .frz (iL R)]),some (.lst .frz (iL R)),x9,x10,x11,some (.int w)],rfl,?_⟩;exact a9 (bL (by simp[K.lb,d3,bD (show(0:Int)<S by omega),lc,sl,aw]) az) ⟨_,_,rfl⟩
 .obtain⟨y6,x12,rfl⟩:=hP;exact a6 (by simp) (by simp)
end
section
theorem hb:zR pt.F:=⟨bn2,bn4,bn3,bn2,bn2,bn2,bn2,bn2,bn3,bn2,bn3,bn2,bn1,bn2,bn1,bn3,bn5,bn3,bn3,bn2,bn3,bn3,bn1,bn2,bn1,bn2,bn2,bn3,bn2,bn2,bn2,bn3,bn3,bn2,bn3,bn2,bn2,bn2,bn3,bn2,bn3,bn3,bn3,bn2,bn2,bn2,bn1,bn2,bn3,bn2,bn3,bn3,bn2,bn3,bn1,bn2,bn1,bn1,bn1,bn1,bn1,bn3,bn2,bn2,bn2,bn2,bn2,bn2,bn2,bn2,bn1,bn2,bn2,bn2,bn6,bn5,bn1,trivial⟩
theorem hd:zQ pe.D:=⟨bd3,bd2,bd4,trivial⟩
theorem hds:pe.D.all (λy=>scB y.1)=true:=by decide +kernel
theorem hs:pt.F.all scB=true:=by decide +kernel
theorem fin{l:PySem.W.OpenLaw}{w:World}{K:PySem.W.Frag}{mg:Jb}{fa:Addr}(t:Ty pt pe w K mg)(hfa:mg "law"=some (.ref fa)) :
  ∃fd:FuncData,(∀(s:Shared) (u:Value),BindsTo s fd ⟨[u],[]⟩ [("_law_script",u)])/\∀base:Heap,K.In base->base.Ns mainGlobals mg->da l.prog w K mg base (CXP l.prog w) 11 fa fd ["_law_script"] (s_ K):=by
 have e:=hfa.symm.trans (t.tx.gl 76 rfl);cases e;refine⟨dAt K (pt.fa K 76),λs u=>?_,λbase hB _=>DV (T:=T K) (DN t hB) law_true⟩;obtain⟨oc,od,kV,doc,pm,an,cdv,ct,osl,e,_⟩:=(t.tx.fn 76).ex;rw[e];exact .of_eq rfl
end
end G
namespace PySem.W.Fast
theorem t:True:=trivial
def tw14114379512815469361:=t
def tw1565362308102432125:=t
def tw9145751556686420173:=t
def tw1107811797250811028:=t
def tw9024855063964772427:=t
def tw9414386632218357525:=t
def tw11171728623154049412:=t
def tw7555396319919641489:=t
def tw9464558048482234948:=t
def tw751230483028369353:=t
def tw4347494777334923172:=t
def tw7967333674273759593:=t
def tw4699142558683342658:=t
def tw1214533199486391829:=t
def tw13712627964140784115:=t
def tw11687276255613821681:=t
def tw13522217861031985793:=t
def tw11898457009170069899:=t
def tw6228915766981670079:=t
def tw16317746987007501488:=t
def tw15642245317579781795:=t
def tw14741098146615320472:=t
def tw6117785401127997915:=t
def tw7304395746621168041:=t
def tw3310350239239506209:=t
def tw11285140657633839433:=t
def tw1326504026166031065:=t
def tw14240354171929692403:=t
def tw8900782392772634123:=t
def tw5831457541205986212:=t
def tw15909533790476210470:=t
def tw8999792333049819092:=t
def tw11736834939379436965:=t
def tw9697373941209369014:=t
def tw16168752669058044761:=t
def tw14247763455891046730:=t
def tw15762511369813481690:=t
def tw1458017976328771001:=t
def tw14691903636101494000:=t
def tw9161678095918611994:=t
def tw6927947263777109116:=t
def tw18288038307834725704:=t
def tw7598531412333627491:=t
def tw12097558919444595497:=t
def tw17265944545067060300:=t
def tw15804515728718770689:=t
def tw12918924571265263274:=t
def tw6301831118060495036:=t
def tw2049779815676311215:=t
def tw10382112835566751454:=t
def tw16253642767866544062:=t
def tw15661886023200339572:=t
def tw4834390390605441317:=t
def tw18434945722506072587:=t
def tw11613458262011658878:=t
def tw703439068169634111:=t
def tw12720858547265688568:=t
def tw7035597404465960227:=t
def tw4762065895454202250:=t
def tw14257118900643704878:=t
def tw15727406823741033030:=t
def tw17583720449521118840:=t
def tw1980883190904393306:=t
def tw7638396470878593036:=t
def tw5228076934225363585:=t
def tw14527864073374181510:=t
def tw5571194915855278038:=t
def tw10742802079977599067:=t
def tw1108185209883259145:=t
def tw11533201016563892443:=t
def tw2694076165988849869:=t
def tw8349556662797926447:=t
def tw7903181813150662132:=t
def tw13536181444327907603:=t
def tw17095096156863110998:=t
def tw4851324231467851197:=t
def tw643707586327446594:=t
def tw18301848461582429744:=t
def tw3763457675019810089:=t
def tw16329321242317909637:=t
def tw9363969696971899485:=t
def tw8223365132359182723:=t
def tw15988446167377701343:=t
def tw11109180332793014847:=t
def tw1689349267642044725:=t
def tw2853991065407691785:=t
def tw934562106642150817:=t
def tw16219369461612615004:=t
def tw16980134409731931663:=t
def tw7145176625959123066:=t
def tw8807503408364917299:=t
def tw16111405951704216968:=t
def tw3841837423416734164:=t
def tw6460651171703732986:=t
def tw10252836405440834155:=t
def tw5302625485791148593:=t
def tw5411982466892960187:=t
def tw14883496059942621062:=t
def tw3573965662372864491:=t
def tw3087559085784769769:=t
def tw6096257114967208473:=t
def tw3941505292070904345:=t
def tw1387200506397319191:=t
def tw842296946811531416:=t
def tw12019478815617677407:=t
def tw9289478482733376782:=t
def tw5460442034589859944:=t
def tw3999859034775698518:=t
def tw5605800279290296001:=t
def tw15857070723604240789:=t
def tw17405833401448352480:=t
def tw7227369461103581251:=t
def tw9065146055996601001:=t
def tw14389436716201989134:=t
def tw10078314821141054343:=t
def tw15239581115577107089:=t
def tw9432186374390460563:=t
def tw12509870266788454261:=t
def tw16897451636125448095:=t
def tw1797512859221113694:=t
def tw8661546686634159574:=t
def tw555517563364074592:=t
def tw15853141166746009344:=t
def tw236968366053857135:=t
def tw11491221488566764033:=t
def tw1434162268321438389:=t
def tw16423188099691994607:=t
def tw4713359153835393600:=t
def tw13664292443124643064:=t
def tw3419068750708665310:=t
def tw11551482931396962839:=t
def tw10739844543914332924:=t
def tw12807526820581107072:=t
def tw10022277711454481410:=t
def tw8749775666123518910:=t
def tw7547500154102621021:=t
def tw11174132349554455937:=t
def tw13482014974768131184:=t
def tw1725339797499819504:=t
def tw10622663458805971796:=t
def tw4884396662612836628:=t
def tw5522195018033323245:=t
def tw12771553465325439995:=t
def tw15311450030877202911:=t
def tw2488750042030148364:=t
def tw18052015159608365716:=t
def tw6045107239422718725:=t
def tw13946739294665602796:=t
def tw1784352472114819324:=t
def tw11208119300867647854:=t
def tw3929924174881447637:=t
def tw17399313523874360762:=t
def tw6192460562998332223:=t
def tw5895384748912217830:=t
def tw3335243122906675806:=t
def tw6429849137642854421:=t
def tw2969817607464453995:=t
def tw9044094055220019805:=t
def tw8353948264566571025:=t
def tw4490108123996514253:=t
def tw12222467728211917301:=t
def tw3640305647925733264:=t
def tw13597629918742391278:=t
def tw11056126104979720360:=t
def tw15770077453720133302:=t
def tw4196113930230956373:=t
def tw3361481567627305729:=t
def tw6787231748329769612:=t
def tw11961610881317484380:=t
def tw14206594024968566162:=t
def tw8667176751643230563:=t
def tw13403536969274990068:=t
def tw8901826391233363049:=t
def tw11980848409762445719:=t
def tw14009702106240292699:=t
def tw16690410495337534549:=t
def tw901885468132138018:=t
def tw161507223695773860:=t
def tw8039596696214901019:=t
def tw10527583086487958029:=t
def tw8037673976566569544:=t
def tw17869396927424596224:=t
def tw13521984506620365519:=t
def tw2243041245998872682:=t
def tw1030973123106582095:=t
def tw3768153481839455147:=t
def tw8992637210221533490:=t
def tw721828400078903321:=t
def tw17768279893018778993:=t
def tw10631043729578824801:=t
def tw11730429481653187852:=t
def tw203534073286992521:=t
def tw13878383036885865768:=t
def tw12690102768788857525:=t
def tw3540054139490118256:=t
def tw10700869145706500531:=t
def tw12124902864922224609:=t
def tw2872274131775498121:=t
def tw2725892240024413428:=t
def tw1255841132949457669:=t
def tw9930051303662949868:=t
def tw12542783063297761625:=t
def tw9852819119271880570:=t
def tw1947885892060184096:=t
def tw13362833552621007090:=t
def tw14284661916806079477:=t
def tw4344457242506865312:=t
def tw14919172301566637321:=t
def tw4122381272154011252:=t
def tw17483450819760169388:=t
def tw12575350767351826924:=t
def tw2832868808939658185:=t
def tw10170736165420407934:=t
def tw12580138706167942363:=t
def tw14557428088385811895:=t
def tw8423274411194971032:=t
def tw5560478895049810832:=t
def tw9282195133449513101:=t
def tw2613114146957774414:=t
def tw17729857240780915668:=t
def tw8404644299105825044:=t
def tw11595334774745306835:=t
def tw8108955901481808030:=t
def tw273371862046512611:=t
def tw973569981583775847:=t
def tw9444878510235431940:=t
def tw18091963312253501520:=t
def tw9580417702827756973:=t
def tw3063905221057366083:=t
def tw16804387751246917136:=t
def tw7365884482907263801:=t
def tw5457351324193780198:=t
def tw11434125895762184887:=t
def tw3399226469244621393:=t
def tw948508237135330185:=t
def tw16251179623377995143:=t
def tw12512397253902826136:=t
def tw12180450006058297121:=t
def tw12309024774326842824:=t
def tw15784821042033336355:=t
def tw7953615485527201226:=t
def tw12822306298364960371:=t
def tw18386075927691905522:=t
def tw5345793757821365725:=t
def tw10505543648116140740:=t
def tw1009472329249632881:=t
def tw913261679372201271:=t
def tw1459118089498201340:=t
def tw2622495101771972522:=t
def tw2944147624792943211:=t
def tw12794860261562065436:=t
def tw13772082454953776726:=t
def tw15088975671681176832:=t
def tw15812994533302450159:=t
def tw15855808548034405276:=t
def tw6968500703010436169:=t
def tw3903221357573770350:=t
def tw14211505454342866210:=t
def tw3436279403701193632:=t
def tw1062768904769808110:=t
def tw3777411117807773577:=t
def tw17560609833062658498:=t
def tw13654306965168809671:=t
def tw11856072184128678192:=t
def tw3090222312377419556:=t
def tw16688503119203230831:=t
def tw8608407821029190457:=t
def tw17649964516691448550:=t
def tw8423689115536645801:=t
def tw16039868154662480754:=t
def tw418315650569098888:=t
def tw17193232822526685581:=t
def tw302789364747209250:=t
def tw6680141247665589821:=t
def tw2426952104802691959:=t
def tw777531869628582709:=t
def tw1529734570333803528:=t
def tw11554461810496731714:=t
def tw3908494003533661869:=t
def tw11280679200906303138:=t
def tw8204583760481702633:=t
def tw18244276544035502795:=t
def tw8268692547681886709:=t
def tw2364168192842830778:=t
def tw8101363367141022010:=t
def tw7054007940602436605:=t
def tw18337260576095821713:=t
def tw6352566867684395856:=t
def tw13444264039479470922:=t
def tw6481759981869244673:=t
def tw9634275693260980368:=t
def tw11415218915408427426:=t
def tw4543703238594324695:=t
def tw14841897452003926615:=t
def tw10572753767283457294:=t
def tw12106593259637392230:=t
def tw3173740735738560628:=t
def tw5643063105308130510:=t
def tw11026127004951730427:=t
def tw12227933147937088762:=t
def tw1152854938364593460:=t
def tw2599822013685313705:=t
def tw12869881551351221018:=t
def tw16703562866871959712:=t
def tw14519997852243904615:=t
def tw2464729163867814472:=t
def tw6652498685113293820:=t
def tw16766122205067177848:=t
def tw15960828175426994975:=t
def tw5203725831210037680:=t
def tw16919239166671701384:=t
def tw246252871866221110:=t
def tw17388636271850060036:=t
def tw15826977778093685028:=t
def tw10089689766316961427:=t
def tw12742411145851269880:=t
def tw9942420483039256654:=t
def tw11079052554214503065:=t
def tw7021795543988706248:=t
def tw1241074060250994434:=t
def tw10996263121891435567:=t
def tw3886987022389651695:=t
def tw5040252620786508090:=t
def tw16826917885143013247:=t
def tw16810911450250103059:=t
def tw7208940147659504332:=t
def tw12931549400050294126:=t
def tw9291836960922127236:=t
def tw2063034353254697857:=t
def tw7917720162130392397:=t
def tw396460780013582686:=t
def tw13899178034657902830:=t
def tw11015013195824376621:=t
def tw10902814816040121390:=t
def tw14759690356403710207:=t
def tw17907516034028546286:=t
def tw2388401721469408407:=t
def tw8004347653397004208:=t
def tw13858958206165682857:=t
def tw8701783916590825702:=t
def tw13451251789056854522:=t
def tw9441868810716103449:=t
def tw8726551800577018372:=t
def tw4676144329801310162:=t
def tw9363607392055158396:=t
def tw9506823106590906253:=t
def tw13661548281515378348:=t
def tw6573848539946697809:=t
def tw12350575381769689838:=t
def tw1410834926615979443:=t
def tw11375004323660276988:=t
def tw5165803777496842142:=t
def tw4606785561921000524:=t
def tw13918340639516781037:=t
def tw8713688152342832528:=t
def tw6990528239233906093:=t
def tw11980602700088707282:=t
def tw27362237534371785:=t
def tw4397553885106928053:=t
def tw12404100045359766550:=t
def tw12823349171655720592:=t
def tw3610910784115029360:=t
def tw12929206375681542871:=t
def tw1712435071461200031:=t
def tw1690924857970021806:=t
def tw14875197915495743164:=t
def tw868290132444796345:=t
def tw14849957990714014611:=t
def tw936246748339630713:=t
def tw8420556536572351263:=t
def tw12107612475251935395:=t
def tw10082192104189399269:=t
def tw8449936718495556538:=t
def tw15310513427170429609:=t
def tw11580142414320608420:=t
def tw1636134830376714848:=t
def tw14611753818068354964:=t
def tw8200449395792471253:=t
def tw9797224628006883262:=t
def tw4914427007567430963:=t
def tw11959494520705852514:=t
def tw11754731635683126848:=t
def tw1192009298083731897:=t
def tw10280133746067583865:=t
def tw5400352094857203521:=t
def tw16945465459984003118:=t
def tw6789261371602909425:=t
def tw9636623805255641445:=t
def tw12161432251450756113:=t
def tw18203355209027895448:=t
def tw14089537341074851766:=t
def tw3585883194398502944:=t
def tw8653713937761168886:=t
def tw11942381739453693398:=t
def tw7359234660712983690:=t
def tw9470760843028231029:=t
def tw17851904284009554453:=t
def tw10164696343312051138:=t
def tw2408798910221705792:=t
def tw5042890009298774281:=t
def tw3805428346109954802:=t
def tw8981237081356390016:=t
def tw16422078648643018281:=t
def tw14989875839207233618:=t
def tw8043938885998574123:=t
def tw4973467426250689351:=t
def tw7825422324773454728:=t
def tw5348995920978736431:=t
def tw8139235723061439857:=t
def tw8992654918993632576:=t
def tw14618619179012941312:=t
def tw890116505718207460:=t
def tw12911417969581148230:=t
def tw12780676718197614893:=t
def tw7581403493802940632:=t
def tw3290889979134222228:=t
def tw15866530777424455689:=t
def tw4751145775990438779:=t
def tw12611119931502044329:=t
def tw9312609321357705577:=t
def tw10809395779056517711:=t
def tw183924116995618655:=t
def tw5100844006626205318:=t
def tw6637219603625610767:=t
def tw11997093144212051696:=t
def tw17150521223354718587:=t
def tw4642081090832062897:=t
def tw1856688825902075014:=t
def tw8648186892277270022:=t
def tw12876953165104049184:=t
def tw12143015756335228191:=t
def tw6552679417759062129:=t
def tw12179056876199301061:=t
def tw4701404191136401909:=t
def tw6968612527791320644:=t
def tw1399231444606030935:=t
def tw10879262825842427289:=t
def tw6771149582664188918:=t
def tw16025527874260450386:=t
def tw6134754750004648022:=t
def tw2789530326594889875:=t
def tw7303332466048157957:=t
def tw1748622263326711292:=t
def tw8186216620676877245:=t
def tw7023595971687607104:=t
def tw15693570556847079000:=t
def tw3795924116023776160:=t
def tw1886616701834660042:=t
def tw13138935654852706852:=t
def tw3565080116549904057:=t
def tw16066898797874867243:=t
def tw5240434351142710337:=t
def tw9316274567845046081:=t
def tw10826453862443462586:=t
def tw15459434338561003038:=t
def tw12664850947345417050:=t
def tw18403356430073568690:=t
def tw6644063673503122923:=t
def tw3985975412094814744:=t
def tw16693669644315636116:=t
def tw15835554693359839661:=t
def tw13727054274622326641:=t
def tw539593312289023758:=t
def tw3337491161955962528:=t
def tw4341913683718869697:=t
def tw10753094960901415079:=t
def tw11874017585306994905:=t
def tw9277533806572952366:=t
def tw16442135450926662892:=t
def tw1137836772072549725:=t
def tw2590268908442173998:=t
def tw3123314385918345792:=t
def tw16156834214508466015:=t
def tw5530551766520876659:=t
def tw14083287621411436247:=t
def tw11816946302748565928:=t
def tw4037732107238846502:=t
def tw8226162993760023937:=t
def tw15172522552624683659:=t
def tw15182609463235985767:=t
def tw14033102352249321080:=t
def tw2286907452286028633:=t
def tw1986728876435766390:=t
def tw16620095154166110194:=t
def tw9256831673563619492:=t
def tw513819833755824943:=t
def tw1827915875739809696:=t
def tw11642825644057857025:=t
def tw13425033580922715060:=t
def tw4334215126866082949:=t
def tw3380459947448597239:=t
def tw11987502997913114498:=t
def tw8061143191996163648:=t
def tw14031135106816820672:=t
def tw4736456896674358377:=t
def tw17789283610883304631:=t
def tw12727722519337807094:=t
def tw5539550624834292213:=t
def tw6432534417276267361:=t
def tw13851199577344735145:=t
def tw17777584050162906629:=t
def tw4591017661462271764:=t
def tw348862402304569820:=t
def tw17120066819776167533:=t
def tw14751125475690397141:=t
def tw8921322362140904428:=t
def tw6692876768873995542:=t
def tw13756158148719720432:=t
def tw12137239163587283871:=t
def tw14808706403971012059:=t
def tw16075667475481119524:=t
def tw6356636058217221699:=t
def tw13121730366536800813:=t
def tw14722839507407710667:=t
def tw3348960927529953498:=t
def tw17512688735972367146:=t
def tw10325545989144733436:=t
def tw2537281473993742687:=t
def tw13218562946409860436:=t
def tw2396500679840713307:=t
def tw14183954667824381174:=t
def tw348785541450860121:=t
def tw16594563222978756937:=t
def tw15721585879808241162:=t
def tw10030052964444220600:=t
def tw7047304851823656788:=t
def tw2570407040752737090:=t
def tw6319908918278775803:=t
def tw12414300538799496073:=t
def tw5290739069707607822:=t
def tw10476592187706812475:=t
def tw12643448567728073792:=t
def tw13682211501759126202:=t
def tw8038303858942841114:=t
def tw14473033229519457475:=t
def tw2221012553827953239:=t
def tw16217964304207887996:=t
def tw7716288650745852406:=t
def tw4187013839566433355:=t
def tw7793011477857544723:=t
def tw3117120463621338750:=t
def tw7336469897036619207:=t
def tw9494191627229398895:=t
def tw14336558773957910737:=t
def tw15010834386463727540:=t
def tw5250263772032887654:=t
def tw15778650991472419597:=t
def tw3370606685539115717:=t
def tw14226556942867976311:=t
def tw16949639714589991375:=t
def tw13115932035430079528:=t
end PySem.W.Fast
end
open PySem PySem.W PyProof.Rows
set_option maxRecDepth 100000 in
set_option maxHeartbeats 0 in
theorem PySem.Challenge.cw_calmring_k35_look_of_told_rules_holds : PySem.Challenge.rw_calmring_k35_look_of_told_rules.Holds := by
 w_on;o_law;k_head;(case hw=>w_witness2)
 k_fill
 refine PR.xE (l:=PySem.Challenge.rw_calmring_k35_look_of_told_rules) (k:=11) (x := "_law_script") rfl rfl ⟨rfl,by decide,by decide⟩ (fun w h Y=>PySem.W.kIn_of Y) ?F
 case F =>
  intro w mg fa h KX G hmg
  refine' _root_.G.fin (_root_.PR.Ty.of KX G (_root_.PR.Tx.of KX G _root_.G.hb _root_.G.hs ?a ?b ?c ?d ?e ?f ?g) _root_.G.hd _root_.G.hds ?h ?i ?j ?k ?l) hmg
  (case a=>exact fun z=>nomatch z)
  (case b=>exact fun z=>nomatch z)
  (case c=>exact fun z=>nomatch z)
  (case d=>kernel_rfl)
  (case e=>kernel_rfl)
  (case f=>kernel_rfl)
  (case g=>kernel_rfl)
  (case h=>kernel_rfl)
  (case i=>kernel_rfl)
  (case j=>kernel_rfl)
  (case k=>kernel_rfl)
  (case l=>kernel_rfl)
