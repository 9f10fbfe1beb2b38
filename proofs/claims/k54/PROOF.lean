import PyProof.Rows.All
import Wide.All
import OpenK.AllK
import Wide.FinOn
import Lean
import PyProof.EqAt
import PyProof.EqKinds
import PyProof.TupleCall
import PySem.Challenge.RW_calmring_k54_whole_from_text_to_rest
abbrev NR:=PySem.Value->PySem.Shared->Prop
abbrev NS:=PySem.Str->Option PySem.Value
abbrev NT:=List (Int×Int)
abbrev NU:=List (PySem.Addr×PySem.Obj)
abbrev NV:=PySem.Addr->Prop
abbrev NW:=List Int
abbrev NY:=List PySem.Value
abbrev NZ:=List PySem.Addr
abbrev N0:=List PySem.Str
abbrev N1:=Option Int
abbrev N2:=Array PySem.Value
open List(range mem_filter mem_range mem_cons_self mem_cons_of_mem mem_cons mem_append mem_append_left getElem_inj getElem?_set_self getElem?_set_ne mem_append_right length_cons map_cons length_map append_nil nodup_cons replicate getElem?_append_right getElem?_replicate getElem?_append_left getElem?_map length_append zip_cons_cons length_nil length_drop size_toArray length_set Pairwise find?_cons any_cons nodup_nil nodup_append sublist_nil Sublist all_cons drop_eq_getElem_cons drop_length pairwise_cons mem_map append_assoc all_eq_true getD_eq_getElem?_getD getElem_of_mem getElem?_eq_getElem getElem_mem nodup_range ext_getElem take_add_one getElem?_cons_succ map_map Nodup map_append mem_map_of_mem take_of_length_le mem_singleton getElem?_cons_zero length_filter_le sum_cons filter_cons filter_congr)
open PySem.W(instObj methodObj hideAll_get lookIn plainGet hasDictIn handedIn plainGet_of plainOver takerIn makesIn emptyDict callWith_K kitOne kia_one mroIn clsIn excIn specialIn readsIn findCls exmOne mg_of)
open PySem.Heap(lt_size SameBut get?_push_of_some get?_push_size size_push get?_update_other ExtBut)
open Nat(zero_le le_succ toDigits)
open Bool(or_eq_false_iff and_eq_true eq_false_iff or_eq_true)
open Option(isSome_iff_exists map_eq_some_iff)
open Int(emod_nonneg emod_lt_of_pos emod_eq_of_lt)
open Array(all_toList)
open PyProof.Rows(firstMet kmk_tree step_dedup)
set_option Elab.async false
set_option linter.all false
set_option maxRecDepth 100000
abbrev Fwe(v:PySem.Env)(c:PySem.Pos)(l:List PySem.Expr):Prop:=((PySem.backTo c (PySem.starEach l v)).all (fun x=>!x.1)&&(PySem.backToKw c (PySem.keywordEach [] v)).all (fun x=>x.1.isSome)&&decide (l.length+([]:List PySem.Keyword).length+(if([]:List PySem.Keyword).isEmpty then 0 else 1)<30))=true
abbrev Ndq(x:PySem.Str):Prop:=(x ==("__debug__":PySem.Str))=false
abbrev Ncq(x:PySem.Str):Prop:=(x ==("__classdict__":PySem.Str))=false
abbrev Lce(f:PySem.Str->Bool)(v:PySem.Env)(x:PySem.Str):Prop:=f x=true\/v.scope.names.lookup x=some .local
noncomputable section
set_option genSizeOf false
set_option compiler.extract_closed false
set_option bootstrap.genMatcherCode false
section
local macro_rules|`(())=>`(by first|decide|lia|(simp;done))
set_option hygiene false in
local macro_rules|`(tactic|walk_at "a")=>`(tactic|(refine tE.bq S λx v H1 F1 f1 e1 g1 r1 n1 d1 w1=>?_;rw[e1]at q))
set_option hygiene false in
local macro_rules|`(tactic|walk_at "b")=>`(tactic|(obtain⟨Z,F,env,fp,S,q⟩:=hz1))
set_option hygiene false in
local macro_rules|`(tactic|walk_at "c")=>`(tactic|(have hl:its.toArray.size=ns.length:=by have:=r.length;simpa using this.symm))
set_option hygiene false in
local macro_rules|`(tactic|walk_at "d")=>`(tactic|(refine codeAny_builtin (lpE _).1 ?_;rw[Around.under_plainId (lpE _).2 _];refine(show wpAny _ A.in1 (seqItems? (.ref best) >>= _) _ _ sh from wpAny_bind (wpAny_seqItems ob rfl ?_))))
namespace L2
open PySem PySem.Spec PyProof.Rows
section
abbrev Key:=Sum Int Str
def pL:Key->Value->Bool
 |.inl k,v=>Value.isInt k v
 |.inr x,v=>Value.isStrOf x v
noncomputable def M3(w:World):Key->Int
 |.inl k=>hashInt k
 |.inr x=>hashStr w x
def cv:∀{k:Key}{v:Value},pL k v=true->(∃i t,k=Sum.inl i/\v=Value.int i t)\/(∃x t,k=Sum.inr x/\v=Value.str x t)
 |.inl i,v,h=>by obtain⟨t,e⟩:=Value.isInt_shape h;exact .inl ⟨i,t,rfl,e⟩
 |.inr x,v,h=>by obtain⟨t,e⟩:=Value.isStrOf_shape h;exact .inr ⟨x,t,rfl,e⟩
def ym(i:Int)(t:Tok):pL (.inl i) (.int i t)=true:=by simp[pL,Value.isInt]
def yk(x:Str)(t:Tok):pL (.inr x) (.str x t)=true:=by simp[pL,Value.isStrOf]
theorem Ib(a b:Int):decide ((Sum.inl a:Key)=Sum.inl b)=(a==b):=by lia
def HZ(a b:Str):decide ((Sum.inr a:Key)=Sum.inr b)=decide (a=b):=by
 by_cases e:a=b
 .subst e;simp
 .have h:¬(Sum.inr a:Key)=Sum.inr b:=λq=>e (Sum.inr.inj q);rw[decide_eq_false h,decide_eq_false e]
def Ia(a:Int)(b:Str):decide ((Sum.inl a:Key)=Sum.inr b)=false:=decide_eq_false (λq=>nomatch q)
def H_(a:Str)(b:Int):decide ((Sum.inr a:Key)=Sum.inl b)=false:=decide_eq_false (λq=>nomatch q)
def eD(prog:Program)(w:World):PySem.KeyKind prog w Key where
 is:=pL
 hash:=M3 w
 inj:=λv a b ha hb=>by
  rcases cv ha with⟨i,t,rfl,rfl⟩ |⟨x,t,rfl,rfl⟩
  .rcases cv hb with⟨j,u,rfl,e⟩ |⟨y,u,rfl,e⟩
   .injection e with e1 _;rw[e1]
   .exact nomatch e
  .rcases cv hb with⟨j,u,rfl,e⟩ |⟨y,u,rfl,e⟩
   .exact nomatch e
   .injection e with e1 _;rw[e1]
 byValue:=λk v h=>by rcases cv h with⟨i,t,rfl,rfl⟩ |⟨x,t,rfl,rfl⟩<;>rfl
 pyHash:=λhv h=>by
  rcases cv hv with⟨i,t,rfl,rfl⟩ |⟨x,t,rfl,rfl⟩
  .exact wpAny_pyHash_int h
  .exact wpAny_pyHash_str h
 eqBool:=λhu hv h=>by
  rcases cv hu with⟨i,t,rfl,rfl⟩ |⟨x,t,rfl,rfl⟩
  .rcases cv hv with⟨j,u,rfl,rfl⟩ |⟨y,u,rfl,rfl⟩
   .rw[Ib]at h;exact wpAny_eqBool_int h
   .rw[Ia]at h;exact SeqAt.EqAt.int_str i t y u _ _ _ _ h
  .rcases cv hv with⟨j,u,rfl,rfl⟩ |⟨y,u,rfl,rfl⟩
   .rw[H_]at h;exact SeqAt.EqAt.str_int x t j u _ _ _ _ h
   .rw[HZ]at h;exact wpAny_eqBool_str h
 «strs»:=λk x t v h=>by
  rcases cv h with⟨i,u,rfl,e⟩ |⟨y,u,rfl,e⟩
  .exact nomatch e
  .injection e with e1 _;subst e1;cases v<;>rfl
def sO(prog:Program)(w:World)(i:Int)(t:Tok):(eD prog w).is (.inl i) (.int i t)=true:=ym i t
def sN(prog:Program)(w:World)(x:Str)(t:Tok):(eD prog w).is (.inr x) (.str x t)=true:=yk x t
end
section
inductive V where
 |non|bl (b:Bool)|int (i:Int)|str (x:Str)|byt (b:Array UInt8)|flt (b:UInt64)|ref (a:Addr)|ty (n:String)
 deriving DecidableEq
abbrev N3:=List V
def bB:V->Value->Prop
 |.non,u=>u=Value.none
 |.bl b,u=>u=Value.bool b
 |.int i,u=>∃t,u=Value.int i t
 |.str x,u=>∃t,u=Value.str x t
 |.byt b,u=>∃t,u=Value.bytes b t
 |.flt b,u=>∃t,u=Value.float b t
 |.ref a,u=>u=Value.ref a
 |.ty n,u=>u=Value.type n
abbrev aU:N3->NY->Prop:=Paired bB
def aU.length{xs:N3}{us:NY}(r:aU xs us):xs.length=us.length:=Paired.length r
def aU.get:∀{xs:N3}{us:NY}{i:Nat}{x:V},aU xs us->xs[i]?=some x->∃u,us[i]?=some u/\bB x u
 |_,_,_,_,.nil,e=>by simp at e
 |_,_,0,_,.cons r _,e=>by simp at e;subst e;exact⟨_,rfl,r⟩
 |_,_,i+1,x,.cons _ t,e=>by obtain⟨u,h1,h2⟩:=aU.get t (by simpa using e);exact⟨u,by simpa using h1,h2⟩
def aU.set{x:V}{u:Value}(r:bB x u):∀{xs:N3}{us:NY} (i:Nat),aU xs us->aU (xs.set i x) (us.set i u)
 |_,_,_,.nil=>.nil
 |_,_,0,.cons _ t=>.cons r t
 |_,_,i+1,.cons q t=>.cons q (aU.set r i t)
def aU.append{xs ys:N3}{us ws:NY}(h:aU xs us)(s:aU ys ws):aU (xs++ys) (us++ws):=by
 induction h with
 |nil=>exact s
 |cons r t k=>exact .cons r k
def aU.take:∀{xs:N3}{us:NY} (n:Nat),aU xs us->aU (xs.take n) (us.take n)
 |_,_,0,_|_,_,_+1,.nil=>.nil
 |_,_,n+1,.cons r t=>.cons r (aU.take n t)
def aU.drop:∀{xs:N3}{us:NY} (n:Nat),aU xs us->aU (xs.drop n) (us.drop n)
 |_,_,0,r=>r
 |_,_,_+1,.nil=>.nil
 |_,_,n+1,.cons _ t=>aU.drop n t
def mK:Option V->Option Value->Prop
 |some v,some u=>bB v u
 |none,none=>True
 |_,_=>False
def KV{κ:Type}:List (κ×V)->List (κ×Value)->Prop:=Paired λ(p:κ×V) (q:κ×Value)=>p.1=q.1/\bB p.2 q.2
def kV:Key->V
 |.inl i=>.int i
 |.inr x=>.str x
inductive HO where
 |lst (xs:N3)
 |tup (xs:N3)
 |dK (kvs:List (Key×V))|dT (kvs:List (List Key×V))
 |set(S:Int->Bool) (n:Nat)
 |ins (C dx:Addr) (fs:List (Str×V))
 |own (x:Addr)
 |xd (fs:List (Str×V))
 |met (f x:Addr)
 |rng (lo hi:Int)
 |frz (o:Obj) (u:HO)
 |tbl (ps:N2)
 |ext (φ:Heap->Prop)
abbrev Hp:=Addr->Option HO
abbrev N4:=Hp->Prop
noncomputable def upd(H:Hp)(a:Addr)(o:HO):Hp:=λb=>if b=a then some o else H b
def bp{H:Hp}{a:Addr}{o:HO}:upd H a o a=some o:=by unfold upd;rw[if_pos rfl]
def aJ{H:Hp}{a b:Addr}{o:HO}(h:b≠a):upd H a o b=H b:=by unfold upd;rw[if_neg h]
def Cf{H:Hp}{a:Addr}{o u:HO}:upd (upd H a o) a u=upd H a u:=by funext b;unfold upd;split<;>rfl
theorem b6{H:Hp}{a b:Addr}{o:HO}(h:H a=some o)(h':H b=none):a≠b:=by lia
section
variable(P:Program)(w:World)
def Kp:HO->Prop
 |.tup _|.frz _ _=>True
 |_=>False
def Tab(H:Hp)(ps qs:N2):Prop:=qs=#[]\/ ∃l c q t0 c' oc u vs t,ps=#[l,c,.str q t0]/\qs=#[l,c,.ref c']/\H c'=some (.frz oc u)/\oc.data=.fields vs/\vs[1]?=some (.str q t)
def b_(H:Hp)(h:Heap)(a:Addr):HO->Prop
 |.lst xs=>xs.length<=sizeLine/\∃(its:NY) (n:Nat),aU xs its/\h.get? a=some {cls:=.type "list",data:=.seq its.toArray n}
 |.tup xs=>xs.length<=sizeLine/\∃its:NY,aU xs its/\IsTup h a its.toArray
 |.dK kvs=>kvs.length<=sizeLine/\(a==sysModules)=false/\∃vs,KV kvs vs/\h.DictOf (eD P w) a vs
 |.dT kvs=>kvs.length<=sizeLine/\(a==sysModules)=false/\∃xs:List (List Key×Addr×Value),
   Paired (λ(p:List Key×V) (q:List Key×Addr×Value)=>p.1=q.1/\H q.2.1=some (.tup (p.1.map kV))/\bB p.2 q.2.2) kvs xs /\
   ∃o es ep,h.get? a=some o/\o.ExactDict/\o.data=.dict es ep/\es.toList=xs.map (entryOfKey (tupleKind (eD P w)))/\(xs.map (·.1)).Nodup
 |.set S n=>h.SetOf (intKind P w) a S n
 |.ins C dx fs=>H dx=some (.own a)/\fs.length<=1000/\dx≠a/\h.get? a=some (instObj C dx)/\
   ∃mA,h.Ns1 dx mA/\(∀f,mK (fs.lookup f) (mA f))/\PySem.Within mA (fs.map (·.1))
 |.own _=>∃o,h.get? a=some o
 |.xd fs=>∃mA,h.Ns1 a mA/\∀f,mK (fs.lookup f) (mA f)
 |.rng lo hi=>∃t u v,h.get? a=some {cls:=.type "range",data:=.fields #[.int lo t,.int hi u,.int 1 v]}
 |.frz o u=>h.get? a=some o/\b_ H h a u
 |.tbl ps=>∃qs,h.get? a=some {cls:=.none,data:=.fields qs}/\Tab H ps qs
 |.met f x=>h.get? a=some (methodObj (.ref f) (.ref x))
 |.ext φ=>φ h/\(∃o,h.get? a=some o)/\∀h1 h2:Heap,φ h1->(∀o,h1.get? a=some o->h2.get? a=some o)->φ h2
def HOk(H:Hp)(h:Heap):Prop:=∀a o,H a=some o->b_ P w H h a o
end
section
variable{P:Program}{w:World}{H H':Hp}{h h':Heap}{a:Addr}{o:HO}
def b_.lt(x:b_ P w H h a o):a<h.objs.size:=by
 cases o with
 |lst xs=>obtain⟨_,_,_,_,e⟩:=x;exact lt_size e
 |tup xs=>obtain⟨_,_,_,p⟩:=x;exact p.lt
 |dK kvs|dT kvs=>obtain⟨_,_,_,_,o,_,_,e,_⟩:=x;exact lt_size e
 |set S n=>obtain⟨o,_,_,_,e,_⟩:=x;exact lt_size e
 |ins C dx fs=>obtain⟨_,_,_,e,_⟩:=x;exact lt_size e
 |own y=>obtain⟨_,e⟩:=x;exact lt_size e
 |xd fs=>obtain⟨_,⟨_,_,_,e,_⟩,_⟩:=x;exact lt_size e
 |rng lo hi=>obtain⟨_,_,_,e⟩:=x;exact lt_size e
 |frz ob u=>obtain⟨e,_⟩:=x;exact lt_size e
 |tbl ps=>obtain⟨_,e,_⟩:=x;exact lt_size e
 |met f y=>exact lt_size (show h.get? a=some _ from x)
 |ext φ=>obtain⟨_,⟨_,e⟩,_⟩:=x;exact lt_size e
def Paired.mapP{α β:Type}{F G:α->β->Prop}{l₁:List α}{l₂:List β}(h:Paired F l₁ l₂)(f:∀a b,F a b->G a b):Paired G l₁ l₂:=by
 induction h with
 |nil=>exact .nil
 |cons r t k=>exact .cons (f _ _ r) k
def b_.stay(x:b_ P w H h a o)(k:∀b u,(b=a\/H b=some (.own a))->h.get? b=some u->h'.get? b=some u)
  (ho:∀b,H b=some (.own a)->H' b=some (.own a)) (ht:∀b u,Kp u->H b=some u->H' b=some u):b_ P w H' h' a o:=by
 induction o with
 |lst xs=>obtain⟨z,its,n,r,e⟩:=x;exact⟨z,its,n,r,k _ _ (.inl rfl) e⟩
 |tup xs=>obtain⟨z,its,r,ob,e,c⟩:=x;exact⟨z,its,r,ob,k _ _ (.inl rfl) e,c⟩
 |dK kvs=>obtain⟨z,y,vs,r,ob,es,ep,e,c⟩:=x;exact⟨z,y,vs,r,ob,es,ep,k _ _ (.inl rfl) e,c⟩
 |dT kvs=>obtain⟨z,y,xs,r,ob,es,ep,e,c⟩:=x;exact⟨z,y,xs,Paired.mapP r λp q z=>⟨z.1,ht _ _ True.intro z.2.1,z.2.2⟩,ob,es,ep,k _ _ (.inl rfl) e,c⟩
 |set S n=>obtain⟨ob,es,ep,t,e,c⟩:=x;exact⟨ob,es,ep,t,k _ _ (.inl rfl) e,c⟩
 |ins C dx fs=>obtain⟨d,z,ne,e,mA,⟨od,es,ep,e2,c⟩,r⟩:=x;exact⟨ho _ d,z,ne,k _ _ (.inl rfl) e,mA,⟨od,es,ep,k _ _ (.inr d) e2,c⟩,r⟩
 |own y=>obtain⟨ob,e⟩:=x;exact⟨ob,k _ _ (.inl rfl) e⟩
 |xd fs=>obtain⟨mA,⟨od,es,ep,e,c⟩,r⟩:=x;exact⟨mA,⟨od,es,ep,k _ _ (.inl rfl) e,c⟩,r⟩
 |rng lo hi=>obtain⟨t,u,v,e⟩:=x;exact⟨t,u,v,k _ _ (.inl rfl) e⟩
 |frz ob u ih=>obtain⟨e,q⟩:=x;exact⟨k _ _ (.inl rfl) e,ih q⟩
 |tbl ps=>obtain⟨qs,e,c⟩:=x;exact⟨qs,k a _ (.inl rfl) e,c.imp (λz=>z) λz=>by obtain⟨l,c,q,t0,c',oc,u,vs,t,e1,e2,e3,r⟩:=z;exact⟨l,c,q,t0,c',oc,u,vs,t,e1,e2,ht _ _ True.intro e3,r⟩⟩
 |met f y=>have e:h.get? a=some (methodObj (.ref f) (.ref y)):=x;show h'.get? a=some (methodObj (.ref f) (.ref y));exact k a _ (.inl rfl) e
 |ext φ=>obtain⟨p,⟨o,e⟩,st⟩:=x;exact⟨st _ _ p λo q=>k _ _ (.inl rfl) q,⟨o,k _ _ (.inl rfl) e⟩,st⟩
def HOk.lt(x:HOk P w H h)(e:H a=some o):a<h.objs.size:=(x a o e).lt
def HOk.fresh(x:HOk P w H h)(e:h.objs.size<=a):H a=none:=by
 cases q:H a with
 |none=>rfl
 |some u=>exact absurd (Nat.lt_of_lt_of_le (x.lt q) e) (Nat.lt_irrefl _)
def HOk.kept(x:HOk P w H h)(k:∀b u,h.get? b=some u->h'.get? b=some u):HOk P w H h':=λa o e=>
 (x a o e).stay (λb u _ q=>k b u q) (λ_ q=>q) λ_ _ _ q=>q
def HOk.laid(x:HOk P w H h)(k:∀b u,h.get? b=some u->h'.get? b=some u)(hp:h.objs.size<=a)(new:b_ P w (upd H a o) h' a o):HOk P w (upd H a o) h':=λb u e=>by
 have hn:=x.fresh hp;by_cases hb:b=a
 .subst hb;rw[bp]at e;cases e;exact new
 .rw[aJ hb]at e;exact(x b u e).stay (λc v _ q=>k c v q) (λc q=>by rw[aJ (b6 q hn)];exact q) λc xs _ q=>by rw[aJ (b6 q hn)];exact q
end
def Rd(H:Hp)(a:Addr)(u:HO):Prop:=H a=some u\/∃o,H a=some (.frz o u)
def Rd.ok{P:Program}{w:World}{H:Hp}{h:Heap}{a:Addr}{u:HO}(r:Rd H a u)(x:HOk P w H h):b_ P w H h a u:=by
 rcases r with r |⟨o,r⟩
 .exact x a u r
 .obtain⟨_,q⟩:=x a _ r;exact q
def Mut:Option HO->Prop
 |some (.lst _)|some (.dK _)|some (.dT _)|some (.set _ _)|some (.ins _ _ _)|some (.ext _)=>True
 |_=>False
section
variable{P:Program}{w:World}{H:Hp}{h h':Heap}{x e:Addr}{o':HO}
theorem HOk.write(ok:HOk P w H h)(mu:Mut (H x))(he:e=x\/H e=some (.own x))(k:∀b u,b≠e->h.get? b=some u->h'.get? b=some u)(heo:∃u,h'.get? e=some u)
  (new:b_ P w (upd H x o') h' x o'):HOk P w (upd H x o') h':=λb u q=>by
 have nown:∀c y,H c=some (.own y)->c≠x:=λc y r z=>by subst z;rw[r]at mu;exact mu
 have ntup:∀c u,Kp u->H c=some u->c≠x:=λc u h r z=>by subst z;rw[r]at mu;cases u<;>first|exact h|exact mu
 by_cases hb:b=x
 .subst hb;rw[bp]at q;cases q;exact new
 .rw[aJ hb]at q;by_cases hbe:b=e
  .have q':H b=some (.own x):=by
    rcases he with z|z
    .lia
    .rw[hbe];exact z
   rw[q]at q';cases q';obtain⟨v,hv⟩:=heo;exact⟨v,by lia⟩
  .refine(ok b u q).stay (λc v hc r=>k c v ?_ r) (λc r=>by rw[aJ (nown c b r)];exact r) λc xs h r=>by rw[aJ (ntup c xs h r)];exact r
   rcases hc with rfl|hc
   .exact hbe
   .rintro rfl;rcases he with z|z
    .exact nown c b hc z
    .lia
end
structure Un(fs ex:NZ)(H H':Hp)(h h':Heap):Prop where
 keep:∀b o,h.get? b=some o->H b=none->b∉fs->b∉ex->h'.get? b=some o
 slot:∀b o,h.get? b=some o->H b=none->b∈fs->b∉ex->∃sl,h'.get? b=some {o with slots:=sl}
 free:∀b o,h.get? b=some o->H b=none->b∉ex->H' b=none
 there:∀b o,h.get? b=some o->b∉ex->∃o',h'.get? b=some o'
 tups:∀b xs,H b=some (.tup xs)->H' b=some (.tup xs)
 frzs:∀b o u,H b=some (.frz o u)->H' b=some (.frz o u)
 tbls:∀b ps,H b=some (.tbl ps)->∃more,H' b=some (.tbl (ps++more))
section
variable{fs fs' ex ex':NZ}{H H1 H2:Hp}{h h1 h2 h':Heap}{a x e:Addr}{o:HO}
def Un.any(u:Un fs ex H H1 h h1){b:Addr}{ob:Obj}(q:h.get? b=some ob)(n:H b=none)(hx:b∉ex):∃sl,h1.get? b=some {ob with slots:=sl}:=by
 by_cases hb:b∈fs
 .exact u.slot b ob q n hb hx
 .exact⟨ob.slots,u.keep b ob q n hb hx⟩
def Un.trans(a:Un fs ex H H1 h h1)(b:Un fs ex H1 H2 h1 h2):Un fs ex H H2 h h2 where
 keep:=λc ob q n hc hx=>b.keep c ob (a.keep c ob q n hc hx) (a.free c ob q n hx) hc hx
 slot:=λc ob q n hc hx=>by obtain⟨sl,e1⟩:=a.slot c ob q n hc hx;obtain⟨sl',e2⟩:=b.slot c _ e1 (a.free c ob q n hx) hc hx;exact⟨sl',e2⟩
 free:=λc ob q n hx=>by obtain⟨o',e1⟩:=a.there c ob q hx;exact b.free c o' e1 (a.free c ob q n hx) hx
 there:=λc ob q hx=>by obtain⟨o',e1⟩:=a.there c ob q hx;exact b.there c o' e1 hx
 tups:=λc xs q=>b.tups c xs (a.tups c xs q)
 frzs:=λc ob xs q=>b.frzs c ob xs (a.frzs c ob xs q)
 tbls:=λc ps q=>by obtain⟨m1,e1⟩:=a.tbls c ps q;obtain⟨m2,e2⟩:=b.tbls c _ e1;exact⟨m1++m2,by rw[e2,Array.append_assoc]⟩
def Un.kept(k:∀b u,h.get? b=some u->h'.get? b=some u):Un fs ex H H h h':=
 ⟨λb ob q _ _ _=>k b ob q,λb ob q _ _ _=>⟨ob.slots,k b ob q⟩,λ_ _ _ n _=>n,λb ob q _=>⟨ob,k b ob q⟩,λ_ _ q=>q,λ_ _ _ q=>q,λ_ ps q=>⟨#[],by rw[q];simp⟩⟩
def Un.refl:Un fs ex H H h h:=Un.kept λ_ _ q=>q
def Un.laid(k:∀b u,h.get? b=some u->h'.get? b=some u)(hp:h.objs.size<=a)(hn:H a=none):Un fs ex H (upd H a o) h h' where
 keep:=λb u q _ _ _=>k b u q
 slot:=λb u q _ _ _=>⟨u.slots,k b u q⟩
 free:=λb u q n _=>by rw[aJ (Nat.ne_of_lt (Nat.lt_of_lt_of_le (lt_size q) hp))];exact n
 there:=λb u q _=>⟨u,k b u q⟩
 tups:=λb xs q=>by rw[aJ (b6 q hn)];exact q
 frzs:=λb u xs q=>by rw[aJ (b6 q hn)];exact q
 tbls:=λb ps q=>⟨#[],by rw[aJ (b6 q hn),q];simp⟩
theorem Un.write(mu:Mut (H x))(he:e=x\/H e=some (.own x))(k:∀b u,b≠e->h.get? b=some u->h'.get? b=some u)(heo:∃u,h'.get? e=some u):Un fs ex H (upd H x o) h h':=by
 have hx:∀b,H b=none->b≠x:=λb n z=>by subst z;rw[n]at mu;exact mu
 have hb:∀b,H b=none->b≠e:=λb n z=>by lia
 have hm:∀b u,H b=some u->¬Mut (some u)->b≠x:=λb u q nm z=>by lia
 refine ⟨λb u q n _ _=>k b u (hb b n) q,λb u q n _ _=>⟨u.slots,k b u (hb b n) q⟩,λb u q n _=>by rw [aJ (hx b n)];exact n,λb u q _=>?_,
  λb xs q=>by rw[aJ (hm b _ q λz=>z)];exact q,λb u xs q=>by rw[aJ (hm b _ q λz=>z)];exact q,λb ps q=>⟨#[],by rw[aJ (hm b _ q λz=>z),q];simp⟩⟩
 by_cases hbe:b=e
 .subst hbe;exact heo
 .exact⟨u,k b u hbe q⟩
def Un.mono(u:Un fs ex H H1 h h1)(hs:∀b∈fs,b∈fs')(hx:∀b∈ex,b∈ex'):Un fs' ex' H H1 h h1:=
 ⟨λb ob q n hb he=>u.keep b ob q n (λz=>hb (hs b z)) λz=>he (hx b z),λ_ _ q n _ he=>u.any q n λz=>he (hx _ z),λb ob q n he=>u.free b ob q n λz=>he (hx b z),λb ob q he=>u.there b ob q λz=>he (hx b z),u.tups,u.frzs,u.tbls⟩
end
noncomputable def trk(h:Heap)(H:Hp):NZ:=(range h.objs.size).filter λa=>(H a).isSome
def qF(h:Heap)(H:Hp):Heap:=PySem.W.hideAll h (trk h H)
def yr(h:Heap)(H:Hp):(qF h H).objs.size=h.objs.size:=PySem.W.hideAll_size _ _
def A4{h:Heap}{H:Hp}{b:Addr}{o:Obj}(e:h.get? b=some o)(n:H b=none):(qF h H).get? b=some o:=
 hideAll_get _ e λhm=>by have q:(H b).isSome=true:=(mem_filter.mp hm).2;rw[n]at q;simp at q
def Dq{h:Heap}{H:Hp}{b:Addr}{o:Obj}(e:(qF h H).get? b=some o):h.get? b=some o/\H b=none:=by
 have e':h.get? b=some o:=PySem.W.of_hideAll (trk h H) e;refine⟨e',?_⟩;cases q:H b with
 |none=>rfl
 |some x=>have hm:b∈trk h H:=mem_filter.mpr ⟨mem_range.mpr (lt_size e'),by simp[q]⟩;have z:(qF h H).get? b=none:=PySem.W.hideAll_none (trk h H) hm;rw[z]at e;cases e
noncomputable def Eu(g h:Heap)(L:Addr):NU:=(range h.objs.size).filterMap λa=>if a=L \/(g.get? a).isSome=true then none else(h.get? a).map λo=>(a,o)
def bF(g h:Heap)(L d:Addr):NU:=(Eu g h L).filter λp=>decide (p.1≠d)
end
section
structure Mod(K:PySem.W.Frag)(mg:NS)(base:Heap):Prop where
 kin:K.In base
 glob:base.Ns mainGlobals mg
 blt:∃mb,base.Ns builtinsNs mb/\∀x:Str,x≠"__name__" -> mb x=bootBuiltins x
 nolimit:base.NoLimit
structure Cx where
 prog:Program
 w:World
 K:PySem.W.Frag
 mg:NS
 base:Heap
 A:Around
 N:N0
 s₀:Shared
 H₀:Hp
 env:Env
 outer:List Env
 stack:List Env
 ex:NZ
 fn:Str->Bool
 calm:Bool
 pn:NU
 xe:NR
def frs(l:List Env):NZ:=l.filterMap (·.frame)
abbrev Cx.fs(X:Cx):NZ:=frs X.outer
def Vis(sc:Scope)(x:Str):Prop:=sc.names.lookup x=some .local\/sc.names.lookup x=some .cell\/sc.names.lookup x=some .free
def Loc(sc:Scope)(x:Str):Prop:=sc.names.lookup x=some .local\/sc.names.lookup x=some .cell
def Ny(env:Env)(h:Heap)(m:NS)(x:Str)(u:Value):Prop:=
 (env.kindOf x=some .local/\m x=some u)\/((env.kindOf x=some .cell\/env.kindOf x=some .free)/\∃c,env.cells.lookup x=some c/\h.IsCell c (some u))
structure Cx.Ok(X:Cx):Prop where
 mod:Mod X.K X.mg X.base
 kind:X.env.scope.kind=.function
 glob:X.env.globals=mainGlobals
 blt:X.env.builtins=builtinsNs
 above:X.s₀.heap.objs.size<=X.env.locals
 inj:∀x y c,X.env.cells.lookup x=some c->X.env.cells.lookup y=some c->x=y
 has:∀x,(X.env.kindOf x=some .cell\/X.env.kindOf x=some .free)->∃c,X.env.cells.lookup x=some c
 cab:∀x c,X.fn x=true->X.env.cells.lookup x=some c->X.s₀.heap.objs.size<=c
 hd:X.calm=true->X.A.handled=none
 frames:X.A.frames=some X.stack
 stk:X.stack=X.outer \/(X.stack=X.env::X.outer/\X.env.frame=some X.env.locals)
 exf:∀b∈X.ex,b≠X.env.locals/\∀x c,X.env.cells.lookup x=some c->c≠b
 bs:∀b o,X.base.get? b=some o->X.s₀.heap.get? b=some o/\X.H₀ b=none
 bsz:X.base.objs.size<=X.s₀.heap.objs.size
 noex:∀b o,X.base.get? b=some o->b∉X.ex
 exfs:∀b∈X.ex,b∉X.fs
 funs:X.s₀.heap.FunFrames X.base X.outer
 frf:∀b∈X.fs,X.H₀ b=none
structure Inv(X:Cx)(NP:NU)(Y:List (Option V))(H:Hp)(s:Shared):Prop where
 ok:X.Ok
 os:s.os=X.s₀.os
 bare:AllBare s.gens
 base:Un X.fs X.ex X.H₀ H X.s₀.heap s.heap
 loc:∃m,s.heap.Ns X.env.locals m/\∀(i:Nat) (x:Str) (v:V),X.N[i]?=some x->Y[i]?=some (some v)->Vis X.env.scope x->∃u,bB v u/\Ny X.env s.heap m x u
 cell:∀x c,X.env.cells.lookup x=some c->∃v,s.heap.IsCell c v
 free:H X.env.locals=none
 freeC:∀x c,X.env.cells.lookup x=some c->H c=none\/X.fn x=false/\∃o u,H c=some (.frz o u)
 pin:∀p∈X.pn++NP,s.heap.get? p.1=some p.2/\H p.1=none/\p.1≠X.env.locals/\p.1∉X.fs/\∀v,p.2.data≠.cell v
 hok:HOk X.prog X.w H s.heap
 len:Y.length=X.N.length
section
variable{X:Cx}{NP:NU}{Y:List (Option V)}{H H':Hp}{s:Shared}{h':Heap}
def Cx.Ok.nofr(ok:X.Ok){b:Addr}{o:Obj}(e:X.base.get? b=some o):b∉X.fs:=λhb=>by have:=(ok.funs.mem hb).1;rw[e]at this;cases this
def Inv.bs(I:Inv X NP Y H s):∀b o,X.base.get? b=some o->s.heap.get? b=some o/\H b=none:=λb o e=>
 ⟨I.base.keep b o (I.ok.bs b o e).1 (I.ok.bs b o e).2 (I.ok.nofr e) (I.ok.noex b o e),I.base.free b o (I.ok.bs b o e).1 (I.ok.bs b o e).2 (I.ok.noex b o e)⟩
def Inv.bk(I:Inv X NP Y H s):∀b o,X.base.get? b=some o->s.heap.get? b=some o:=λb o e=>(I.bs b o e).1
def Inv.mod(I:Inv X NP Y H s):Mod X.K X.mg X.base:=I.ok.mod
def Inv.kIn(I:Inv X NP Y H s):X.K.In s.heap:=I.ok.mod.kin.keeps I.bk
def Inv.lt(I:Inv X NP Y H s):X.env.locals<s.heap.objs.size:=let⟨_,hn,_⟩:=I.loc;hn.lt
def Inv.sz(I:Inv X NP Y H s):X.s₀.heap.objs.size<=s.heap.objs.size:=Nat.le_trans I.ok.above (Nat.le_of_lt I.lt)
def Inv.nofs(I:Inv X NP Y H s){a:Addr}(h:s.heap.objs.size<=a):a∉X.fs:=λhb=>by obtain⟨_,o,ho,_⟩:=I.ok.funs.mem hb;exact absurd (Nat.lt_of_lt_of_le (lt_size ho) (Nat.le_trans I.sz h)) (Nat.lt_irrefl _)
def Inv.cne(I:Inv X NP Y H s):∀x c,X.env.cells.lookup x=some c->c≠X.env.locals:=λx c e z=>by obtain⟨v,o,ho,hd⟩:=I.cell x c e;obtain⟨m,⟨o',es,ep,ho',hd',_⟩,_⟩:=I.loc;rw[z,ho']at ho;cases ho;rw[hd']at hd;cases hd
def Inv.funs(I:Inv X NP Y H s):s.heap.FunFrames X.base X.outer:=by
 have all:∀(l:List Env),(∀b∈frs l,b∈X.fs)->X.s₀.heap.FunFrames X.base l->s.heap.FunFrames X.base l:=by
  intro l
  induction l with
  |nil=>intro _ _;trivial
  |cons env r ih=>intro hs hl;obtain⟨hk,⟨L,o,hf,hn,ho,hd⟩,hr⟩:=hl;have hL:L∈X.fs:=hs L (by unfold frs;rw[List.filterMap_cons,hf];exact mem_cons_self);obtain⟨sl,e⟩:=I.base.slot L o ho (I.ok.frf L hL) hL λz=>I.ok.exfs L z hL;exact⟨hk,⟨L,_,hf,hn,e,hd⟩,ih (λb hb=>hs b (by unfold frs;rw[List.filterMap_cons,hf];exact mem_cons_of_mem _ hb)) hr⟩
 exact all X.outer (λ_ hb=>hb) I.ok.funs
def Inv.stack(I:Inv X NP Y H s):s.heap.FunFrames X.base X.stack:=by
 rcases I.ok.stk with e |⟨e,hf⟩
 .rw[e];exact I.funs
 .rw[e];obtain⟨m,hn,_⟩:=I.loc;refine .cons (by rw[I.ok.kind];decide) hf hn ?_ I.funs;exact Heap.get?_none_of_le (Nat.le_trans I.ok.bsz I.ok.above)
def Inv.stkSub(I:Inv X NP Y H s):∀b∈frs X.stack,b∈X.env.locals::X.fs:=λb hb=>by
 rcases I.ok.stk with e |⟨e,hf⟩
 .rw[e]at hb;exact mem_cons_of_mem _ hb
 .rw[e]at hb;unfold frs at hb;rw[List.filterMap_cons,hf]at hb;exact hb
def Inv.stkFree(I:Inv X NP Y H s):∀b∈frs X.stack,H b=none:=λb hb=>by
 rcases mem_cons.mp (I.stkSub b hb)with e|hb
 .rw[e];exact I.free
 .obtain⟨_,o,ho,_⟩:=I.ok.funs.mem hb;exact I.base.free b o ho (I.ok.frf b hb) λz=>I.ok.exfs b z hb
def Inv.step{g':Array GenState}{t':Nat}{d':Drawn}{ch:NZ}(I:Inv X NP Y H s)
  (hch:∀b∈ch,(b∈X.ex\/X.s₀.heap.objs.size<=b)/\b≠X.env.locals/\(∀x c,X.env.cells.lookup x=some c->c≠b)/\∀p∈X.pn++NP,p.1≠b)
  (keep:∀b o,b≠X.env.locals->b∉X.fs->b∉ch->s.heap.get? b=some o->H b=none->h'.get? b=some o)
  (slot:∀b o,b≠X.env.locals->b∈X.fs->b∉ch->s.heap.get? b=some o->H b=none->∃sl,h'.get? b=some {o with slots:=sl}) (free:∀b o,b∉ch->s.heap.get? b=some o->H b=none->H' b=none)
  (there:∀b o,b∉ch->s.heap.get? b=some o->∃o',h'.get? b=some o')
  (tups:∀b xs,H b=some (.tup xs)->H' b=some (.tup xs)) (frzs:∀b o u,H b=some (.frz o u)->H' b=some (.frz o u)) (tbls:∀b ps,H b=some (.tbl ps)->∃more,H' b=some (.tbl (ps++more)))
  (ns:∀m,s.heap.Ns X.env.locals m->h'.Ns X.env.locals m) (hok:HOk X.prog X.w H' h') (hg:AllBare g') :
  Inv X NP Y H' {s with heap:=h',gens:=g',drawn:=d',toks:=t'}:=by
 have neL:∀b o,X.s₀.heap.get? b=some o->b≠X.env.locals:=λb o e=>Nat.ne_of_lt (Nat.lt_of_lt_of_le (lt_size e) I.ok.above);have neC:∀b o,X.s₀.heap.get? b=some o->b∉X.ex->b∉ch:=λb o e hx hb=>by
  rcases(hch b hb).1 with z|z
  .exact hx z
  .exact absurd (Nat.lt_of_lt_of_le (lt_size e) z) (Nat.lt_irrefl _)
 have cellK:∀x c,X.env.cells.lookup x=some c->∀v,s.heap.IsCell c v->h'.IsCell c v:=λx c e v hz1=>by
  obtain⟨o,ho,hd⟩:=hz1;have nch:c∉ch:=λz=>(hch c z).2.2.1 x c e rfl;rcases I.freeC x c e with n |⟨_,o',u,q⟩
  .by_cases hc:c∈X.fs
   .obtain⟨sl,q⟩:=slot c o (I.cne x c e) hc nch ho n;exact⟨_,q,hd⟩
   .exact⟨o,keep c o (I.cne x c e) hc nch ho n,hd⟩
  .obtain⟨q1,_⟩:=I.hok c _ q;obtain⟨q2,_⟩:=hok c _ (frzs c o' u q);rw[ho]at q1;cases q1;exact⟨o,q2,hd⟩
 refine⟨I.ok,I.os,hg,⟨λb o e n hb hx=>?_,λb o e n hb hx=>?_,λb o e n hx=>?_,λb o e hx=>?_,λb xs e=>tups b xs (I.base.tups b xs e),λb o xs e=>frzs b o xs (I.base.frzs b o xs e),λb ps e=>?_⟩,?_,λx c e=>?_,?_,λx c e=>?_,λp hp=>?_,hok,I.len⟩
 .exact keep b o (neL b o e) hb (neC b o e hx) (I.base.keep b o e n hb hx) (I.base.free b o e n hx)
 .obtain⟨sl,e1⟩:=I.base.slot b o e n hb hx;obtain⟨sl',e2⟩:=slot b _ (neL b o e) hb (neC b o e hx) e1 (I.base.free b o e n hx);exact⟨sl',e2⟩
 .obtain⟨o',e1⟩:=I.base.there b o e hx;exact free b o' (neC b o e hx) e1 (I.base.free b o e n hx)
 .obtain⟨o',e1⟩:=I.base.there b o e hx;exact there b o' (neC b o e hx) e1
 .obtain⟨m1,e1⟩:=I.base.tbls b ps e;obtain⟨m2,e2⟩:=tbls b _ e1;exact⟨m1++m2,by simp_all⟩
 .obtain⟨m,hn,hl⟩:=I.loc;refine⟨m,ns m hn,λi x v e1 e2 e3=>?_⟩;obtain⟨u,r,l⟩:=hl i x v e1 e2 e3;refine⟨u,r,?_⟩;rcases l with l |⟨k,c,e,z⟩
  .exact .inl l
  .exact .inr ⟨k,c,e,cellK x c e _ z⟩
 .obtain⟨v,z⟩:=I.cell x c e;exact⟨v,cellK x c e v z⟩
 .obtain⟨m,⟨o,_,_,ho,_⟩,_⟩:=I.loc;exact free _ o (λz=>(hch _ z).2.1 rfl) ho I.free
 .obtain⟨v,o,ho,hd⟩:=I.cell x c e;rcases I.freeC x c e with n |⟨n,o',u,q⟩
  .exact .inl (free c o (λz=>(hch c z).2.2.1 x c e rfl) ho n)
  .exact .inr ⟨n,o',u,frzs c o' u q⟩
 .obtain⟨e,n,ne,nf,d⟩:=I.pin p hp;have nch:p.1∉ch:=λz=>(hch p.1 z).2.2.2 p hp rfl;exact⟨keep p.1 p.2 ne nf nch e n,free p.1 p.2 nch e n,ne,nf,d⟩
theorem Inv.un{t':Nat}(I:Inv X NP Y H s)(u:Un X.fs [] H H' s.heap h')(hok:HOk X.prog X.w H' h'):Inv X NP Y H' {s with heap:=h',toks:=t'}:=by
 obtain⟨m,⟨o,es,ep,ho,r⟩,_⟩:=id I.loc;obtain⟨sl,hL⟩:=u.any ho I.free ();exact I.step (g':=s.gens) (d':=s.drawn) (ch:=[]) (λ_ z=>nomatch z) (λb o _ hb _ e n=>u.keep b o e n hb ()) (λb o _ hb _ e n=>u.slot b o e n hb ()) (λb o _ e n=>u.free b o e n ()) (λb o _ e=>u.there b o e ()) u.tups u.frzs u.tbls (λm' hm=>by
  obtain⟨o',es',ep',ho',r'⟩:=hm;rw[ho]at ho';cases ho';exact⟨_,es',ep',hL,r'⟩) hok I.bare
def Inv.call{g':Array GenState}{t':Nat}{d':Drawn}{ch:NZ}(I:Inv X NP Y H s)(u:Un (frs X.stack) ch H H' s.heap h')(hok:HOk X.prog X.w H' h')(hg:AllBare g')
  (hch:∀b∈ch,(b∈X.ex\/X.s₀.heap.objs.size<=b)/\b≠X.env.locals/\(∀x c,X.env.cells.lookup x=some c->c≠b)/\∀p∈X.pn++NP,p.1≠b) :
  Inv X NP Y H' {s with heap:=h',gens:=g',drawn:=d',toks:=t'}:=by
 obtain⟨m,⟨o,es,ep,ho,r⟩,_⟩:=id I.loc;obtain⟨sl,hL⟩:=u.any ho I.free λz=>(hch _ z).2.1 rfl;exact I.step (ch:=ch) hch (λb o hL hb hc e n=>u.keep b o e n (λz=>(mem_cons.mp (I.stkSub b z)).elim hL hb) hc) (λb o _ _ hc e n=>u.any e n hc) (λb o hc e n=>u.free b o e n hc) (λb o hc e=>u.there b o e hc) u.tups u.frzs u.tbls (λm' hm=>by
  obtain⟨o',es',ep',ho',r'⟩:=hm;rw[ho]at ho';cases ho';exact⟨_,es',ep',hL,r'⟩) hok hg
theorem Inv.turned{t':Nat}{it:Addr}(I:Inv X NP Y H s)(k:∀b o,b≠it->s.heap.get? b=some o->h'.get? b=some o)(hn:H it=none)(hL:it≠X.env.locals)
  (h1:it∈X.ex\/X.s₀.heap.objs.size<=it) (h2:∀x c,X.env.cells.lookup x=some c->c≠it) (h3:∀p∈X.pn++NP,p.1≠it):Inv X NP Y H {s with heap:=h',toks:=t'}:=by
 have nit:∀b u,H b=some u->b≠it:=λb u e z=>by lia
 refine I.step (g':=s.gens) (d':=s.drawn) (ch:=[it]) (λb hb=>?_) (λb o _ _ hc e _=>k b o (λz=>hc (by simp[z])) e) (λb o _ _ hc e _=>⟨o.slots,k b o (λz=>hc (by simp[z])) e⟩) (λ_ _ _ _ n=>n)
  (λb o hc e=>⟨o,k b o (λz=>hc (by simp[z])) e⟩) (λ_ _ e=>e) (λ_ _ _ e=>e) (λb ps e=>⟨#[],by rw[e];simp⟩) (λm hm=>?_) (λb u e=>?_) I.bare
 .have e:b=it:=by simpa using hb
  subst e;exact⟨h1,hL,h2,h3⟩
 .obtain⟨o,es,ep,ho,r⟩:=hm;exact⟨o,es,ep,k _ o (Ne.symm hL) ho,r⟩
 .refine(I.hok b u e).stay (λc v hc q=>k c v ?_ q) (λ_ q=>q) λ_ _ _ q=>q;rcases hc with z|z
  .lia
  .exact nit c _ z
def Inv.tok(I:Inv X NP Y H s)(t:Nat):Inv X NP Y H {s with toks:=t}:=I.un (h':=s.heap) (t':=t) Un.refl I.hok
def Inv.kept{t':Nat}(I:Inv X NP Y H s)(k:∀b u,s.heap.get? b=some u->h'.get? b=some u):Inv X NP Y H {s with heap:=h',toks:=t'}:=I.un (Un.kept k) (I.hok.kept k)
def Inv.laid{a:Addr}{o:HO}{t':Nat}(I:Inv X NP Y H s)(k:∀b u,s.heap.get? b=some u->h'.get? b=some u)(hp:s.heap.objs.size<=a)(new:b_ X.prog X.w (upd H a o) h' a o) :
  Inv X NP Y (upd H a o) {s with heap:=h',toks:=t'}:=I.un (Un.laid k hp (I.hok.fresh hp)) (I.hok.laid k hp new)
def Inv.write{x e:Addr}{o:HO}{t':Nat}(I:Inv X NP Y H s)(mu:Mut (H x))(he:e=x\/H e=some (.own x))(k:∀b u,b≠e->s.heap.get? b=some u->h'.get? b=some u)(heo:∃u,h'.get? e=some u)
  (new:b_ X.prog X.w (upd H x o) h' x o):Inv X NP Y (upd H x o) {s with heap:=h',toks:=t'}:=I.un (Un.write mu he k heo) (I.hok.write mu he k heo new)
def Inv.pins_of{pins':NU}(I:Inv X NP Y H s)(h:∀p∈pins',s.heap.get? p.1=some p.2/\H p.1=none/\p.1≠X.env.locals/\p.1∉X.fs/\∀v,p.2.data≠.cell v):Inv X pins' Y H s:=
 ⟨I.ok,I.os,I.bare,I.base,I.loc,I.cell,I.free,I.freeC,λp hp=>(mem_append.mp hp).elim (λz=>I.pin p (mem_append_left _ z)) (h p),I.hok,I.len⟩
def sI{N:N0}(hN:N.Nodup){i j:Nat}{x:Str}(a:N[i]?=some x)(b:N[j]?=some x):i=j:=by obtain⟨h1,e1⟩:=List.getElem?_eq_some_iff.mp a;obtain⟨h2,e2⟩:=List.getElem?_eq_some_iff.mp b;exact(getElem_inj hN).mp (e1.trans e2.symm)
def o8{M:Model}{A:Around}{E:NR}{i:Nat}{x:Str}{v:V}{u:Value}{Q:Unit->Shared->Prop}(I:Inv X NP Y H s)(hN:X.N.Nodup)(hi:X.N[i]?=some x)(hx:Loc X.env.scope x)(r:bB v u)
  (h:∀s',Inv X NP (Y.set i (some v)) H s'->(∃a,SameBut a s.heap s'.heap/\(a=X.env.locals\/X.env.cells.lookup x=some a))->Q .unit s') (hf:Lce X.fn X.env x:=by first|exact .inl rfl|exact .inr rfl|assumption):wpAny M A (storeName X.env x u) Q E s:=by
 obtain⟨m,hn,hl⟩:=id I.loc;have hcls:(X.env.scope.kind==.class ||(X.env.scope.kind==.module&&X.env.locals != X.env.globals))=false:=by rw[I.ok.kind];rfl
 have hiσ:i<Y.length:=by rw[I.len];exact(List.getElem?_eq_some_iff.mp hi).1
 have cne:=I.cne;have tracked:∀{a:Addr}{h':Heap},(∃o,s.heap.get? a=some o/\H a=none)->SameBut a s.heap h'->HOk X.prog X.w H h':=λ{a h'} ha hs b ob e=>by
  obtain⟨_,_,hfree⟩:=ha;refine(I.hok b ob e).stay (λc w' hc q=>(hs.2 c ?_).trans q) (λ_ q=>q) λ_ _ _ q=>q;rintro rfl;rcases hc with rfl|hc
  .rw[hfree]at e;cases e
  .rw[hfree]at hc;cases hc
 rcases hx with hk|hk
 .refine wpAny_storeName_local hk hn (λh' hn' hs=>?_) hcls;obtain⟨oL,_,_,hoL,_⟩:=id hn;refine h _ ⟨I.ok,I.os,I.bare,⟨λb o e n hb hx=>?_,λb o e n hb hx=>?_,I.base.free,λb o e hx=>?_,I.base.tups,I.base.frzs,I.base.tbls⟩,⟨_,hn',λj y v' e1 e2 e3=>?_⟩,λy c e=>?_,I.free,I.freeC,λp hp=>?_,tracked ⟨oL,hoL,I.free⟩ hs,by simpa using I.len⟩ ⟨_,hs,.inl rfl⟩
  .exact(hs.2 b (Nat.ne_of_lt (Nat.lt_of_lt_of_le (lt_size e) I.ok.above))).trans (I.base.keep b o e n hb hx)
  .obtain⟨sl,e1⟩:=I.base.slot b o e n hb hx;exact⟨sl,(hs.2 b (Nat.ne_of_lt (Nat.lt_of_lt_of_le (lt_size e) I.ok.above))).trans e1⟩
  .obtain⟨o',e1⟩:=I.base.there b o e hx;exact⟨o',(hs.2 b (Nat.ne_of_lt (Nat.lt_of_lt_of_le (lt_size e) I.ok.above))).trans e1⟩
  .by_cases hj:j=i
   .subst hj;rw[hi]at e1;cases e1;rw[getElem?_set_self hiσ]at e2;cases e2;exact⟨u,r,.inl ⟨hk,by simp⟩⟩
   .rw[getElem?_set_ne (Ne.symm hj)]at e2;obtain⟨u',r',q⟩:=hl j y v' e1 e2 e3;refine⟨u',r',?_⟩;rcases q with⟨k,e⟩ |⟨k,c,e,z⟩
    .refine .inl ⟨k,?_⟩;have:y≠x:=λe=>hj (sI hN e1 (e▸hi));simp[this,e]
    .exact .inr ⟨k,c,e,z.sameBut hs (cne y c e)⟩
  .obtain⟨w',z⟩:=I.cell y c e;exact⟨w',z.sameBut hs (cne y c e)⟩
  .obtain⟨e,n,ne,nf,d⟩:=I.pin p hp;exact⟨(hs.2 p.1 ne).trans e,n,ne,nf,d⟩
 .have hfn:X.fn x=true:=by
   rcases hf with z|z
   .exact z
   .rw[z]at hk;cases hk
  obtain⟨c,hc⟩:=I.ok.has x (.inl hk);obtain⟨w',z⟩:=I.cell x c hc;refine wpAny_storeName_cell I.ok.kind hk hc z (λh' hc' hs=>?_);obtain⟨oc,hoc,hocd⟩:=id z;refine h {s with heap:=h'} ⟨I.ok,I.os,I.bare,⟨λb o e n hb hx=>?_,λb o e n hb hx=>?_,I.base.free,λb o e hx=>?_,I.base.tups,I.base.frzs,I.base.tbls⟩,⟨m,hn.sameBut hs (Ne.symm (cne x c hc)),λj y v' e1 e2 e3=>?_⟩,λy c' e=>?_,I.free,I.freeC,λp hp=>?_,tracked ⟨oc,hoc,(I.freeC x c hc).resolve_right λq=>by rw[hfn]at q;cases q.1⟩ hs,by simpa using I.len⟩ ⟨c,hs,.inr hc⟩
  .exact(hs.2 b (Nat.ne_of_lt (Nat.lt_of_lt_of_le (lt_size e) (I.ok.cab x c hfn hc)))).trans (I.base.keep b o e n hb hx)
  .obtain⟨sl,e1⟩:=I.base.slot b o e n hb hx;exact⟨sl,(hs.2 b (Nat.ne_of_lt (Nat.lt_of_lt_of_le (lt_size e) (I.ok.cab x c hfn hc)))).trans e1⟩
  .obtain⟨o',e1⟩:=I.base.there b o e hx;exact⟨o',(hs.2 b (Nat.ne_of_lt (Nat.lt_of_lt_of_le (lt_size e) (I.ok.cab x c hfn hc)))).trans e1⟩
  .by_cases hj:j=i
   .subst hj;rw[hi]at e1;cases e1;rw[getElem?_set_self hiσ]at e2;cases e2;exact⟨u,r,.inr ⟨.inl hk,c,hc,hc'⟩⟩
   .rw[getElem?_set_ne (Ne.symm hj)]at e2;obtain⟨u',r',q⟩:=hl j y v' e1 e2 e3;refine⟨u',r',?_⟩;rcases q with q |⟨k,c',e,z'⟩
    .exact .inl q
    .refine .inr ⟨k,c',e,z'.sameBut hs ?_⟩;rintro rfl;exact hj (sI hN e1 (I.ok.inj _ _ _ e hc▸hi))
  .by_cases hcc:c'=c
   .subst hcc;exact⟨_,hc'⟩
   .obtain⟨w2,z2⟩:=I.cell y c' e;exact⟨w2,z2.sameBut hs hcc⟩
  .obtain⟨e,n,ne,nf,d⟩:=I.pin p hp;refine⟨(hs.2 p.1 ?_).trans e,n,ne,nf,d⟩;intro q;rw[q,hoc]at e;have q':oc=p.2:=Option.some.inj e;exact d w' (by rw[<- q'];exact hocd)
def ng{M:Model}{A:Around}{E:NR}{i:Nat}{x:Str}{v:V}{u:Value}{Q:Unit->Shared->Prop}(I:Inv X NP Y H s)(hN:X.N.Nodup)(hi:X.N[i]?=some x)(hx:Loc X.env.scope x)(r:bB v u)
  (h:∀s',Inv X NP (Y.set i (some v)) H s'->Q .unit s') (hf:Lce X.fn X.env x:=by first|exact .inl rfl|exact .inr rfl|assumption):wpAny M A (storeName X.env x u) Q E s:=
 o8 I hN hi hx r (λs' I' _=>h s' I') hf
def Inv.call'{s':Shared}{ch:NZ}(I:Inv X NP Y H s)(ho:s'.os=s.os)(u:Un (frs X.stack) ch H H' s.heap s'.heap)(hok:HOk X.prog X.w H' s'.heap)(hg:AllBare s'.gens)
  (hch:∀b∈ch,(b∈X.ex\/X.s₀.heap.objs.size<=b)/\b≠X.env.locals/\(∀x c,X.env.cells.lookup x=some c->c≠b)/\∀p∈X.pn++NP,p.1≠b):Inv X NP Y H' s':=by
 obtain⟨h',g',d',t',o'⟩:=s';have e:o'=s.os:=ho;subst e;exact I.call (g':=g') (t':=t') (d':=d') u hok hg hch
end
abbrev XK:=Value->Option Addr->N4
abbrev St:=List (Option V)
abbrev VK:=V->N4
abbrev TE:=St->Hp->VK->Prop
abbrev TT:=St->Hp->(Bool->N4)->Prop
abbrev TA:=St->Hp->(N3->N4)->Prop
structure Ends where
 nx:St->N4
 rt:VK
 bk:St->N4:=λ_ _=>False
 ct:St->N4:=λ_ _=>False
abbrev TS:=Ends->St->N4
def EP(X:Cx)(NP:NU)(Y:St)(Q:VK)(u:Value)(s':Shared):Prop:=∃v H',Inv X NP Y H' s'/\bB v u/\Q v H'
def TP(X:Cx)(NP:NU)(Y:St)(Q:Bool->N4)(b:Bool)(s':Shared):Prop:=∃H',Inv X NP Y H' s'/\Q b H'
def AP(X:Cx)(NP:NU)(Y:St)(Q:N3->N4)(us:NY)(s':Shared):Prop:=∃vs H',Inv X NP Y H' s'/\aU vs us/\Q vs H'
def SP(X:Cx)(NP:NU)(D:Ends)(f:Flow)(s':Shared):Prop:=
 match f with
 |.next=>∃σ' H',Inv X NP σ' H' s'/\D.nx σ' H'
 |.brk=>∃σ' H',Inv X NP σ' H' s'/\D.bk σ' H'
 |.cont=>∃σ' H',Inv X NP σ' H' s'/\D.ct σ' H'
 |.ret u=>∃v σ' H',Inv X NP σ' H' s'/\bB v u/\D.rt v H'
def PE(X:Cx)(e:Expr)(t:TE):Prop:=
 ∀(NP:NU) (s:Shared) (Y:St) (H:Hp) (Q:VK),Inv X NP Y H s->t Y H Q->wpAny (model X.prog X.w) X.A (eval e X.env) (EP X NP Y Q) X.xe s
def PT(X:Cx)(e:Expr)(t:TT):Prop:=
 ∀(NP:NU) (s:Shared) (Y:St) (H:Hp) (Q:Bool->N4),Inv X NP Y H s->t Y H Q->wpAny (model X.prog X.w) X.A (isTrue e X.env (eval e X.env)) (TP X NP Y Q) X.xe s
def PW(X:Cx)(e:Expr)(t:TT):Prop:=
 ∀(whole:Sem Value) (NP:NU) (s:Shared) (Y:St) (H:Hp) (Q:Bool->N4),Inv X NP Y H s->t Y H Q->wpAny (model X.prog X.w) X.A (isTrue e X.env whole) (TP X NP Y Q) X.xe s
def PW.pt{X:Cx}{e:Expr}{t:TT}(h:PW X e t):PT X e t:=h _
def PA(X:Cx)(es:List Expr)(t:TA):Prop:=
 ∀(pos:Pos) (NP:NU) (s:Shared) (Y:St) (H:Hp) (Q:N3->N4),Inv X NP Y H s->t Y H Q->wpAny (model X.prog X.w) X.A (spliced (backTo pos (starEach es X.env))) (AP X NP Y Q) X.xe s
def PS(X:Cx)(st:Stmt)(t:TS):Prop:=
 ∀(NP:NU) (s:Shared) (Y:St) (H:Hp) (D:Ends),Inv X NP Y H s->t D Y H->wpAny (model X.prog X.w) X.A (exec st X.env) (SP X NP D) X.xe s
def PSs(X:Cx)(st:List Stmt)(t:TS):Prop:=
 ∀(NP:NU) (s:Shared) (Y:St) (H:Hp) (D:Ends),Inv X NP Y H s->t D Y H->wpAny (model X.prog X.w) X.A (execs st X.env) (SP X NP D) X.xe s
def thn{α:Type}{t:Sem α}{Q Q':α->Shared->Prop}{M:Model}{A:Around}{E:NR}{s:Shared}(h:wpAny M A t Q E s)(hQ:∀a s,Q a s->Q' a s):wpAny M A t Q' E s:=wpAny_mono h hQ λ_ _ x=>x
end
section
section
variable{X:Cx}
def Mu(i:Nat):TE:=λY H Q=>∃v,Y[i]?=some (some v)/\Q v H
def tC(v:V):TE:=λ_ H Q=>Q v H
def eU{i:Nat}{x:Str}{pos:Pos}(hN:X.N[i]?=some x)(hv:Vis X.env.scope x)(hd:Ndq x:=by decide)(hcd:Ncq x:=by decide):PE X (.Name x pos) (Mu i):=by
 intro NP s Y H Q I h;obtain⟨v,e,h⟩:=h;obtain⟨m,hn,hl⟩:=I.loc;obtain⟨u,r,l⟩:=hl i x v hN e hv;have fin:EP X NP Y Q u s:=⟨v,H,I,r,h⟩
 rcases l with⟨hk,hm⟩ |⟨hk,c,hc,hcell⟩
 .exact wpAny_Name (wpAny_loadName_local I.ok.kind hk hn hm fin) hd
 .rcases hk with hk|hk
  .exact wpAny_Name (wpAny_loadName_cell I.ok.kind hk hc hcell fin) hd
  .exact wpAny_Name (wpAny_loadName_free I.ok.kind hk hc hcell fin hcd) hd
def zP{i j pos}:PE X (.Constant (.int i) j pos) (tC (.int i)):=λ_ _ _ H _ I h=>wpAny_Constant_int ⟨.int i,H,I.tok _,⟨_,rfl⟩,h⟩
def Kh{b j pos}:PE X (.Constant (.bool b) j pos) (tC (.bl b)):=λ_ _ _ H _ I h=>Constant_bool ⟨.bl b,H,I,rfl,h⟩
def zN{j pos}:PE X (.Constant .none j pos) (tC .non):=λ_ _ _ H _ I h=>Constant_none ⟨.non,H,I,rfl,h⟩
def iH{x j pos}:PE X (.Constant (.str x) j pos) (tC (.str x)):=λ_ _ _ H _ I h=>Calls.Constant_str ⟨.str x,H,I.tok _,⟨_,rfl⟩,h⟩
def Gl(X:Cx)(x:Str):Prop:=X.env.kindOf x=some .globalImplicit
def kH{E:NR}{NP:NU}{s:Shared}{Y:St}{H:Hp}{x:Str}{u:Value}{pos:Pos}{Q:NR}(I:Inv X NP Y H s)(hg:Gl X x)(hm:X.mg x=some u)(h:Q u s)
  (hd:Ndq x:=by decide):wpAny (model X.prog X.w) X.A (eval (.Name x pos) X.env) Q E s:=
 Calls.Name_function_global I.ok.kind hg (Calls.loadGlobal_global (by rw[I.ok.glob];exact I.mod.glob.keeps I.bk) hm h) hd
def iN{E:NR}{NP:NU}{s:Shared}{Y:St}{H:Hp}{x:Str}{u:Value}{pos:Pos}{Q:NR}(I:Inv X NP Y H s)(hg:Gl X x)(hm:X.mg x=none)(hv:bootBuiltins x=some u)(h:Q u s)
  (hn:x≠"__name__":=by decide) (hd:Ndq x:=by decide):wpAny (model X.prog X.w) X.A (eval (.Name x pos) X.env) Q E s:=by
 obtain⟨mb,h1,h2⟩:=I.mod.blt;exact Calls.Name_function_global I.ok.kind hg (Calls.loadGlobal_builtin (by rw[I.ok.glob];exact I.mod.glob.keeps I.bk) hm (by rw[I.ok.blt];exact h1.keeps I.bk) ((h2 x hn).trans hv) h) hd
def ku{x:Str}{v:V}{u:Value}{pos:Pos}(hg:Gl X x)(hm:X.mg x=some u)(r:bB v u)(hd:Ndq x:=by decide):PE X (.Name x pos) (tC v):=
 λ_ _ _ H _ I h=>kH I hg hm ⟨v,H,I,r,h⟩ hd
def Df{x:Str}{v:V}{u:Value}{pos:Pos}(hg:Gl X x)(hm:X.mg x=none)(hv:bootBuiltins x=some u)(r:bB v u)(hn:x≠"__name__":=by decide)(hd:Ndq x:=by decide):PE X (.Name x pos) (tC v):=
 λ_ _ _ H _ I h=>iN I hg hm hv ⟨v,H,I,r,h⟩ hn hd
variable{a b:Expr}{ta tb:TE}{pos:Pos}
variable{tA tB':TT}{bF:List Expr}
def MJ(t u:TT):TT:=λY H Q=>t Y H λc H1=>if c=true then u Y H1 Q else Q false H1
def tOr(t u:TT):TT:=λY H Q=>t Y H λc H1=>if c=true then Q true H1 else u Y H1 Q
def MB(t:TT):TT:=λY H Q=>t Y H λc H1=>Q (!c) H1
def CZ(ha:PT X a tA):PW X (.BoolOp .And [a] pos) tA:=by
 intro wh NP s Y H Q I h;refine isTrue_and (thn (ha NP s Y H Q I h) λc s1 e=>?_);cases c with
 |true=>exact isTrue_and_nil e
 |false=>exact e
def Gm(ha:PT X a tA):PW X (.BoolOp .Or [a] pos) tA:=by
 intro wh NP s Y H Q I h;refine isTrue_or (thn (ha NP s Y H Q I h) λc s1 e=>?_);cases c with
 |false=>exact isTrue_or_nil e
 |true=>exact e
def Gn(ha:PT X a tA)(hb:PW X (.BoolOp .And (b::bF) pos) tB'):PW X (.BoolOp .And (a::b::bF) pos) (MJ tA tB'):=by
 intro wh NP s Y H Q I h;refine isTrue_and (thn (ha NP s Y H _ I h) λc s1 ⟨H1,I1,q1⟩=>?_);cases c with
 |true=>exact hb wh NP s1 Y H1 Q I1 q1
 |false=>exact⟨H1,I1,q1⟩
def Kc(ha:PT X a tA)(hb:PW X (.BoolOp .Or (b::bF) pos) tB'):PW X (.BoolOp .Or (a::b::bF) pos) (tOr tA tB'):=by
 intro wh NP s Y H Q I h;refine isTrue_or (thn (ha NP s Y H _ I h) λc s1 ⟨H1,I1,q1⟩=>?_);cases c with
 |true=>exact⟨H1,I1,q1⟩
 |false=>exact hb wh NP s1 Y H1 Q I1 q1
def Go(ha:PT X a tA):PT X (.UnaryOp .Not a pos) (MB tA):=by intro NP s Y H Q I h;exact isTrue_not (ha NP s Y H (λc H1=>Q (!c) H1) I h)
def JY(ta tb:TE):TE:=λY H Q=>ta Y H λx H1=>∃c,x=.bl c/\if c=true then tb Y H1 Q else Q (.bl false) H1
def Mz(ta tb:TE):TE:=λY H Q=>ta Y H λx H1=>∃c,x=.bl c/\if c=true then Q (.bl true) H1 else tb Y H1 Q
def GB{op}{t:TE}(h:PE X a t):PE X (.BoolOp op [a] pos) t:=λNP s Y H Q I hw=>BoolOp_one (h NP s Y H Q I hw)
def GH(ha:PE X a ta)(hb:PE X (.BoolOp .And (b::bF) pos) tb):PE X (.BoolOp .And (a::b::bF) pos) (JY ta tb):=by
 intro NP s Y H Q I h;refine BoolOp_and (thn (ha NP s Y H _ I h) λv s1 zz=>?_);obtain⟨x,H1,I1,r1,q1⟩:=zz;obtain⟨c,rfl,q1⟩:=q1;cases r1;refine wpAny_truthy_bool ?_;cases c with
 |true=>exact hb NP s1 Y H1 Q I1 q1
 |false=>exact⟨.bl false,H1,I1,rfl,q1⟩
def Kf(ha:PE X a ta)(hb:PE X (.BoolOp .Or (b::bF) pos) tb):PE X (.BoolOp .Or (a::b::bF) pos) (Mz ta tb):=by
 intro NP s Y H Q I h;refine BoolOp_or (thn (ha NP s Y H _ I h) λv s1 zz=>?_);obtain⟨x,H1,I1,r1,q1⟩:=zz;obtain⟨c,rfl,q1⟩:=q1;cases r1;refine wpAny_truthy_bool ?_;cases c with
 |false=>exact hb NP s1 Y H1 Q I1 q1
 |true=>exact⟨.bl true,H1,I1,rfl,q1⟩
def tIf(t:TT)(ta tb:TE):TE:=λY H Q=>t Y H λc H1=>if c=true then ta Y H1 Q else tb Y H1 Q
def zQ{c:Expr}(hc:PT X c tA)(ha:PE X a ta)(hb:PE X b tb):PE X (.IfExp c a b pos) (tIf tA ta tb):=by
 intro NP s Y H Q I h;refine wpAny_IfExp (thn (hc NP s Y H _ I h) λd s1 ⟨H1,I1,q1⟩=>?_);cases d with
 |true=>exact ha NP s1 Y H1 Q I1 q1
 |false=>exact hb NP s1 Y H1 Q I1 q1
end
end
section
def SqL(K:PySem.W.Frag)(H:Hp)(a:Addr)(xs:N3):Prop:=
 Rd H a (.lst xs)\/
  ∃(o:Obj) (its:N2) (n:Nat),K.lookup a=some o/\o.cls=.type "list" /\ o.dict=none/\o.data=.seq its n/\its.size<=sizeLine/\aU xs its.toList
def SqT(K:PySem.W.Frag)(H:Hp)(a:Addr)(xs:N3):Prop:=
 Rd H a (.tup xs)\/
  ∃(o:Obj) (its:N2) (n:Nat),K.lookup a=some o/\o.cls=.type "tuple" /\ o.data=.seq its n/\its.size<=sizeLine/\aU xs its.toList
noncomputable def Nr:Value->Option V
 |.none=>some .non
 |.bool b=>some (.bl b)
 |.int i _=>some (.int i)
 |.str x _=>some (.str x)
 |.bytes b _=>some (.byt b)
 |.float b _=>some (.flt b)
 |.ref a=>some (.ref a)
 |.type n=>some (.ty n)
 |_=>none
def bB.abs{x:V}{u:Value}(r:bB x u):Nr u=some x:=by
 cases x with
 |non|bl _=>cases r;rfl
 |int _|str _|byt _|flt _=>obtain⟨t,rfl⟩:=r;rfl
 |ref _|ty _=>cases r;rfl
def bB.inj{x y:V}{u:Value}(r:bB x u)(q:bB y u):x=y:=Option.some.inj (r.abs.symm.trans q.abs)
def aU.inj{xs ys:N3}{us:NY}(h:aU xs us)(g:aU ys us):xs=ys:=by
 induction h generalizing ys with
 |nil=>cases g;rfl
 |cons r t k=>cases g with
  |cons r' t'=>rw[r.inj r',k t']
section
variable{X:Cx}{NP:NU}{Y:St}{H:Hp}{s:Shared}{a:Addr}{xs ys:N3}
def SqL.of{K:PySem.W.Frag}(h:H a=some (.lst xs)):SqL K H a xs:=.inl (.inl h)
def SqT.of{K:PySem.W.Frag}(h:H a=some (.tup xs)):SqT K H a xs:=.inl (.inl h)
theorem Inv.list(I:Inv X NP Y H s)(h:SqL X.K H a xs):∃its:NY,aU xs its/\PlainL s.heap a its.toArray/\xs.length<=sizeLine:=by
 rcases h with h |⟨o,its,n,hk,hc,hd,hs,hz,r⟩
 .obtain⟨z,its,n,r,e⟩:=h.ok I.hok;exact⟨its,r,⟨_,n,e,rfl,rfl,rfl⟩,z⟩
 .refine⟨its.toList,r,⟨o,n,I.kIn a o hk,hc,hd,by simpa using hs⟩,?_⟩;have e:=r.length;simp at e
  lia
def Inv.tuple(I:Inv X NP Y H s)(h:SqT X.K H a xs):∃its:NY,aU xs its/\IsTup s.heap a its.toArray/\xs.length<=sizeLine:=by
 rcases h with h |⟨o,its,n,hk,hc,hs,hz,r⟩
 .obtain⟨z,its,r,p⟩:=h.ok I.hok;exact⟨its,r,p,z⟩
 .refine⟨its.toList,r,⟨o,I.kIn a o hk,hc,n,by simpa using hs⟩,?_⟩;have e:=r.length;simp only[Array.length_toList]at e
  lia
theorem Inv.list_inj(I:Inv X NP Y H s)(h:SqL X.K H a xs)(h':SqL X.K H a ys):xs=ys:=by
 obtain⟨its,r,⟨o,n,e,_,_,d⟩,_⟩:=I.list h;obtain⟨its',r',⟨o',n',e',_,_,d'⟩,_⟩:=I.list h';rw[e]at e';cases e';rw[d]at d';injection d' with d1 _;have:its=its':=by lia
 subst this;exact r.inj r'
def Inv.tuple_inj(I:Inv X NP Y H s)(h:SqT X.K H a xs)(h':SqT X.K H a ys):xs=ys:=by
 obtain⟨its,r,⟨o,e,_,n,d⟩,_⟩:=I.tuple h;obtain⟨its',r',⟨o',e',_,n',d'⟩,_⟩:=I.tuple h';rw[e]at e';cases e';rw[d]at d';injection d' with d1 _;have:its=its':=by lia
 subst this;exact r.inj r'
end
section
variable{X:Cx}{st:Stmt}{bF:List Stmt}{t u:TS}{e:Expr}{te:TE}{pos:Pos}
def JT:TS:=λD Y H=>D.nx Y H
def Mw(t u:TS):TS:=λD Y H=>t {D with nx:=u D} Y H
def C1:PSs X [] JT:=λ_ _ Y H _ I h=>wpAny_execs_nil ⟨Y,H,I,h⟩
def kq(h1:PS X st t)(h2:PSs X bF u):PSs X (st::bF) (Mw t u):=by
 intro NP s Y H D I h;refine wpAny_execs_cons (thn (h1 NP s Y H {D with nx:=u D} I h) λf s1 q=>?_);cases f with
 |next=>obtain⟨σ',H',I',q⟩:=q;exact h2 NP s1 σ' H' D I' q
 |ret v|brk|cont=>exact q
def v3(h1:PS X st t):PSs X [st] t:=by
 intro NP s Y H D I h;refine wpAny_execs_cons (thn (h1 NP s Y H D I h) λf s1 q=>?_);cases f with
 |next=>exact wpAny_execs_nil q
 |ret v|brk|cont=>exact q
def Inv.quiet{NP:NU}{Y:St}{H:Hp}{s:Shared}(I:Inv X NP Y H s):interactive X.env=false:=by simp[interactive,I.ok.kind]
def JV(te:TE):TS:=λD Y H=>te Y H λ_ H1=>D.nx Y H1
def mS(he:PE X e te)(hs:swapsWith e none pos.line X.env=pure false:=by rfl):PS X (.Expr e pos) (JV te):=by intro NP s Y H D I h;exact wpAny_Expr_any (thn (he NP s Y H _ I h) λv s1 ⟨x,H1,I1,r1,q1⟩=>⟨Y,H1,I1,q1⟩) I.quiet hs
def My(te:TE):TS:=λD Y H=>te Y H D.rt
def uL(he:PE X e te):PS X (.Return (some e) pos) (My te):=by intro NP s Y H D I h;exact wpAny_Return_some (thn (he NP s Y H _ I h) λv s1 ⟨x,H1,I1,r1,q1⟩=>⟨x,Y,H1,I1,r1,q1⟩)
def MD(c:TT)(t u:TS):TS:=λD Y H=>c Y H λb H1=>if b=true then t D Y H1 else u D Y H1
def Kd{c:Expr}{a b:List Stmt}{tc:TT}(hc:PT X c tc)(ha:PSs X a t)(hb:PSs X b u):PS X (.If c a b pos) (MD tc t u):=by
 intro NP s Y H D I h;refine wpAny_If (thn (hc NP s Y H _ I h) λd s1 ⟨H1,I1,q1⟩=>?_);cases d with
 |true=>exact ha NP s1 Y H1 D I1 q1
 |false=>exact hb NP s1 Y H1 D I1 q1
end
abbrev TG:=V->St->Hp->(St->N4)->Prop
abbrev TGs:=N3->St->Hp->(St->N4)->Prop
def PG(X:Cx)(target:Expr)(t:TG):Prop:=
 ∀(NP:NU) (s:Shared) (Y:St) (H:Hp) (v:V) (u:Value) (Q:St->N4),Inv X NP Y H s->bB v u->t v Y H Q ->
  wpAny (model X.prog X.w) X.A (assign target X.env u) (λ_ s'=>∃σ' H',Inv X NP σ' H' s'/\Q σ' H') X.xe s
def PGs(X:Cx)(ts:List Expr)(t:TGs):Prop:=
 ∀(NP:NU) (s:Shared) (Y:St) (H:Hp) (vs:N3) (us:NY) (Q:St->N4),Inv X NP Y H s->aU vs us->t vs Y H Q ->
  wpAny (model X.prog X.w) X.A (assignInOrder ((assignEach ts X.env).map (·.2)) us) (λ_ s'=>∃σ' H',Inv X NP σ' H' s'/\Q σ' H') X.xe s
abbrev Jd:=V->V->V->Hp->(N4)->Prop
def LW(X:Cx)(t:Jd):Prop:=
 ∀(NP:NU) (s:Shared) (Y:St) (H:Hp) (o i v:V) (ov iv u:Value) (Q:N4),Inv X NP Y H s->bB o ov->bB i iv->bB v u->t o i v H Q ->
  wpAny (model X.prog X.w) X.A (setItem ov iv u) (λ_ s'=>∃H',Inv X NP Y H' s'/\Q H') X.xe s
abbrev TIp:=V->V->Hp->VK->Prop
def PIp(X:Cx)(op:Operator)(t:TIp):Prop:=
 ∀(NP:NU) (s:Shared) (Y:St) (H:Hp) (x y:V) (v u:Value) (Q:VK),Inv X NP Y H s->bB x v->bB y u->t x y H Q ->
  wpAny (model X.prog X.w) X.A (inplaceOp op v u) (EP X NP Y Q) X.xe s
section
variable{X:Cx}{pos:Pos}
def EZ(i:Nat):TG:=λv Y H Q=>Q (Y.set i (some v)) H
def v9{i:Nat}{x:Str}(hN:X.N.Nodup)(hi:X.N[i]?=some x)(hx:Loc X.env.scope x)(hf:Lce X.fn X.env x:=by first|exact .inl rfl|exact .inr rfl|assumption):PG X (.Name x pos) (EZ i):=by intro NP s Y H v u Q I r h;exact wpAny_assign_Name (ng I hN hi hx r (λs' I'=>⟨_,H,I',h⟩) hf)
def M8:TGs:=λvs Y H Q=>vs=[]/\Q Y H
def La(t:TG)(u:TGs):TGs:=λvs Y H Q=>∃v r,vs=v::r/\t v Y H λσ' H'=>u r σ' H' Q
def Da:PGs X [] M8:=by intro NP s Y H vs us Q I r h;obtain⟨e,h⟩:=h;subst e;cases r;exact assignInOrder_nil ⟨Y,H,I,h⟩
def zL{e:Expr}{es:List Expr}{t:TG}{u:TGs}(h1:PG X e t)(h2:PGs X es u)
  (hs:(assignEach (e::es) X.env).map (·.2)=assign e X.env::(assignEach es X.env).map (·.2):=by rfl):PGs X (e::es) (La t u):=by
 intro NP s Y H vs us Q I r h;obtain⟨v,vr,e1,h⟩:=h;subst e1;cases r with
 |cons r rr=>rw[hs];refine assignInOrder_cons (thn (h1 NP s Y H _ _ _ I r h) λ_ s1 ⟨σ1,H1,I1,q1⟩=>?_);exact h2 NP s1 σ1 H1 _ _ Q I1 rr q1
def M6(K:PySem.W.Frag)(n:Nat)(t:TGs):TG:=λv Y H Q=>∃a xs,v=.ref a/\SqT K H a xs/\xs.length=n/\t xs Y H Q
theorem Gy{es:List Expr}{k:Nat}{t:TGs}{n:Nat}(hc:X.calm=true)(h:PGs X es t)
  (hn:(assignEach es X.env).length=n:=by rfl) (hst:(assignEach es X.env).findIdx? (·.1)=none:=by rfl):PG X (.Tuple es k pos) (M6 X.K n t):=by
 intro NP s Y H v u Q I r hw;obtain⟨a,xs,e1,hq,hl,hw⟩:=hw;subst e1;cases r;obtain⟨its,rv,ht,hz⟩:=I.tuple hq;refine assign_Tuple_tuple (I.ok.hd hc) ht (by simp[hn,<- hl,rv.length]) hst λh' hx=>?_;have I1:Inv X NP Y H {s with heap:=h'}:=I.kept (t':=s.toks) λb o e=>hx b o (Nat.ne_of_lt (lt_size e)) e;exact h NP _ Y H xs _ Q I1 () hw
def M7(to ti:TE)(t:Jd):TG:=λv Y H Q=>to Y H λo H1=>ti Y H1 λi H2=>t o i v H2 λH3=>Q Y H3
def Gz{o i:Expr}{to ti:TE}{t:Jd}(ho:PE X o to)(hi:PE X i ti)(hs:LW X t)
  (ha:∀ v,assign (.Subscript o i pos) X.env v=(do
   let ov <- holding [v] (eval o X.env)
   let iv <- holding [v,ov] (eval i X.env)
   standAt pos
   holding [v,ov,iv] (setItem ov iv v)
   release [v,ov,iv] []):=by intro _;rfl):PG X (.Subscript o i pos) (M7 to ti t):=by
 intro NP s Y H v u Q I r h;rw[ha];refine wpAny_bind (wpAny_holding (thn (ho NP s Y H _ I h) λov s1 zz=>?_));obtain⟨x,H1,I1,r1,q1⟩:=zz;refine wpAny_bind (wpAny_holding (thn (hi NP s1 Y H1 _ I1 q1) λiv s2 zz=>?_));obtain⟨y,H2,I2,r2,q2⟩:=zz;refine wpAny_bind (wpAny_standAt (wpAny_bind (wpAny_holding (thn (hs NP s2 Y H2 x y v ov iv u _ I2 r1 r2 r q2) λ_ s3 ⟨H3,I3,q3⟩=>?_))));exact wpAny_release ⟨Y,H3,I3,q3⟩
def JX(te:TE)(g:TG):TS:=λD Y H=>te Y H λx H1=>g x Y H1 D.nx
def Gu{tg e:Expr}{te:TE}{g:TG}(he:PE X e te)(hg:PG X tg g)(hs:swapsWithSole [tg] e pos.line X.env=pure false:=by rfl)(hw:swappedStores [tg] e X.env=pure none:=by rfl)
  (h1:(assignEach [tg] X.env).map (·.2)=[assign tg X.env]:=by rfl):PS X (.Assign [tg] e pos) (JX te g):=by
 intro NP s Y H D I h;refine wpAny_Assign_stores (thn (he NP s Y H _ I h) λv s1 zz=>?_) hs hw;obtain⟨x,H1,I1,r1,q1⟩:=zz;rw[h1];exact thn (hg NP s1 Y H1 x v _ I1 r1 q1) λ_ s2 q=>q
def zE{i:Nat}{x:Str}{e:Expr}{te:TE}{pos':Pos}(hN:X.N.Nodup)(hi:X.N[i]?=some x)(hx:Loc X.env.scope x)(he:PE X e te)(hs:swapsWith e (some (.Name x pos')) pos.line X.env=pure false:=by rfl)(hf:Lce X.fn X.env x:=by first|exact .inl rfl|exact .inr rfl|assumption) :
  PS X (.Assign [.Name x pos'] e pos) (JX te (EZ i)):=by
 intro NP s Y H D I h;refine wpAny_Assign_Name (thn (he NP s Y H _ I h) λv s1 zz=>?_) hs;obtain⟨y,H1,I1,r1,q1⟩:=zz;exact ng I1 hN hi hx r1 (λs2 I2=>⟨_,H1,I2,q1⟩) hf
def MH(i:Nat)(te:TE)(ti:TIp):TS:=λD Y H=>∃x,Y[i]?=some (some x)/\te Y H λy H1=>ti x y H1 λz H2=>D.nx (Y.set i (some z)) H2
def Gs{i:Nat}{x:Str}{e:Expr}{te:TE}{op:Operator}{ti:TIp}{pos':Pos}(hN:X.N.Nodup)(hi:X.N[i]?=some x)(hx:Loc X.env.scope x)(he:PE X e te)(ho:PIp X op ti)(hf:Lce X.fn X.env x:=by first|exact .inl rfl|exact .inr rfl|assumption) :
  PS X (.AugAssign (.Name x pos') op e pos) (MH i te ti):=by
 intro NP s Y H D I h;obtain⟨v,e1,h⟩:=h;obtain⟨m,hn,hl⟩:=I.loc;have vis:Vis X.env.scope x:=by rcases hx with k|k;exact .inl k;exact .inr (.inl k)
 obtain⟨u,r,l⟩:=hl i x v hi e1 vis;refine wpAny_AugAssign_Name ?_;have go:wpAny (model X.prog X.w) X.A (eval e X.env) (λw s₂=>wpAny (model X.prog X.w) X.A (inplaceOp op u w) (λr s₃=>wpAny (model X.prog X.w) X.A (storeName X.env x r) (λ_=>SP X NP D .next) X.xe s₃) X.xe s₂) X.xe s:=by refine thn (he NP s Y H _ I h) λw s1 hz1=>?_;obtain⟨y,H1,I1,r1,q1⟩:=hz1;refine thn (ho NP s1 Y H1 v y u w _ I1 r r1 q1) λz s2 hz1=>?_;obtain⟨zv,H2,I2,r2,q2⟩:=hz1;exact ng I2 hN hi hx r2 (λs3 I3=>⟨_,H2,I3,q2⟩) hf
 rcases l with⟨hk,hm⟩ |⟨hk,c,hc,hcell⟩
 .exact wpAny_loadName_local I.ok.kind hk hn hm go
 .rcases hk with hk|hk
  .exact wpAny_loadName_cell I.ok.kind hk hc hcell go
  .rcases hx with k|k
   .have:X.env.scope.names.lookup x=some .free:=hk;rw[k]at this;cases this
   .have:X.env.scope.names.lookup x=some .free:=hk;rw[k]at this;cases this
def FG(c:TT)(tb:TS):TS:=λD Y H=>∃W:Nat->St->N4,(∃m,W m Y H)/\∀m Y H,W m Y H ->
 c Y H λb H1=>if b=true then ∃N:St->N4,(∀σ' H',N σ' H'->∃m',m'<m/\W m' σ' H')/\tb {D with nx:=N,ct:=N,bk:=D.nx} Y H1 else D.nx Y H1
def zD{c:Expr}{body:List Stmt}{tc:TT}{tb:TS}(hp:PassesOwn (model X.prog X.w) X.A X.env X.xe)(hc:PT X c tc)(hb:PSs X body tb):PS X (.While c body [] pos) (FG tc tb):=by
 intro NP s Y H D I h;obtain⟨W,⟨m0,w0⟩,turn⟩:=h;refine wpAny_While (codeAny_whileLoop (λn s'=>∃σ' H',Inv X NP σ' H' s'/\W n σ' H') ?_ m0 ⟨Y,H,I,w0⟩);rintro n s1 ⟨σ1,H1,I1,w1⟩;refine wpAny_passesOwn hp (thn (hc NP s1 σ1 H1 _ I1 (turn n σ1 H1 w1)) λb s2 ⟨H2,I2,q2⟩=>?_);cases b with
 |true=>
  obtain⟨N,hN,q2⟩:=q2;refine wpAny_passesOwn hp (thn (hb NP s2 σ1 H2 _ I2 q2) λf s3 q3=>?_);cases f with
  |next=>obtain⟨σ3,H3,I3,n3⟩:=q3;obtain⟨m',hm,w3⟩:=hN σ3 H3 n3;exact⟨m',hm,σ3,H3,I3,w3⟩
  |cont=>obtain⟨σ3,H3,I3,n3⟩:=q3;obtain⟨m',hm,w3⟩:=hN σ3 H3 n3;exact⟨m',hm,σ3,H3,I3,w3⟩
  |brk|ret v=>exact q3
 |false=>exact wpAny_execs_nil ⟨σ1,H2,I2,q2⟩
end
structure It where
 go:Nat->N4
 yld:Nat->Hp->V->N4
 stop:Nat->N4
def oK(X:Cx)(NP:NU)(H:Hp)(b:Addr):Prop:=
 H b=none/\b≠X.env.locals/\b∉X.fs/\(b∈X.ex\/X.s₀.heap.objs.size<=b)/\(∀x c,X.env.cells.lookup x=some c->c≠b)/\∀p∈X.pn++NP,p.1≠b
theorem Inv.fpOk{X:Cx}{NP:NU}{Y:St}{H H':Hp}{s:Shared}{b:Addr}(I:Inv X NP Y H s)(hb:s.heap.objs.size<=b)(hn:H' b=none):oK X NP H' b:=by
 refine⟨hn,Nat.ne_of_gt (Nat.lt_of_lt_of_le I.lt hb),I.nofs hb,.inr (Nat.le_trans I.sz hb),λx c e z=>?_,λp hp z=>?_⟩
 .obtain⟨v,q⟩:=I.cell x c e;exact absurd (Nat.lt_of_lt_of_le q.lt ()) (Nat.lt_irrefl _)
 .exact absurd (Nat.lt_of_lt_of_le (lt_size (I.pin p hp).1) ()) (Nat.lt_irrefl _)
structure vx(P:Program)(w:World)(K:PySem.W.Frag)(tg:Expr)(J:It)(fp:NZ)(it:Addr)(tn:Nat->Heap->Prop):Prop where
 mem:it∈fp
 obj:∀i h,tn i h->∀b∈fp,∃o,h.get? b=some o/\∀v,o.data≠.cell v
 keep:∀i h h',tn i h->(∀b∈fp,∀o,h.get? b=some o->h'.get? b=some o)->tn i h'
 item:∀(X:Cx),X.prog=P->X.w=w->X.K=K->X.calm=true->∀(i:Nat) (NP:NU) (s:Shared) (Y:St) (H:Hp) (E:NR),Inv X NP Y H s->(∀b∈fp,oK X NP H b)->tn i s.heap->J.go i H ->
  wpAny (model P w) X.A (pyNext (.ref it)) (λr s1=>∃ u,r=some u /\
   wpAny (model P w) X.A (letOwnedTupleGo tg (.ref it) u) (λ_ s2=>∃x H',Inv X NP Y H' s2/\bB x u/\J.yld i H x H'/\tn (i+1) s2.heap/\∀b∈fp,H' b=none) E s1) E s
 done:∀(X:Cx),X.prog=P->X.w=w->X.K=K->X.calm=true->∀(i:Nat) (NP:NU) (s:Shared) (Y:St) (H:Hp) (E:NR),Inv X NP Y H s->(∀b∈fp,oK X NP H b)->tn i s.heap->J.stop i H ->
  wpAny (model P w) X.A (pyNext (.ref it)) (λr s1=>r=none/\Inv X NP Y H s1) E s
 self:∀(A:Around) (i:Nat) (s:Shared) (Q:NR) (E:NR),tn i s.heap->Q (.ref it) s->wpAny (model P w) A (pyIter (.ref it)) Q E s
abbrev TI:=St->Hp->(It->N4)->Prop
def PIE(X:Cx)(NP:NU)(Y:St)(tg:Expr)(R:It->N4)(itv:Value)(s2:Shared):Prop:=
 ∃(it:Addr) (fp:NZ) (tn:Nat->Heap->Prop) (J:It) (H':Hp),itv=.ref it/\Inv X NP Y H' s2/\vx X.prog X.w X.K tg J fp it tn/\tn 0 s2.heap/\(∀b∈fp,oK X NP H' b)/\R J H'
def PI(X:Cx)(tg iter:Expr)(wi:TI):Prop:=
 ∀(NP:NU) (s:Shared) (Y:St) (H:Hp) (R:It->N4),Inv X NP Y H s->wi Y H R ->
  wpAny (model X.prog X.w) X.A (eval iter X.env) (λv s1=>wpAny (model X.prog X.w) X.A (pyIter v) (PIE X NP Y tg R) X.xe s1) X.xe s
def wr{M:Model}{A:Around}{E:NR}{s:Shared}{tg:Expr}{it:Addr}{u:Value}{o:Obj}{n:String}{vs:N2}{Q:Unit->Shared->Prop}(ho:s.heap.get? it=some o)(hc:o.cls=.type n)(hd:o.data=.fields vs)
    (hn:["enumerate","zip","dict_itemiterator","dict_reverseitemiterator","odict_iterator","itertools.zip_longest","itertools.pairwise"].contains n=false) (hQ:Q .unit s):wpAny M A (letOwnedTupleGo tg (.ref it) u) Q E s:=by
  unfold letOwnedTupleGo;cases tg<;>first
    |exact wpAny_pure hQ
    | (cases u <;> first
        |exact wpAny_pure hQ
        | (refine wpAny_bind (wpAny_load ho ?_)
           rw[hc,hd];show wpAny M A (if(["enumerate","zip","dict_itemiterator","dict_reverseitemiterator","odict_iterator","itertools.zip_longest","itertools.pairwise"].contains n&&vs[0]?==some (rawInt _))=true then _ else _) Q E s;rw[if_neg (by intro h;rw[hn,Bool.false_and]at h;cases h)];exact wpAny_pure hQ))
def Itl(K:PySem.W.Frag)(a:Addr):It:=
 ⟨λi H=>∃xs x,SqL K H a xs/\xs[i]?=some x,λi H x H'=>H'=H/\∀xs,SqL K H a xs->xs[i]?=some x,λi H=>∃xs,SqL K H a xs/\xs.length<=i⟩
def Itt(K:PySem.W.Frag)(a:Addr):It:=
 ⟨λi H=>∃xs x,SqT K H a xs/\xs[i]?=some x,λi H x H'=>H'=H/\∀xs,SqT K H a xs->xs[i]?=some x,λi H=>∃xs,SqT K H a xs/\xs.length<=i⟩
def Itr(lo:Int)(n:Nat):It:=⟨λi _=>i<n,λi H x H'=>H'=H/\x=.int (lo+i),λi _=>n<=i⟩
theorem xc{P:Program}{w:World}{K:PySem.W.Frag}{tg:Expr}(a it:Addr):vx P w K tg (Itl K a) [it] it (λi h=>h.IsListIter it a i) where
 mem:=by simp
 obj:=λi h st b hb=>by
  have e:b=it:=by simpa using hb
  subst e;obtain⟨o,e,c,d⟩:=st;exact⟨o,e,λv z=>by lia⟩
 keep:=λi h h' st k=>st.at λo e=>k it () o e
 item:=by intro X hP hw hK hc i NP s Y H E I hf st hg;subst hP hw hK;obtain⟨xs,x,hq,hx⟩:=hg;obtain⟨its,rv,p,hz⟩:=I.list hq;obtain⟨u,hu,ru⟩:=rv.get hx;obtain⟨f0,f1,f2,f3,f4,f5⟩:=hf it ();refine wpAny_pyNext_list_item st p.isList (by simpa using hu) λh' st' sb=>?_;have I1:Inv X NP Y H {s with heap:=h'}:=I.turned (t':=s.toks) (λb o hb e=>(sb.2 b hb).trans e) f0 f1 f3 f4 f5;obtain⟨o,e,c,d⟩:=id st';exact⟨u,rfl,wr e c d () ⟨x,H,I1,ru,⟨rfl,λys hy=>by rw[I.list_inj hy hq];exact hx⟩,st',λb hb=>(hf b hb).1⟩⟩
 done:=by intro X hP hw hK hc i NP s Y H E I hf st hg;subst hP hw hK;obtain⟨xs,hq,hx⟩:=hg;obtain⟨its,rv,p,hz⟩:=I.list hq;obtain⟨f0,f1,f2,f3,f4,f5⟩:=hf it ();have hl:=rv.length;exact wpAny_pyNext_list_end (I.ok.hd hc) st p.isList (by simp;lia) λh' eb=>⟨rfl,I.turned (t':=s.toks) (λb o hb e=>eb b o hb e) f0 f1 f3 f4 f5⟩
 self:=λ_ _ _ _ _ st h=>wpAny_pyIter_listiter st h
def ur{P:Program}{w:World}{K:PySem.W.Frag}{tg:Expr}(a it:Addr):vx P w K tg (Itt K a) [it] it (λi h=>h.IsTupleIter it a i) where
 mem:=by simp
 obj:=λi h st b hb=>by
  have e:b=it:=by simpa using hb
  subst e;obtain⟨o,e,c,d⟩:=st;exact⟨o,e,λv z=>by lia⟩
 keep:=λi h h' st k=>st.at λo e=>k it () o e
 item:=by intro X hP hw hK hc i NP s Y H E I hf st hg;subst hP hw hK;obtain⟨xs,x,hq,hx⟩:=hg;obtain⟨its,rv,p,hz⟩:=I.tuple hq;obtain⟨u,hu,ru⟩:=rv.get hx;obtain⟨f0,f1,f2,f3,f4,f5⟩:=hf it ();refine wpAny_pyNext_tuple_item st (show s.heap.IsTuple a its.toArray from p) (by simpa using hu) λh' st' sb=>?_;have I1:Inv X NP Y H {s with heap:=h'}:=I.turned (t':=s.toks) (λb o hb e=>(sb.2 b hb).trans e) f0 f1 f3 f4 f5;obtain⟨o,e,c,d⟩:=id st';exact⟨u,rfl,wr e c d () ⟨x,H,I1,ru,⟨rfl,λys hy=>by rw[I.tuple_inj hy hq];exact hx⟩,st',λb hb=>(hf b hb).1⟩⟩
 done:=by intro X hP hw hK hc i NP s Y H E I hf st hg;subst hP hw hK;obtain⟨xs,hq,hx⟩:=hg;obtain⟨its,rv,p,hz⟩:=I.tuple hq;obtain⟨f0,f1,f2,f3,f4,f5⟩:=hf it ();have hl:=rv.length;exact wpAny_pyNext_tuple_end (I.ok.hd hc) st (show s.heap.IsTuple a its.toArray from p) (by simp;lia) λh' eb=>⟨rfl,I.turned (t':=s.toks) (λb o hb e=>eb b o hb e) f0 f1 f3 f4 f5⟩
 self:=λ_ _ _ _ _ st h=>wpAny_pyIter_tupleiter st h
theorem ut{P:Program}{w:World}{K:PySem.W.Frag}{tg:Expr}(it:Addr)(lo:Int)(n:Nat):vx P w K tg (Itr lo n) [it] it (λi h=>IsRangeIter h it (lo+(i:Nat)*1) ((n:Int)-(i:Nat)) 1) where
 mem:=by simp
 obj:=λi h st b hb=>by
  have e:b=it:=by simpa using hb
  subst e;exact ⟨_,st,λv z=>by
   have z':Data.fields _=Data.cell v:=z;cases z'⟩
 keep:=λi h h' st k=>k it () _ st
 item:=by intro X hP hw hK hc i NP s Y H E I hf st hg;subst hP hw hK;obtain⟨f0,f1,f2,f3,f4,f5⟩:=hf it ();have W:=Walks.range (prog:=X.prog) (w:=X.w) (I.ok.hd hc) it lo 1 n;refine W.item i s _ _ hg st λv h' tk hv st' kk=>?_;obtain⟨t,rfl⟩:=hv;have I1:Inv X NP Y H {s with heap:=h',toks:=tk}:=I.turned (λb o hb e=>kk b o (by simpa using hb) e) f0 f1 f3 f4 f5;refine⟨_,rfl,wr (s:={s with heap:=h',toks:=tk}) (n:="range_iterator") st' rfl rfl () ⟨.int (lo+i),H,I1,⟨t,?_⟩,⟨rfl,rfl⟩,st',λb hb=>(hf b hb).1⟩⟩;rw[Int.mul_one]
 done:=by intro X hP hw hK hc i NP s Y H E I hf st hg;subst hP hw hK;obtain⟨f0,f1,f2,f3,f4,f5⟩:=hf it ();exact wpAny_pyNext_range_end (I.ok.hd hc) st (by have:n<=i:=hg;lia) λh' eb=>⟨rfl,I.turned (t':=s.toks) (λb o hb e=>eb b o hb e) f0 f1 f3 f4 f5⟩
 self:=λ_ _ _ _ _ st h=>wpAny_pyIter_rangeiter st h
end
section
section
variable{X:Cx}{tg:Expr}
theorem sd{NP:NU}{Y:St}{H:Hp}{s:Shared}{R:It->N4}{E:NR}{lo hi:Int}{t u v:Tok}{tk:Nat}(I:Inv X NP Y H s)(h1:-(2 ^ 62)<= lo)(h2:lo<2 ^ 62)(h3:-(2 ^ 62)<= hi)(h4:hi<2 ^ 62)
  (q:R (Itr lo (hi-lo).toNat) H):wpAny (model X.prog X.w) X.A (pyIter (.ref s.heap.objs.size)) (PIE X NP Y tg R) E {s with heap:=s.heap.push {cls:=.type "range",data:=.fields #[.int lo t,.int hi u,.int 1 v]},toks:=tk}:=by
 refine wpAny_pyIter_range (IsRange.new ..) (small_one h1 h2 h3 h4) ?_;have I1:Inv X NP Y H {s with heap:=s.heap.push {cls:=.type "range",data:=.fields #[.int lo t,.int hi u,.int 1 v]},toks:=tk}:=I.kept λb o e=>get?_push_of_some _ e;refine ⟨(s.heap.push { cls:=.type "range", data:=.fields #[.int lo t,.int hi u,.int 1 v] }).objs.size,[(s.heap.push { cls:=.type "range", data:=.fields #[.int lo t,.int hi u,.int 1 v] }).objs.size],_,_,H,rfl,
  I1.kept (t':=tk) λb o e=>get?_push_of_some _ e,ut _ lo (hi-lo).toNat,?_,λb hb=>?_,q⟩
 .have e1:lo+((0:Nat):Int)*1=lo:=by simp
  have e2:(((hi-lo).toNat:Nat):Int)-((0:Nat):Int)=Builtin.Range.rangeSize lo hi 1:=by rw[rangeSize_one];split<;>lia
  show IsRangeIter _ _ (lo+((0:Nat):Int)*1) ((((hi-lo).toNat:Nat):Int)-((0:Nat):Int)) 1;rw[e1,e2];exact get?_push_size _ rfl
 .have e:b=(s.heap.push {cls:=.type "range",data:=.fields #[.int lo t,.int hi u,.int 1 v]}).objs.size:=by simpa using hb
  subst e;exact I1.fpOk (Nat.le_refl _) (I1.hok.fresh (Nat.le_refl _))
def K6(ta:TA):TI:=λY H R=>ta Y H λvs H1=>∃j:Int,vs=[.int j]/\-(2 ^ 62)<= j/\j<2 ^ 62/\R (Itr 0 j.toNat) H1
def K5(ta:TA):TI:=λY H R=>ta Y H λvs H1=>∃i j:Int,vs=[.int i,.int j]/\(-(2 ^ 62)<= i/\i<2 ^ 62/\-(2 ^ 62)<= j/\j<2 ^ 62)/\R (Itr i (j-i).toNat) H1
def pB{a:Expr}{ta:TA}{p pos:Pos}(hg:Gl X "range")(hm:X.mg "range"=none)(ha:PA X [a] ta)(hs:starEach [a] X.env=[(false,eval a X.env)]:=by rfl):PI X tg (.Call (.Name "range" p) [a] [] pos) (K6 ta):=by
 intro NP s Y H R I h;refine Call_ (iN I hg hm boot_range (PyProof.Rows.callWith_type1 (thn (ha pos NP s Y H _ I h) λus s1 zz=>?_) hs rfl));obtain⟨vs,H1,I1,r1,q1⟩:=zz;obtain⟨j,e,q1,q2,q⟩:=q1;subst e;cases r1 with
 |cons r rr=>cases rr;obtain⟨t,rfl⟩:=r;exact call_range_1 (sd I1 () () q1 q2 (by simpa using q))
def xP{a b:Expr}{ta:TA}{p pos:Pos}(hg:Gl X "range")(hm:X.mg "range"=none)(ha:PA X [a,b] ta)(hs:starEach [a,b] X.env=[(false,eval a X.env),(false,eval b X.env)]:=by rfl)(hs2:starEach [b] X.env=[(false,eval b X.env)]:=by rfl) :
  PI X tg (.Call (.Name "range" p) [a,b] [] pos) (K5 ta):=by
 intro NP s Y H R I h;refine Call_ (iN I hg hm boot_range (PyProof.Rows.callWith_type1 (thn (ha pos NP s Y H _ I h) λus s1 zz=>?_) (by rw[hs,hs2]) (by rw[hs2];rfl)));obtain⟨vs,H1,I1,r1,q1⟩:=zz;obtain⟨i,j,e,⟨q1,q2,q3,q4⟩,q⟩:=q1;subst e;cases r1 with
 |cons r rr=>
  cases rr with
  |cons r' rr=>cases rr;obtain⟨t,rfl⟩:=r;obtain⟨t',rfl⟩:=r';exact call_range_2 (sd I1 q1 q2 q3 q4 q)
def MF(wi:TI)(g:TG)(tb:TS):TS:=λD Y H=>wi Y H λJ H1=>∃W:Nat->Nat->St->N4,(∃m,W 0 m Y H1)/\∀i m Y H,W i m Y H ->
 (J.stop i H/\D.nx Y H)\/(J.go i H/\∃N:St->N4,(∀σ' H',N σ' H'->∃m',m'<m/\W (i+1) m' σ' H')/\∀x H',J.yld i H x H'->g x Y H' λσ2 H2=>tb {D with nx:=N,ct:=N,bk:=D.nx} σ2 H2)
def nK(fp:NZ)(h:Heap):NU:=fp.filterMap λb=>(h.get? b).map λo=>(b,o)
def iK{fp:NZ}{h:Heap}{b:Addr}{o:Obj}(hb:b∈fp)(e:h.get? b=some o):(b,o)∈ nK fp h:=List.mem_filterMap.mpr ⟨b,hb,by rw[e];rfl⟩
def xX{fp:NZ}{h:Heap}{p:Addr×Obj}(hp:p∈nK fp h):p.1∈fp/\h.get? p.1=some p.2:=by
 obtain⟨b,hb,e⟩:=List.mem_filterMap.mp hp;cases q:h.get? b with
 |none=>rw[q]at e;cases e
 |some o=>rw[q]at e;have e':(b,o)=p:=Option.some.inj e;subst e';exact⟨hb,q⟩
def Inv.pinned{NP:NU}{Y:St}{H:Hp}{s:Shared}{fp:NZ}(I:Inv X NP Y H s)(hf:∀b∈fp,oK X NP H b)(ho:∀b∈fp,∃o,s.heap.get? b=some o/\∀v,o.data≠.cell v):Inv X (NP++nK fp s.heap) Y H s:=
 I.pins_of λp hp=>(mem_append.mp hp).elim (λz=>I.pin p (mem_append_right _ z)) λz=>by obtain⟨hb,e⟩:=xX z;obtain⟨f0,f1,f2,_⟩:=hf p.1 hb;obtain⟨o,e',d⟩:=ho p.1 hb;rw[e]at e';cases e';exact⟨e,f0,f1,f2,d⟩
def Inv.unpinned{NP pl:NU}{Y:St}{H:Hp}{s:Shared}(I:Inv X (NP++pl) Y H s):Inv X NP Y H s:=I.pins_of λp hp=>I.pin p (mem_append_right _ (mem_append_left _ hp))
def Gp{iter:Expr}{body:List Stmt}{wi:TI}{g:TG}{tb:TS}{pos:Pos}(hp:PassesOwn (model X.prog X.w) X.A X.env X.xe)(hc:X.calm=true)(hi:PI X tg iter wi)(hg:PG X tg g)(hb:PSs X body tb)
  (hs:∀x,foldedSetIterable iter X.env x=pure x:=by intro _;rfl):PS X (.For tg iter body [] pos) (MF wi g tb):=by
 intro NP s Y H D I h;refine wpAny_For (thn (hi NP s Y H _ I h) λv s1 h1=>thn h1 λitv s2 h2=>?_) hs;obtain⟨it,fp,tn,J,H2,e,I2,T,st2,f2,W,⟨m0,w0⟩,turn⟩:=h2;subst e;have stat:∀{H':Hp},(∀b∈fp,H' b=none)->∀b∈fp,oK X NP H' b:=λhn b hb=>⟨hn b hb,(f2 b hb).2⟩
 refine codeAny_forLoop_any (λn s'=>∃i σ' H',Inv X NP σ' H' s'/\tn i s'.heap/\(∀b∈fp,H' b=none)/\W i n σ' H') ?_ m0 ⟨0,Y,H2,I2,st2,λb hb=>(f2 b hb).1,w0⟩;rintro n s3 ⟨i,σ3,H3,I3,st3,fr3,w3⟩;rcases turn i n σ3 H3 w3 with⟨stop,qn⟩ |⟨go,N,hN,step⟩
 .refine wpAny_passesOwn hp (thn (T.done X rfl rfl rfl hc i NP s3 σ3 H3 X.xe I3 (stat fr3) st3 stop) λr s4 ⟨hr,I4⟩=>?_);subst hr;exact wpAny_execs_nil ⟨σ3,H3,I4,qn⟩
 .refine wpAny_passesOwn hp (thn (T.item X rfl rfl rfl hc i NP s3 σ3 H3 X.xe I3 (stat fr3) st3 go) λr s4 ⟨u,hr,h4⟩=>?_);subst hr;refine wpAny_passesOwn hp (thn h4 λ_ s5 zz=>?_);obtain⟨x,H5,I5,r5,y5,st5,fr5⟩:=zz;have I5':=I5.pinned (stat fr5) (T.obj _ _ st5);refine wpAny_passesOwn hp (thn (hg _ s5 σ3 H5 x u _ I5' r5 (step x H5 y5)) λ_ s6 ⟨σ6,H6,I6,q6⟩=>?_);refine wpAny_passesOwn hp (thn (hb _ s6 σ6 H6 _ I6 q6) λf s7 q7=>?_);have again:∀{σ7:St}{H7:Hp},Inv X (NP++nK fp s5.heap) σ7 H7 s7->N σ7 H7->∃m,m<n/\∃i σ' H',Inv X NP σ' H' s7/\tn i s7.heap/\(∀b∈fp,H' b=none)/\W i m σ' H':=λ{σ7 H7} I7 n7=>by obtain⟨m',hm,w7⟩:=hN σ7 H7 n7;refine⟨m',hm,i+1,σ7,H7,I7.unpinned,T.keep _ _ _ st5 λb hb o e=>(I7.pin (b,o) (mem_append_right _ (mem_append_right _ (iK hb e)))).1,λb hb=>?_,w7⟩;obtain⟨o,e,d⟩:=T.obj _ _ st5 b hb;exact(I7.pin (b,o) (mem_append_right _ (mem_append_right _ (iK hb e)))).2.1
  cases f with
  |next|cont=>obtain⟨σ7,H7,I7,n7⟩:=q7;exact again I7 n7
  |brk=>obtain⟨σ7,H7,I7,q7⟩:=q7;exact⟨σ7,H7,I7.unpinned,q7⟩
  |ret v=>obtain⟨x7,σ7,H7,I7,r7,q7⟩:=q7;exact⟨x7,σ7,H7,I7.unpinned,r7,q7⟩
end
end
section
abbrev R2:=V->V->Hp->VK->Prop
def OpR(X:Cx)(f:Value->Value->Sem Value)(r:R2):Prop:=
 ∀(NP:NU) (s:Shared) (Y:St) (H:Hp) (x y:V) (v u:Value) (Q:VK),Inv X NP Y H s->bB x v->bB y u->r x y H Q ->
  wpAny (model X.prog X.w) X.A (f v u) (EP X NP Y Q) X.xe s
def UnR(X:Cx)(f:Value->Sem Value)(r:V->Hp->VK->Prop):Prop:=
 ∀(NP:NU) (s:Shared) (Y:St) (H:Hp) (x:V) (v:Value) (Q:VK),Inv X NP Y H s->bB x v->r x H Q ->
  wpAny (model X.prog X.w) X.A (f v) (EP X NP Y Q) X.xe s
def dN(X:Cx)(f:Value)(r:N3->Hp->VK->Prop):Prop:=
 ∀(NP:NU) (s:Shared) (Y:St) (H:Hp) (xs:N3) (us:NY) (Q:VK),Inv X NP Y H s->aU xs us->r xs H Q ->
  wpAny (model X.prog X.w) X.A (call f us) (EP X NP Y Q) X.xe s
def Nu(X:Cx)(r:V->Hp->(Bool->N4)->Prop):Prop:=
 ∀(NP:NU) (s:Shared) (Y:St) (H:Hp) (x:V) (v:Value) (Q:Bool->N4),Inv X NP Y H s->bB x v->r x H Q ->
  wpAny (model X.prog X.w) X.A (truthy v) (TP X NP Y Q) X.xe s
def tOp(r:R2)(ta tb:TE):TE:=λY H Q=>ta Y H λx H1=>tb Y H1 λy H2=>r x y H2 Q
def tUn(r:V->Hp->VK->Prop)(ta:TE):TE:=λY H Q=>ta Y H λx H1=>r x H1 Q
def rI(C:Int->Int->Prop)(g:Int->Int->V):R2:=λx y H Q=>∃i j,x=.int i/\y=.int j/\C i j/\Q (g i j) H
def rI0(g:Int->Int->V):R2:=λx y H Q=>∃i j,x=.int i/\y=.int j/\Q (g i j) H
def rU(g:Int->V):V->Hp->VK->Prop:=λx H Q=>∃i,x=.int i/\Q (g i) H
section
variable{X:Cx}{a b c:Expr}{ta tb tc:TE}{pos:Pos}
def IX(ha:PE X a ta)(hb:PE X b tb){NP:NU}{s:Shared}{Y:St}{H:Hp}{R:V->V->N4}(I:Inv X NP Y H s)
  (h:ta Y H λx H1=>tb Y H1 λy H2=>R x y H2) {Q:NR}{f:Value->Value->Sem Value}
  (hf:∀v u s2 x y H2,Inv X NP Y H2 s2->bB x v->bB y u->R x y H2->wpAny (model X.prog X.w) X.A (f v u) Q X.xe s2) :
  wpAny (model X.prog X.w) X.A (eval a X.env) (λv s₁=>wpAny (model X.prog X.w) X.A (eval b X.env) (λu s₂=>wpAny (model X.prog X.w) X.A (f v u) Q X.xe s₂) X.xe s₁) X.xe s:=by
 refine thn (ha NP s Y H _ I h) λv s1 hz1=>?_;obtain⟨x,H1,I1,r1,q1⟩:=hz1;refine thn (hb NP s1 Y H1 _ I1 q1) λu s2 hz1=>?_;obtain⟨y,H2,I2,r2,q2⟩:=hz1;exact hf v u s2 x y H2 I2 r1 r2 q2
def Kg{op:Operator}{r:R2}(ho:OpR X (binaryOp op) r)(ha:PE X a ta)(hb:PE X b tb):PE X (.BinOp a op b pos) (tOp r ta tb):=by intro NP s Y H Q I h;exact wpAny_BinOp (IX ha hb I h λv u s2 x y H2 I2 rx ry q=>ho NP s2 Y H2 x y v u Q I2 rx ry q)
def Ke{op:UnaryOp}{r:V->Hp->VK->Prop}(ho:UnR X (unaryOp op) r)(ha:PE X a ta):PE X (.UnaryOp op a pos) (tUn r ta):=by intro NP s Y H Q I h;exact UnaryOp_ (thn (ha NP s Y H _ I h) λv s1 ⟨x,H1,I1,r1,q1⟩=>ho NP s1 Y H1 x v Q I1 r1 q1)
def opI{f:Value->Value->Sem Value}{C:Int->Int->Prop}{g:Int->Int->Int}
  (rule:∀(i j:Int) (t u:Tok) (s:Shared) (Q:NR) (E:NR),C i j->Q (.int (g i j) s.toks) {s with toks:=s.toks+1}->wpAny (model X.prog X.w) X.A (f (.int i t) (.int j u)) Q E s) :
  OpR X f (rI C λi j=>.int (g i j)):=by
 intro NP s Y H x y v u Q I rx ry h;obtain⟨i,j,rfl,rfl,hc,q⟩:=h;obtain⟨t,rfl⟩:=rx;obtain⟨t',rfl⟩:=ry;exact rule i j t t' s _ _ hc ⟨.int (g i j),H,I.tok _,⟨_,rfl⟩,q⟩
def Dn{f:Value->Value->Sem Value}{g:Int->Int->Int}
  (rule:∀(i j:Int) (t u:Tok) (s:Shared) (Q:NR) (E:NR),Q (.int (g i j) s.toks) {s with toks:=s.toks+1}->wpAny (model X.prog X.w) X.A (f (.int i t) (.int j u)) Q E s) :
  OpR X f (rI0 λi j=>.int (g i j)):=by
 intro NP s Y H x y v u Q I rx ry h;obtain⟨i,j,rfl,rfl,q⟩:=h;obtain⟨t,rfl⟩:=rx;obtain⟨t',rfl⟩:=ry;exact rule i j t t' s _ _ ⟨.int (g i j),H,I.tok _,⟨_,rfl⟩,q⟩
def Do{f:Value->Value->Sem Value}{g:Int->Int->Bool}
  (rule:∀(i j:Int) (t u:Tok) (s:Shared) (Q:NR) (E:NR),Q (.bool (g i j)) s->wpAny (model X.prog X.w) X.A (f (.int i t) (.int j u)) Q E s) :
  OpR X f (rI0 λi j=>.bl (g i j)):=by
 intro NP s Y H x y v u Q I rx ry h;obtain⟨i,j,rfl,rfl,q⟩:=h;obtain⟨t,rfl⟩:=rx;obtain⟨t',rfl⟩:=ry;exact rule i j t t' s _ _ ⟨.bl (g i j),H,I,rfl,q⟩
def NE(i j:Int):Prop:=0<j/\j<1073741824
def ND(i j:Int):Prop:=0<=j/\j<=1000000/\i.natAbs<2 ^ 64
def Jn(i j:Int):Prop:=(-(2 ^ 64)<i/\i<2 ^ 64)\/(-(2 ^ 64)<j/\j<2 ^ 64)
def Jn.ok{i j:Int}(h:Jn i j):IntMulOk i j:=by
 rcases h with⟨h1,h2⟩ |⟨h1,h2⟩
 .exact .of_left (intBits_le_64 h1 h2)
 .exact .of_right (intBits_le_64 h1 h2)
theorem um(k:Nat):(0:Int)<= 2 ^ k:=by lia
def GX:OpR X (binaryOp .Add) (rI0 λi j=>.int (i+j)):=Dn λ_ _ _ _ _ _ _ q=>add_int q
def GL:OpR X (binaryOp .Sub) (rI0 λi j=>.int (i-j)):=Dn λ_ _ _ _ _ _ _ q=>sub_int q
def GO:OpR X (binaryOp .Mult) (rI Jn λi j=>.int (i*j)):=opI λ_ _ _ _ _ _ _ hc q=>mul_int q hc.ok
theorem Dk:OpR X (binaryOp .FloorDiv) (rI NE λi j=>.int (i / j)):=opI λi j _ _ _ _ _ hc q=>by have h1:(0:Int)<j:=hc.1;have h2:j<1073741824:=hc.2;exact floordiv_int () (by rw[Int.fdiv_eq_ediv_of_nonneg i ()];exact q) (.inl (PyProof.noPylong_small ()))
def GQ:OpR X (binaryOp .Mod) (rI (λ_ j=>0<j) λi j=>.int (i%j)):=opI λi j _ _ _ _ _ hc q=>by exact mod_int' () (by rw[Int.fmod_eq_emod_of_nonneg i ()];exact q)
def GN:OpR X (binaryOp .Pow) (rI ND λi j=>.int (i ^ j.toNat)):=opI λ_ _ _ _ _ _ _ hc q=>pow_int_small hc.1 hc.2.1 hc.2.2 q
def GM:OpR X (binaryOp .RShift) (rI (λ_ j=>0<=j) λi j=>.int (i / 2 ^ j.toNat)):=opI λi j _ _ _ _ _ hc q=>
 rshift_int hc (by rw[Int.fdiv_eq_ediv_of_nonneg i (um _)];exact q)
def GW:OpR X (binaryOp .BitAnd) (rI0 λi j=>.int (Builtin.bitAnd i j)):=Dn λ_ _ _ _ _ _ _ q=>and_int q
def DR:OpR X (inplaceOp .Add) (rI0 λi j=>.int (i+j)):=Dn λ_ _ _ _ _ _ _ q=>iadd_int q
def unI{f:Value->Sem Value}{g:Int->Int}
  (rule:∀(i:Int) (t:Tok) (s:Shared) (Q:NR) (E:NR),Q (.int (g i) s.toks) {s with toks:=s.toks+1}->wpAny (model X.prog X.w) X.A (f (.int i t)) Q E s) :
  UnR X f (rU λi=>.int (g i)):=by
 intro NP s Y H x v Q I rx h;obtain⟨i,rfl,q⟩:=h;obtain⟨t,rfl⟩:=rx;exact rule i t s _ _ ⟨.int (g i),H,I.tok _,⟨_,rfl⟩,q⟩
def Fy:UnR X (unaryOp .USub) (rU λi=>.int (-i)):=unI λ_ _ _ _ _ q=>neg_int q
def vm{NP:NU}{Y:St}{H:Hp}{s:Shared}{Q:VK}{k k':Bool}(I:Inv X NP Y H s)(q:Q (.bl k) H)(e:k=k'):EP X NP Y Q (.bool k') s:=by subst e;exact⟨.bl k,H,I,rfl,q⟩
def Km:OpR X (compareOp .Lt) (rI0 λi j=>.bl (decide (i<j))):=Do λ_ _ _ _ _ _ _ q=>lt_int q
def wb:OpR X (compareOp .LtE) (rI0 λi j=>.bl (decide (i<=j))):=Do λ_ _ _ _ _ _ _ q=>le_int q
def EK:OpR X (compareOp .Gt) (rI0 λi j=>.bl (decide (j<i))):=Do λ_ _ _ _ _ _ _ q=>gt_int q
def Kn:OpR X (compareOp .GtE) (rI0 λi j=>.bl (decide (j<=i))):=Do λ_ _ _ _ _ _ _ q=>ge_int q
def xW:OpR X (compareOp .In) (λx y H Q=>∃i j,x=.str i/\y=.str j/\Q (.bl (!(Builtin.Str.occurrences j i 0 j.length 1).isEmpty)) H):=by intro NP s Y H x y v u Q I rx ry h;obtain⟨i,j,rfl,rfl,q⟩:=h;obtain⟨t,rfl⟩:=rx;obtain⟨t',rfl⟩:=ry;exact in_str (vm I q rfl)
def GU:OpR X (compareOp .Is) (λx y H Q=>y=.non/\Q (.bl (decide (x=.non))) H):=by
 intro NP s Y H x y v u Q I rx ry h;obtain⟨rfl,q⟩:=h;cases ry;refine is_none_gen (vm I q ?_);cases x<;>first
  |(cases rx;rfl)
  |(obtain⟨t,rfl⟩:=rx;rfl)
def Di:OpR X (compareOp .IsNot) (λx y H Q=>y=.non/\Q (.bl (!decide (x=.non))) H):=by
 intro NP s Y H x y v u Q I rx ry h;obtain⟨rfl,q⟩:=h;cases ry;refine isnot_none_gen (vm I q ?_);cases x<;>first
  |(cases rx;rfl)
  |(obtain⟨t,rfl⟩:=rx;rfl)
def OpR.or{f:Value->Value->Sem Value}{r r':R2}(h:OpR X f r)(h':OpR X f r'):OpR X f (λx y H Q=>r x y H Q\/r' x y H Q):=by
 intro NP s Y H x y v u Q I rx ry q;rcases q with q|q
 .exact h NP s Y H x y v u Q I rx ry q
 .exact h' NP s Y H x y v u Q I rx ry q
theorem eV(b:Expr){op:CmpOp}(h:op≠.In:=by decide)(h2:op≠.NotIn:=by decide):behindInMarks op b=false:=by
 have e1:(op==CmpOp.In)=false:=by lia
 have e2:(op==CmpOp.NotIn)=false:=by lia
 cases b<;>simp[behindInMarks,e1,e2]
def De{op:CmpOp}{r:R2}(ho:OpR X (compareOp op) r)(ha:PE X a ta)(hb:PE X b tb)(hm:behindInMarks op b=false):PE X (.Compare a [op] [b] pos) (tOp r ta tb):=by intro NP s Y H Q I h;exact wpAny_Compare1 (IX ha hb I h λv u s2 x y H2 I2 rx ry q=>ho NP s2 Y H2 x y v u Q I2 rx ry q) hm
def JQ(t:TE):TT:=λY H Q=>t Y H λx H'=>∃k,x=.bl k/\Q k H'
def vZ{op:CmpOp}{r:R2}(ho:OpR X (compareOp op) r)(ha:PE X a ta)(hb:PE X b tb)(hm:behindInMarks op b=false):PT X (.Compare a [op] [b] pos) (JQ (tOp r ta tb)):=by
 intro NP s Y H Q I h;refine wpAny_isTrue_Compare1 (thn (ha NP s Y H _ I h) λv s1 ⟨x,H1,I1,r1,q1⟩=>thn (hb NP s1 Y H1 _ I1 q1) λu s2 ⟨y,H2,I2,r2,q2⟩=>
  thn (ho NP s2 Y H2 x y v u _ I2 r1 r2 q2) λc s3 ⟨z,H3,I3,r3,k,e,q3⟩=>?_) hm
 subst e;cases r3;exact wpAny_truthy_bool ⟨H3,I3,q3⟩
def y3(r r':R2)(ta tb tc:TE):TE:=λY H Q=>ta Y H λx H1=>tb Y H1 λy H2=>r x y H2 λz H3=>∃k,z=.bl k /\
 (if k=true then tc Y H3 λw' H4=>r' y w' H4 Q else Q (.bl false) H3)
def zS{op op':CmpOp}{r r':R2}(ho:OpR X (compareOp op) r)(ho':OpR X (compareOp op') r')(ha:PE X a ta)(hb:PE X b tb)(hc:PE X c tc)
  (hm:lastMarks [op,op'] [b,c]=false:=by with_unfolding_all rfl):PE X (.Compare a [op,op'] [b,c] pos) (y3 r r' ta tb tc):=by
 intro NP s Y H Q I h;refine Compare_chain (thn (ha NP s Y H _ I h) λv s1 ⟨x,H1,I1,r1,q1⟩=>chain_link (thn (hb NP s1 Y H1 _ I1 q1) λu s2 ⟨y,H2,I2,r2,q2⟩=>
  thn (ho NP s2 Y H2 x y v u _ I2 r1 r2 q2) λd s3 ⟨z,H3,I3,r3,k,e,q3⟩=>?_)) hm
 subst e;cases r3;refine wpAny_truthy_bool ?_;cases k with
 |false=>exact ite_ff ⟨.bl false,H3,I3,rfl,q3⟩
 |true=>exact ite_tt (chain_last (thn (hc NP s3 Y H3 _ I3 q3) λw' s4 ⟨z',H4,I4,r4,q4⟩=>ho' NP s4 Y H4 y z' u w' Q I4 r2 r4 q4))
def LV(K:PySem.W.Frag)(x:V)(H:Hp)(k:Bool):Prop:=
 match x with
 |.non=>k=false
 |.bl b=>k=b
 |.int i=>k=(i != 0)
 |.str y=>y.length<=sizeLine/\k=((y.length:Int) != 0)
 |.byt y=>y.size<=sizeLine/\k=((y.size:Int) != 0)
 |.ref p=>(∃xs,SqL K H p xs/\k=!xs.isEmpty)\/(∃xs,SqT K H p xs/\k=!xs.isEmpty)\/ ∃kvs,H p=some (.dK kvs)/\k=!kvs.isEmpty
 |_=>False
def ve{κ:Type}{kvs:List (κ×V)}{vs:List (κ×Value)}(r:KV kvs vs):(!vs.isEmpty)=!kvs.isEmpty:=by cases r<;>rfl
def om{xs:N3}{its:NY}(r:aU xs its):(!its.toArray.isEmpty)=!xs.isEmpty:=by cases r<;>simp
def lF:(sizeLine:Nat)<2 ^ 63:=by rw[sizeLine_eq];decide
theorem FC:Nu X (λx H Q=>∃k,LV X.K x H k/\Q k H):=by
 intro NP s Y H x v Q I rx h;obtain⟨k,e,q⟩:=h;have hs:sizeLine=16777216:=sizeLine_eq;cases x with
 |non=>cases rx;have e':k=false:=e;subst e';exact truthy_none ⟨H,I,q⟩
 |bl b=>cases rx;have e':k=b:=e;subst e';exact wpAny_truthy_bool ⟨H,I,q⟩
 |int i=>obtain⟨t,rfl⟩:=rx;have e':k=(i != 0):=e;subst e';exact PySem.P.truthy_int ⟨H,I,q⟩
 |str y=>obtain⟨t,rfl⟩:=rx;obtain⟨hy,e'⟩:y.length<=sizeLine/\k=((y.length:Int) != 0):=e;subst e';exact PySem.P.truthy_str () ⟨H,I.tok _,q⟩
 |byt y=>obtain⟨t,rfl⟩:=rx;obtain⟨hy,e'⟩:y.size<=sizeLine/\k=((y.size:Int) != 0):=e;subst e';exact PySem.W.truthy_bytes () ⟨H,I.tok _,q⟩
 |ref p=>
  cases rx;have e':(∃xs,SqL X.K H p xs/\k=!xs.isEmpty)\/(∃xs,SqT X.K H p xs/\k=!xs.isEmpty)\/ ∃kvs,H p=some (.dK kvs)/\k=!kvs.isEmpty:=e;rcases e' with⟨xs,hx,e'⟩ |⟨xs,hx,e'⟩ |⟨kvs,hx,e'⟩
  .subst e';obtain⟨its,r,pl,hz⟩:=I.list hx;have hlen:=r.length;exact wpAny_truthy_list pl.isList (by simp;lia) ⟨H,I.tok _,by rw[om r];exact q⟩
  .subst e';obtain⟨its,r,pl,hz⟩:=I.tuple hx;have hlen:=r.length;exact truthy_tuple pl (by simp;lia) ⟨H,I.tok _,by rw[om r];exact q⟩
  .subst e';obtain⟨hz,hS,vs,r,m⟩:kvs.length<=sizeLine/\(p==sysModules)=false/\∃vs,KV kvs vs/\s.heap.DictOf (eD X.prog X.w) p vs:=I.hok p _ hx;have hlen:kvs.length=vs.length:=Paired.length r;exact wpAny_truthy_dict hS m () ⟨H,I.tok _,by rw[ve r];exact q⟩
 |_=>exact(show False from e).elim
def zB(ha:PE X a ta)(he:∀whole,isTrue a X.env whole=(do let v <- whole;standAt a.pos;holding [v] (truthy v))) :
  PT X a (λY H Q=>ta Y H λx H'=>∃k,LV X.K x H' k/\Q k H'):=by
 intro NP s Y H Q I h;exact isTrue_plain (thn (ha NP s Y H _ I h) λv s1 ⟨x,H1,I1,r1,q1⟩=>FC NP s1 Y H1 x v Q I1 r1 q1) (he _)
def uS:OpR X (binaryOp .Add) (λx y H Q=>∃i j,x=.str i/\y=.str j/\i.length+j.length<=sizeLine/\Q (.str (i++j)) H):=by intro NP s Y H x y v u Q I rx ry h;obtain⟨i,j,rfl,rfl,hz,q⟩:=h;obtain⟨t,rfl⟩:=rx;obtain⟨t',rfl⟩:=ry;exact add_str (λt' tk=>⟨.str (i++j),H,I.tok _,⟨_,rfl⟩,q⟩) hz
def eO{x:V}{us:NY}(r:aU [x] us):∃u,us=[u]/\bB x u:=by
 cases r with
 |cons r1 r2=>cases r2;exact⟨_,rfl,r1⟩
def JN{x y:V}{us:NY}(r:aU [x,y] us):∃u w',us=[u,w']/\bB x u/\bB y w':=by
 cases r with
 |cons r1 r2=>
  cases r2 with
  |cons r3 r4=>cases r4;exact⟨_,_,rfl,r1,r3⟩
def yH(hc:X.calm=true):dN X (.builtin "min") (λxs H Q=>∃i j,xs=[.int i,.int j]/\Q (.int (if j<i then j else i)) H):=by
 intro NP s Y H xs us Q I r h;obtain⟨i,j,rfl,q⟩:=h;obtain⟨u,w',rfl,⟨t,rfl⟩,⟨t',rfl⟩⟩:=JN r;refine min_two_ints (I.ok.hd hc) λh' tk k=>⟨_,H,I.kept k,?_,q⟩
 by_cases hj:j<i
 .rw[if_pos hj,if_pos hj];exact⟨_,rfl⟩
 .rw[if_neg hj,if_neg hj];exact⟨_,rfl⟩
def kU:dN X (.type "str") (λxs H Q=>∃i,xs=[.int i]/\i.natAbs.log2<1920/\Q (.str (toString i)) H):=by intro NP s Y H xs us Q I r h;obtain⟨i,rfl,hz,q⟩:=h;obtain⟨u,rfl,t,rfl⟩:=eO r;exact PySem.P.str_of_int hz ⟨.str _,H,I.tok _,⟨_,rfl⟩,q⟩
end
end
section
structure vz(h:Heap)(x dx C:Addr)(mA:NS):Prop where
 obj:h.get? x=some (instObj C dx)
 ns:h.Ns1 dx mA
 ne:dx≠x
def yf{h:Heap}{dx:Addr}{mA:NS}(n:h.Ns1 dx mA):∃od,h.get? dx=some od/\∀name,lookIn name od=some (mA name):=by
 obtain⟨o,es,ep,ho,hd,hk,_,hm⟩:=n;refine⟨o,ho,λname=>?_⟩;have e:=hm name;unfold nsFind findBy at e;rw[<- Array.find?_toList]at e;unfold lookIn;rw[hd];dsimp only;split
 .rename_i y q
  rw[q]at e;exact congrArg some e
 .rename_i q
  rw[q]at e;have a:es.toList.any (·.refKey)=false:=by rw[List.any_eq_false];intro y hy;obtain⟨z,t,hkey⟩:=hk y (Array.mem_toList_iff.mp hy);simp[DictEntry.refKey,hkey]
  have a':¬es.toList.any (·.refKey)=true:=by rw[a];exact Bool.false_ne_true
  rw[if_neg a'];exact congrArg some e
def vz.look{h:Heap}{x dx C:Addr}{mA:NS}(I:vz h x dx C mA):∃od,PySem.W.InstAt h x (instObj C dx) C (some od)/\∀name,lookIn name od=some (mA name):=
 let⟨od,ho,hl⟩:=yf I.ns
 ⟨od,⟨I.obj,rfl,rfl,ho⟩,hl⟩
section
variable{prog:Program}{w:World}{A:Around}{E:NR}{s:Shared}{K:PySem.W.Frag}{x dx C f:Addr}{mA:NS}{name:Str}{v:Value}
def DW{expr:Bool}{Q:NR}(X:K.In s.heap)(I:vz s.heap x dx C mA)(hg:plainGet K C name=true)(hh:hasDictIn K C=true)
  (ha:PySem.W.findIn K (.ref C) name=some none) (hv:mA name=some v) (hv':handedIn v=true) (h:Q v {s with toks:=s.toks+1}) :
  wpAny (model prog w) A (getAttr (.ref x) name expr) Q E s:=by
 obtain⟨od,J,hl⟩:=I.look;exact PySem.W.get_value X J (plainGet_of hg).1 (PySem.W.findObj_own hh ha rfl (by rw[hl,hv])) hv' h
def A8{pl:Sem Bool}{Q:Value×NY->Shared->Prop}(X:K.In s.heap)(I:vz s.heap x dx C mA)(hg:plainGet K C name=true)
  (hf:PySem.W.findIn K (.ref C) name=some (some (.ref f))) (ht:PySem.W.isFn K (.ref f)=true) (hv:mA name=none) (h:Q (.ref f,[.ref x]) s) :
  wpAny (model prog w) A (getMethod (.ref x) name pl) Q E s:=by
 obtain⟨od,J,hl⟩:=I.look;exact PySem.W.method_fn X J (plainGet_of hg).1 (plainGet_of hg).2 hf (beq_iff_eq.mp ht) (by show(lookIn name od).map (·.isSome)=some false;rw[hl,hv];rfl) h
theorem Cz{ns:N0}{Q:Unit->Shared->Prop}(X:K.In s.heap)(I:vz s.heap x dx C mA)
  (hs:PySem.W.findIn K (.ref C) "__setattr__"=some (some (.builtin "object.__setattr__"))) (hp:plainOver K C=true) (ht:takerIn K C name=some none) (hh:hasDictIn K C=true)
  (hw:PySem.Within mA ns) (hsz:ns.length<=sizeLine)
  (h:∀h',vz h' x dx C (λy=>if y=name then some v else mA y)->SameBut dx s.heap h'->Q .unit {s with heap:=h',toks:=s.toks+2}) :
  wpAny (model prog w) A (setAttr (.ref x) name v) Q E s:=by
 obtain⟨od,J,hl⟩:=I.look;refine PySem.W.set_plain X J hs (PySem.W.osa_open X J hp ht λb=>?_);obtain⟨cd,hc,hd'⟩:=PySem.W.any_some hh;have hx:s.heap.get? x=some ⟨.ref C,some dx,.plain,#[]⟩:=I.obj;refine wpAny_bind (wpAny_pure (wpAny_bind (wpAny_bind (wpAny_loadPart hx (wpAny_bind (PySem.W.Looks.here (PySem.W.looks_clsIn X hc) ?_))))));rw[hd'];refine wpAny_pure (wpAny_bind (wpAny_pure (wpAny_bind ?_)));refine wpAny_nsSet1 I.ns λh' hn2 hs2=>?_;obtain⟨oD,esD,epD,hoD,hdD,hcD⟩:=hn2.count (PySem.Within.cons name v hw);refine wpAny_bind (wpAny_lookBehind hoD (by rw[hdD];exact pastItsLine_dict (Nat.le_trans hcD (by rw[length_cons];lia))) ?_);exact wpAny_pure (h _ ⟨(hs2.2 _ (Ne.symm I.ne)).trans I.obj,hn2,I.ne⟩ hs2)
def AK{R:Result->Shared->Prop}{vs:NY}{kw:List (Str×Value)}(X:K.In s.heap)(hm:makesIn K C=true)
  (hi:PySem.W.findIn K (.ref C) "__init__"=some (some (.ref f))) (hf:PySem.W.typeIn K (.ref f)=some (.type "function"))
  (h:codeAny (model prog w) (A.under (.builtin "type.__call__" ⟨.ref C::vs,kw⟩)) (.call (.ref f) ⟨.ref (s.heap.objs.size+1)::vs,kw⟩) (PySem.W.InitBack (s.heap.objs.size+1) R)
   {s with heap:=(s.heap.push emptyDict).push (instObj C s.heap.objs.size)}) :
  codeAny (model prog w) A (.call (.ref C) ⟨vs,kw⟩) R s:=by
 obtain⟨hh,g,d,t,os⟩:=s;exact PySem.W.make_core (PySem.W.makes_of X hm) (PySem.W.looks_findIn X hi) (λself=>PySem.W.bind_fn X self hf) (.inl rfl) h
end
noncomputable def iF(f:Str)(v:V):List (Str×V)->List (Str×V)
 | []=>[(f,v)]
 |(g,x)::r=>if g=f then(g,v)::r else(g,x)::iF f v r
def l6(f g:Str)(v:V):∀fs:List (Str×V),(iF f v fs).lookup g=if g=f then some v else fs.lookup g
 | []=>by
  show List.lookup g [(f,v)]=_;by_cases h:g=f
  .have hb:(g==f)=true:=beq_iff_eq.mpr h;simp only[List.lookup,hb,if_pos h]
  .have hb:(g==f)=false:=beq_eq_false_iff_ne.mpr h;simp only[List.lookup,hb,if_neg h]
 |(k,x)::r=>by
  have ih:=l6 f g v r;rw[show iF f v ((k,x)::r)=(if k=f then(k,v)::r else(k,x)::iF f v r)from rfl];by_cases hk:k=f
  .rw[if_pos hk];by_cases h:g=k
   .simp_all
   .have hb:(g==k)=false:=beq_eq_false_iff_ne.mpr h;simp only[List.lookup,hb,if_neg (λe:g=f=>h (e.trans hk.symm))]
  .rw[if_neg hk];by_cases h:g=k
   .simp_all
   .have hb:(g==k)=false:=beq_eq_false_iff_ne.mpr h;simp only[List.lookup,hb];exact ih
def lH(f:Str)(v:V):∀fs:List (Str×V),f ∈(iF f v fs).map (·.1)/\∀g,g∈fs.map (·.1)->g ∈(iF f v fs).map (·.1)
 | []=>⟨by simp[iF],λg h=>by simp at h⟩
 |(k,x)::r=>by
  obtain⟨i1,i2⟩:=lH f v r;rw[show iF f v ((k,x)::r)=(if k=f then(k,v)::r else(k,x)::iF f v r)from rfl];by_cases hk:k=f
  .rw[if_pos hk];subst hk;exact⟨by simp,λg h=>by simpa using h⟩
  .rw[if_neg hk];refine⟨?_,λg h=>?_⟩
   .rw[map_cons];exact mem_cons_of_mem _ i1
   .rw[map_cons]at h ⊢;rcases mem_cons.mp h with e|e
    .exact mem_cons.mpr (.inl e)
    .exact mem_cons_of_mem _ (i2 g e)
theorem l9(f:Str)(v:V):∀fs:List (Str×V),(iF f v fs).length<=fs.length+1
 | []=>by simp[iF]
 |(k,x)::r=>by
  have ih:=l9 f v r;rw[show iF f v ((k,x)::r)=(if k=f then(k,v)::r else(k,x)::iF f v r)from rfl];by_cases hk:k=f
  .rw[if_pos hk,length_cons,length_cons];lia
  .rw[if_neg hk,length_cons,length_cons];lia
def mK.some_of{v:V}{o:Option Value}(r:mK (some v) o):∃u,o=some u/\bB v u:=by
 cases o with
 |none=>exact(show False from r).elim
 |some u=>exact⟨u,rfl,r⟩
def mK.none_of{o:Option Value}(r:mK none o):o=none:=by
 cases o with
 |none=>rfl
 |some u=>exact(show False from r).elim
def yu{v:V}{u:Value}(r:bB v u):handedIn u=true:=by
 cases v with
 |non=>cases(show u=Value.none from r);rfl
 |bl b=>cases(show u=Value.bool b from r);rfl
 |int i=>obtain⟨t,e⟩:=(show ∃t,u=Value.int i t from r);cases e;rfl
 |str x=>obtain⟨t,e⟩:=(show ∃t,u=Value.str x t from r);cases e;rfl
 |byt b=>obtain⟨t,e⟩:=(show ∃t,u=Value.bytes b t from r);cases e;rfl
 |flt b=>obtain⟨t,e⟩:=(show ∃t,u=Value.float b t from r);cases e;rfl
 |ref a=>cases(show u=Value.ref a from r);rfl
 |ty n=>cases(show u=Value.type n from r);rfl
section
variable{P:Program}{w:World}{H H':Hp}{h h':Heap}{a C dx:Addr}{fs fs':List (Str×V)}
def qD(hok:HOk P w H h)(e:H a=some (.ins C dx fs)):∃mA,vz h a dx C mA/\(∀f,mK (fs.lookup f) (mA f))/\PySem.Within mA (fs.map (·.1))/\fs.length<=1000/\H dx=some (.own a):=by
 obtain⟨d,z,ne,ob,mA,n,r,q⟩:=(show b_ P w H h a (.ins C dx fs)from hok a _ e)
 exact⟨mA,⟨ob,n,ne⟩,r,q,z,d⟩
end
structure Cls(K:PySem.W.Frag)(C:Addr):Prop where
 pg:plainGet K C Str.empty=true
 hd:hasDictIn K C=true
 po:plainOver K C=true
 sa:PySem.W.findIn K (.ref C) "__setattr__"=some (some (.builtin "object.__setattr__"))
def Cls.get{K:PySem.W.Frag}{C:Addr}(c:Cls K C)(f:Str):plainGet K C f=true:=c.pg
def gx(K:PySem.W.Frag)(C:Addr)(f:Str):Prop:=PySem.W.findIn K (.ref C) f=some none
def gx.taker{K:PySem.W.Frag}{C:Addr}{f:Str}(n:gx K C f):takerIn K C f=some none:=by unfold takerIn;rw[show PySem.W.findIn K (.ref C) f=some none from n];rfl
structure Ex(K:PySem.W.Frag)(C:Addr)(m:Str)(f:Addr):Prop where
 at_:PySem.W.findIn K (.ref C) m=some (some (.ref f))
 fn:PySem.W.isFn K (.ref f)=true
 kp:PySem.W.keepIn K (.ref f)=true
section
variable{X:Cx}{NP:NU}{Y:St}{H:Hp}{s:Shared}{a C dx:Addr}{fs:List (Str×V)}{f:Str}{v:V}{A:Around}{E:NR}
def vk{b:Bool}{Q:NR}(I:Inv X NP Y H s)(e:H a=some (.ins C dx fs))(c:Cls X.K C)(n:gx X.K C f)(l:fs.lookup f=some v)
  (h:∀u s',Inv X NP Y H s'->bB v u->Q u s'):wpAny (model X.prog X.w) A (getAttr (.ref a) f b) Q E s:=by
 obtain⟨mA,O,r,_,_,_⟩:=qD I.hok e;obtain⟨u,hu,ru⟩:=mK.some_of (by rw[<- l];exact r f);exact DW I.kIn O (c.get f) c.hd n hu (yu ru) (h u _ (I.tok _) ru)
def vj{m:Str}{g:Addr}{pl:Sem Bool}{Q:Value×NY->Shared->Prop}(I:Inv X NP Y H s)(e:H a=some (.ins C dx fs))(c:Cls X.K C)(k:Ex X.K C m g)(l:fs.lookup m=none)
  (h:Q (.ref g,[.ref a]) s):wpAny (model X.prog X.w) A (getMethod (.ref a) m pl) Q E s:=by
 obtain⟨mA,O,r,_,_,_⟩:=qD I.hok e;have hn:mA m=none:=mK.none_of (by rw[<- l];exact r m);exact A8 I.kIn O (c.get m) k.at_ k.fn hn h
theorem uD{y:V}{u:Value}{Q:Unit->Shared->Prop}(I:Inv X NP Y H s)(e:H a=some (.ins C dx fs))(c:Cls X.K C)(n:gx X.K C f)(hl:fs.length<1000)(ry:bB y u)
  (h:∀s',Inv X NP Y (upd H a (.ins C dx (iF f y fs))) s'->Q .unit s'):wpAny (model X.prog X.w) A (setAttr (.ref a) f u) Q E s:=by
 obtain⟨mA,O,r,wi,_,ho⟩:=qD I.hok e;have hz:(fs.map (·.1)).length<=sizeLine:=by rw[length_map,sizeLine_eq];lia
 refine Cz I.kIn O c.sa c.po n.taker c.hd wi hz λh' O' sb=>h _ ?_;have hd:∃o,h'.get? dx=some o:=let⟨o,_,_,e',_⟩:=O'.ns;⟨o,e'⟩
 refine I.write (by rw[e];exact True.intro) (.inr ho) (λb q hb z=>(sb.2 b hb).trans z) hd ?_;refine⟨by rw[aJ O.ne];exact ho,?_,O.ne,O'.obj,_,O'.ns,λg=>?_,λg hg=>?_⟩
 .have:=l9 f y fs;lia
 .show mK ((iF f y fs).lookup g) (if g=f then some u else mA g);rw[l6];by_cases q:g=f
  .rw[if_pos q,if_pos q];exact ry
  .simp_all
 .by_cases q:g=f
  .rw[q];exact(lH f y fs).1
  .refine(lH f y fs).2 g (wi g λz=>hg ?_);show(if g=f then some u else mA g)=none;rw[if_neg q];exact z
def Inv.made(I:Inv X NP Y H s):Inv X NP Y (upd (upd H s.heap.objs.size (.own (s.heap.objs.size+1))) (s.heap.objs.size+1) (.ins C s.heap.objs.size []))
  {s with heap:=(s.heap.push emptyDict).push (instObj C s.heap.objs.size)}:=by
 have e1:(s.heap.push emptyDict).get? s.heap.objs.size=some emptyDict:=get?_push_size s.heap rfl;have e2:((s.heap.push emptyDict).push (instObj C s.heap.objs.size)).get? (s.heap.objs.size+1)=some (instObj C s.heap.objs.size):=by
  have:=get?_push_size (s.heap.push emptyDict) (o:=instObj C s.heap.objs.size) rfl
  rwa [size_push]at this
 have e3:(s.heap.push emptyDict).Ns s.heap.objs.size (λ_=>none):=⟨emptyDict,#[],_,e1,rfl,(λe he=>absurd he ()),λ_=>rfl⟩
 have I1:=I.laid (a:=s.heap.objs.size) (o:=.own (s.heap.objs.size+1)) (h':=s.heap.push emptyDict) (t':=s.toks) (λb u q=>get?_push_of_some _ q) (Nat.le_refl _) ⟨_,e1⟩;refine I1.laid (a:=s.heap.objs.size+1) (o:=.ins C s.heap.objs.size []) (t':=s.toks) (λb u q=>get?_push_of_some _ q) (Nat.le_of_eq (size_push _ _)) ?_;have ne:s.heap.objs.size≠s.heap.objs.size+1:=Nat.ne_of_lt (Nat.lt_succ_self _);refine⟨by rw[aJ ne,bp],zero_le _,ne,e2,λ_=>none,(Heap.Ns1.of_empty e3).at λo q=>get?_push_of_some _ q,λ_=>True.intro,λy hy=>absurd rfl hy⟩
def Es{prog:Program}{w:World}{env:Env}{e:Expr}{f:Str}{pos:Pos}{s:Shared}{Q:NR}(hb:attributeBase e f env (eval e env)=eval e env)
  (h:wpAny (model prog w) A (eval e env) (λo s₁=>wpAny (model prog w) A (getAttr o f true) Q E s₁) E s):wpAny (model prog w) A (eval (.Attribute e f pos) env) Q E s:=
 Attribute_any_ h (by rw[arm_eval_Attribute,hb])
end
def JU(K:PySem.W.Frag)(ta:TE)(f:Str):TE:=λY H Q=>ta Y H λx H1=>∃a C dx fs v,x=.ref a/\H1 a=some (.ins C dx fs)/\Cls K C/\gx K C f/\fs.lookup f=some v/\Q v H1
def sFld(K:PySem.W.Frag)(ta tv:TE)(f:Str):TS:=λD Y H=>tv Y H λy H1=>ta Y H1 λx H2=>∃a C dx fs,x=.ref a/\H2 a=some (.ins C dx fs)/\Cls K C/\gx K C f/\fs.length<1000 /\
 D.nx Y (upd H2 a (.ins C dx (iF f y fs)))
section
variable{X:Cx}{o e value:Expr}{f:Str}{pos pos' tpos:Pos}{ta tv:TE}
def GD(he:PE X e ta)(hb:attributeBase e f X.env (eval e X.env)=eval e X.env):PE X (.Attribute e f pos) (JU X.K ta f):=by intro NP s Y H Q I h;refine Es hb (thn (he NP s Y H _ I h) λu s1 zz=>?_);obtain⟨x,H1,I1,rx,a,C,dx,fs,v,ex,ea,c,n,l,q⟩:=zz;subst ex;obtain rfl:u=Value.ref a:=rx;exact vk I1 ea c n l λu' s2 I2 ru=>⟨v,H1,I2,ru,q⟩
def Gq(ha:PE X o ta)(hv:PE X value tv)(hs:swapsWith value (some (.Attribute o f pos')) pos.line X.env=pure false):PS X (.Assign [.Attribute o f pos'] value pos) (sFld X.K ta tv f):=by intro NP s Y H D I h;refine plainObj_wpAny_Assign_Attribute (thn (hv NP s Y H _ I h) λu s1 ⟨y,H1,I1,ry,q⟩=>thn (ha NP s1 Y H1 _ I1 q) λov s2 zz=>?_) hs;obtain⟨x,H2,I2,rx,a,C,dx,fs,ex,ea,c,n,l,q2⟩:=zz;subst ex;obtain rfl:ov=Value.ref a:=rx;exact uD I2 ea c n l ry λs3 I3=>⟨Y,_,I3,q2⟩
end
end
section
structure eM(k:Nat)(A:Around):Prop where
 hd:A.handled=none
 dp:A.depth+3*k+5<recursionLimit
 un:A.units+16*k+200<cLine
theorem eM.mono{j k:Nat}{A:Around}(r:eM k A)(h:j<=k):eM j A:=⟨r.hd,by have:=r.dp;lia,by have:=r.un;lia⟩
theorem eM.deeper{k:Nat}{A:Around}(r:eM (k+1) A)(env:Env):eM k (A.deeper env):=
 ⟨r.hd,by have:=r.dp;show A.depth+1+3*k+5<_;lia,by have:=r.un;show A.units+3+16*k+200<_;lia⟩
def u9{A:Around}{C:Addr}{us:NY}{kw:List (Str×Value)}:(A.under (.builtin "type.__call__" ⟨.ref C::us,kw⟩)).depth=A.depth+1:=by
 first|rfl|simp[Code.weight]
def u8{A:Around}{C:Addr}{us:NY}{kw:List (Str×Value)}:(A.under (.builtin "type.__call__" ⟨.ref C::us,kw⟩)).units=A.units+1:=by
 first|rfl|simp[Code.cUnits]
theorem eM.make{k:Nat}{A:Around}(r:eM (k+1) A)(C:Addr)(us:NY)(kw:List (Str×Value)):eM k (A.under (.builtin "type.__call__" ⟨.ref C::us,kw⟩)):=
 ⟨r.hd,by have:=r.dp;rw[u9];lia,by have:=r.un;rw[u8];lia⟩
theorem eM.depth{k:Nat}{A:Around}(r:eM k A):A.depth<recursionLimit:=by have:=r.dp;lia
theorem eM.units{k:Nat}{A:Around}(r:eM k A):A.units+64<cLine:=by have:=r.un;lia
def FH:TA:=λ_ H Q=>Q [] H
def vI(ta:TE)(tr:TA):TA:=λY H Q=>ta Y H λx H1=>tr Y H1 λxs H2=>Q (x::xs) H2
section
variable{X:Cx}{e:Expr}{es:List Expr}{te:TE}{t:TA}{pos:Pos}
def iJ:PA X [] FH:=λ_ _ _ _ H Q I h=>Calls.spliced_nil ⟨[],H,I,.nil,h⟩
def dO(ha:PE X e te)(hr:PA X es t)(hs:starEach (e::es) X.env=(false,eval e X.env)::starEach es X.env:=by rfl):PA X (e::es) (vI te t):=by intro pos NP s Y H Q I h;rw[hs];refine Calls.spliced_cons (thn (ha NP s Y H _ I h) λu s1 zz=>?_);obtain⟨x,H1,I1,r1,q1⟩:=zz;exact thn (hr pos NP s1 Y H1 _ I1 q1) λus s2 ⟨xs,H2,I2,r2,q2⟩=>⟨x::xs,H2,I2,.cons r1 r2,q2⟩
def Mv(t:TA):TE:=λY H Q=>t Y H λxs H1=>xs.length<=sizeLine/\∀p,H1 p=none->Q (.ref p) (upd H1 p (.tup xs))
def MC(t:TA):TE:=λY H Q=>t Y H λxs H1=>xs.length<=sizeLine/\∀p,H1 p=none->Q (.ref p) (upd H1 p (.lst xs))
def zM{x1}(h:PA X es t):PE X (.Tuple es x1 pos) (Mv t):=by intro NP s Y H Q I hq;refine wpAny_Tuple_spliced (thn (h pos NP s Y H _ I hq) λus s1 ⟨xs,H1,I1,r,z,q⟩=>⟨by rw[<- r.length];exact z,?_⟩);have hf:H1 s1.heap.objs.size=none:=I1.hok.fresh (Nat.le_refl _);refine⟨.ref s1.heap.objs.size,upd H1 s1.heap.objs.size (.tup xs),I1.laid (t':=s1.toks) (λb u e=>get?_push_of_some _ e) (Nat.le_refl _) ?_,rfl,q _ hf⟩;exact⟨z,us,r,⟨_,get?_push_size _ rfl,rfl,_,rfl⟩⟩
def GC(h:PA X es t):PE X (.List es pos) (MC t):=by intro NP s Y H Q I hq;refine wpAny_List_spliced (thn (h pos NP s Y H _ I hq) λus s1 ⟨xs,H1,I1,r,z,q⟩=>⟨by rw[<- r.length];exact z,?_⟩);have hf:H1 s1.heap.objs.size=none:=I1.hok.fresh (Nat.le_refl _);refine⟨.ref s1.heap.objs.size,upd H1 s1.heap.objs.size (.lst xs),I1.laid (t':=s1.toks) (λb u e=>get?_push_of_some _ e) (Nat.le_refl _) ?_,rfl,q _ hf⟩;exact⟨z,us,0,r,get?_push_size _ rfl⟩
end
abbrev Sp:=N3->Hp->VK->XK->Prop
abbrev CXT:=List Env->Hp->Shared->XK->NR
structure vA(P:Program)(w:World)(K:PySem.W.Frag)(mg:NS)(base:Heap)(A:Around)(outer:List Env)(s:Shared)(H:Hp):Prop where
 frames:A.frames=some outer
 mod:Mod K mg base
 bs:∀b o,base.get? b=some o->s.heap.get? b=some o/\H b=none
 bsz:base.objs.size<=s.heap.objs.size
 funs:s.heap.FunFrames base outer
 frf:∀b∈frs outer,H b=none
 hok:HOk P w H s.heap
 bare:AllBare s.gens
def CE(outer:List Env)(P:Program)(w:World)(H:Hp)(s:Shared)(Q:VK)(u:Value)(s':Shared):Prop:=
 ∃v H',s'.os=s.os/\AllBare s'.gens/\Un (frs outer) [] H H' s.heap s'.heap/\HOk P w H' s'.heap/\bB v u/\Q v H'
def CR(CX:CXT)(outer:List Env)(P:Program)(w:World)(H:Hp)(s:Shared)(Q:VK)(E:XK)(r:Result)(s':Shared):Prop:=
 match r with
 |.ok (.ret u)=>CE outer P w H s Q u s'
 |.ok _=>False
 |.error e=>CX outer H s E e s'
structure dA(P:Program)(w:World)(K:PySem.W.Frag)(mg:NS)(base:Heap)(CX:CXT)(k:Nat)(f:Addr)(fd:FuncData)(ps:N0)(sp:Sp):Prop where
 len:∀vs H Q E,sp vs H Q E->vs.length=ps.length
 run:∀(A:Around) (outer:List Env) (s:Shared) (H:Hp) (args:Args) (us:NY) (vs:N3) (Q:VK) (E:XK),eM k A->vA P w K mg base A outer s H->BindsTo s fd args (ps.zip us)->aU vs us->sp vs H Q E ->
  codeAny (model P w) A (.call (.ref f) args) (CR CX outer P w H s Q E) s
def dA.mono{P:Program}{w:World}{K:PySem.W.Frag}{mg:NS}{base:Heap}{CX:CXT}{j k:Nat}{f:Addr}{fd:FuncData}{ps:N0}{sp:Sp}(F:dA P w K mg base CX j f fd ps sp)(h:j<=k) :
  dA P w K mg base CX k f fd ps sp:=⟨F.len,λA outer s H args us vs Q E hr=>F.run A outer s H args us vs Q E (hr.mono h)⟩
def dA.imp{P:Program}{w:World}{K:PySem.W.Frag}{mg:NS}{base:Heap}{CX:CXT}{k:Nat}{f:Addr}{fd:FuncData}{ps:N0}{sp sp':Sp}(F:dA P w K mg base CX k f fd ps sp)
  (h:∀vs H Q E,sp' vs H Q E->sp vs H Q E):dA P w K mg base CX k f fd ps sp':=
 ⟨λvs H Q E q=>F.len vs H Q E (h _ _ _ _ q),λA outer s H args us vs Q E hr he hb hv hs=>F.run A outer s H args us vs Q E hr he hb hv (h _ _ _ _ hs)⟩
def vA.make{P:Program}{w:World}{K:PySem.W.Frag}{mg:NS}{base:Heap}{A:Around}{outer:List Env}{s:Shared}{H:Hp}(e:vA P w K mg base A outer s H)(C:Addr)(us:NY)(kw:List (Str×Value)) :
  vA P w K mg base (A.under (.builtin "type.__call__" ⟨.ref C::us,kw⟩)) outer s H:=⟨by first|exact e.frames |(simpa[Code.envs]using e.frames),e.mod,e.bs,e.bsz,e.funs,e.frf,e.hok,e.bare⟩
section
variable{X:Cx}{NP:NU}{Y:St}{H:Hp}{s s':Shared}
def Inv.env0(I:Inv X NP Y H s):vA X.prog X.w X.K X.mg X.base X.A X.stack s H:=
 ⟨I.ok.frames,I.ok.mod,I.bs,Nat.le_trans I.ok.bsz I.sz,I.stack,I.stkFree,I.hok,I.bare⟩
def Inv.after{Q:VK}{u:Value}(I:Inv X NP Y H s)(h:CE X.stack X.prog X.w H s Q u s'):EP X NP Y Q u s':=by obtain⟨v,H',os,bare,un,hok,r,q⟩:=h;obtain⟨hh,g,d,t,os'⟩:=s';obtain rfl:os'=s.os:=os;exact⟨v,H',I.call (h':=hh) (g':=g) (d':=d) (t':=t) un hok bare (λb z=>absurd z ()),r,q⟩
end
def gJ(K:PySem.W.Frag)(fd:FuncData)(ps:N0)(ds:NY):Prop:=
 ∀(s:Shared) (us:NY),K.In s.heap->(us++ds).length=ps.length->BindsTo s fd ⟨us,[]⟩ (ps.zip (us++ds))
def gJ.all{K:PySem.W.Frag}{fd:FuncData}{ps:N0}(h:∀us:NY,us.length=ps.length->bindArgs fd ⟨us,[]⟩=pure (ps.zip us)):gJ K fd ps []:=λs us _ hl=>by rw[append_nil]at hl ⊢;exact .of_eq (h us hl)
section
variable{X:Cx}{CX:CXT}{k:Nat}{f C:Addr}{fd:FuncData}{ps:N0}{sp:Sp}{dvs:N3}{ds:NY}{E:XK}{x m:Str}{p pos apos:Pos}{e o:Expr}{es:List Expr}{ta:TE}{t:TA}
structure Mk(K:PySem.W.Frag)(C f:Addr):Prop where
 makes:makesIn K C=true
 init:PySem.W.findIn K (.ref C) "__init__"=some (some (.ref f))
 fn:PySem.W.isFn K (.ref f)=true
 kp:PySem.W.keepIn K (.ref C)=true
end
def PK(X:Cx)(kws:List Keyword)(t:TA):Prop:=
 ∀(pos:Pos) (NP:NU) (s:Shared) (Y:St) (H:Hp) (Q:N3->N4),Inv X NP Y H s->t Y H Q->wpAny (model X.prog X.w) X.A (evalAll ((backToKw pos (keywordEach kws X.env)).map (·.2))) (AP X NP Y Q) X.xe s
section
variable{X:Cx}{CX:CXT}{k:Nat}{f C:Addr}{fd:FuncData}{ps ks:N0}{sp:Sp}{E:XK}{x m:Str}{p pos apos kpos:Pos}{e o:Expr}{es:List Expr}{kws:List Keyword}{te ta:TE}{t tk:TA}{nm:Option Str}
def zH:PK X [] FH:=λ_ _ _ _ H Q I h=>wpAny_evalAll_nil ⟨[],H,I,.nil,h⟩
def v5(ha:PE X e te)(hr:PK X kws t):PK X (⟨nm,e,kpos⟩::kws) (vI te t):=by intro pos NP s Y H Q I h;show wpAny _ _ (evalAll ((do let v <- eval e X.env;standAt pos;pure v)::(backToKw pos (keywordEach kws X.env)).map (·.2))) _ _ s;refine wpAny_evalAll_cons (wpAny_bind (thn (ha NP s Y H _ I h) λu s1 ⟨x,H1,I1,r1,q1⟩=>wpAny_bind (wpAny_standAt (wpAny_pure ?_))));exact thn (hr pos NP s1 Y H1 _ I1 q1) λus s2 ⟨xs,H2,I2,r2,q2⟩=>⟨x::xs,H2,I2,.cons r1 r2,q2⟩
variable{g:NY->NY->NY}{gV:N3->N3->N3}
end
structure fT(N P:N0)(sc:Scope):Prop where
 kind:sc.kind=.function
 co:sc.isCoroutine=false
 gen:sc.isGenerator=false
 nd:N.Nodup
 pre:N.take P.length=P
 par:∀x∈P,sc.names.lookup x=some .local\/sc.names.lookup x=some .cell
 nofree:∀y∈sc.names,y.2≠.free
def pZ{kindOf:Str->Option NameKind}{x:Str}:∀{binds:List (Str×Value)}{m:NS},(∀v,(x,v)∉ binds)->bindL kindOf binds m x=m x
 | [],_,_=>rfl
 |(n,v)::r,m,h=>by
  unfold bindL;rw[pZ λw hw=>h w (mem_cons_of_mem _ hw)];split
  .have:x≠n:=by rintro rfl;exact h v mem_cons_self
   simp[this]
  .rfl
def p5{kindOf:Str->Option NameKind}{x:Str}:∀{binds:List (Str×Value)}{m:NS},(∀v,(x,v)∉ binds)->bindC kindOf binds m x=m x
 | [],_,_=>rfl
 |(n,v)::r,m,h=>by
  unfold bindC;rw[p5 λw hw=>h w (mem_cons_of_mem _ hw)];split
  .rfl
  .have:x≠n:=by rintro rfl;exact h v mem_cons_self
   simp[this]
def p3{kindOf:Str->Option NameKind}{x:Str}{v:Value}:∀{P:N0}{vs:NY}{i:Nat}{m:NS},P.Nodup->P[i]?=some x->vs[i]?=some v->kindOf x=some .local ->
  bindL kindOf (P.zip vs) m x=some v
 | [],_,_,_,_,h,_,_|_::_,[],_,_,_,_,h,_=>by simp at h
 |p::P,w::vs,0,m,nd,h1,h2,hk=>by simp at h1 h2;subst h1;subst h2;show bindL kindOf ((p,w)::P.zip vs) m p=_;unfold bindL;rw[pZ λv hv=>(nodup_cons.mp nd).1 (List.of_mem_zip hv).1,if_pos hk];simp
 |p::P,w::vs,i+1,m,nd,h1,h2,hk=>by unfold bindL;exact p3 (nodup_cons.mp nd).2 (by simpa using h1) (by simp_all) hk
def p6{kindOf:Str->Option NameKind}{x:Str}{v:Value}:∀{P:N0}{vs:NY}{i:Nat}{m:NS},P.Nodup->P[i]?=some x->vs[i]?=some v->kindOf x≠some .local ->
  bindC kindOf (P.zip vs) m x=some v
 | [],_,_,_,_,h,_,_|_::_,[],_,_,_,_,h,_=>by simp at h
 |p::P,w::vs,0,m,nd,h1,h2,hk=>by simp at h1 h2;subst h1;subst h2;show bindC kindOf ((p,w)::P.zip vs) m p=_;unfold bindC;rw[p5 λv hv=>(nodup_cons.mp nd).1 (List.of_mem_zip hv).1,if_neg hk];simp
 |p::P,w::vs,i+1,m,nd,h1,h2,hk=>by show bindC kindOf ((p,w)::P.zip vs) m x=_;unfold bindC;exact p6 (i:=i) (nodup_cons.mp nd).2 (by simpa using h1) (by simpa using h2) hk
def start(N:N0)(vs:N3):St:=vs.map some++replicate (N.length-vs.length) none
noncomputable def gA(CX:CXT)(P:Program)(w:World)(K:PySem.W.Frag)(mg:NS)(base:Heap)(N:N0)(qual:Str)(scope:Scope)(f:Addr)(cd:Value)(A:Around)(outer:List Env)(s:Shared)(H:Hp)(E:XK):Cx where
 prog:=P
 w:=w
 K:=K
 mg:=mg
 base:=base
 A:=A.deeper (envOfC qual scope s.heap.objs.size f cd)
 N:=N
 s₀:=s
 H₀:=H
 env:=envOfC qual scope s.heap.objs.size f cd
 outer:=outer
 stack:=envOfC qual scope s.heap.objs.size f cd::outer
 ex:=[]
 calm:=true
 fn:=λ_=>true
 pn:=[]
 xe:=λe s'=>wpAny (model P w) (A.deeper (envOfC qual scope s.heap.objs.size f cd)) (leaving (envOfC qual scope s.heap.objs.size f cd) e) (λ_ s''=>CX outer H s E e s'') (λe' s''=>CX outer H s E e' s'') s'
def ua{sc:Scope}{n:Nat}{x:Str}(h:sc.names.lookup x=some .cell):∃c,(cellsFrom n sc.names []).lookup x=some c:=by have q:=PySem.W.cellsFrom_some sc.names n [] (.inl h);exact isSome_iff_exists.mp q
theorem yo{CX:CXT}{P:Program}{w:World}{K:PySem.W.Frag}{mg:NS}{base:Heap}{N ps:N0}{qual:Str}{scope:Scope}{f:Addr}{cd:Value}{A:Around}{outer:List Env}{s s1:Shared}{H:Hp}{E:XK}{us:NY}{vs:N3}
  (S:fT N ps scope) (hd:A.handled=none) (e0:vA P w K mg base A outer s H) (hl:vs.length=ps.length) (r:aU vs us)
  (x:InCallC s s.heap.objs.size (bindL (envOfC qual scope s.heap.objs.size f cd).kindOf (ps.zip us) λ_=>none) (cellsFrom (s.heap.objs.size+1) scope.names []) (bindC (envOfC qual scope s.heap.objs.size f cd).kindOf (ps.zip us) λ_=>none) s1) :
  Inv (gA CX P w K mg base N qual scope f cd A outer s H E) [] (start N vs) H s1:=by
 have hpl:ps.length<=N.length:=by have:=congrArg List.length S.pre;rw[List.length_take]at this;lia
 obtain⟨h1,tk,rfl,hk⟩:=x.done;have noA:∀b:Addr,b ∉(gA CX P w K mg base N qual scope f cd A outer s H E).ex:=λb z=>absurd (show b ∈([]:NZ)from z) ();refine ⟨⟨e0.mod,S.kind,rfl,rfl,Nat.le_refl _,λy z c h1 h2=>?_,λy hy=>?_,λy c _ h=>?_,λ_=>hd,Around.frames_deeper e0.frames,.inr ⟨rfl,rfl⟩,λb z=>absurd z (noA b),e0.bs,e0.bsz,λb _ _=>noA b,λb z=>absurd z (noA b),e0.funs,e0.frf⟩,
  rfl,e0.bare,Un.kept hk,⟨_,x.toInCall.ns,λi y v h1 h2 h3=>?_⟩,λy c h=>⟨_,x.cell y c h⟩,e0.hok.fresh (Nat.le_refl _),λy c h=>?_,λp hp=>absurd (show p ∈([]:NU)from hp) (),e0.hok.kept hk,?_⟩
 .exact name_of_addr x.apart (PySem.mem_of_lookup h1) (PySem.mem_of_lookup h2)
 .have hy:scope.names.lookup y=some .cell\/scope.names.lookup y=some .free:=hy;rcases hy with hy|hy
  .exact ua hy
  .exact absurd rfl (S.nofree _ (PySem.mem_of_lookup hy))
 .exact Nat.le_of_lt (x.above y c (PySem.mem_of_lookup h))
 .have hi:i<vs.length:=by
   unfold start at h2;by_cases hi:i<vs.length
   .exact hi
   .rw[getElem?_append_right (by simpa using hi)]at h2;rw[getElem?_replicate]at h2;split at h2<;>cases h2
  have ha:vs[i]?=some v:=by
   unfold start at h2;rw[getElem?_append_left (by simpa using hi),getElem?_map]at h2;cases e:vs[i]? with
   |none=>rw[e]at h2;cases h2
   |some a=>rw[e]at h2;cases h2;rfl
  obtain⟨u,hu,rv⟩:=r.get ha;have hp:ps[i]?=some y:=by rw[<- S.pre,List.getElem?_take_of_lt ()];exact h1
  have ndP:ps.Nodup:=by rw[<- S.pre];exact S.nd.sublist (List.take_sublist _ _)
  refine⟨u,rv,?_⟩;rcases S.par y (List.mem_of_getElem? hp)with k|k
  .exact .inl ⟨k,p3 ndP hp hu k⟩
  .obtain⟨c,e⟩:=ua k;refine .inr ⟨.inl k,c,e,?_⟩;have q:=x.cell y c e;rw[p6 ndP hp hu (by show scope.names.lookup y≠_;rw[k];decide)]at q;exact q
 .exact .inl (e0.hok.fresh (Nat.le_of_lt (x.above y c (PySem.mem_of_lookup h))))
 .unfold start;show _=N.length;rw[length_append,length_map,List.length_replicate]
  lia
noncomputable def Cx.low(X:Cx)(g:Str->Bool):Cx:={X with fn:=g}
def Nv(g:Str->Bool)(X:Cx)(st:List Stmt)(t:TS):Prop:=
 ∀(NP:NU) (s:Shared) (Y:St) (H:Hp) (D:Ends),Inv X NP Y H s->t D Y H->wpAny (model X.prog X.w) X.A (execs st X.env) (SP (X.low g) NP D) X.xe s
def Ir(g:Str->Bool){CX:CXT}{P:Program}{w:World}{K:PySem.W.Frag}{mg:NS}{base:Heap}{k:Nat}{f:Addr}{name qual:Str}{params:Arguments}{body:List Stmt}{scope:Scope}{dV kV doc pm cdv ct oc:Value}{an od:Option Addr}
  {osl:Array (Option Value)}{N ps:N0}{sp:Sp} (lk:K.lookup f=some ⟨oc,od,.func (PySem.W.fnOf name qual params body scope dV kV doc pm an cdv ct),osl⟩) (hcd:PySem.W.codeIn K cdv qual=true) (S:fT N ps scope)
  (len:∀vs H Q E,sp vs H Q E->vs.length=ps.length)
  (hbody:∀ (A:Around) (outer:List Env) (s:Shared) (H:Hp) (vs:N3) (Q:VK) (E:XK),eM k (A.deeper (envOfC qual scope s.heap.objs.size f cdv))->sp vs H Q E ->
   ∃t,Nv g (gA CX P w K mg base N qual scope f cdv A outer s H E) body t/\t {nx:=λ_ H'=>Q .non H',rt:=Q} (start N vs) H) :
  dA P w K mg base CX (k+1) f (PySem.W.fnOf name qual params body scope dV kV doc pm an cdv ct) ps sp:=by
 refine⟨len,λA outer s H args us vs Q E hr e0 hb r hsp=>?_⟩;have hl:=len _ _ _ _ hsp;have KX:K.In s.heap:=e0.mod.kin.keeps λb o e=>(e0.bs b o e).1;have lim:s.heap.NoLimit:=e0.mod.nolimit.keeps λb o e=>(e0.bs b o e).1;have hkind:∀y∈ps.zip us,scope.names.lookup y.1=some .local \/(scope.names.lookup y.1=some .cell/\((cellsFrom (s.heap.objs.size+1) scope.names []).lookup y.1).isSome=true):=λhz1 hy=>by
  obtain⟨n,v⟩:=hz1;rcases S.par n (List.of_mem_zip hy).1 with q|q
  .exact .inl q
  .exact .inr ⟨q,PySem.W.cellsFrom_some _ _ _ (.inl q)⟩
 refine codeAny_call_function hr.depth (KX _ _ lk) rfl S.co S.gen rfl (PySem.W.codeRec_of KX hcd) (hb _ _ _ _ ?_);refine wpAny_newFunctionEnv_cells S.kind hkind λenv he s1 x=>?_;subst he;refine⟨lim.keeps x.toInCall.keep,codeAny_func ?_⟩;obtain⟨t,ht,hq⟩:=hbody A outer s H vs Q E (hr.deeper _) hsp;have I:Inv (gA CX P w K mg base N qual scope f cdv A outer s H E) [] (start N vs) H s1:=yo S hr.hd e0 hl r x;refine wpAny_mono (ht [] s1 (start N vs) H _ I hq) (λfl s' hs=>?_) λe s' hs=>hs;have fin:∀{σ':St}{H':Hp}{v:V}{u:Value},Inv ((gA CX P w K mg base N qual scope f cdv A outer s H E).low g) [] σ' H' s'->bB v u->Q v H'->CE outer P w H s Q u s':=
  λ{σ' H' v u} J rv q=>⟨v,H',J.os,J.bare,J.base,J.hok,rv,q⟩
 cases fl with
 |ret u=>obtain⟨v,σ',H',J,rv,q⟩:=hs;exact fin J rv q
 |next=>obtain⟨σ',H',J,q⟩:=hs;exact fin (v:=V.non) J rfl q
 |brk=>obtain⟨_,_,_,q⟩:=hs;exact False.elim q
 |cont=>obtain⟨_,_,_,q⟩:=hs;exact False.elim q
def E0{CX:CXT}{P:Program}{w:World}{K:PySem.W.Frag}{mg:NS}{base:Heap}{k:Nat}{f:Addr}{name qual:Str}{params:Arguments}{body:List Stmt}{scope:Scope}{dV kV doc pm cdv ct oc:Value}{an od:Option Addr}
  {osl:Array (Option Value)}{N ps:N0}{sp:Sp} (lk:K.lookup f=some ⟨oc,od,.func (PySem.W.fnOf name qual params body scope dV kV doc pm an cdv ct),osl⟩) (hcd:PySem.W.codeIn K cdv qual=true) (S:fT N ps scope)
  (len:∀vs H Q E,sp vs H Q E->vs.length=ps.length)
  (hbody:∀ (A:Around) (outer:List Env) (s:Shared) (H:Hp) (vs:N3) (Q:VK) (E:XK),eM k (A.deeper (envOfC qual scope s.heap.objs.size f cdv))->sp vs H Q E ->
   ∃t,PSs (gA CX P w K mg base N qual scope f cdv A outer s H E) body t/\t {nx:=λ_ H'=>Q .non H',rt:=Q} (start N vs) H) :
  dA P w K mg base CX (k+1) f (PySem.W.fnOf name qual params body scope dV kV doc pm an cdv ct) ps sp:=Ir (λ_=>true) lk hcd S len hbody
end
section
section
variable{X:Cx}{x:Str}{p pos:Pos}{e:Expr}{es:List Expr}{t:TA}{id T:String}{r:N3->Hp->VK->Prop}
def tCB(r:N3->Hp->VK->Prop)(t:TA):TE:=λY H Q=>t Y H λvs H1=>r vs H1 Q
def nM(hc:dN X (.builtin id) r)(hg:Gl X x)(hm:X.mg x=none)(hv:bootBuiltins x=some (.builtin id))(ha:PA X (e::es) t)(hn:x≠"__name__":=by decide)(hdb:Ndq x:=by decide)
  (he:starEach (e::es) X.env=(false,eval e X.env)::starEach es X.env:=by rfl) (hpl:(backTo pos (starEach es X.env)).any (·.1)=false:=by rfl):PE X (.Call (.Name x p) (e::es) [] pos) (tCB r t):=by
 intro NP s Y H Q I h;refine wpAny_Call_Name_kw (iN I hg hm hv ?_ hn hdb);exact PyProof.Rows.callWith_builtin1 (thn (ha pos NP s Y H _ I h) λus s1 ⟨vs,H1,I1,r1,q1⟩=>hc NP s1 Y H1 vs us Q I1 r1 q1) he hpl
def lh(hc:dN X (.type T) r)(hg:Gl X x)(hm:X.mg x=none)(hv:bootBuiltins x=some (.type T))(ha:PA X (e::es) t)(hn:x≠"__name__":=by decide)(hdb:Ndq x:=by decide)
  (he:starEach (e::es) X.env=(false,eval e X.env)::starEach es X.env:=by rfl) (hpl:(backTo pos (starEach es X.env)).any (·.1)=false:=by rfl):PE X (.Call (.Name x p) (e::es) [] pos) (tCB r t):=by
 intro NP s Y H Q I h;refine wpAny_Call_Name_kw (iN I hg hm hv ?_ hn hdb);exact PyProof.Rows.callWith_type1 (thn (ha pos NP s Y H _ I h) λus s1 ⟨vs,H1,I1,r1,q1⟩=>hc NP s1 Y H1 vs us Q I1 r1 q1) he hpl
end
end
end L2
namespace HT
open PySem PyProof.Rows
noncomputable def lexLt:NW->NW->Bool
 | [],[]=>false
 | [],_::_=>true
 |_::_,[]=>false
 |x::xs,y::ys=>if x=y then lexLt xs ys else decide (x<y)
def vb(x y:Int)(xs ys:NW):lexLt (x::xs) (y::ys)=if x=y then lexLt xs ys else decide (x<y):=rfl
def oP:lexLt [] []=false:=rfl
def og(y:Int)(ys:NW):lexLt [] (y::ys)=true:=rfl
def oh(x:Int)(xs:NW):lexLt (x::xs) []=false:=rfl
def BL(A:Around)(s:Shared)(a:Int)(t:Tok)(c:Int)(u:Tok):∃e,SeqAt.EqAt A s (.int a t) (.int c u) e/\(e=true↔a=c):=
 ⟨(a==c),SeqAt.EqAt.int_int a t c u,by simp⟩
def zu(A:Around)(s:Shared)(a:Int)(t:Tok)(c:Int)(u:Tok)(prog:Program)(w:World)(E:NR)(Q:NR)(h:Q (.bool (decide (a<c))) s) :
  wpAny (model prog w) A (richCompare .Lt (.int a t) (.int c u)) Q E s:=
 (PyProof.Rows.lt_int h:wpAny (model prog w) A (compareOp .Lt (.int a t) (.int c u)) Q E s)
section
open PySem.SeqAt
open PySem.AutoSeq1 (wpAny_loadPart')
open PySem.MeetsSeq PySem.MeetsSeq2 PySem.MeetsSeq3
theorem oM(l b:Addr)(items items2:N2)(n n2:Nat)(dd dd2:Option Addr)(sl sl2:Array (Option Value))(ns ms:NW)(hi:IntsAre items.toList ns)(hj:IntsAre items2.toList ms) :
  Meets (Builtin.«tuple.__lt__» ⟨[.ref l,.ref b],[]⟩)
   (λ_ R s=>s.heap.get? l=some { cls:=.type "tuple", dict:=dd,data:=.seq items n,slots:=sl }/\s.heap.get? b=some { cls:=.type "tuple", dict:=dd2,data:=.seq items2 n2,slots:=sl2 } /\
    R (.ok (.ret (.bool (lexLt ns ms)))) s):=
 .of_wp λprog w A R s h=>by
  obtain⟨hp,g,d,tk,os⟩:=s;obtain⟨hl,hb,h⟩:=h;have f2:=AutoSeq1.sub_tuple_tuple;have z1:items.size=ns.length:=by rw[<- hi.length];simp
  have z2:items2.size=ms.length:=by rw[<- hj.length];simp
  wp_walk using wpAny_loadPart' hl,wpAny_loadPart' hb,wpAny_forIn_list _ (λbF b s'=>b.1=none/\s'=⟨hp,g,d,tk,os⟩/\∃ (vs ws:NY) (ns' ms':NW),bF=vs.zip ws /\
   IntsAre vs ns'/\IntsAre ws ms'/\ns'.length+items2.size=ms'.length+items.size/\R (.ok (.ret (.bool (lexLt ns' ms')))) ⟨hp,g,d,tk,os⟩) _
  case turn=>
   rintro⟨y,x⟩ bF b s' ⟨hb',rfl,vs,ws,ns',ms',hz,hvi,hwi,hlen,hR⟩;cases hvi with
   |nil=>rw[List.zip_nil_left]at hz;cases hz
   |cons a t hvi'=>
    cases hwi with
    |nil=>rw[List.zip_nil_right]at hz;cases hz
    |cons c u hwi'=>
     rw[zip_cons_cons]at hz;injection hz with hyx hrest;injection hyx with hy hx;subst hy hx;rw[vb]at hR;simp only[length_cons]at hlen;obtain⟨e,he,hiff⟩:=BL A.in1 ⟨hp,g,d,tk,os⟩ a t c u;refine wpAny_bind (he prog w _ _ ?_);cases e with
     |true=>
      rw[if_pos (hiff.mp rfl)]at hR
      wp_walk
      exact⟨rfl,rfl,_,_,_,_,hrest,hvi',hwi',by lia,hR⟩
     |false=>
      rw[if_neg (λq=>absurd (hiff.mpr q) Bool.false_ne_true)]at hR;have hri:=zu A.in1 ⟨hp,g,d,tk,os⟩ a t c u prog w
      wp_walk using hri
      exact⟨_,rfl,by simpa using hR⟩
  case fin=>
   rintro⟨b1,b2⟩ s' ⟨hb',rfl,vs,ws,ns',ms',hz,hvi,hwi,hlen,hR⟩;simp only at hb';subst hb';have hv:lexLt ns' ms'=decide (items.size<items2.size):=by
    cases hvi with
    |nil=>
     cases hwi with
     |nil=>simp only[length_nil]at hlen;rw[oP];exact(decide_eq_false ()).symm
     |cons c u hw=>simp only[length_nil,length_cons]at hlen;rw[og];exact(decide_eq_true ()).symm
    |cons a t hv=>
     cases hwi with
     |nil=>simp only[length_nil,length_cons]at hlen;rw[oh];exact(decide_eq_false ()).symm
     |cons c u hw=>rw[zip_cons_cons]at hz;cases hz
   rw[hv]at hR
   wp_walk
   exact⟨_,rfl,by simpa[Builtin.Tuple.tupleCompareSizes]using hR⟩
  case h=>
   exact⟨rfl,rfl,items.toList,items2.toList,ns,ms,rfl,hi,hj,by lia,h⟩
end
section
variable{prog:Program}{w:World}{A:Around}{E:NR}{s:Shared}
def lt_tupInts{l b:Addr}{items items2:N2}{ns ms:NW}{Q:NR}(hl:IsTup s.heap l items)(hb:IsTup s.heap b items2)(hi:IntsAre items.toList ns)(hj:IntsAre items2.toList ms)
  (hu:A.units<cLine) (h:Q (.bool (lexLt ns ms)) s):wpAny (model prog w) A (compareOp .Lt (.ref l) (.ref b)) Q E s:=by
 obtain⟨⟨cls,dd,data,sl⟩,ho,hc,n,hd⟩:=id hl;obtain⟨⟨cls2,dd2,data2,sl2⟩,ho2,hc2,n2,hd2⟩:=id hb;simp only at hc hd hc2 hd2;subst hc hd hc2 hd2;exact richCompare_meets_room (op:=.Lt) ⟨_,ho,rfl⟩ ⟨_,ho2,rfl⟩ PySem.F.slot_tuple_lt PySem.F.entry_tuple_lt (PySem.F.args_tuple_lt_2 _ _) (oM l b items items2 n n2 dd dd2 sl sl2 ns ms hi hj)
  ⟨ho,ho2,show Value.bool (lexLt ns ms)≠ Value.notImplemented/\Q (.bool (lexLt ns ms)) s from⟨(λx=>nomatch x),h⟩⟩ hu
noncomputable def sIx(n d:Nat):N1->Nat
 |none=>d
 |some v=>if v<0 then(v+(n:Int)).toNat else min v.toNat n
def sIx_none(n d:Nat):sIx n d none=d:=rfl
theorem sIx_nat(n d k:Nat):sIx n d (some (k:Int))=min k n:=by show(if(k:Int)<0 then((k:Int)+(n:Int)).toNat else min (k:Int).toNat n)=min k n;rw[if_neg (),Int.toNat_natCast]
end
end HT
namespace L2
open PySem PySem.Spec PyProof.Rows
section
abbrev TO:=St->Hp->(N1->N4)->Prop
def PO(X:Cx)(e:Option Expr)(t:TO):Prop:=
 ∀(NP:NU) (s:Shared) (Y:St) (H:Hp) (Q:N1->N4),Inv X NP Y H s->t Y H Q ->
  wpAny (model X.prog X.w) X.A (evalPart e X.env) (λu s'=>∃o H',Inv X NP Y H' s'/\IsPart u o/\Q o H') X.xe s
def Cj:TO:=λ_ H Q=>Q none H
def JS(t:TE):TO:=λY H Q=>t Y H λx H1=>∃i,x=.int i/\Q (some i) H1
def on{ns:NW}:∀{us:NY},aU (ns.map V.int) us->IntsAre us ns:=by
 induction ns with
 |nil=>intro us r;rw[List.map_nil]at r;cases r;exact .nil
 |cons n ns ih=>
  intro us r;cases r with
  |cons r1 r2=>obtain⟨t,e⟩:=r1;subst e;exact .cons n t (ih r2)
section
variable{X:Cx}{e:Expr}{te:TE}{lo hi:Option Expr}{tl th:TO}{pos p2:Pos}
def C7:PO X none Cj:=by intro NP s Y H Q I h;exact wpAny_pure ⟨none,H,I,.none,h⟩
def C6(h:PE X e te):PO X (some e) (JS te):=by intro NP s Y H Q I hw;rw[evalPart_some];refine thn (h NP s Y H _ I hw) λu s1 hz1=>?_;obtain⟨x,H1,I1,r1,q1⟩:=hz1;obtain⟨i,rfl,q⟩:=q1;obtain⟨t,rfl⟩:=r1;exact⟨some i,H1,I1,.int i t,q⟩
def SlR(X:Cx)(r:V->N1->N1->Hp->VK->Prop):Prop:=
 ∀(NP:NU) (s:Shared) (Y:St) (H:Hp) (x:V) (v vl vu:Value) (lo hi:N1) (sl:Addr) (Q:VK),Inv X NP Y H s->bB x v->s.heap.IsSliceOf sl vl vu .none->IsPart vl lo->IsPart vu hi->r x lo hi H Q ->
  ∃T id,typeLookup (.type T) "__getitem__"=pure (some (.builtin id))/\s.TypeIs v T/\wpAny (model X.prog X.w) X.A (getItem v (.ref sl)) (EP X NP Y Q) X.xe s
def tSl(r:V->N1->N1->Hp->VK->Prop)(te:TE)(tl th:TO):TE:=λY H Q=>te Y H λx H1=>tl Y H1 λl H2=>th Y H2 λu H3=>r x l u H3 Q
def sD{r:V->N1->N1->Hp->VK->Prop}(hr:SlR X r)(he:PE X e te)(hl:PO X lo tl)(hu:PO X hi th):PE X (.Subscript e (.Slice lo hi none p2) pos) (tSl r te tl th):=by intro NP s Y H Q I h;refine Subscript_ (thn (he NP s Y H _ I h) λv s1 zz=>?_);obtain⟨x,H1,I1,r1,q1⟩:=zz;refine wpAny_Slice (thn (hl NP s1 Y H1 _ I1 q1) λvl s2 ⟨l,H2,I2,pl,q2⟩=>thn (hu NP s2 Y H2 _ I2 q2) λvu s3 zz=>?_);obtain⟨u,H3,I3,pu,q3⟩:=zz;refine wpAny_pure ?_;have I4:Inv X NP Y H3 {s3 with heap:=s3.heap.push {cls:=.type "slice",data:=.fields #[vl,vu,.none]}}:=I3.kept (t':=s3.toks) λb ob q=>get?_push_of_some _ q;obtain⟨T,id,hT,ht,hg⟩:=hr NP {s3 with heap:=s3.heap.push {cls:=.type "slice",data:=.fields #[vl,vu,.none]}} Y H3 x v vl vu l u s3.heap.objs.size Q I4 r1 (Heap.IsSliceOf.new ..) pl pu q3;exact tail_any ht hT hg (by with_unfolding_all rfl)
def Eh(xs:N3)(lo hi:N1):N3:=(xs.drop (HT.sIx xs.length 0 lo)).take (HT.sIx xs.length xs.length hi-HT.sIx xs.length 0 lo)
theorem t9(xs:N3)(lo hi:N1):(Eh xs lo hi).length<=xs.length:=by
 unfold Eh;rw[List.length_take,length_drop]
 lia
def Ka(K:PySem.W.Frag):R2:=λx y H Q=>∃a b ns ms,x=.ref a/\y=.ref b/\SqT K H a (ns.map V.int)/\SqT K H b (ms.map V.int)/\Q (.bl (HT.lexLt ns ms)) H
def GR(hu:X.A.units<cLine):OpR X (compareOp .Lt) (Ka X.K):=by intro NP s Y H x y v u Q I rx ry h;obtain⟨a,b,ns,ms,rfl,rfl,ha,hb,q⟩:=h;cases rx;cases ry;obtain⟨its,r1,p1,_⟩:=I.tuple ha;obtain⟨its2,r2,p2,_⟩:=I.tuple hb;have i1:IntsAre its.toArray.toList ns:=on r1;have i2:IntsAre its2.toArray.toList ms:=on r2;exact HT.lt_tupInts p1 p2 i1 i2 hu ⟨.bl (HT.lexLt ns ms),H,I,rfl,q⟩
end
end
section
noncomputable def ixN(n:Nat)(i:Int):Option Nat:=if 0<=i then(if i<n then some i.toNat else none)else if -(n:Int)<= i then some (i+n).toNat else none
def atI{α:Type}(xs:List α)(i:Int):Option α:=(ixN xs.length i).bind λj=>xs[j]?
theorem wm{n:Nat}{i:Int}{j:Nat}(h:ixN n i=some j):seqIndex? i n=some j/\j<n/\-(n:Int)<= i/\i<n:=by
 unfold ixN at h;by_cases h0:0<=i
 .rw[if_pos h0]at h;by_cases h1:i<n
  .rw[if_pos h1]at h;have e:i.toNat=j:=Option.some.inj h;exact⟨by rw[seqIndex_of h0 h1,e],by lia,by lia,h1⟩
  .rw[if_neg h1]at h;cases h
 .rw[if_neg h0]at h;by_cases h1:-(n:Int)<= i
  .rw[if_pos h1]at h;have e:(i+n).toNat=j:=Option.some.inj h;exact⟨by rw[seqIndex_neg () h1,e],by lia,h1,by lia⟩
  .rw[if_neg h1]at h;cases h
def rm{α:Type}{xs:List α}{i:Int}{v:α}(h:atI xs i=some v):∃j,seqIndex? i xs.length=some j/\xs[j]?=some v/\j<xs.length/\-(xs.length:Int)<= i/\i<xs.length:=by
 unfold atI at h;cases e:ixN xs.length i with
 |none=>rw[e]at h;cases h
 |some j=>rw[e]at h;obtain⟨h1,h2,h3,h4⟩:=wm e;exact⟨j,h1,h,h2,h3,h4⟩
def kY(b:Expr):Prop:=∀o i,subscripted b false o i=operate [o,i] (getItem o i)
def IxR(X:Cx)(r:R2):Prop:=
 ∀(value slice:Expr) (NP:NU) (s:Shared) (Y:St) (H:Hp) (x y:V) (v u:Value) (Q:VK),Inv X NP Y H s->bB x v->bB y u->r x y H Q ->
  subscripted slice false v u=operate [v,u] (getItem v u)->wpAny (model X.prog X.w) X.A (subscriptTail value slice v u) (EP X NP Y Q) X.xe s
def MtR(X:Cx)(id:String)(r:V->N3->Hp->VK->Prop):Prop:=
 ∀(NP:NU) (s:Shared) (Y:St) (H:Hp) (x:V) (xs:N3) (v:Value) (us:NY) (Q:VK),Inv X NP Y H s->bB x v->aU xs us->r x xs H Q ->
  wpAny (model X.prog X.w) X.A (call (.builtin id) (v::us)) (EP X NP Y Q) X.xe s
section
variable{X:Cx}{a b:Expr}{ta tb:TE}{pos:Pos}
def IxR.or{r r':R2}(h:IxR X r)(h':IxR X r'):IxR X (λx y H Q=>r x y H Q\/r' x y H Q):=by
 intro value slice NP s Y H x y v u Q I rx ry q hs;rcases q with q|q
 .exact h value slice NP s Y H x y v u Q I rx ry q hs
 .exact h' value slice NP s Y H x y v u Q I rx ry q hs
def EI{r:R2}(hr:IxR X r)(ha:PE X a ta)(hb:PE X b tb)(hs:kY b):PE X (.Subscript a b pos) (tOp r ta tb):=by intro NP s Y H Q I h;exact Subscript_ (IX ha hb I h λv u s2 x y H2 I2 rx ry q=>hr a b NP s2 Y H2 x y v u Q I2 rx ry q (hs _ _))
def Gj(K:PySem.W.Frag):R2:=λx y H Q=>∃p xs i v,x=.ref p/\y=.int i/\SqL K H p xs/\atI xs i=some v/\Q v H
def Gh(K:PySem.W.Frag):R2:=λx y H Q=>∃p xs i v,x=.ref p/\y=.int i/\SqT K H p xs/\atI xs i=some v/\Q v H
def Gi:R2:=λx y H Q=>∃z i c,x=.str z/\y=.int i/\z.length<=sizeLine/\atI z.cps.toList i=some c/\Q (.str ⟨#[c]⟩) H
theorem DN:IxR X (Gj X.K):=by
 intro value slice NP s Y H x y v u Q I rx ry h hs;obtain⟨p,xs,i,z,rfl,rfl,hq,he,q⟩:=h;cases rx;obtain⟨t,rfl⟩:=ry;obtain⟨its,r,pl,hz⟩:=I.list hq;obtain⟨j,h1,h2,h3,h4,h5⟩:=rm he;obtain⟨w,ew,rw'⟩:=r.get h2;have hl:=r.length;have hn:=lF;have fin:EP X NP Y Q w s:=⟨z,H,I,rw',q⟩
 by_cases h0:0<=i
 .have hj:i.toNat=j:=by rw[seqIndex_of h0 h5]at h1;exact Option.some.inj h1
  exact item_listR pl.isList h0 () (by rw[hj];simpa using ew) fin hs
 .have hj:(i+(its.toArray.size:Int)).toNat=j:=by rw[seqIndex_neg () h4]at h1;rw[size_toArray,<- hl];exact Option.some.inj h1
  exact subscriptTail_builtinR pl.isList.typeIs slot_list_getitem.lookup
   (wpAny_getItem_list_neg pl.isList () (by rw[size_toArray]<;>lia) () (by rw[hj];simpa using ew) ⟨rfl,fin⟩) hs
def Id:IxR X (Gh X.K):=by
 intro value slice NP s Y H x y v u Q I rx ry h hs;obtain⟨p,xs,i,z,rfl,rfl,hq,he,q⟩:=h;cases rx;obtain⟨t,rfl⟩:=ry;obtain⟨its,r,pl,hz⟩:=I.tuple hq;obtain⟨j,h1,h2,h3,h4,h5⟩:=rm he;obtain⟨w,ew,rw'⟩:=r.get h2;have hl:=r.length;have hn:=lF;have fin:EP X NP Y Q w s:=⟨z,H,I,rw',q⟩
 exact subscriptTail_builtinR pl.typeIs slot_tuple_getitem.lookup
  (getItem_tuple pl () () (by rw[size_toArray,<- hl];exact h1) (by simpa using ew) ⟨rfl,fin⟩) hs
theorem Ie:IxR X Gi:=by
 intro value slice NP s Y H x y v u Q I rx ry h hs;obtain⟨z,i,c,rfl,rfl,hz,he,q⟩:=h;obtain⟨t,rfl⟩:=rx;obtain⟨t',rfl⟩:=ry;obtain⟨j,h1,h2,h3,h4,h5⟩:=rm he;have hl:z.cps.toList.length=z.length:=by simp[Str.length]
 rw[hl]at h1 h4 h5;have hn:=lF;exact tail_any (typeIs_str s z t) slot_str_getitem.lookup (getItem_str (c:=c) (by
  have e1:decide (i < -(2 ^ 63:Int))=false:=decide_eq_false ();have e2:decide (i >= 2 ^ 63)=false:=decide_eq_false ();rw[e1,e2,Bool.or_false]) (by rw[h1];simpa using h2) ⟨.str ⟨#[c]⟩,H,I.tok _,⟨_,rfl⟩,q⟩) hs
def rIx(K:PySem.W.Frag):R2:=λx y H Q=>Gj K x y H Q\/Gh K x y H Q\/Gi x y H Q
def Ig:IxR X (rIx X.K):=DN.or (Id.or Ie)
def u7(its:NY)(n j:Nat)(u:Value):Obj.mapSeq (·.setIfInBounds j u) {cls:=.type "list",data:=.seq its.toArray n}={cls:=.type "list",data:=.seq (its.set j u).toArray n}:=by simp[Obj.mapSeq]
def Inv.lst{NP:NU}{Y:St}{H:Hp}{s:Shared}{p:Addr}{xs:N3}(I:Inv X NP Y H s)(h:H p=some (.lst xs)) :
  ∃(its:NY) (n:Nat),aU xs its/\s.heap.get? p=some {cls:=.type "list",data:=.seq its.toArray n}/\xs.length<=sizeLine:=by
 obtain⟨z,its,n,r,e⟩:=I.hok p _ h;exact⟨its,n,r,e,z⟩
def Inv.lstUpd{NP:NU}{Y:St}{H:Hp}{s:Shared}{p:Addr}{xs ys:N3}{its its':NY}{n n':Nat}{f:Obj->Obj}(I:Inv X NP Y H s)(h:H p=some (.lst xs))
  (ho:s.heap.get? p=some {cls:=.type "list",data:=.seq its.toArray n}) (hf:f {cls:=.type "list",data:=.seq its.toArray n}={cls:=.type "list",data:=.seq its'.toArray n'}) (r:aU ys its') (hz:ys.length<=sizeLine) (t:Nat) :
  Inv X NP Y (upd H p (.lst ys)) {s with heap:=s.heap.update p f,toks:=t}:=by
 have e:(s.heap.update p f).get? p=some {cls:=.type "list",data:=.seq its'.toArray n'}:=by rw[Heap.get?_update_self f ho (by rw[hf]<;>rfl),hf]
 refine I.write (by rw[h];trivial) (.inl rfl) (λb u hb q=>(get?_update_other _ _ (Ne.symm hb)).trans q) ⟨_,e⟩ ?_;exact⟨hz,its',n',r,e⟩
def J_:V->V->V->Hp->(N4)->Prop:=λo i v H Q=>∃p xs k j,o=.ref p/\i=.int k/\H p=some (.lst xs)/\ixN xs.length k=some j/\Q (upd H p (.lst (xs.set j v)))
def zh:LW X J_:=by
 intro NP s Y H o i v ov iv u Q I ro ri rv h;obtain⟨p,xs,k,j,rfl,rfl,hp,hj,q⟩:=h;cases ro;obtain⟨t,rfl⟩:=ri;obtain⟨its,n,r,ho,hz⟩:=I.lst hp;obtain⟨h1,h2,h3,h4⟩:=wm hj;have hl:=r.length;have hn:=lF;have I':Inv X NP Y (upd H p (.lst (xs.set j v))) {s with heap:=s.heap.update p (Obj.mapSeq (·.setIfInBounds j u))}:=
  I.lstUpd hp ho (u7 its n j u) (r.set rv j) (by rw[length_set];exact hz) s.toks
 by_cases h0:0<=k
 .have hk:k.toNat=j:=by rw[seqIndex_of h0 h4]at h1;exact Option.some.inj h1
  exact PySem.W.ki_setAt ho h0 () (by rw[size_toArray,<- hl];exact h4) (by rw[hk];exact⟨_,I',q⟩)
 .have hk:(k+(its.toArray.size:Int)).toNat=j:=by rw[seqIndex_neg () h3]at h1;rw[size_toArray,<- hl];exact Option.some.inj h1
  exact PySem.W.ki_setBack ho () (by rw[size_toArray,<- hl];exact h3) () (by rw[hk];exact⟨_,I',q⟩)
theorem qd(lo hi:N1)(n:Nat):(sliceBounds lo hi none n).1=((HT.sIx n 0 lo:Nat):Int)/\(sliceBounds lo hi none n).2.1=((HT.sIx n n hi:Nat):Int)/\(sliceBounds lo hi none n).2.2=1:=by
 refine⟨?_,?_,rfl⟩
 .cases lo with
  |none=>simp[sliceBounds,HT.sIx]
  |some i=>
   simp only[sliceBounds,HT.sIx,Option.getD_none,show(1:Int)>0 by decide,if_true];by_cases h:i<0
   .simp only[h,if_true]<;>lia
   .simp only[h,if_false]<;>lia
 .cases hi with
  |none=>simp[sliceBounds,HT.sIx]
  |some i=>
   simp only[sliceBounds,HT.sIx,Option.getD_none,show(1:Int)>0 by decide,if_true];by_cases h:i<0
   .simp only[h,if_true]<;>lia
   .simp only[h,if_false]<;>lia
def oN(its:NY)(lo hi:N1):slicePick its.toArray lo hi none=((its.drop (HT.sIx its.length 0 lo)).take (HT.sIx its.length its.length hi-HT.sIx its.length 0 lo)).toArray:=by obtain⟨h1,h2,h3⟩:=qd lo hi its.toArray.size;unfold slicePick;rw[h1,h2,h3];simp only[sliceRange_one,pick_run]<;>rfl
def MN(K:PySem.W.Frag):V->N1->N1->Hp->VK->Prop:=λx lo hi H Q=>∃a xs,x=.ref a/\SqL K H a xs/\∀p,H p=none->Q (.ref p) (upd H p (.lst (Eh xs lo hi)))
theorem Cu:SlR X (MN X.K):=by intro NP s Y H x v vl vu lo hi sl Q I rx hs pl pu h;obtain⟨a,xs,rfl,hx,q⟩:=h;cases rx;obtain⟨its,r,ht,hz⟩:=I.list hx;have hlen:=r.length;refine⟨"list",_,slot_list_getitem.lookup,ht.isList.typeIs,?_⟩;refine wpAny_getItem_list_slice ht.isList hs pl pu .none () ?_ (by rw[size_toArray]<;>lia);rw[oN,<- hlen];refine⟨.ref s.heap.objs.size,_,I.laid (t':=s.toks) (λb ob q=>get?_push_of_some _ q) (Nat.le_refl _) ?_,rfl,q _ (I.hok.fresh (Nat.le_refl _))⟩;exact⟨Nat.le_trans (t9 xs lo hi) hz,_,0,(r.drop (HT.sIx xs.length 0 lo)).take (HT.sIx xs.length xs.length hi-HT.sIx xs.length 0 lo),get?_push_size _ rfl⟩
theorem q9:dN X (.builtin "len") (λxs H Q=>∃p ys,xs=[.ref p]/\(SqL X.K H p ys\/SqT X.K H p ys)/\Q (.int ys.length) H):=by
 intro NP s Y H xs us Q I r h;obtain⟨p,ys,rfl,hq,q⟩:=h;obtain⟨u,rfl,rx⟩:=eO r;cases rx;have hn:=lF;rcases hq with hq|hq
 .obtain⟨its,r',pl,hz⟩:=I.list hq;have hlen:=r'.length;exact Calls.call_len_list pl.isList (by simp<;>lia) ⟨.int ys.length,H,I.tok _,⟨s.toks+1,by rw[size_toArray,hlen]⟩,q⟩
 .obtain⟨its,r',pl,hz⟩:=I.tuple hq;have hlen:=r'.length;exact len_tuple pl (by simp<;>lia) ⟨.int ys.length,H,I.tok _,⟨s.toks+1,by rw[size_toArray,hlen]⟩,q⟩
theorem q8:dN X (.builtin "len") (λxs H Q=>∃z,xs=[.str z]/\z.length<=sizeLine/\Q (.int z.length) H):=by intro NP s Y H xs us Q I r h;obtain⟨z,rfl,hz,q⟩:=h;obtain⟨u,rfl,t,rfl⟩:=eO r;have hn:=lF;exact len_str () ⟨.int z.length,H,I.tok _,⟨_,rfl⟩,q⟩
def qZ:dN X (.type "list") (λxs H Q=>∃p ys,xs=[.ref p]/\(SqL X.K H p ys\/SqT X.K H p ys)/\∀l,H l=none->Q (.ref l) (upd H l (.lst ys))):=by
 intro NP s Y H xs us Q I r h;obtain⟨p,ys,rfl,hq,q⟩:=h;obtain⟨u,rfl,rx⟩:=eO r;cases rx;have fin:∀(its:NY),aU ys its->ys.length<=sizeLine->∀(h':Heap) (c':Nat),(∀b o',s.heap.get? b=some o'->h'.get? b=some o')->
   h'.get? s.heap.objs.size=some {cls:=.type "list",dict:=none,data:=.seq its.toArray c',slots:=#[]}->EP X NP Y Q (.ref s.heap.objs.size) {s with heap:=h'}:=λits r' hz h' c' kp e=>
  ⟨.ref s.heap.objs.size,_,I.laid (t':=s.toks) kp (Nat.le_refl _) (show b_ X.prog X.w _ h' _ (.lst ys)from⟨hz,its,c',r',e⟩),rfl,q _ (I.hok.fresh (Nat.le_refl _))⟩
 rcases hq with hq|hq
 .obtain⟨its,r',pl,hz⟩:=I.list hq;have hlen:=r'.length;obtain⟨o,ho,hc,n,hd⟩:=pl.isList;exact call_list_seq p (.inl rfl) ho hc hd (λh' c' kp e=>fin its r' hz h' c' kp e) (by simp<;>lia)
 .obtain⟨its,r',pl,hz⟩:=I.tuple hq;have hlen:=r'.length;obtain⟨o,ho,hc,n,hd⟩:=pl;exact call_list_seq p (.inr rfl) ho hc hd (λh' c' kp e=>fin its r' hz h' c' kp e) (by simp<;>lia)
def oT:dN X (.type "tuple") (λxs H Q=>∃p ys,xs=[.ref p]/\((SqL X.K H p ys/\∀l,H l=none->Q (.ref l) (upd H l (.tup ys)))\/(SqT X.K H p ys/\Q (.ref p) H))):=by
 intro NP s Y H xs us Q I r h;obtain⟨p,ys,rfl,h⟩:=h;obtain⟨u,rfl,rx⟩:=eO r;cases rx;rcases h with⟨hq,q⟩ |⟨hq,q⟩
 .obtain⟨its,r',pl,hz⟩:=I.list hq;have hlen:=r'.length;refine call_tuple_list pl.isList (λh' kp=>?_) (by simp<;>lia);have I1:Inv X NP Y H {s with heap:=h'}:=I.kept (t':=s.toks) kp;have I2:Inv X NP Y (upd H h'.objs.size (.tup ys)) {s with heap:=h'.push {cls:=.type "tuple",data:=.seq its.toArray}}:=
   I1.laid (t':=s.toks) (λb o e=>get?_push_of_some _ e) (Nat.le_refl _) (show b_ X.prog X.w _ _ _ (.tup ys)from⟨hz,its,r',IsTup.new _ _⟩)
  exact⟨.ref h'.objs.size,_,I2,rfl,q _ (I1.hok.fresh (Nat.le_refl _))⟩
 .obtain⟨its,r',pl,hz⟩:=I.tuple hq;exact call_tuple_same pl ⟨.ref p,H,I,rfl,q⟩
def tyV(K:PySem.W.Frag)(T:String)(x:V)(H:Hp):Prop:=match x with
 |.str _=>T="str"
 |.int _=>T="int"
 |.ref p=>(T="list" /\ ∃xs,SqL K H p xs)\/(T="tuple" /\ ∃o,K.lookup p=some o/\o.cls=.type "tuple" /\ o.dict=none)\/
   (T="dict" /\((∃kvs,H p=some (.dK kvs))\/ ∃kvs,H p=some (.dT kvs)))\/(T="set" /\ ∃S n,H p=some (.set S n))
 |_=>False
def Fz{NP:NU}{Y:St}{H:Hp}{s:Shared}{T:String}{x:V}{v:Value}(I:Inv X NP Y H s)(r:bB x v)(ty:tyV X.K T x H) :
  s.TypeIs v T/\∀a,v=.ref a->∃ob,s.heap.get? a=some ob/\ob.dict=none:=by
 cases x with
 |str z=>obtain⟨t,rfl⟩:=r;cases(show T="str" from ty);exact⟨typeIs_str s z t,λ_ e=>nomatch e⟩
 |int i=>obtain⟨t,rfl⟩:=r;cases(show T="int" from ty);exact⟨typeIs_int s i t,λ_ e=>nomatch e⟩
 |ref p=>
  cases r;rcases ty with⟨rfl,xs,hq⟩ |⟨rfl,o,hk,hc,hd⟩ |⟨rfl,hk⟩ |⟨rfl,S,n,hk⟩
  .obtain⟨its,_,pl,_⟩:=I.list hq;refine⟨pl.isList.typeIs,λa e=>?_⟩;cases e;obtain⟨o,n,e,c,hd,_⟩:=pl;exact⟨o,e,hd⟩
  .refine⟨⟨o,I.kIn p o hk,hc⟩,λa e=>?_⟩;cases e;exact⟨o,I.kIn _ o hk,hd⟩
  .have z:∃o,s.heap.get? p=some o/\o.ExactDict:=by
    rcases hk with⟨kvs,hk⟩ |⟨kvs,hk⟩
    .obtain⟨_,_,_,_,o,_,_,e,ex,_⟩:=I.hok p _ hk;exact⟨o,e,ex⟩
    .obtain⟨_,_,_,_,o,_,_,e,ex,_⟩:=I.hok p _ hk;exact⟨o,e,ex⟩
   obtain⟨o,e,ex⟩:=z;refine⟨⟨o,e,ex.1⟩,λa e2=>?_⟩;cases e2;exact⟨o,e,ex.2.1⟩
  .obtain⟨o,_,_,_,e,ex,_⟩:=I.hok p _ hk;refine⟨⟨o,e,ex.1⟩,λa e2=>?_⟩;cases e2;exact⟨o,e,ex.2.1⟩
 |_=>exact False.elim ty
def tBM(K:PySem.W.Frag)(T:String)(r:V->N3->Hp->VK->Prop)(to:TE)(t:TA):TE:=λY H Q=>to Y H λx H1=>tyV K T x H1/\t Y H1 λxs H2=>r x xs H2 Q
variable{o e:Expr}{es:List Expr}{to:TE}{t:TA}{name:Str}{apos cpos:Pos}{T id:String}{r:V->N3->Hp->VK->Prop}
def sE(pa:PlainAttrs T)(slot:Slot T name id)(hty:typeOf (.builtin id)=pure (.type "method_descriptor"))(hm:MtR X id r)(ho:PE X o to)(ha:PA X (e::es) t)
  (hbase:attributeBase o name X.env (eval o X.env)=eval o X.env:=by rfl)
  (hfew:((backTo cpos (starEach (e::es) X.env)).all (λx=>!x.1) && (backToKw cpos (keywordEach [] X.env)).all (λx=>x.1.isSome)
   && decide ((e::es).length+([]:List Keyword).length+(if([]:List Keyword).isEmpty then 0 else 1)<30))=true:=by rfl)
  (hline:(apos.endLine==cpos.line)=true:=by rfl) (hs:starEach (e::es) X.env=(false,eval e X.env)::starEach es X.env:=by rfl) (hplain:(backTo cpos (starEach es X.env)).any (·.1)=false:=by rfl) :
  PE X (.Call (.Attribute o name apos) (e::es) [] cpos) (tBM X.K T r to t):=by
 intro NP s Y H Q I h;refine wpAny_Call_method_late hbase hfew hline rfl (thn (ho NP s Y H _ I h) λv s1 zz=>?_);obtain⟨x,H1,I1,r1,ty,q1⟩:=zz;obtain⟨h1,h2⟩:=Fz I1 r1 ty;refine⟨T,id,pa,slot,hty,h1,h2,?_⟩;have hA:=ha cpos NP s1 Y H1 _ I1 q1;rw[hs]at hA ⊢;refine Calls.callWith_builtin (by show(false ||(backTo cpos (starEach es X.env)).any (·.1))=false;rw[hplain]<;>rfl) (Calls.evalArgs_plain ?_);exact thn hA λus s2 ⟨vs,H2,I2,r2,q2⟩=>hm NP s2 Y H2 x vs v us Q I2 r1 r2 q2
end
end
section
def MtM(X:Cx)(id:String)(r:V->N3->Hp->VK->Prop):Prop:=
 ∀(NP:NU) (s:Shared) (Y:St) (H:Hp) (x:V) (xs:N3) (v:Value) (us:NY) (Q:VK),Inv X NP Y H s->bB x v->aU xs us->r x xs H Q ->
  wpAny (model X.prog X.w) X.A (call (.builtin id) (v::us)) (EP X NP Y Q) X.xe s
def aU.one{x:V}{us:NY}(h:aU [x] us):∃u,us=[u]/\bB x u:=by
 cases h with
 |cons r t=>cases t;exact⟨_,rfl,r⟩
def aU.eraseIdx:∀{xs:N3}{us:NY} (i:Nat),aU xs us->aU (xs.eraseIdx i) (us.eraseIdx i)
 |_,_,_,.nil=>.nil
 |_,_,0,.cons _ t=>t
 |_,_,i+1,.cons r t=>.cons r (aU.eraseIdx i t)
def pJ{α:Type}:∀(l:List α) (i:Nat),(l.eraseIdx i).length<=l.length
 | [],_=>Nat.le_refl _
 |_::_,0=>le_succ _
 |_::r,i+1=>Nat.succ_le_succ (pJ r i)
section
variable{X:Cx}{NP:NU}{Y:St}{H:Hp}{s:Shared}{l b:Addr}{xs ys zs:N3}
def Inv.lset{its its':NY}{n:Nat}{f:N2->N2}{t':Nat}(I:Inv X NP Y H s)(hH:H l=some (.lst xs))
  (e:s.heap.get? l=some {cls:=.type "list",data:=.seq its.toArray n}) (hf:f its.toArray=its'.toArray) (hv:aU ys its') (hz:ys.length<=sizeLine) :
  Inv X NP Y (upd H l (.lst ys)) {s with heap:=s.heap.update l (Obj.mapSeq f),toks:=t'}:=by
 have q:=PySem.IsL.update e f;rw[hf]at q;refine I.write (by rw[hH];exact trivial) (.inl rfl) (λb' u hb hu=>(get?_update_other s.heap (Obj.mapSeq f) (Ne.symm hb)).trans hu) ⟨_,q⟩ ?_;exact⟨hz,its',_,hv,q⟩
def Inv.lnew{its:NY}{t':Nat}(I:Inv X NP Y H s)(hv:aU ys its)(hz:ys.length<=sizeLine) :
  Inv X NP Y (upd H s.heap.objs.size (.lst ys)) {s with heap:=s.heap.push {cls:=.type "list",data:=.seq its.toArray},toks:=t'}:=
 I.laid (λ_ _ q=>get?_push_of_some _ q) (Nat.le_refl _) ⟨hz,its,0,hv,get?_push_size _ rfl⟩
def Inv.fresh(I:Inv X NP Y H s):H s.heap.objs.size=none:=I.hok.fresh (Nat.le_refl _)
def Inv.lstM(I:Inv X NP Y H s)(hH:H l=some (.lst xs)):xs.length<=sizeLine/\∃(its:NY) (n:Nat),aU xs its/\xs.length=its.length/\s.heap.get? l=some {cls:=.type "list",data:=.seq its.toArray n}:=by obtain⟨z,its,n,r,e⟩:=I.hok l _ hH;exact⟨z,its,n,r,r.length,e⟩
end
section
variable{X:Cx}
def CY:V->N3->Hp->VK->Prop:=λx vs H Q=>∃l xs y,x=.ref l/\vs=[y]/\H l=some (.lst xs)/\xs.length<sizeLine/\Q .non (upd H l (.lst (xs++[y])))
theorem lA:MtM X "list.append" CY:=by
 intro NP s Y H x vs v us Q I rx rv h;obtain⟨l,xs,y,rfl,rfl,hH,hz,q⟩:=h;cases rx;obtain⟨u,rfl,ru⟩:=rv.one;obtain⟨z,its,n,r,hl,e⟩:=I.lstM hH;refine call_meets F.slot_list_append ⟨_,e,rfl⟩ F.entry_list_append (F.args_list_append_2 _ _) (PySem.list_append l its.toArray n u (by rw[size_toArray];lia)) ⟨e,?_⟩;refine⟨.non,_,I.lset (its':=its++[u]) hH e () (r.append (.cons ru .nil)) ?_,rfl,q⟩;rw[length_append,List.length_singleton]
 lia
def Gg:V->N3->Hp->VK->Prop:=λx vs H Q=>∃l xs i k y,x=.ref l/\vs=[.int i]/\H l=some (.lst xs)/\-(2 ^ 63)<= i/\i<2 ^ 63/\seqIndex? i xs.length=some k/\xs[k]?=some y/\Q y (upd H l (.lst (xs.eraseIdx k)))
theorem An:MtM X "list.pop" Gg:=by
 intro NP s Y H x vs v us Q I rx rv h;obtain⟨l,xs,i,k,y,rfl,rfl,hH,h1,h2,hk,hy,q⟩:=h;cases rx;obtain⟨u,rfl,ru⟩:=rv.one;obtain⟨t,rfl⟩:=ru;obtain⟨z,its,n,r,hl,e⟩:=I.lstM hH;obtain⟨w,hw,rw'⟩:=r.get hy;refine call_meets F.slot_list_pop ⟨_,e,rfl⟩ F.entry_list_pop (F.args_list_pop_2 _ _)
  (MeetsSeq.list_pop_at l its.toArray n i t k w (fitsIndex_both h1 h2) (by rw[size_toArray,<- hl];exact hk) (by rw[<- Array.getElem?_toList];exact hw) (by rw[size_toArray];lia)) ⟨e,?_⟩
 refine⟨y,_,I.lset (its':=its.eraseIdx k) hH e ?_ (r.eraseIdx k) ?_,rw',q⟩
 .show its.toArray.eraseIdxIfInBounds k=(its.eraseIdx k).toArray;rw[List.eraseIdxIfInBounds_toArray]
 .have:=pJ xs k
  lia
end
end
end L2
namespace Att
open PySem PySem.W PySem.Calls PyProof.Rows
def mH{P:Params}{h:Heap}:∀(ns:NW) (vs:NY),WellAll P h vs (ns.map WData.int)->IntsAre vs ns:=by
 intro ns
 induction ns with
 |nil=>intro vs w;cases w;exact .nil
 |cons n ns ih=>
  intro vs w;cases w with
  |cons a b=>cases a;exact .cons _ _ (ih _ b)
theorem xw{l:OpenLaw}{n:Nat}(hn:l.most=some n){P:Params}{h:Heap}{args:List WData}{vals:NY}
  (hpre:l.row.toRowW.claim.pre args=true) (hwl:WellAll P h vals args) :
  ∃a vs ns,vals=[Value.ref a]/\args=[WData.list (ns.map WData.int)]/\h.get? a=some {cls:=.type "list",data:=.seq vs.toArray}/\IntsAre vs ns/\ns.length<=n:=by
 have hsh:WShape.hasAll [] args [.list .int]=true:=(pre_splitW hpre).1;have hc:l.pre.holds [] {args:=args}=true:=(pre_splitW hpre).2;obtain⟨d,r,rfl,h1,h2⟩:=hasAllW_cons hsh;obtain rfl:=hasAllW_nil h2;obtain⟨xs,rfl,h3⟩:=hasW_list h1;obtain⟨ns,rfl⟩:=items_int h3;have hlen:ns.length<=n:=by
  unfold OpenLaw.pre at hc;have h4:(WTm.not (.lt (.lit (.int (n:Int))) (.len (.arg 0)))).holds [] {args:=[.list (ns.map .int)]}=true:=by have h4:=(holds_andW hc).1;rw[hn]at h4;exact h4
  have h5:=condW_of h4 (w_not (w_lt w_lit (w_len_list (w_arg rfl))));rw[length_map]at h5;refine Nat.le_of_not_lt λq=>?_;have q':(n:Int) <((ns.length:Nat):Int):=by lia
  first
   |(rw[decide_eq_true q']at h5;exact absurd h5 ())
   |(simp at h5;lia)
 cases hwl with
 |cons w1 w2=>
  cases w2;cases w1 with
  |list ho hall=>exact⟨_,_,ns,rfl,rfl,ho,mH ns _ hall,hlen⟩
def xL(l:OpenLaw)(args:List WData):l.row.toRowW.claim.post args (.bool true) args=true:=
 postW_of
  (show WShape.has [] (.bool true) .bool=true by first|rfl|decide|simp[WShape.has])
  (show(WTm.eq .res (.lit (.bool true))).value [] {args:=args,res:=some (.bool true),after:=args}=some (.bool (true==true))from w_eq_bool (w_res rfl) w_lit) rfl
def attach_call{l:OpenLaw}{n:Nat}{q:Program}{loose:N0}{XP:(NS)->Heap->Prop}{YP:World->Heap->Prop}{d:DefRec}
  (hn:l.most=some n) (hdf:d.params.defaults=[])
  (call:∀ (w:World) (s₀ s₁:Shared) (mg mb:NS) (fa:Addr) (o:Obj) (pm cd doc:Value) (a:Addr) (vs:NY) (ns:NW),
   Ground q loose [] XP w s₀ mg mb s₁.heap->YP w s₁.heap ->
   s₁.heap.get? fa=some o->o.data=.func (docDef d.name d.params d.body d.scope pm cd doc)->s₁.heap.CodeRec cd d.name->mg d.name=some (.ref fa)->
   s₁.heap.get? a=some {cls:=.type "list",data:=.seq vs.toArray}->IntsAre vs ns->ns.length<=n->s₁.gens=#[]->
   codeAny (model l.prog w) callerA (.call (.ref fa) ⟨[.ref a],[]⟩) (λr s'=>r=.ok (.ret (.bool true))/\OldK s₁.heap s'.heap/\s'.os=s₁.os/\AllBare s'.gens) s₁) :
  WalkO q loose XP YP l.row.toRowW d [] (λf vs=>PySem.call f vs):=by
 intro w s₀ s₁ mg mb G NQ fa o pm cd doc dV kV ho hd hcd hD hmg hg args vals as hpre hlay hrd hwl hlo;obtain rfl:dV=.none:=Dflts.none hD hdf;obtain rfl:kV=.none:=Dflts.noKw hD;obtain⟨a,vs,ns,rfl,rfl,hobj,hints,hlen⟩:=xw hn hpre hwl;refine enter_call (codeAny_mono (call w s₀ s₁ mg mb fa o pm cd doc a vs ns G NQ ho (fd_plain hd) hcd hmg hobj hints hlen hg) λr s' hq=>?_);obtain⟨rfl,h2,h3,h4⟩:=hq;exact⟨.inl ⟨.bool true,.bool true,[],rfl,λ_=>rfl,.bool true,xL l _,λ_=>⟨Pairwise.nil,λ_ hm=>(nomatch hm)⟩⟩,h2,h3,h4⟩
end Att
namespace L2
open PySem PySem.Spec PyProof.Rows
section
def oZ:∀{vs:NY}{ns:NW},IntsAre vs ns->aU (ns.map V.int) vs
 |_,_,.nil=>.nil
 |_,_,.cons n t h=>.cons ⟨t,rfl⟩ (oZ h)
def Je(H:Hp):Prop:=∀b,H b=none\/∃o xs,H b=some (.frz o (.lst xs))
theorem AR{P:Program}{w:World}{K:PySem.W.Frag}{mg mb:NS}{CX:CXT}{k:Nat}{fa a:Addr}{fd:FuncData}{x:Str}{sp:Sp}{s₁:Shared}{vs:NY}{ns:NW}
  (KX:K.In s₁.heap) (hns:s₁.heap.Ns mainGlobals mg) (hb:s₁.heap.Ns builtinsNs mb) (hbb:∀x:Str,x≠"__name__" -> mb x=bootBuiltins x) (hlim:s₁.heap.NoLimit) (hg:s₁.gens=#[])
  (ha:s₁.heap.get? a=some {cls:=.type "list",data:=.seq vs.toArray}) (hi:IntsAre vs ns) (hl:ns.length<=sizeLine) (hr:eM k callerA)
  (F:∀base:Heap,K.In base->base.Ns mainGlobals mg->dA P w K mg base CX k fa fd [x] sp) (hbind:∀(s:Shared) (u:Value),BindsTo s fd ⟨[u],[]⟩ [(x,u)])
  (hsp:∀H:Hp,Je H->SqL K H a (ns.map V.int)->sp [.ref a] H (λv _=>v=.bl true) λ_ _ _=>False)
  (hCX:∀H e s',CX [] H s₁ (λ_ _ _=>False) e s'->False) :
  codeAny (model P w) callerA (.call (.ref fa) ⟨[.ref a],[]⟩) (λr s'=>r=.ok (.ret (.bool true))/\OldK s₁.heap s'.heap/\s'.os=s₁.os/\AllBare s'.gens) s₁:=by
 have rv:=oZ hi;have lenV:=hi.length;have core:∀H:Hp,Je H->SqL K H a (ns.map V.int)->HOk P w H s₁.heap->(∀b,H b≠none->b=a)->(H a≠none->K.lookup a=none)->
   codeAny (model P w) callerA (.call (.ref fa) ⟨[.ref a],[]⟩) (λr s'=>r=.ok (.ret (.bool true))/\OldK s₁.heap s'.heap/\s'.os=s₁.os/\AllBare s'.gens) s₁:=by
  intro H hO hS hok hA hK;have base_of:∀{b:Addr}{o:Obj},s₁.heap.get? b=some o->H b=none->(qF s₁.heap H).get? b=some o:=λe n=>A4 e n;have noA:∀{b:Addr}{o:Obj}{es:Array DictEntry}{ep:Nat},s₁.heap.get? b=some o->o.data=.dict es ep->H b=none:=λ{b o es ep} e d=>by
   cases q:H b with
   |none=>rfl
   |some u=>have e':b=a:=hA b (by rw[q];simp);subst e';rw[ha]at e;cases e;have d':Data.seq vs.toArray _=Data.dict es ep:=d;cases d'
  have nsK:∀{b:Addr}{m:NS},s₁.heap.Ns b m->(qF s₁.heap H).Ns b m:=λ{b m} ⟨o,es,ep,e,d,r⟩=>⟨o,es,ep,base_of e (noA e d),d,r⟩
  have hKb:K.In (qF s₁.heap H):=λb o e=>base_of (KX b o e) (by
   cases q:H b with
   |none=>rfl
   |some u=>
    have e':b=a:=hA b (by rw[q];simp);subst e';rw[hK (by rw[q];simp)]at e;cases e)
  have hM:Mod K mg (qF s₁.heap H):=⟨hKb,nsK hns,⟨mb,nsK hb,hbb⟩,let⟨mc,h1,h2⟩:=hlim;⟨mc,nsK h1,h2⟩⟩
  have e0:vA P w K mg (qF s₁.heap H) callerA [] s₁ H:=⟨rfl,hM,λb o e=>Dq e,Nat.le_of_eq (yr _ _),trivial,λb hb=>absurd (show b ∈([]:NZ)from hb) (),hok,.of_eq hg⟩
  refine codeAny_mono ((F _ hKb (nsK hns)).run callerA [] s₁ H ⟨[.ref a],[]⟩ [.ref a] [.ref a] _ _ hr e0 (hbind s₁ (.ref a)) (.cons rfl .nil) (hsp H hO hS)) λr s' h=>?_;cases r with
  |error e=>exact(hCX H e s' h).elim
  |ok fl=>
   cases fl with
   |next|brk|cont=>exact False.elim h
   |ret u=>
    obtain⟨v,H',os,bare,un,hok',r',q⟩:=h;have q':v=.bl true:=q;subst q';obtain rfl:u=Value.bool true:=r';refine⟨rfl,OldK.of_keep λb o e=>?_,os,bare⟩;cases q:H b with
    |none=>exact un.keep b o e q (by intro z;exact absurd (show b ∈([]:NZ)from z) ()) ()
    |some u=>
     rcases hO b with z |⟨ob,xs,z⟩
     .rw[q]at z;cases z
     .have z2:=un.frzs b ob _ z;obtain⟨e1,_⟩:=hok b _ z;obtain⟨e2,_⟩:=hok' b _ z2;rw[e]at e1;cases e1;exact e2
 cases hk:K.lookup a with
 |some o=>have e:=KX a o hk;rw[ha]at e;cases e;refine core (λ_=>none) (λ_=>.inl rfl) (.inr ⟨_,vs.toArray,_,hk,rfl,rfl,rfl,by rw[size_toArray,lenV];exact hl,by lia⟩) (λb u z=>by lia) (λb z=>absurd rfl z) λz=>absurd rfl z
 |none=>
  refine core (λb=>if b=a then some (.frz {cls:=.type "list",data:=.seq vs.toArray} (.lst (ns.map V.int)))else none) (λb=>?_) (.inl (.inr ⟨{cls:=.type "list",data:=.seq vs.toArray},if_pos rfl⟩)) (λb u z=>?_) (λb z=>?_) λ_=>hk
  .by_cases hb:b=a
   .exact .inr ⟨_,_,if_pos hb⟩
   .exact .inl (if_neg hb)
  .by_cases hb:b=a
   .have z':=(if_pos hb).symm.trans z;cases z';subst hb;exact⟨ha,by rw[length_map];exact hl,vs,_,rv,ha⟩
   .lia
  .lia
end
section
def Cd{l:PySem.W.OpenLaw}{n k:Nat}{q:Program}{loose:N0}{XP:(NS)->Heap->Prop}{YP:World->Heap->Prop}{d:DefRec}{K:Params->PySem.W.Frag}{CX:World->CXT}{sp:World->Sp}{x:Str}
  (hn:l.most=some n) (hn2:n<=sizeLine) (hdf:d.params.defaults=[]) (hr:eM k callerA)
  (hY:∀(w:World) (h:Heap),YP w h->(K w.params).In h)
  (F:∀ (w:World) (mg:NS) (fa:Addr) (h:Heap),(K w.params).In h->h.Ns mainGlobals mg->mg d.name=some (.ref fa) ->
   ∃fd:FuncData,(∀(s:Shared) (u:Value),BindsTo s fd ⟨[u],[]⟩ [(x,u)])/\
    ∀base:Heap,(K w.params).In base->base.Ns mainGlobals mg->dA l.prog w (K w.params) mg base (CX w) k fa fd [x] (sp w))
  (hsp:∀(w:World) (H:Hp) (a:Addr) (ns:NW),ns.length<=n->Je H->SqL (K w.params) H a (ns.map V.int)->sp w [.ref a] H (λv _=>v=.bl true) λ_ _ _=>False)
  (hCX:∀(w:World) (H:Hp) (s:Shared) (e:Value) (s':Shared),CX w [] H s (λ_ _ _=>False) e s'->False) :
  PySem.W.WalkO q loose XP YP l.row.toRowW d [] (λf vs=>PySem.call f vs):=by
 refine Att.attach_call hn hdf λw s₀ s₁ mg mb fa o pm cd doc a vs ns G NQ ho hd hcd hmg hobj hints hlen hg=>?_;have KX:=hY w _ NQ;obtain⟨fd,hb,hF⟩:=F w mg fa _ KX G.T.g hmg;exact AR KX G.T.g G.T.b G.T.builtins G.T.nolimit hg hobj hints (Nat.le_trans hlen hn2) hr hF hb (λH hO hS=>hsp w H a ns hlen hO hS) λH e s'=>hCX w H s₁ e s'
end
section
noncomputable def DT(s:Stmt)(j:Nat):Stmt:=match s with
 |.ClassDef _ _ _ body _ _ _ _ _ _ _=>body.getD j (.Pass ⟨0,0,0,0⟩)
 |_=>.Pass ⟨0,0,0,0⟩
def fh(s:Stmt):Arguments:=match s with
 |.FunctionDef _ a _ _ _ _ _ _ _ _=>a
 |_=>{posonlyargs:=[],args:=[],vararg:=none,kwonlyargs:=[],kw_defaults:=[],kwarg:=none,defaults:=[]}
def cA(s:Stmt):List Stmt:=match s with
 |.FunctionDef _ _ b _ _ _ _ _ _ _=>b
 |_=>[]
noncomputable def aO(s:Stmt):Scope:=match s with
 |.FunctionDef _ _ _ _ _ _ sc _ _ _=>sc
 |_=>{kind:=.function,names:=[],isGenerator:=false,isCoroutine:=false}
structure Fun(K:PySem.W.Frag)(x qual:Str)(st:Stmt)(f:Addr)(fd:FuncData):Prop where
 ex:∃(oc:Value) (od:Option Addr) (kV doc pm:Value) (an:Option Addr) (cdv ct:Value) (osl:Array (Option Value)),
  fd=PySem.W.fnOf x qual (fh st) (cA st) (aO st) .none kV doc pm an cdv ct/\K.lookup f=some ⟨oc,od,.func fd,osl⟩/\PySem.W.codeIn K cdv qual=true
 kp:PySem.W.keepIn K (.ref f)=true
section
variable{P:Program}{w:World}{K:PySem.W.Frag}{mg:NS}{base:Heap}
def Fun.binds{x qual:Str}{st:Stmt}{f:Addr}{fd:FuncData}{ps:N0}(F:Fun K x qual st f fd)
  (h:∀(kV doc pm:Value) (an:Option Addr) (cdv ct:Value) (us:NY),us.length=ps.length->bindArgs (PySem.W.fnOf x qual (fh st) (cA st) (aO st) .none kV doc pm an cdv ct) ⟨us,[]⟩=pure (ps.zip us)):gJ K fd ps []:=by
 obtain⟨oc,od,kV,doc,pm,an,cdv,ct,osl,rfl,lk,hcd⟩:=F.ex;exact .all (h kV doc pm an cdv ct)
end
end
end L2
set_option maxHeartbeats 4000000
namespace L2
open PySem PySem.Spec PyProof.Rows
section
variable{κ:Type} [DecidableEq κ]
noncomputable def m9(kvs:List (κ×V))(k:κ):Option V:=(kvs.find? λkv=>decide (kv.1=k)).map (·.2)
noncomputable def i_(kvs:List (κ×V))(k:κ)(v:V):List (κ×V):=
 if(kvs.any λkv=>decide (kv.1=k))=true then kvs.map (λkv=>if kv.1=k then(kv.1,v)else kv)else kvs++[(k,v)]
def m5{p:κ×V}{r:List (κ×V)}{k:κ}(e:p.1=k):m9 (p::r) k=some p.2:=by simp[m9,find?_cons,e]
def m8{p:κ×V}{r:List (κ×V)}{k:κ}(e:¬p.1=k):m9 (p::r) k=m9 r k:=by simp[m9,find?_cons,e]
def rE(k:κ):∀kvs:List (κ×V),(kvs.any λkv=>decide (kv.1=k))=(m9 kvs k).isSome
 | []=>rfl
 |p::r=>by
  rw[any_cons];by_cases e:p.1=k
  .simp only[m5 e,decide_eq_true e,Bool.true_or,Option.isSome_some]
  .rw[m8 e,decide_eq_false e,Bool.false_or];exact rE k r
theorem l8(kvs:List (κ×V))(k:κ)(v:V):(i_ kvs k v).length<=kvs.length+1:=by
 unfold i_;split
 .rw[length_map];lia
 .rw[length_append,length_cons,length_nil];lia
def putK_new{kvs:List (κ×V)}{k:κ}(v:V)(h:m9 kvs k=none):i_ kvs k v=kvs++[(k,v)]:=by unfold i_;rw[rE,h];exact if_neg ()
def KV.val{kvs:List (κ×V)}{vs:List (κ×Value)}(r:KV kvs vs)(k:κ):mK (m9 kvs k) (valueAt vs k):=by
 unfold KV at r
 induction r with
 |nil=>exact True.intro
 | @cons p q ps qs h t ih=>
  obtain⟨h1,h2⟩:=h;by_cases e:p.1=k
  .have e':q.1=k:=h1.symm.trans e;have b:valueAt (q::qs) k=some q.2:=by simp[valueAt,find?_cons,e']
   rw[m5 e,b];exact h2
  .have e':¬q.1=k:=λz=>e (h1.trans z);have b:valueAt (q::qs) k=valueAt qs k:=by simp[valueAt,find?_cons,e']
   rw[m8 e,b];exact ih
def KV.any{kvs:List (κ×V)}{vs:List (κ×Value)}(r:KV kvs vs)(k:κ):(kvs.any λkv=>decide (kv.1=k))=vs.any λkv=>decide (kv.1=k):=by
 unfold KV at r
 induction r with
 |nil=>rfl
 |cons h t ih=>rw[any_cons,any_cons,ih,h.1]
def KV.repl{kvs:List (κ×V)}{vs:List (κ×Value)}(r:KV kvs vs)(k:κ){y:V}{u:Value}(ry:bB y u) :
  KV (kvs.map λkv=>if kv.1=k then(kv.1,y)else kv) (vs.map λkv=>if kv.1=k then(kv.1,u)else kv):=by
 unfold KV at r ⊢
 induction r with
 |nil=>exact .nil
 | @cons p q ps qs h t ih=>
  rw[map_cons,map_cons];refine .cons ?_ ih;obtain⟨h1,h2⟩:=h;by_cases e:p.1=k
  .rw[if_pos e,if_pos (h1.symm.trans e)];exact⟨h1,ry⟩
  .rw[if_neg e,if_neg (λz=>e (h1.trans z))];exact⟨h1,h2⟩
def KV.put{kvs:List (κ×V)}{vs:List (κ×Value)}(r:KV kvs vs)(k:κ){y:V}{u:Value}(ry:bB y u):KV (i_ kvs k y) (stored vs k u):=by
 unfold i_ stored;rw[r.any k];by_cases e:(vs.any λkv=>decide (kv.1=k))=true
 .rw[if_pos e,if_pos e];exact r.repl k ry
 .rw[if_neg e,if_neg e];exact Paired.snoc r ⟨rfl,ry⟩
def KV.length{kvs:List (κ×V)}{vs:List (κ×Value)}(r:KV kvs vs):kvs.length=vs.length:=Paired.length r
end
def AV{P:Program}{w:World}{k:Key}{u:Value}(r:bB (kV k) u):(eD P w).is k u=true:=by
 cases k with
 |inl i=>obtain⟨t,e⟩:=(show ∃t,u=Value.int i t from r);subst e;exact sO P w i t
 |inr x=>obtain⟨t,e⟩:=(show ∃t,u=Value.str x t from r);subst e;exact sN P w x t
section
variable{P:Program}{w:World}{H:Hp}{h:Heap}{a:Addr}
def J9{u:HO}(ok:HOk P w H h)(e:Rd H a u):b_ P w H h a u:=e.ok ok
def Lh{kvs:List (Key×V)}(ok:HOk P w H h)(e:Rd H a (.dK kvs)):kvs.length<=sizeLine/\(a==sysModules)=false/\∃vs,KV kvs vs/\h.DictOf (eD P w) a vs:=
 show b_ P w H h a (.dK kvs)from J9 ok e
def Li{kvs:List (Key×V)}(ok:HOk P w H h)(e:H a=some (.dK kvs)):kvs.length<=sizeLine/\(a==sysModules)=false/\∃vs,KV kvs vs/\h.DictOf (eD P w) a vs:=Lh ok (.inl e)
end
section
variable{X:Cx}{NP:NU}{Y:St}{H:Hp}{s:Shared}{a:Addr}{y v:V}{u r:Value}{o:Option V}{A:Around}{E:NR}
def Inv.big(I:Inv X NP Y H s):sysModules<s.heap.objs.size:=by have h:mainGlobals<s.heap.objs.size:=(I.mod.glob.keeps I.bk).lt;exact Nat.lt_trans () h
def Eg{h':Heap}{t':Nat}{ob:HO}(I:Inv X NP Y H s)(mu:Mut (H a))(hs:SameBut a s.heap h')(he:∃q,h'.get? a=some q)(new:b_ X.prog X.w (upd H a ob) h' a ob) :
  Inv X NP Y (upd H a ob) {s with heap:=h',toks:=t'}:=
 I.write (x:=a) (e:=a) mu (.inl rfl) (λb q hb z=>(hs.2 b hb).trans z) he new
def IQ{P:Program}{w:World}{H':Hp}{h':Heap}{kvs:List (Key×V)}{vs:List (Key×Value)}(z:kvs.length<=sizeLine)(hd:(a==sysModules)=false)(rel:KV kvs vs)(dd:h'.DictOf (eD P w) a vs) :
  b_ P w H' h' a (.dK kvs):=⟨z,hd,vs,rel,dd⟩
end
def Jf(i:Expr):Prop:=∀ov iv,subscripted i false ov iv=operate [ov,iv] (getItem ov iv)
def Cl{prog:Program}{w:World}{A:Around}{E:NR}{s:Shared}{env:Env}{value slice:Expr}{pos:Pos}{T id:String}{Q:NR}
  (hl:typeLookup (.type T) "__getitem__"=pure (some (.builtin id))) (hs:Jf slice)
  (h:wpAny (model prog w) A (eval value env) (λo s₁=>wpAny (model prog w) A (eval slice env) (λi s₂=>s₂.TypeIs o T/\wpAny (model prog w) A (getItem o i) Q E s₂) E s₁) E s) :
  wpAny (model prog w) A (eval (.Subscript value slice pos) env) Q E s:=by
 refine Subscript_ (wpAny_mono h (λo s₁ h₁=>wpAny_mono h₁ (λi s₂ h₂=>?_) λ_ _ x=>x) λ_ _ x=>x);obtain⟨hT,h₂⟩:=h₂;unfold subscriptTail;refine wpAny_bind ?_;rw[getitemInPython_of_ne hT.not_modules];refine wpAny_bind (wpAny_specialOf hT hl ?_);have fin:wpAny (model prog w) A (subscripted slice false o i) (λr s₃=>wpAny (model prog w) A (letTemporaryGo value o r >>= λ_=>pure r) Q E s₃) E s₂:=by rw[hs o i];exact wpAny_operating (wpAny_mono h₂ (λr s₃ h₃=>wpAny_bind (wpAny_letTemporaryGo (wpAny_pure h₃))) λ_ _ x=>x)
 first
  |exact wpAny_pure (wpAny_bind fin)
  |exact wpAny_bind (wpAny_pure (wpAny_bind fin))
  |exact wpAny_bind fin
def BQ{P:Program}{w:World}{H:Hp}(h:Heap)(hb:sysModules<h.objs.size):b_ P w H (h.push {cls:=.type "dict",data:=.dict #[]}) h.objs.size (.dK []):=
 ⟨zero_le _,beq_eq_false_iff_ne.mpr (Ne.symm (Nat.ne_of_lt hb)),[],.nil,Heap.DictOf.new h⟩
def p_:List (TE×TE)->St->Hp->(List (V×V)->N4)->Prop
 | [],_,H,Q=>Q [] H
 |(tk,tv)::r,Y,H,Q=>tk Y H λx H1=>tv Y H1 λy H2=>p_ r Y H2 λps H3=>Q ((x,y)::ps) H3
abbrev VV:List (V×V)->List (Value×Value)->Prop:=Paired λp q=>bB p.1 q.1/\bB p.2 q.2
def PPs(X:Cx)(pos:Pos)(keys:List (Option Expr))(values:List Expr)(trs:List (TE×TE)):Prop:=
 ∀(NP:NU) (s:Shared) (Y:St) (H:Hp) (Q:List (V×V)->N4),Inv X NP Y H s->p_ trs Y H Q ->
  wpAny (model X.prog X.w) X.A (evalPairs (pairTrees keys values X.env pos)) (λvs s'=>∃ps H',Inv X NP Y H' s'/\VV ps vs/\Q ps H') X.xe s
def C5{X:Cx}{pos:Pos}:PPs X pos [] [] []:=λNP s Y H Q I h=>pairTrees_nil_walk ⟨[],H,I,.nil,h⟩
def ja{X:Cx}{pos:Pos}{k v:Expr}{ks:List (Option Expr)}{vs:List Expr}{tk tv:TE}{trs:List (TE×TE)}(hk:PE X k tk)(hv:PE X v tv)(hr:PPs X pos ks vs trs) :
  PPs X pos (some k::ks) (v::vs) ((tk,tv)::trs):=λNP s Y H Q I h=>
 pairTrees_cons_walk (thn (hk NP s Y H _ I h) λu s1 ⟨x,H1,I1,rx,q1⟩=>thn (hv NP s1 Y H1 _ I1 q1) λw2 s2 ⟨y,H2,I2,ry,q2⟩=>
  thn (hr NP s2 Y H2 _ I2 q2) λws s3 ⟨ps,H3,I3,rel,q3⟩=>⟨(x,y)::ps,H3,I3,.cons ⟨rx,ry⟩ rel,q3⟩)
def jg(kvs more:List (Key×V)):List (Key×V):=more.foldl (λacc kv=>i_ acc kv.1 kv.2) kvs
def KV.merge:∀{more:List (Key×V)}{rs:List (Key×Value)}{kvs:List (Key×V)}{vs:List (Key×Value)},KV more rs->KV kvs vs->KV (jg kvs more) (merged vs rs):=by
 intro more rs kvs vs r;unfold KV at r
 induction r generalizing kvs vs with
 |nil=>intro q;exact q
 | @cons p q ps qs h t ih=>
  intro r0;have e:KV (i_ kvs p.1 p.2) (stored vs q.1 q.2):=by have:=r0.put p.1 h.2;rw[<- h.1];exact this
  exact ih e
theorem jG:∀(more kvs:List (Key×V)),(jg kvs more).length<=kvs.length+more.length
 | [],kvs=>by show kvs.length<=kvs.length+0;lia
 |p::r,kvs=>by have h1:=jG r (i_ kvs p.1 p.2);have h2:=l8 kvs p.1 p.2;show(jg (i_ kvs p.1 p.2) r).length<=_;rw[length_cons];lia
def oG{P:Program}{w:World}:∀{kvs:List (Key×V)}{ws:List (Value×Value)},VV (kvs.map λkv=>(kV kv.1,kv.2)) ws->∃rs,Carries (eD P w) ws rs/\KV kvs rs
 | [],_,r=>by rw[List.map_nil]at r;cases r;exact⟨[],True.intro,.nil⟩
 |p::kvs,_,r=>by
  rw[map_cons]at r;cases r with
  | @cons a b as bs h t=>obtain⟨rs,c,q⟩:=oG (P:=P) (w:=w) t;obtain⟨b1,b2⟩:=b;exact⟨(p.1,b2)::rs,⟨AV h.1,rfl,c⟩,.cons ⟨rfl,h.2⟩ q⟩
def JW(trs:List (TE×TE)):TE:=λY H Q=>∀p,H p=none->p_ trs Y (upd H p (.dK [])) λps H2=>H2 p=some (.dK [])/\∃kvs:List (Key×V),ps=kvs.map (λkv=>(kV kv.1,kv.2))/\kvs.length<=15/\Q (.ref p) (upd H2 p (.dK (jg [] kvs)))
theorem Dc{X:Cx}{pos:Pos}{keys:List (Option Expr)}{values:List Expr}{trs:List (TE×TE)}(h:PPs X pos keys values trs)(hall:keys.all (·.isSome)=true)(hl:keys.length=values.length)(h0:keys≠[])
  (h15:keys.length<=15):PE X (.Dict keys values pos) (JW trs):=by
 intro NP s Y H Q I q;have hn:=I.hok.fresh (Nat.le_refl s.heap.objs.size);have I1:=I.laid (a:=s.heap.objs.size) (o:=.dK []) (h':=s.heap.push {cls:=.type "dict",data:=.dict #[]}) (t':=s.toks) (λ_ _ q=>get?_push_of_some _ q) (Nat.le_refl _) (BQ s.heap I.big);refine wpAny_Dict_walk (knd:=eD X.prog X.w) hall hl h0 h15 (thn (h NP _ Y _ _ I1 (q _ hn)) λws s2 zz=>?_);obtain⟨ps,H2,I2,rel,e,kvs,ep,lk,q2⟩:=zz;subst ep;obtain⟨rs,c,rk⟩:=oG (P:=X.prog) (w:=X.w) rel;obtain⟨z,hd,vs0,r0,dd⟩:=Li I2.hok e;cases r0;refine⟨rs,c,dd,λh' dd' hs=>⟨.ref s.heap.objs.size,_,?_,rfl,q2⟩⟩;have hz:(jg [] kvs).length<=sizeLine:=by have h1:=jG kvs [];rw[length_nil]at h1;rw[sizeLine_eq];lia
 have he:∃q,h'.get? s.heap.objs.size=some q:=let⟨q,_,_,hq,_⟩:=dd';⟨q,hq⟩
 exact Eg I2 (by rw[e];exact True.intro) hs he (IQ hz hd (rk.merge .nil) dd')
end L2
namespace PR
open PySem
inductive Fl where
 |own|frz|bor|lnt|mod
 deriving DecidableEq
inductive PV where
 |non
 |bl (b:Bool)
 |int (i:Int)
 |str (x:Str)
 |lst (f:Fl) (xs:List PV)
 |tup (xs:List PV)
 |obj (f:Fl) (c:Nat) (ks:List Nat) (vs:List PV)
 |exc (c:Nat)
 |box (k:Nat) (xs:List PV)
abbrev N5:=List PV
mutual
noncomputable def PV.Oe(g:Fl->Fl):PV->PV
 |.non=>.non
 |.bl b=>.bl b
 |.int i=>.int i
 |.str x=>.str x
 |.lst f xs=>.lst (g f) (mapL g xs)
 |.tup xs=>.tup (mapL g xs)
 |.obj f c ks vs=>.obj (g f) c ks (mapL g vs)
 |.exc c=>.exc c
 |.box k xs=>.box k (mapL g xs)
noncomputable def mapL(g:Fl->Fl):N5->N5
 | []=>[]
 |x::xs=>x.Oe g::mapL g xs
end
mutual
noncomputable def PV.has(p:Fl->Bool):PV->Bool
 |.non|.bl _|.int _|.str _=>false
 |.lst f xs=>p f||hasL p xs
 |.tup xs=>hasL p xs
 |.obj f _ _ vs=>p f||hasL p vs
 |.exc _=>false
 |.box _ xs=>hasL p xs
noncomputable def hasL(p:Fl->Bool):N5->Bool
 | []=>false
 |x::xs=>x.has p||hasL p xs
end
noncomputable def Fl.Ob:Fl->Bool
 |.lnt=>true
 |_=>false
def Fl.Oc:Fl->Bool
 |.bor=>true
 |_=>false
def Fl.N7:Fl->Fl
 |.own=>.lnt
 |f=>f
def Fl.N9:Fl->Fl
 |.own=>.frz
 |f=>f
def Fl.N8:Fl->Fl
 |.lnt=>.bor
 |f=>f
inductive Res(α:Type) where
 |ok (a:α)
 |exc (c:Nat)
 |stuck
abbrev N6:=Res PV
noncomputable def Res.bind{α β:Type}:Res α->(α->Res β)->Res β
 |.ok a,k=>k a
 |.exc c,_=>.exc c
 |.stuck,_=>.stuck
@[simp] def Res.Og{α β:Type}(a:α)(k:α->Res β):(Res.ok a).bind k=k a:=by simp only[Res.bind]
@[simp] def Res.exc_bind{α β:Type}(c:Nat)(k:α->Res β):(Res.exc c:Res α).bind k=.exc c:=rfl
@[simp] def Res.stuck_bind{α β:Type}(k:α->Res β):(Res.stuck:Res α).bind k=.stuck:=rfl
abbrev En:=List (Option PV)
abbrev ME:=En->N6
abbrev MT:=En->Res Bool
abbrev MA:=En->Res (N5)
inductive Out where
 |next (e:En)
 |ret (v:PV)
 |brk (e:En)
 |cont (e:En)
 |exc (c:Nat) (e:En)
 |stuck
abbrev MS:=En->Out
def mC(v:PV):ME:=λ_=>.ok v
abbrev Oh(i:Int):ME:=mC (.int i)
def ac(i:Nat):ME:=λenv=>match env[i]? with
 |some (some v)=>.ok (v.Oe Fl.N7)
 |_=>.stuck
def am:MA:=λ_=>.ok []
def ae(a:ME)(r:MA):MA:=λenv=>(a env).bind λx=>(r env).bind λxs=>.ok (x::xs)
def mUn(f:PV->N6)(a:ME):ME:=λenv=>(a env).bind f
def mOp(f:PV->PV->N6)(a b:ME):ME:=λenv=>(a env).bind λx=>(b env).bind λy=>f x y
noncomputable def eP(g:Int->Int->PV):PV->PV->N6
 |.int i,.int j=>.ok (g i j)
 |_,_=>.stuck
noncomputable def fF(C:Int->Int->Bool)(g:Int->Int->PV):PV->PV->N6
 |.int i,.int j=>if C i j then .ok (g i j)else .stuck
 |_,_=>.stuck
noncomputable def qm:PV->Res Bool
 |.non=>.ok false
 |.bl b=>.ok b
 |.int i=>.ok (i != 0)
 |.lst _ xs|.tup xs=>.ok (!xs.isEmpty)
 |_=>.stuck
def aw(a:ME):MT:=λenv=>(a env).bind fun
 |.bl b=>.ok b
 |_=>.stuck
def di(a:ME):MT:=λenv=>(a env).bind qm
def n9(a:MT):MT:=λenv=>(a env).bind λb=>.ok (!b)
def ie(a b:MT):MT:=λenv=>(a env).bind λx=>if x then b env else .ok false
def iM(a b:MT):MT:=λenv=>(a env).bind λx=>if x then .ok true else b env
def lD(c:MT)(a b:ME):ME:=λenv=>(c env).bind λx=>if x then a env else b env
def aH:MS:=.next
def aq(a b:MS):MS:=λenv=>match a env with
 |.next e=>b e
 |o=>o
noncomputable def mBr(c:MT)(a b:MS):MS:=λenv=>match c env with
 |.ok true=>a env
 |.ok false=>b env
 |.exc k=>.exc k env
 |.stuck=>.stuck
def PV.Od(v:PV):Bool:=!v.has Fl.Ob
noncomputable def cR(env:List (Option PV)):Bool:=match env[0]? with
 |some (some (PV.obj _ _ _ _))=>true
 |_=>false
def aS(i:Nat)(env:En):Bool:=if i=0 then !cR env else true
def aI(i:Nat)(e:ME):MS:=λenv=>match e env with
 |.ok v=>if v.Od&&aS i env then .next (env.set i (some v))else .stuck
 |.exc k=>.exc k env
 |.stuck=>.stuck
def aZ(e:ME):MS:=λenv=>match e env with
 |.ok v=>if v.Od then .ret v else .stuck
 |.exc k=>.exc k env
 |.stuck=>.stuck
noncomputable def fM(i:Nat):MS:=λenv=>match env[i]? with
 |some (some v)=>.ret v
 |_=>.stuck
def gG(e:ME):MS:=λenv=>match e env with
 |.ok _=>.next env
 |.exc k=>.exc k env
 |.stuck=>.stuck
def fv(i:Nat):MS:=λenv=>match env[i]? with
 |some (some v)=>.next (env.set i (some (v.Oe Fl.N9)))
 |_=>.stuck
noncomputable def oR(body:PV->MS):N5->En->Out
 | [],env=>.next env
 |x::xs,env=>match body x env with
  |.next e|.cont e=>oR body xs e
  |.brk e=>.next e
  |o=>o
end PR
namespace PR
open PySem PySem.Spec L2
structure Tb where
 K:PySem.W.Frag
 nc:Nat
 cls:Nat->Addr
 att:Nat->Str
 inj:∀i j,att i=att j->i=j
 xcl:Nat->Addr
 dk:Nat->N0:=λ_=>[]
 bx:Nat->Hp->Addr->N3->Prop:=λk H a vs=>∃o,H a=some (.frz o (.dK (((dk k).map Sum.inr).zip vs)))/\(dk k).length=vs.length
 bxs:∀k (H H':Hp) a vs,(∀b o u,H b=some (.frz o u)->H' b=some (.frz o u))->bx k H a vs->bx k H' a vs:=by exact λ_ _ _ _ _ h ⟨o,q,l⟩=>⟨o,h _ _ _ q,l⟩
 tb:Addr->Option (N2):=λ_=>none
def NA(C a:Addr):HO:=.ext λh=>∃o,h.get? a=some o/\o.cls=.ref C
def KL(K:PySem.W.Frag)(a:Addr)(xs:N3):Prop:=∃(o:Obj) (its:N2) (n:Nat),K.lookup a=some o/\o.cls=.type "list" /\ o.dict=none/\o.data=.seq its n/\its.size<=sizeLine/\aU xs its.toList
def ul:Fl->Addr->NZ->NZ->Prop
 |.own,a,fp',fp=>fp=a::fp'
 |_,_,fp',fp=>fp'=[]/\fp=[]
def Jl(F B L:NV):Fl->NV
 |.own,_=>True
 |.frz,a=>F a
 |.bor,a=>B a
 |.lnt,a=>L a
 |.mod,_=>False
def oJ(T:Tb)(F B L:NV)(H:Hp):Fl->Addr->N3->Prop
 |.own,a,vs=>H a=some (.lst vs)
 |.lnt,a,vs=>L a/\H a=some (.lst vs)
 |.frz,a,vs=>F a/\Rd H a (.lst vs)
 |.bor,a,vs=>B a/\Rd H a (.lst vs)
 |.mod,a,vs=>KL T.K a vs
def oJ.sq(h:oJ T F B L H f a vs):SqL T.K H a vs:=by
 cases f with
 |own=>exact SqL.of h
 |lnt=>exact SqL.of h.2
 |frz|bor=>exact .inl h.2
 |mod=>exact .inr h
mutual
def Rel(T:Tb)(F B L:NV)(H:Hp):PV->V->NZ->Prop
 |.non,v,fp=>v=.non/\fp=[]
 |.bl b,v,fp=>v=.bl b/\fp=[]
 |.int i,v,fp=>v=.int i/\fp=[]
 |.str x,v,fp=>v=.str x/\fp=[]
 |.lst f xs,v,fp=>∃a vs fp',v=.ref a/\oJ T F B L H f a vs/\RelL T F B L H xs vs fp'/\ul f a fp' fp
 |.tup xs,v,fp=>∃a vs,v=.ref a/\SqT T.K H a vs/\RelL T F B L H xs vs fp
 |.obj f c ks xs,v,fp=>∃a dx vs fp',v=.ref a/\H a=some (.ins (T.cls c) dx ((ks.map T.att).zip vs))/\(ks.length=xs.length/\c<T.nc)/\RelL T F B L H xs vs fp'/\ul f a fp' fp/\Jl F B L f a
 |.exc c,v,fp=>∃a,v=.ref a/\H a=some (NA (T.xcl c) a)/\fp=[]
 |.box k xs,v,fp=>∃a vs,v=.ref a/\T.bx k H a vs/\RelL T F B L H xs vs fp
def RelL(T:Tb)(F B L:NV)(H:Hp):N5->N3->NZ->Prop
 | [],vs,fp=>vs=[]/\fp=[]
 |x::xs,vs,fp=>∃v ws f1 f2,vs=v::ws/\Rel T F B L H x v f1/\RelL T F B L H xs ws f2/\fp=f1++f2
end
def ii:HO->Prop
 |.tup _|.frz _ _|.ext _=>True
 |_=>False
section
variable{T:Tb}{F F' B B' L L':NV}{H H':Hp}
def Rd.tr(h:∀o,H a=some o->H' a=some o)(q:Rd H a u):Rd H' a u:=by
 rcases q with q |⟨o,q⟩
 .exact .inl (h _ q)
 .exact .inr ⟨o,h _ q⟩
def SqT.tr(h:∀o,H a=some o->ii o->H' a=some o)(q:SqT K H a vs):SqT K H' a vs:=by
 rcases q with(q |⟨o,q⟩)|q
 .exact .inl (.inl (h _ q True.intro))
 .exact .inl (.inr ⟨o,h _ q True.intro⟩)
 .exact .inr q
def RelL.length:∀{xs:N5}{vs:N3}{fp:NZ},RelL T F B L H xs vs fp->xs.length=vs.length
 | [],_,_,h=>by rw[h.1];rfl
 |x::xs,_,_,h=>by obtain⟨v,ws,f1,f2,rfl,_,h2,_⟩:=h;simp[RelL.length h2]
theorem ul.all{P:NV}(h:ul f a fp' fp)(hp:∀b∈fp,P b):(f=.own->P a)/\∀b∈fp',P b:=by
 cases f with
 |own=>
  obtain rfl:fp=a::fp':=h
  grind
 |_=>exact⟨λz=>(nomatch z),by rw[h.1];exact λ_ z=>nomatch z⟩
structure Mp(T:Tb)(g:Fl->Fl)(p:Fl->Bool)(E:NZ->NZ)(C F B L:NV)(H:Hp)(F' B' L':NV)(H':Hp):Prop where
 hl:∀f a vs,p f=false->(f=.own->C a)->oJ T F B L H f a vs->oJ T F' B' L' H' (g f) a vs
 hb:∀f a,p f=false->(f=.own->C a)->Jl F B L f a->Jl F' B' L' (g f) a/\∀o,H a=some o->H' a=some o
 hf:∀f a x y,ul f a x y->ul (g f) a (E x) (E y)
 he:E []=[]
 ha:∀x y,E (x++y)=E x++E y
 hx:∀a o,H a=some o->ii o->H' a=some o
mutual
def Mp.rel(M:Mp T g p E C F B L H F' B' L' H') :
  ∀{x:PV}{v:V}{fp:NZ},x.has p=false->(∀a∈fp,C a)->Rel T F B L H x v fp->Rel T F' B' L' H' (x.Oe g) v (E fp)
 |.non,_,_,_,_,h|.bl _,_,_,_,_,h|.int _,_,_,_,_,h|.str _,_,_,_,_,h=>by unfold Rel at h;simp only[PV.Oe];unfold Rel;exact⟨h.1,by rw[h.2,M.he]⟩
 |.lst f xs,_,fp,hp,hc,h=>by unfold Rel at h;obtain⟨a,vs,fp',e,h1,h2,h3⟩:=h;simp only[PV.has,or_eq_false_iff]at hp;obtain⟨c1,c2⟩:=h3.all hc;simp only[PV.Oe];unfold Rel;exact⟨a,vs,E fp',e,M.hl f a vs hp.1 c1 h1,Mp.rels M hp.2 c2 h2,M.hf f a fp' fp h3⟩
 |.tup xs,_,fp,hp,hc,h=>by unfold Rel at h;obtain⟨a,vs,e,h1,h2⟩:=h;simp only[PV.Oe];unfold Rel;exact⟨a,vs,e,SqT.tr (λo q z=>M.hx a o q z) h1,Mp.rels M hp hc h2⟩
 |.obj f c ks xs,_,fp,hp,hc,h=>by unfold Rel at h;obtain⟨a,dx,vs,fp',e,h1,hk,h2,h3,h4⟩:=h;simp only[PV.has,or_eq_false_iff]at hp;obtain⟨c1,c2⟩:=h3.all hc;obtain⟨q1,q2⟩:=M.hb f a hp.1 c1 h4;simp only[PV.Oe];unfold Rel;have r:=Mp.rels M hp.2 c2 h2;exact⟨a,dx,vs,E fp',e,q2 _ h1,⟨by rw[r.length,hk.1,h2.length],hk.2⟩,r,M.hf f a fp' fp h3,q1⟩
 |.exc c,_,fp,_,_,h=>by unfold Rel at h;obtain⟨a,e,h1,rfl⟩:=h;simp only[PV.Oe];unfold Rel;exact⟨a,e,M.hx a _ h1 True.intro,M.he⟩
 |.box k xs,_,fp,hp,hc,h=>by unfold Rel at h;obtain⟨a,vs,e,h1,h2⟩:=h;simp only[PV.Oe];unfold Rel;exact⟨a,vs,e,T.bxs k H H' a vs (λb o u q=>M.hx b _ q True.intro) h1,Mp.rels M hp hc h2⟩
def Mp.rels(M:Mp T g p E C F B L H F' B' L' H') :
  ∀{xs:N5}{vs:N3}{fp:NZ},hasL p xs=false->(∀a∈fp,C a)->RelL T F B L H xs vs fp->RelL T F' B' L' H' (mapL g xs) vs (E fp)
 | [],_,_,_,_,h=>by unfold RelL at h;simp only[mapL];unfold RelL;exact⟨h.1,by rw[h.2,M.he]⟩
 |x::xs,_,fp,hp,hc,h=>by unfold RelL at h;obtain⟨v,ws,f1,f2,e,h1,h2,rfl⟩:=h;simp only[hasL,or_eq_false_iff]at hp;simp only[mapL];unfold RelL;exact⟨v,ws,E f1,E f2,e,Mp.rel M hp.1 (λb hb=>hc b (mem_append_left _ hb)) h1,Mp.rels M hp.2 (λb hb=>hc b (mem_append_right _ hb)) h2,M.ha f1 f2⟩
end
mutual
def mV:∀x:PV,x.Oe (λf=>f)=x
 |.non|.bl _|.int _|.str _|.exc _=>rfl
 |.lst f xs|.tup xs|.obj f c ks xs|.box k xs=>by simp only[PV.Oe,mapL_id xs]
def mapL_id:∀xs:N5,mapL (λf=>f) xs=xs
 | []=>rfl
 |x::xs=>by simp only[mapL,mV x,mapL_id xs]
end
mutual
def oq:∀x:PV,x.has (λ_=>false)=false
 |.non|.bl _|.int _|.str _|.exc _=>rfl
 |.lst f xs=>by simp only[PV.has,has_noL xs,Bool.or_false]
 |.tup xs=>by simp only[PV.has,has_noL xs]
 |.obj f c ks xs=>by simp only[PV.has,has_noL xs,Bool.or_false]
 |.box k xs=>by simp only[PV.has,has_noL xs]
def has_noL:∀xs:N5,hasL (λ_=>false) xs=false
 | []=>rfl
 |x::xs=>by simp only[hasL,oq x,has_noL xs,Bool.or_false]
end
def EU(hF:∀a,F a->F' a)(hB:∀a,B a->B' a)(hL:∀a,L a->L' a)(hx:∀a o,H a=some o->(F a\/B a\/L a\/ii o)->H' a=some o):Mp T (λf=>f) (λ_=>false) (λx=>x) (λa=>∀o,H a=some o->H' a=some o) F B L H F' B' L' H':=
 ⟨λf a vs _ c h=>by
  cases f with
  |own=>exact c rfl _ h
  |frz=>exact⟨hF a h.1,Rd.tr (λo q=>hx a o q (.inl h.1)) h.2⟩
  |bor=>exact⟨hB a h.1,Rd.tr (λo q=>hx a o q (.inr (.inl h.1))) h.2⟩
  |lnt=>exact⟨hL a h.1,hx a _ h.2 (.inr (.inr (.inl h.1)))⟩
  |mod=>exact h,λf a _ c h=>by
  cases f with
  |own=>exact⟨True.intro,c rfl⟩
  |frz=>exact⟨hF a h,λo q=>hx a o q (.inl h)⟩
  |bor=>exact⟨hB a h,λo q=>hx a o q (.inr (.inl h))⟩
  |lnt=>exact⟨hL a h,λo q=>hx a o q (.inr (.inr (.inl h)))⟩
  |mod=>exact h.elim,λ_ _ _ _ h=>h,rfl,λ_ _=>rfl,λa o q z=>hx a o q (.inr (.inr (.inr z)))⟩
def Rel.tr(hF:∀a,F a->F' a)(hB:∀a,B a->B' a)(hL:∀a,L a->L' a)(hx:∀a o,H a=some o->(F a\/B a\/L a\/ii o)->H' a=some o)(hp:∀a∈fp,∀o,H a=some o->H' a=some o)(h:Rel T F B L H x v fp):Rel T F' B' L' H' x v fp:=by
 have:=(EU hF hB hL hx).rel (oq x) hp h
 rwa [mV]at this
def RelL.tr(hF:∀a,F a->F' a)(hB:∀a,B a->B' a)(hL:∀a,L a->L' a)(hx:∀a o,H a=some o->(F a\/B a\/L a\/ii o)->H' a=some o)(hp:∀a∈fp,∀o,H a=some o->H' a=some o)(h:RelL T F B L H x v fp):RelL T F' B' L' H' x v fp:=by
 have:=(EU hF hB hL hx).rels (has_noL x) hp h
 rwa [mapL_id]at this
def Ext(H H':Hp):Prop:=∀a o,H a=some o->H' a=some o
def Ext.refl:Ext H H:=λ_ _ h=>h
def Ext.trans(a:Ext H H1)(b:Ext H1 H2):Ext H H2:=λc o h=>b c o (a c o h)
def Ext.upd(h:H a=none):Ext H (L2.upd H a o):=λb u e=>by rw[aJ (b6 e h)];exact e
def Ext.free(x:Ext H H')(h:H' a=none):H a=none:=by
 cases e:H a with
 |none=>rfl
 |some o=>rw[x a o e]at h;cases h
def Rel.ext(e:Ext H H')(hF:∀a,F a->F' a)(h:Rel T F B L H x v fp):Rel T F' B L H' x v fp:=
 Rel.tr hF (λ_ h=>h) (λ_ h=>h) (λa o q _=>e a o q) (λa _ o q=>e a o q) h
def RelL.ext(e:Ext H H')(hF:∀a,F a->F' a)(h:RelL T F B L H xs vs fp):RelL T F' B L H' xs vs fp:=
 RelL.tr hF (λ_ h=>h) (λ_ h=>h) (λa o q _=>e a o q) (λa _ o q=>e a o q) h
def Chg:HO->Prop
 |.lst _|.ins _ _ _=>True
 |_=>False
mutual
def Rel.chg:∀{x:PV}{v:V}{fp:NZ},Rel T F B L H x v fp->∀a∈fp,∃o,H a=some o/\Chg o
 |.non,_,_,h|.bl _,_,_,h|.int _,_,_,h|.str _,_,_,h=>by unfold Rel at h;rw[h.2];exact λ_ z=>nomatch z
 |.lst f xs,_,fp,h=>by
  unfold Rel at h;obtain⟨a,vs,fp',e,hl,hr,hf⟩:=h;cases f with
  |own=>
   obtain rfl:fp=a::fp':=hf;intro b hb;rcases mem_cons.mp hb with rfl|hb
   .exact⟨_,hl,True.intro⟩
   .exact RelL.chg hr b hb
  |frz|bor|lnt|mod=>obtain⟨rfl,rfl⟩:=hf;exact λ_ z=>nomatch z
 |.tup xs,_,fp,h=>by unfold Rel at h;obtain⟨a,vs,e,hl,hr⟩:=h;exact RelL.chg hr
 |.obj f c ks xs,_,fp,h=>by
  unfold Rel at h;obtain⟨a,dx,vs,fp',e,hl,hk,hr,hf,ha⟩:=h;cases f with
  |own=>
   obtain rfl:fp=a::fp':=hf;intro b hb;rcases mem_cons.mp hb with rfl|hb
   .exact⟨_,hl,True.intro⟩
   .exact RelL.chg hr b hb
  |frz|bor|lnt|mod=>obtain⟨rfl,rfl⟩:=hf;exact λ_ z=>nomatch z
 |.exc c,_,fp,h=>by unfold Rel at h;obtain⟨a,e,hl,rfl⟩:=h;exact λ_ z=>nomatch z
 |.box k xs,_,fp,h=>by unfold Rel at h;obtain⟨a,vs,e,hl,hr⟩:=h;exact RelL.chg hr
def RelL.chg:∀{xs:N5}{vs:N3}{fp:NZ},RelL T F B L H xs vs fp->∀a∈fp,∃o,H a=some o/\Chg o
 | [],_,_,h=>by unfold RelL at h;rw[h.2];exact λ_ z=>nomatch z
 |x::xs,_,_,h=>by
  unfold RelL at h;obtain⟨v,ws,f1,f2,_,h1,h2,rfl⟩:=h;intro b hb;rcases mem_append.mp hb with hb|hb
  .exact Rel.chg h1 b hb
  .exact RelL.chg h2 b hb
end
def Rel.there(h:Rel T F B L H x v fp)(a:Addr)(ha:a∈fp):∃o,H a=some o:=let⟨o,q,_⟩:=h.chg a ha;⟨o,q⟩
def RelL.there(h:RelL T F B L H xs vs fp)(a:Addr)(ha:a∈fp):∃o,H a=some o:=let⟨o,q,_⟩:=h.chg a ha;⟨o,q⟩
def Dz:Mp T Fl.N7 (λ_=>false) (λ_=>[]) L F B L H F B L H:=
 ⟨λf a vs _ c h=>by
  cases f with
  |own=>exact⟨c rfl,h⟩
  | _=>exact h,λf a _ c h=>⟨by
  cases f with
  |own=>exact c rfl
  |_=>exact h,λ_ q=>q⟩,λf a x y h=>by cases f<;>exact⟨rfl,rfl⟩,rfl,λ_ _=>rfl,λ_ _ q _=>q⟩
def Rel.N7(hp:∀a∈fp,L a)(h:Rel T F B L H x v fp):Rel T F B L H (x.Oe Fl.N7) v []:=Dz.rel (oq x) hp h
end
end PR
namespace L2
open PySem PySem.Spec
def PE.wk(h:PE X e t)(w:∀Y H Q,t' Y H Q->t Y H Q):PE X e t':=λNP s Y H Q I q=>h NP s Y H Q I (w Y H Q q)
def PA.wk(h:PA X e t)(w:∀Y H Q,t' Y H Q->t Y H Q):PA X e t':=λpos NP s Y H Q I q=>h pos NP s Y H Q I (w Y H Q q)
def PT.wk(h:PT X e t)(w:∀Y H Q,t' Y H Q->t Y H Q):PT X e t':=λNP s Y H Q I q=>h NP s Y H Q I (w Y H Q q)
def PW.wk(h:PW X e t)(w:∀Y H Q,t' Y H Q->t Y H Q):PW X e t':=λwh NP s Y H Q I q=>h wh NP s Y H Q I (w Y H Q q)
def PS.wk(h:PS X e t)(w:∀D Y H,t' D Y H->t D Y H):PS X e t':=λNP s Y H D I q=>h NP s Y H D I (w D Y H q)
def PSs.wk(h:PSs X e t)(w:∀D Y H,t' D Y H->t D Y H):PSs X e t':=λNP s Y H D I q=>h NP s Y H D I (w D Y H q)
end L2
namespace PR
open PySem PySem.Spec L2
structure Zn where
 H0:Hp
 F0:NV
 fp0:NV
 B:NV
 pin:Option V:=none
abbrev NoL:NV:=λ_=>False
def Ev(T:Tb)(H:Hp)(f:NV):Prop:=∀a ps,T.tb a=some ps->H a=some (.tbl ps)/\¬f a
structure ce(T:Tb)(Z:Zn)(F:NV)(H:Hp):Prop where
 bo:(∀a,Z.B a->(∃o,Z.H0 a=some o)/\¬Z.fp0 a)/\Ev T Z.H0 Z.fp0
 keep:∀a o,Z.H0 a=some o->¬Z.fp0 a->H a=some o
 f0:∀a,Z.F0 a->F a
 fn:∀a,F a->Z.F0 a\/Z.H0 a=none\/Z.fp0 a
 ft:∀a,F a->∃o,H a=some o
structure aC(T:Tb)(Z:Zn)(F:NV)(H:Hp)(Y:St)(env:En)(fp:Nat->NZ):Prop where
 hp:ce T Z F H
 len:Y.length=env.length
 rel:∀(i:Nat) (pv:PV),env[i]?=some (some pv)->∃v,Y[i]?=some (some v)/\Rel T F Z.B NoL H pv v (fp i)
 nd:∀i,(fp i).Nodup
 dj:∀i j,i≠j->∀a∈fp i,a∉fp j
 dis:∀i,∀a∈fp i,¬F a/\∃o,H a=some o
 new:∀i,∀a∈fp i,Z.H0 a=none\/Z.fp0 a
 ch:∀i,∀a∈fp i,∃o,H a=some o/\Chg o
 pn:∀v,Z.pin=some v->Y[0]?=some (some v)/\cR env=true
def Own(fp:Nat->NZ):NV:=λa=>∃i,a∈fp i
structure Gr(F:NV)(H:Hp)(F':NV)(H':Hp):Prop where
 ext:Ext H H'
 mono:∀a,F a->F' a
 only:∀a,F' a->F a\/H a=none
 dom:∀a,F' a->∃o,H' a=some o
def Gr.refl(h:∀a,F a->∃o,H a=some o):Gr F H F H:=⟨Ext.refl,λ_ h=>h,λ_ h=>.inl h,h⟩
def Gr.trans(a:Gr F H F1 H1)(b:Gr F1 H1 F2 H2):Gr F H F2 H2:=
 ⟨a.ext.trans b.ext,λc h=>b.mono c (a.mono c h),λc h=>(b.only c h).elim (a.only c) λz=>.inr (a.ext.free z),b.dom⟩
def Gr.same(h:∀a,F a->∃o,H a=some o)(e:Ext H H'):Gr F H F H':=⟨e,λ_ h=>h,λ_ h=>.inl h,λa q=>let⟨o,z⟩:=h a q;⟨o,e a o z⟩⟩
section
variable{T:Tb}{Z:Zn}{F F':NV}{H H':Hp}{Y:St}{env:En}{fp:Nat->NZ}
def ce.tb(S:ce T Z F H)(h:T.tb a=some ps):H a=some (.tbl ps):=let⟨h1,h2⟩:=S.bo.2 a ps h;S.keep a _ h1 h2
def aC.tbo(S:aC T Z F H Y env fp)(e:Ext H H')(hn:∀ a,f a->H a=none \/ Own fp a):Ev T H' f:=λa ps h=>⟨e a _ (S.hp.tb h),λz=>by
 have q:=S.hp.tb h;rcases hn a z with n |⟨i,hi⟩
 .rw[q]at n;cases n
 .obtain⟨o,h1,h2⟩:=S.ch i a hi;rw[q]at h1;cases h1;exact h2⟩
def ce.grow(S:ce T Z F H)(g:Gr F H F' H'):ce T Z F' H':=
 ⟨S.bo,λa o h n=>g.ext a o (S.keep a o h n),λa h=>g.mono a (S.f0 a h),λa h=>by
  rcases g.only a h with z|z
  .exact S.fn a z
  .refine .inr ?_;by_cases q:Z.fp0 a
   .exact .inr q
   .refine .inl ?_;cases w:Z.H0 a with
    |none=>rfl
    |some o=>rw[S.keep a o w q]at z;exact(nomatch z),g.dom⟩
def aC.grow(S:aC T Z F H Y env fp)(g:Gr F H F' H'):aC T Z F' H' Y env fp:=
 ⟨S.hp.grow g,S.len,λi pv h=>let ⟨v,q1,q2⟩:=S.rel i pv h;⟨v,q1,q2.ext g.ext g.mono⟩,S.nd,S.dj,λi a h=>by
  obtain⟨n,o,q⟩:=S.dis i a h;refine⟨λz=>?_,o,g.ext a o q⟩;rcases g.only a z with z|z
  .exact n z
  .rw[q]at z;exact(nomatch z),S.new,λi a h=>let⟨o,q,c⟩:=S.ch i a h;⟨o,g.ext a o q,c⟩,S.pn⟩
end
def GE(T:Tb)(W:Nat->St->N4)(B F L:NV)(Y:St)(H:Hp)(Q:VK):N6->Prop
 |.ok pv=>∀v H' F' f,Gr F H F' H'->Rel T F' B L H' pv v f->(∀a∈f,¬F' a)->f.Nodup->(∀a∈f,H a=none)->Q v H'
 |.exc c=>∀H',Ext H H'->W c Y H'
 |.stuck=>False
def GA(T:Tb)(W:Nat->St->N4)(B F L:NV)(Y:St)(H:Hp)(Q:N3->N4):Res (N5)->Prop
 |.ok pvs=>∀vs H' F' f,Gr F H F' H'->RelL T F' B L H' pvs vs f->(∀a∈f,¬F' a)->f.Nodup->(∀a∈f,H a=none)->Q vs H'
 |.exc c=>∀H',Ext H H'->W c Y H'
 |.stuck=>False
def GT(W:Nat->St->N4)(F:NV)(Y:St)(H:Hp)(Q:Bool->N4):Res Bool->Prop
 |.ok b=>∀H' F',Gr F H F' H'->Q b H'
 |.exc c=>∀H',Ext H H'->W c Y H'
 |.stuck=>False
def tE(T:Tb)(W:Nat->St->N4)(m:ME):TE:=λY H Q=>∃Z F env fp,aC T Z F H Y env fp/\GE T W Z.B F (Own fp) Y H Q (m env)
def tA(T:Tb)(W:Nat->St->N4)(m:MA):TA:=λY H Q=>∃Z F env fp,aC T Z F H Y env fp/\GA T W Z.B F (Own fp) Y H Q (m env)
def tT(T:Tb)(W:Nat->St->N4)(m:MT):TT:=λY H Q=>∃Z F env fp,aC T Z F H Y env fp/\GT W F Y H Q (m env)
abbrev SE(X:Cx)(T:Tb)(W:Nat->St->N4)(e:Expr)(m:ME):Prop:=PE X e (tE T W m)
abbrev SA(X:Cx)(T:Tb)(W:Nat->St->N4)(es:List Expr)(m:MA):Prop:=PA X es (tA T W m)
abbrev ST(X:Cx)(T:Tb)(W:Nat->St->N4)(e:Expr)(m:MT):Prop:=PT X e (tT T W m)
section
variable{X:Cx}{T:Tb}{W:Nat->St->N4}{Z:Zn}{F F' B L:NV}{H H':Hp}{Y:St}{env:En}{fp:Nat->NZ}
def GE.scal{Q:VK}{pv:PV}{v:V}(q:GE T W B F L Y H Q (.ok pv))(g:Gr F H F' H')(r:Rel T F' B L H' pv v []):Q v H':=
 q v H' F' [] g r (λ_ z=>(nomatch z)) nodup_nil (λ_ z=>(nomatch z))
def jJ{v:V}{pv:PV}(h:PE X e (tC v))(r:∀F B L H,Rel T F B L H pv v []):SE X T W e (mC pv):=PE.wk h λY H Q ⟨Z,F,env,fp,S,q⟩=>q.scal (Gr.refl S.hp.ft) (r _ _ _ _)
def ai{i j pos}:SE X T W (.Constant (.int i) j pos) (mC (.int i)):=jJ zP λ_ _ _ _=>by exact⟨rfl,rfl⟩
def i8{b j pos}:SE X T W (.Constant (.bool b) j pos) (mC (.bl b)):=jJ Kh λ_ _ _ _=>by exact⟨rfl,rfl⟩
def jL{j pos}:SE X T W (.Constant .none j pos) (mC .non):=jJ zN λ_ _ _ _=>by exact⟨rfl,rfl⟩
def au{x j pos}:SE X T W (.Constant (.str x) j pos) (mC (.str x)):=jJ iH λ_ _ _ _=>by unfold Rel;exact⟨rfl,rfl⟩
def FU(hN:X.N[i]?=some x)(hv:Vis X.env.scope x)(hd:Ndq x:=by decide)(hcd:Ncq x:=by decide):SE X T W (.Name x pos) (ac i):=
 PE.wk (eU hN hv hd hcd) λY H Q hz1=>by
  walk_at "b";unfold ac at q;split at q
  .rename_i pv e
   obtain⟨v,e1,r⟩:=S.rel i pv e;refine⟨v,e1,q.scal (Gr.refl S.hp.ft) ?_⟩;exact Rel.N7 (λa h=>⟨i,h⟩) (Rel.tr (λ_ h=>h) (λ_ h=>h) (λ_ h=>h.elim) (λa o q _=>q) (λa _ o q=>q) r)
  .exact q.elim
def tE.bind(S:aC T Z F H Y env fp)(hx:∀c,m env=.exc c->∀H',Ext H H'->W c Y H')(hs:m env≠.stuck)
  (k:∀pv v H' F' f,m env=.ok pv->Gr F H F' H'->Rel T F' Z.B (Own fp) H' pv v f->(∀a∈f,¬F' a)->f.Nodup->(∀a∈f,H a=none)->Q v H'):tE T W m Y H Q:=by
 refine⟨Z,F,env,fp,S,?_⟩;cases e:m env with
 |ok pv=>exact λv H' F' f g r h1 h2 h3=>k pv v H' F' f e g r h1 h2 h3
 |exc c=>exact hx c e
 |stuck=>exact hs e
def tE.bq(S:aC T Z F H Y env fp)(k:∀pv v H' F' f,m env=.ok pv->Gr F H F' H'->Rel T F' Z.B (Own fp) H' pv v f->(∀a∈f,¬F' a)->f.Nodup->(∀a∈f,H a=none)->Q v H')(hx:∀c,m env=.exc c->∀H',Ext H H'->W c Y H':=by exact λc e=>by rw[e]at q;exact q)(hs:m env≠.stuck:=by exact λe=>by rw[e]at q;exact q):tE T W m Y H Q:=tE.bind S hx hs k
def tA.bind(S:aC T Z F H Y env fp)(hx:∀c,m env=.exc c->∀H',Ext H H'->W c Y H')(hs:m env≠.stuck)
  (k:∀pvs vs H' F' f,m env=.ok pvs->Gr F H F' H'->RelL T F' Z.B (Own fp) H' pvs vs f->(∀a∈f,¬F' a)->f.Nodup->(∀a∈f,H a=none)->Q vs H'):tA T W m Y H Q:=by
 refine⟨Z,F,env,fp,S,?_⟩;cases e:m env with
 |ok pv=>exact λv H' F' f g r h1 h2 h3=>k pv v H' F' f e g r h1 h2 h3
 |exc c=>exact hx c e
 |stuck=>exact hs e
def tA.bq(S:aC T Z F H Y env fp)(k:∀pvs vs H' F' f,m env=.ok pvs->Gr F H F' H'->RelL T F' Z.B (Own fp) H' pvs vs f->(∀a∈f,¬F' a)->f.Nodup->(∀a∈f,H a=none)->Q vs H')(hx:∀c,m env=.exc c->∀H',Ext H H'->W c Y H':=by exact λc e=>by rw[e]at q;exact q)(hs:m env≠.stuck:=by exact λe=>by rw[e]at q;exact q):tA T W m Y H Q:=tA.bind S hx hs k
def tT.bind(S:aC T Z F H Y env fp)(hx:∀c,m env=.exc c->∀H',Ext H H'->W c Y H')(hs:m env≠.stuck)
  (k:∀b H' F',m env=.ok b->Gr F H F' H'->Q b H'):tT T W m Y H Q:=by
 refine⟨Z,F,env,fp,S,?_⟩;cases e:m env with
 |ok pv=>exact λH' F' g=>k pv H' F' e g
 |exc c=>exact hx c e
 |stuck=>exact hs e
def ah:SA X T W [] am:=PA.wk iJ λY H Q ⟨Z,F,env,fp,S,q⟩=>q [] H F [] (Gr.refl S.hp.ft) (by exact⟨rfl,rfl⟩) (λ_ z=>(nomatch z)) nodup_nil (λ_ z=>(nomatch z))
def aa(ha:SE X T W e m)(hr:SA X T W es ms)(hs:starEach (e::es) X.env=(false,eval e X.env)::starEach es X.env:=by rfl):SA X T W (e::es) (ae m ms):=
 PA.wk (dO ha hr hs) λY H Q hz1=>by
  walk_at "b";unfold ae at q;walk_at "a";refine tA.bind (S.grow g1) (λc e=>by rw[e]at q;exact λH' x=>q H' (g1.ext.trans x)) (λe=>by rw[e]at q;exact q) λxs vs H2 F2 f2 e2 g2 r2 n2 d2 w2=>?_;rw[e2]at q;have new1:∀a∈f1,¬F2 a:=λa ha z=>by
   rcases g2.only a z with z|z
   .exact n1 a ha z
   .obtain⟨o,ho⟩:=r1.there a ha;rw[ho]at z;cases z
  refine q (v::vs) H2 F2 (f1++f2) (g1.trans g2) (by exact⟨v,vs,f1,f2,rfl,r1.ext g2.ext g2.mono,r2,rfl⟩) (λa ha=>?_) ?_ (λa ha=>?_)
  .rcases mem_append.mp ha with ha|ha
   .exact new1 a ha
   .exact n2 a ha
  .refine nodup_append.mpr ⟨d1,d2,λa ha b hb z=>?_⟩;subst z;obtain⟨o,ho⟩:=r1.there a ha;rw[w2 a hb]at ho;cases ho
  .rcases mem_append.mp ha with ha|ha
   .exact w1 a ha
   .exact g1.ext.free (w2 a ha)
def ao(f:N5->N6)(ms:MA):ME:=λenv=>(ms env).bind f
def Mir(T:Tb)(W:Nat->St->N4)(f:N5->N6)(r:N3->Hp->VK->Prop):Prop:=
 ∀(B F L:NV) (Y:St) (H:Hp) (Q:VK) (F':NV) (H':Hp) (xs:N5) (vs:N3) (fx:NZ),Gr F H F' H'->RelL T F' B L H' xs vs fx->(∀a∈fx,¬F' a)->fx.Nodup->(∀a∈fx,H a=none)->
  GE T W B F L Y H Q (f xs)->r vs H' Q
def tA.mir(hm:Mir T W f r)(h:tE T W (ao f ms) Y H Q):tA T W ms Y H λvs H1=>r vs H1 Q:=by obtain⟨Z,F,env,fp,S,q⟩:=h;unfold ao at q;refine tA.bq S λxs vs H1 F1 f1 e1 g1 r1 n1 d1 w1=>?_;rw[e1]at q;exact hm Z.B F (Own fp) Y H Q F1 H1 xs vs f1 g1 r1 n1 d1 w1 q
def fj{id:String}{x:Str}{es:List Expr}{f:N5->N6}{r:N3->Hp->VK->Prop}(hc:dN X (.builtin id) r)(hmir:Mir T W f r)(hg:Gl X x)(hm:X.mg x=none)(hv:bootBuiltins x=some (.builtin id))(ha:SA X T W (e::es) ms)
  (hn:x≠"__name__":=by decide) (hdb:Ndq x:=by decide)
  (he:starEach (e::es) X.env=(false,eval e X.env)::starEach es X.env:=by rfl) (hpl:(backTo pos (starEach es X.env)).any (·.1)=false:=by rfl):SE X T W (.Call (.Name x p) (e::es) [] pos) (ao f ms):=
 PE.wk (nM hc hg hm hv ha hn hdb he hpl) λY H Q h=>tA.mir hmir h
def gT{id:String}{x:Str}{es:List Expr}{f:N5->N6}{r:N3->Hp->VK->Prop}(hc:dN X (.type id) r)(hmir:Mir T W f r)(hg:Gl X x)(hm:X.mg x=none)(hv:bootBuiltins x=some (.type id))(ha:SA X T W (e::es) ms)
  (hn:x≠"__name__":=by decide) (hdb:Ndq x:=by decide)
  (he:starEach (e::es) X.env=(false,eval e X.env)::starEach es X.env:=by rfl) (hpl:(backTo pos (starEach es X.env)).any (·.1)=false:=by rfl):SE X T W (.Call (.Name x p) (e::es) [] pos) (ao f ms):=
 PE.wk (lh hc hg hm hv ha hn hdb he hpl) λY H Q h=>tA.mir hmir h
def jY(T:Tb)(W:Nat->St->N4)(f:PV->PV->N6)(r:R2):Prop:=
 ∀(B F L:NV) (Y:St) (H:Hp) (Q:VK) (F':NV) (H':Hp) (x y:PV) (v u:V) (fx fy:NZ),Gr F H F' H'->Rel T F' B L H' x v fx->Rel T F' B L H' y u fy->(∀a∈fx++fy,¬F' a)->(fx++fy).Nodup->(∀a∈fx++fy,H a=none)->
  GE T W B F L Y H Q (f x y)->r v u H' Q
def tE.mir2(hm:jY T W f r)(h:tE T W (mOp f ma mb) Y H Q):tOp r (tE T W ma) (tE T W mb) Y H Q:=by
 obtain⟨Z,F,env,fp,S,q⟩:=h;unfold mOp at q;walk_at "a";refine tE.bind (S.grow g1) (λc e=>by rw[e]at q;exact λH' x=>q H' (g1.ext.trans x)) (λe=>by rw[e]at q;exact q) λy u H2 F2 f2 e2 g2 r2 n2 d2 w2=>?_;rw[e2]at q;have new1:∀a∈f1,¬F2 a:=λa ha z=>by
  rcases g2.only a z with z|z
  .exact n1 a ha z
  .obtain⟨o,ho⟩:=r1.there a ha;rw[ho]at z;cases z
 refine hm Z.B F (Own fp) Y H Q F2 H2 x y v u f1 f2 (g1.trans g2) (r1.ext g2.ext g2.mono) r2 (λa ha=>?_) ?_ (λa ha=>?_) q
 .rcases mem_append.mp ha with ha|ha
  .exact new1 a ha
  .exact n2 a ha
 .refine nodup_append.mpr ⟨d1,d2,λa ha b hb z=>?_⟩;subst z;obtain⟨o,ho⟩:=r1.there a ha;rw[w2 a hb]at ho;cases ho
 .rcases mem_append.mp ha with ha|ha
  .exact w1 a ha
  .exact g1.ext.free (w2 a ha)
def ke(ho:OpR X (binaryOp op) r)(hm:jY T W f r)(ha:SE X T W a ma)(hb:SE X T W b mb):SE X T W (.BinOp a op b pos) (mOp f ma mb):=
 PE.wk (Kg ho ha hb) λY H Q h=>tE.mir2 hm h
def k9(ho:OpR X (compareOp op) r)(hm:jY T W f r)(ha:SE X T W a ma)(hb:SE X T W b mb)(hk:behindInMarks op b=false):SE X T W (.Compare a [op] [b] pos) (mOp f ma mb):=
 PE.wk (De ho ha hb hk) λY H Q h=>tE.mir2 hm h
def J3(hr:IxR X r)(hm:jY T W f r)(ha:SE X T W a ma)(hb:SE X T W b mb)(hs:kY b):SE X T W (.Subscript a b pos) (mOp f ma mb):=
 PE.wk (EI hr ha hb hs) λY H Q h=>tE.mir2 hm h
def jf(hg:∀i j F B L H,Rel T F B L H (g' i j) (g i j) []):jY T W (eP g') (rI0 g):=by
  intro B F L Y H Q F' H' x y v u fx fy gr rx ry _ _ _ q;cases x<;>cases y<;>first
    |exact q.elim
    | (unfold Rel at rx ry
       exact⟨_,_,rx.1,ry.1,q.scal gr (hg _ _ _ _ _ _)⟩)
def sR(hc:∀i j,C' i j=true->C i j)(hg:∀i j F B L H,Rel T F B L H (g' i j) (g i j) []):jY T W (fF C' g') (rI C g):=by
  intro B F L Y H Q F' H' x y v u fx fy gr rx ry _ _ _ q;cases x<;>cases y<;>first
    |exact q.elim
    | (unfold Rel at rx ry
       simp only[fF]at q;split at q
       . rename_i hh
         exact⟨_,_,rx.1,ry.1,hc _ _ hh,q.scal gr (hg _ _ _ _ _ _)⟩
       . exact q.elim)
def eK:Rel T F B L H (.int i) (.int i) []:=by exact⟨rfl,rfl⟩
def gW:Rel T F B L H (.bl i) (.bl i) []:=by exact⟨rfl,rfl⟩
def ML:Rel T F B L H .non .non []:=by unfold Rel;exact⟨rfl,rfl⟩
def lq:PV->PV->N6:=eP λi j=>.int (i-j)
def dG:PV->PV->N6:=fF (λi j=>decide ((-(2 ^ 64)<i/\i<2 ^ 64)\/(-(2 ^ 64)<j/\j<2 ^ 64))) λi j=>.int (i*j)
def fm:PV->PV->N6:=fF (λ_ j=>decide (0<j)) λi j=>.int (i%j)
def iV:PV->PV->N6:=fF (λ_ j=>decide (0<j/\j<1073741824)) λi j=>.int (i / j)
def oO:PV->PV->N6:=fF (λi j=>decide (0<=j/\j<=1000000/\i.natAbs<2 ^ 64)) λi j=>.int (i ^ j.toNat)
def pLt:PV->PV->N6:=eP λi j=>.bl (decide (i<j))
def pLe:PV->PV->N6:=eP λi j=>.bl (decide (i<=j))
def pGt:PV->PV->N6:=eP λi j=>.bl (decide (j<i))
def pGe:PV->PV->N6:=eP λi j=>.bl (decide (j<=i))
variable{a b:Expr}{ma mb:ME}{pos:Pos}
def fZ(ha:SE X T W a ma)(hb:SE X T W b mb):SE X T W (.BinOp a .Sub b pos) (mOp lq ma mb):=ke GL (jf λ_ _ _ _ _ _=>eK) ha hb
def dQ(ha:SE X T W a ma)(hb:SE X T W b mb):SE X T W (.BinOp a .Mult b pos) (mOp dG ma mb):=ke GO (sR (λi j h=>(by simpa using h:(-(2 ^ 64)<i/\i<2 ^ 64)\/(-(2 ^ 64)<j/\j<2 ^ 64))) λ_ _ _ _ _ _=>eK) ha hb
def cP(ha:SE X T W a ma)(hb:SE X T W b mb):SE X T W (.BinOp a .Mod b pos) (mOp fm ma mb):=ke GQ (sR (λ_ _ h=>of_decide_eq_true h) λ_ _ _ _ _ _=>eK) ha hb
def iC(ha:SE X T W a ma)(hb:SE X T W b mb):SE X T W (.BinOp a .FloorDiv b pos) (mOp iV ma mb):=ke Dk (sR (λi j h=>(by simpa using h:0<j/\j<1073741824)) λ_ _ _ _ _ _=>eK) ha hb
def uF(ha:SE X T W a ma)(hb:SE X T W b mb):SE X T W (.BinOp a .Pow b pos) (mOp oO ma mb):=ke GN (sR (λi j h=>(by simpa using h:0<=j/\j<=1000000/\i.natAbs<2 ^ 64)) λ_ _ _ _ _ _=>eK) ha hb
def J2(ha:SE X T W a ma)(hb:SE X T W b mb):SE X T W (.Compare a [.LtE] [b] pos) (mOp pLe ma mb):=k9 wb (jf λ_ _ _ _ _ _=>gW) ha hb (eV _)
def J5(ha:SE X T W a ma)(hb:SE X T W b mb):SE X T W (.Compare a [.Gt] [b] pos) (mOp pGt ma mb):=k9 EK (jf λ_ _ _ _ _ _=>gW) ha hb (eV _)
end
def GS(T:Tb)(W:Nat->St->N4)(Z:Zn)(D:Ends):Out->Prop
 |.next e=>∀F H Y fp,aC T Z F H Y e fp->D.nx Y H
 |.ret pv=>∀F H v f,ce T Z F H->Rel T F Z.B NoL H pv v f->f.Nodup->(∀a∈f,¬F a)->(∀a∈f,Z.H0 a=none\/Z.fp0 a)->D.rt v H
 |.brk e=>∀F H Y fp,aC T Z F H Y e fp->D.bk Y H
 |.cont e=>∀F H Y fp,aC T Z F H Y e fp->D.ct Y H
 |.exc c e=>∀F H Y fp,aC T Z F H Y e fp->W c Y H
 |.stuck=>False
def tS(T:Tb)(W:Nat->St->N4)(m:MS):TS:=λD Y H=>∃Z F env fp,aC T Z F H Y env fp/\GS T W Z D (m env)
abbrev SS(X:Cx)(T:Tb)(W:Nat->St->N4)(st:Stmt)(m:MS):Prop:=PS X st (tS T W m)
abbrev SSs(X:Cx)(T:Tb)(W:Nat->St->N4)(sts:List Stmt)(m:MS):Prop:=PSs X sts (tS T W m)
def Au{p:Fl->Bool}(hL:p .lnt=false->∀a,L a->L' a)(hB:p .bor=false->∀a,B a->B' a):Mp T (λf=>f) p (λx=>x) (λ_=>True) F B L H F B' L' H:=
 ⟨λf a vs q _ h=>by
  cases f with
  |lnt=>exact⟨hL q a h.1,h.2⟩
  |bor=>exact⟨hB q a h.1,h.2⟩
  | _=>exact h,λf a q _ h=>⟨by
  cases f with
  |lnt=>exact hL q a h
  |bor=>exact hB q a h
  |_=>exact h,λ_ q=>q⟩,λ_ _ _ _ h=>h,rfl,λ_ _=>rfl,λ_ _ q _=>q⟩
def Rel.noL(hp:x.has Fl.Ob=false)(h:Rel T F B L H x v fo):Rel T F B L' H x v fo:=by
 have:=(Au (p:=Fl.Ob) (L':=L') (λz=>(nomatch z)) (λ_ _ q=>q)).rel hp (λ_ _=>True.intro) h
 rwa [mV]at this
def RelL.noL(hp:hasL Fl.Ob x=false)(h:RelL T F B L H x v fo):RelL T F B L' H x v fo:=by
 have:=(Au (p:=Fl.Ob) (L':=L') (λz=>(nomatch z)) (λ_ _ q=>q)).rels hp (λ_ _=>True.intro) h
 rwa [mapL_id]at this
section
variable{X:Cx}{T:Tb}{W:Nat->St->N4}{Z:Zn}{F F' B L:NV}{H H':Hp}{Y:St}{env:En}{fp:Nat->NZ}{D:Ends}
def cD(fp:Nat->NZ)(i:Nat)(f:NZ):Nat->NZ:=λj=>if j=i then f else fp j
theorem aC.put(S:aC T Z F H Y env fp){i:Nat}{pv:PV}{v:V}{f:NZ}(r:Rel T F Z.B NoL H pv v f)(nd:f.Nodup)(nf:∀a∈f,¬F a)(new:∀a∈f,Z.H0 a=none\/Z.fp0 a)(dj:∀a∈f,∀j,j≠i->a∉fp j)(ho:aS i env=true) :
  aC T Z F H (Y.set i (some v)) (env.set i (some pv)) (cD fp i f):=by
 refine⟨S.hp,by rw[length_set,length_set,S.len],λj pv' e=>?_,λj=>?_,λj k hjk a ha=>?_,λj a ha=>?_,λj a ha=>?_,λj a ha=>?_,λw hw=>?_⟩
 .grind[cD,aC,ce,Gr]
 .unfold cD;split
  .exact nd
  .exact S.nd j
 .grind[cD,aC,ce,Gr]
 .unfold cD at ha;by_cases h1:j=i
  .rw[if_pos h1]at ha;exact⟨nf a ha,r.there a ha⟩
  .rw[if_neg h1]at ha;exact S.dis j a ha
 .unfold cD at ha;by_cases h1:j=i
  .rw[if_pos h1]at ha;exact new a ha
  .rw[if_neg h1]at ha;exact S.new j a ha
 .unfold cD at ha;by_cases h1:j=i
  .rw[if_pos h1]at ha;exact r.chg a ha
  .rw[if_neg h1]at ha;exact S.ch j a ha
 .obtain⟨h1,h2⟩:=S.pn w hw;have hi:i≠0:=λz=>by rw[z]at ho;simp[aS,h2]at ho
  refine⟨by simp_all,?_⟩;unfold cR at h2 ⊢;rw[getElem?_set_ne hi];exact h2
def aC.putN(S:aC T Z F H Y env fp)(g:Gr F H F' H'){i:Nat}{pv:PV}{v:V}{f:NZ}(ho:aS i env=true)(r:Rel T F' Z.B L H' pv v f)(hl:pv.Od=true)(nf:∀a∈f,¬F' a)(nd:f.Nodup)(w:∀a∈f,H a=none) :
  aC T Z F' H' (Y.set i (some v)) (env.set i (some pv)) (cD fp i f):=by
 refine(S.grow g).put (Rel.noL (by simpa[PV.Od]using hl) r) nd nf (λa ha=>?_) (λa ha j _ hj=>?_) ho
 .by_cases q:Z.fp0 a
  .exact .inr q
  .refine .inl ?_;cases e:Z.H0 a with
   |none=>rfl
   |some o=>have:=S.hp.keep a o e q;rw[w a ha]at this;cases this
 .obtain⟨_,o,ho⟩:=S.dis j a hj;rw[w a ha]at ho;cases ho
def aF:SSs X T W [] aH:=PSs.wk C1 λD Y H ⟨Z,F,env,fp,S,q⟩=>q F H Y fp S
def ag{bF:List Stmt}(h1:SS X T W st a)(h2:SSs X T W bF b):SSs X T W (st::bF) (aq a b):=
 PSs.wk (kq h1 h2) λD Y H hz1=>by
  walk_at "b";refine⟨Z,F,env,fp,S,?_⟩;unfold aq at q;cases e:a env with
  |next e'=>rw[e]at q;exact λF' H' σ' fp' S'=>⟨Z,F',e',fp',S',q⟩
  |ret v|brk e'|cont e'|exc c e'|stuck=>rw[e]at q;exact q
def ak(h1:SS X T W st a):SSs X T W [st] a:=v3 h1
def aL(hc:ST X T W c mc)(ha:SSs X T W a ma)(hb:SSs X T W b mb):SS X T W (.If c a b pos) (mBr mc ma mb):=
 PS.wk (Kd hc ha hb) λD Y H hz1=>by
  walk_at "b";unfold mBr at q;refine tT.bind S (λc e H' x=>?_) (λe=>by rw[e]at q;exact q) λb H' F' e g=>?_
  .rw[e]at q;exact q F H' Y fp (S.grow (Gr.same S.hp.ft x))
  .cases b with
   |true=>rw[e]at q;exact(if_pos rfl).mpr ⟨Z,F',env,fp,S.grow g,q⟩
   |false=>rw[e]at q;exact(if_neg ()).mpr ⟨Z,F',env,fp,S.grow g,q⟩
def FM(hN:X.N.Nodup)(hi:X.N[i]?=some x)(hx:Loc X.env.scope x)(he:SE X T W e m)(hs:swapsWith e (some (.Name x pos')) pos.line X.env=pure false:=by rfl)
  (hf:Lce X.fn X.env x:=by first|exact .inl rfl|exact .inr rfl|assumption):SS X T W (.Assign [.Name x pos'] e pos) (aI i m):=
 PS.wk (zE hN hi hx he hs hf) λD Y H hz1=>by
  walk_at "b";unfold aI at q;refine tE.bind S (λc e H' x=>?_) (λe=>by rw[e]at q;exact q) λpv v H1 F1 f e g r h1 h2 h3=>?_
  .rw[e]at q;exact q F H' Y fp (S.grow (Gr.same S.hp.ft x))
  .rw[e]at q;simp only at q;split at q
   .rename_i hl
    rw[and_eq_true]at hl;exact q F1 H1 _ _ (S.putN g hl.2 r hl.1 h1 h2 h3)
   .exact q.elim
def ce.newE(S:ce T Z F H){f:NZ}(w:∀a∈f,H a=none):∀a∈f,Z.H0 a=none\/Z.fp0 a:=λa ha=>by
 by_cases q:Z.fp0 a
 .exact .inr q
 .refine .inl ?_;cases e:Z.H0 a with
  |none=>rfl
  |some o=>have:=S.keep a o e q;rw[w a ha]at this;cases this
def aD(he:SE X T W e m):SS X T W (.Return (some e) pos) (aZ m):=
 PS.wk (uL he) λD Y H hz1=>by
  walk_at "b";unfold aZ at q;refine tE.bind S (λc e H' x=>?_) (λe=>by rw[e]at q;exact q) λpv v H1 F1 f e g r h1 h2 h3=>?_
  .rw[e]at q;exact q F H' Y fp (S.grow (Gr.same S.hp.ft x))
  .rw[e]at q;simp only at q;split at q
   .rename_i hl
    exact q F1 H1 v f (S.hp.grow g) (Rel.noL (by simpa[PV.Od]using hl) r) h2 h1 (S.hp.newE h3)
   .exact q.elim
def d9(hN:X.N[i]?=some x)(hv:Vis X.env.scope x)(hd:Ndq x:=by decide)(hcd:Ncq x:=by decide):SS X T W (.Return (some (.Name x pos')) pos) (fM i):=
 PS.wk (uL (eU hN hv hd hcd)) λD Y H hz1=>by
  walk_at "b";unfold fM at q;split at q
  .rename_i pv e
   obtain⟨v,e1,r⟩:=S.rel i pv e;exact⟨v,e1,q F H v (fp i) S.hp r (S.nd i) (λa ha=>(S.dis i a ha).1) (S.new i)⟩
  .exact q.elim
def e_(he:SE X T W e m)(hs:swapsWith e none pos.line X.env=pure false:=by rfl):SS X T W (.Expr e pos) (gG m):=
 PS.wk (mS he hs) λD Y H hz1=>by
  walk_at "b";unfold gG at q;refine tE.bind S (λc e H' x=>?_) (λe=>by rw[e]at q;exact q) λpv v H1 F1 f e g r h1 h2 h3=>?_
  .rw[e]at q;exact q F H' Y fp (S.grow (Gr.same S.hp.ft x))
  .rw[e]at q;exact q F1 H1 Y fp (S.grow g)
def x2(hF:∀a,F a->F' a):Mp T Fl.N9 (λ_=>false) (λ_=>[]) F' F B L H F' B L H:=
 ⟨λf a vs _ c h=>by
  cases f with
  |own=>exact⟨c rfl,.inl h⟩
  |frz=>exact⟨hF a h.1,h.2⟩
  | _=>exact h,λf a _ c h=>⟨by
  cases f with
  |own=>exact c rfl
  |frz=>exact hF a h
  |_=>exact h,λ_ q=>q⟩,λf a x y h=>by cases f<;>exact⟨rfl,rfl⟩,rfl,λ_ _=>rfl,λ_ _ q _=>q⟩
def Rel.N9(hF:∀a,F a->F' a)(hp:∀a∈fo,F' a)(h:Rel T F B L H x v fo):Rel T F' B L H (x.Oe Fl.N9) v []:=(x2 hF).rel (oq x) hp h
theorem aC.frz(S:aC T Z F H Y env fp){i:Nat}{pv:PV}(e:env[i]?=some (some pv)):aC T Z (λa=>F a\/a∈fp i) H Y (env.set i (some (pv.Oe Fl.N9))) (cD fp i []):=by
 have hi:i<env.length:=(List.getElem?_eq_some_iff.mp e).1;refine⟨⟨S.hp.bo,S.hp.keep,λa h=>.inl (S.hp.f0 a h),λa h=>h.elim (S.hp.fn a) λz=>.inr (S.new i a z),λa h=>h.elim (S.hp.ft a) λz=>(S.dis i a z).2⟩,by rw[length_set,S.len],λj pv' e'=>?_,λj=>?_,λj k hjk a ha=>?_,λj a ha=>?_,λj a ha=>?_,λj a ha=>?_,λw hw=>?_⟩
 .by_cases hj:j=i
  .subst hj;rw[getElem?_set_self hi]at e';cases e';obtain⟨v,h1,h2⟩:=S.rel j pv e;refine⟨v,h1,?_⟩;unfold cD;rw[if_pos rfl];exact Rel.N9 (λ_ h=>.inl h) (λa h=>.inr h) h2
  .rw[getElem?_set_ne (Ne.symm hj)]at e';obtain⟨w,h1,h2⟩:=S.rel j pv' e';refine⟨w,h1,?_⟩;unfold cD;rw[if_neg hj];exact h2.ext Ext.refl λ_ h=>.inl h
 .unfold cD;split
  .exact nodup_nil
  .exact S.nd j
 .grind[cD,aC,ce,Gr]
 .unfold cD at ha;by_cases h1:j=i
  .rw[if_pos h1]at ha;cases ha
  .rw[if_neg h1]at ha;exact⟨λz=>z.elim (S.dis j a ha).1 λz=>S.dj j i h1 a ha z,(S.dis j a ha).2⟩
 .unfold cD at ha;by_cases h1:j=i
  .simp_all
  .rw[if_neg h1]at ha;exact S.new j a ha
 .unfold cD at ha;by_cases h1:j=i
  .simp_all
  .rw[if_neg h1]at ha;exact S.ch j a ha
 .obtain⟨h1,h2⟩:=S.pn w hw;refine⟨h1,?_⟩;unfold cR at h2 ⊢;by_cases hi0:i=0
  .subst hi0;rw[e]at h2;rw[getElem?_set_self hi];cases pv<;>first|exact h2 |(cases h2;done)|rfl
  .simp_all
def cO{i:Nat}{sts:List Stmt}(h:SSs X T W sts m):SSs X T W sts (aq (fv i) m):=PSs.wk h λD Y H hz1=>by
 walk_at "b";cases e:env[i]? with
 |none=>simp[aq,fv,e]at q;exact q.elim
 |some w=>
  cases w with
  |none=>simp[aq,fv,e]at q;exact q.elim
  |some pv=>simp only[aq,fv,e]at q;exact⟨Z,_,_,_,S.frz e,q⟩
noncomputable def Zn.re(Z:Zn)(F:NV)(H:Hp)(fp:Nat->NZ):Zn:=⟨H,F,Own fp,Z.B,Z.pin⟩
def aC.enter(S:aC T Z F H Y env fp):aC T (Z.re F H fp) F H Y env fp:=
 ⟨⟨⟨λa h=>by
   obtain⟨⟨o,h1⟩,h2⟩:=S.hp.bo.1 a h;refine⟨⟨o,S.hp.keep a o h1 h2⟩,λ⟨i,hi⟩=>?_⟩;rcases S.new i a hi with z|z
   .rw[h1]at z;cases z
   .exact h2 z,S.tbo Ext.refl λ_ z=>.inr z⟩,λ_ _ h _=>h,λ_ h=>h,λ_ h=>.inl h,S.hp.ft⟩,S.len,S.rel,S.nd,S.dj,S.dis,λi a ha=>.inr ⟨i,ha⟩,S.ch,S.pn⟩
def ce.leave(S:aC T Z F H Y env fp)(S':ce T (Z.re F H fp) F' H'):ce T Z F' H':=
 ⟨S.hp.bo,λa o h n=>S'.keep a o (S.hp.keep a o h n) λhz1=>by
   obtain⟨i,hi⟩:=hz1;rcases S.new i a hi with z|z
   .rw[h]at z;cases z
   .exact n z,λa h=>S'.f0 a (S.hp.f0 a h),λa h=>by
  rcases S'.fn a h with z|z |⟨i,hi⟩
  .exact S.hp.fn a z
  .refine .inr ?_;by_cases q:Z.fp0 a
   .exact .inr q
   .refine .inl ?_;cases w:Z.H0 a with
    |none=>rfl
    |some o=>have z':H a=none:=z;rw[S.hp.keep a o w q]at z';cases z'
  .exact .inr (S.new i a hi),S'.ft⟩
def aC.newL(S:aC T Z F H Y env fp)(h:(Z.re F H fp).H0 a=none \/(Z.re F H fp).fp0 a):Z.H0 a=none\/Z.fp0 a:=by
 rcases h with z |⟨i,hi⟩
 .by_cases q:Z.fp0 a
  .exact .inr q
  .refine .inl ?_;cases w:Z.H0 a with
   |none=>rfl
   |some o=>have z':H a=none:=z;rw[S.hp.keep a o w q]at z';cases z'
 .exact S.new i a hi
def aC.leave(S:aC T Z F H Y env fp)(S':aC T (Z.re F H fp) F' H' σ' env' fp'):aC T Z F' H' σ' env' fp':=
 ⟨ce.leave S S'.hp,S'.len,S'.rel,S'.nd,S'.dj,S'.dis,λi a ha=>S.newL (S'.new i a ha),S'.ch,S'.pn⟩
abbrev SW(X:Cx)(T:Tb)(W:Nat->St->N4)(e:Expr)(m:MT):Prop:=PW X e (tT T W m)
def tT.test(h:tT T W (aw m) Y H Q):tE T W m Y H λx H'=>∃k,x=.bl k/\Q k H':=by
 obtain⟨Z,F,env,fp,S,q⟩:=h;unfold aw at q;walk_at "a";cases x with
 |bl b=>exact⟨b,r1.1,q H1 F1 g1⟩
 |_=>exact q.elim
def fX(ho:OpR X (compareOp op) r)(hm:jY T W f r)(ha:SE X T W a ma)(hb:SE X T W b mb)(hk:behindInMarks op b=false):ST X T W (.Compare a [op] [b] pos) (aw (mOp f ma mb)):=
 PT.wk (vZ ho ha hb hk) λY H Q h=>by obtain⟨Z,F,env,fp,S,q⟩:=tT.test h;exact tE.mir2 hm ⟨Z,F,env,fp,S,q⟩
def qb(h:ST X T W a m):ST X T W (.UnaryOp .Not a pos) (n9 m):=PT.wk (Go h) λY H Q hz1=>by obtain⟨Z,F,env,fp,S,q⟩:=hz1;unfold n9 at q;refine tT.bind S (λc e=>by rw[e]at q;exact q) (λe=>by rw[e]at q;exact q) λb H1 F1 e1 g1=>?_;rw[e1]at q;exact q H1 F1 g1
def e9(h:ST X T W a m):SW X T W (.BoolOp .And [a] pos) m:=CZ h
def d7(h:ST X T W a m):SW X T W (.BoolOp .Or [a] pos) m:=Gm h
def gK{bF:List Expr}(h:ST X T W a m)(h2:SW X T W (.BoolOp .And (b::bF) pos) n):SW X T W (.BoolOp .And (a::b::bF) pos) (ie m n):=PW.wk (Gn h h2) λY H Q hz1=>by
 walk_at "b";unfold ie at q;refine tT.bind S (λc e=>by rw[e]at q;exact q) (λe=>by rw[e]at q;exact q) λb H1 F1 e1 g1=>?_;rw[e1]at q;cases b with
 |true=>
  refine(if_pos rfl).mpr ⟨Z,F1,env,fp,S.grow g1,?_⟩;cases e2:n env with
  |ok b=>rw[e2]at q;exact λH2 F2 g2=>q H2 F2 (g1.trans g2)
  |exc c=>rw[e2]at q;exact λH' x=>q H' (g1.ext.trans x)
  |stuck=>rw[e2]at q;exact q
 |false=>exact(if_neg ()).mpr (q H1 F1 g1)
def fW{bF:List Expr}(h:ST X T W a m)(h2:SW X T W (.BoolOp .Or (b::bF) pos) n):SW X T W (.BoolOp .Or (a::b::bF) pos) (iM m n):=PW.wk (Kc h h2) λY H Q hz1=>by
 walk_at "b";unfold iM at q;refine tT.bind S (λc e=>by rw[e]at q;exact q) (λe=>by rw[e]at q;exact q) λb H1 F1 e1 g1=>?_;rw[e1]at q;cases b with
 |false=>
  refine(if_neg ()).mpr ⟨Z,F1,env,fp,S.grow g1,?_⟩;cases e2:n env with
  |ok b=>rw[e2]at q;exact λH2 F2 g2=>q H2 F2 (g1.trans g2)
  |exc c=>rw[e2]at q;exact λH' x=>q H' (g1.ext.trans x)
  |stuck=>rw[e2]at q;exact q
 |true=>exact(if_pos rfl).mpr (q H1 F1 g1)
def SW.st(h:SW X T W e m):ST X T W e m:=PW.pt h
def d8(hK:X.K=T.K)(h:SE X T W a m)(he:∀whole,isTrue a X.env whole=(do let v <- whole;standAt a.pos;holding [v] (truthy v)):=by intro _;rfl):ST X T W a (di m):=PT.wk (zB h he) λY H Q hz1=>by
 walk_at "b";unfold di at q;walk_at "a";rw[hK];cases x with
 |non=>unfold Rel at r1;rw[r1.1];exact⟨false,rfl,q H1 F1 g1⟩
 |bl b=>unfold Rel at r1;rw[r1.1];exact⟨b,rfl,q H1 F1 g1⟩
 |int i=>unfold Rel at r1;rw[r1.1];exact⟨_,rfl,q H1 F1 g1⟩
 |str i=>exact q.elim
 |lst f xs=>
  obtain⟨a,vs,fp',rfl,hl,hr,_⟩:=r1;have hl':SqL T.K H1 a vs:=hl.sq;have e:(!xs.isEmpty)=!vs.isEmpty:=by have:=hr.length;cases xs<;>cases vs<;>simp_all
  exact⟨_,.inl ⟨vs,hl',rfl⟩,by rw[<- e];exact q H1 F1 g1⟩
 |tup xs=>
  obtain⟨a,vs,rfl,hl,hr⟩:=r1;have e:(!xs.isEmpty)=!vs.isEmpty:=by have:=hr.length;cases xs<;>cases vs<;>simp_all
  exact⟨_,.inr (.inl ⟨vs,hl,rfl⟩),by rw[<- e];exact q H1 F1 g1⟩
 |obj f c ks xs|exc c|box k xs=>exact q.elim
def f8(hc:ST X T W c mc)(ha:SE X T W a ma)(hb:SE X T W b mb):SE X T W (.IfExp c a b pos) (lD mc ma mb):=PE.wk (zQ hc ha hb) λY H Q hz1=>by
 walk_at "b";unfold lD at q;refine tT.bind S (λc e=>by rw[e]at q;exact q) (λe=>by rw[e]at q;exact q) λb H1 F1 e1 g1=>?_;rw[e1]at q;have lift:∀m:ME,GE T W Z.B F (Own fp) Y H Q (m env)->tE T W m Y H1 Q:=λm q=>by
  refine⟨Z,F1,env,fp,S.grow g1,?_⟩;cases e2:m env with
  |ok b=>rw[e2]at q;exact λv H2 F2 f g2 r n d w=>q v H2 F2 f (g1.trans g2) r n d λa ha=>g1.ext.free (w a ha)
  |exc c=>rw[e2]at q;exact λH' x=>q H' (g1.ext.trans x)
  |stuck=>rw[e2]at q;exact q
 cases b with
 |true=>exact(if_pos rfl).mpr (lift ma q)
 |false=>exact(if_neg ()).mpr (lift mb q)
def jE(a b:ME):ME:=λenv=>(a env).bind fun
 |.bl true=>b env
 |.bl false=>.ok (.bl false)
 |_=>.stuck
def yc(a b:ME):ME:=λenv=>(a env).bind fun
 |.bl false=>b env
 |.bl true=>.ok (.bl true)
 |_=>.stuck
def jK(ha:SE X T W a ma):SE X T W (.BoolOp op [a] pos) ma:=GB ha
def tE.later(S:aC T Z F H Y env fp)(g1:Gr F H F' H')(q:GE T W Z.B F (Own fp) Y H Q (m env)):tE T W m Y H' Q:=by
 refine⟨Z,F',env,fp,S.grow g1,?_⟩;cases e2:m env with
 |ok b=>rw[e2]at q;exact λv H2 F2 f g2 r n d w=>q v H2 F2 f (g1.trans g2) r n d λa ha=>g1.ext.free (w a ha)
 |exc c=>rw[e2]at q;exact λH' x=>q H' (g1.ext.trans x)
 |stuck=>rw[e2]at q;exact q
def k_{bF:List Expr}(ha:SE X T W a ma)(hb:SE X T W (.BoolOp .And (b::bF) pos) mb):SE X T W (.BoolOp .And (a::b::bF) pos) (jE ma mb):=PE.wk (GH ha hb) λY H Q hz1=>by
 walk_at "b";unfold jE at q;walk_at "a";cases x with
 |bl b=>
  refine⟨b,r1.1,?_⟩;cases b with
  |true=>exact(if_pos rfl).mpr (tE.later S g1 q)
  |false=>exact(if_neg ()).mpr (q.scal g1 gW)
 |_=>exact q.elim
def EC{bF:List Expr}(ha:SE X T W a ma)(hb:SE X T W (.BoolOp .Or (b::bF) pos) mb):SE X T W (.BoolOp .Or (a::b::bF) pos) (yc ma mb):=PE.wk (Kf ha hb) λY H Q hz1=>by
 walk_at "b";unfold yc at q;walk_at "a";cases x with
 |bl b=>
  refine⟨b,r1.1,?_⟩;cases b with
  |false=>exact(if_neg ()).mpr (tE.later S g1 q)
  |true=>exact(if_pos rfl).mpr (q.scal g1 gW)
 |_=>exact q.elim
def Ew(T:Tb)(W:Nat->St->N4)(f:PV->N6)(r:V->Hp->VK->Prop):Prop:=
 ∀(B F L:NV) (Y:St) (H:Hp) (Q:VK) (F':NV) (H':Hp) (x:PV) (v:V) (fx:NZ),Gr F H F' H'->Rel T F' B L H' x v fx->(∀a∈fx,¬F' a)->fx.Nodup->(∀a∈fx,H a=none)->GE T W B F L Y H Q (f x)->r v H' Q
def tE.mir1(hm:Ew T W f r)(h:tE T W (mUn f m) Y H Q):tUn r (tE T W m) Y H Q:=by obtain⟨Z,F,env,fp,S,q⟩:=h;unfold mUn at q;walk_at "a";exact hm Z.B F (Own fp) Y H Q F1 H1 x v f1 g1 r1 n1 d1 w1 q
def xU:PV->N6
 |.int i=>.ok (.int (-i))
 |_=>.stuck
def qg(ha:SE X T W a m):SE X T W (.UnaryOp .USub a pos) (mUn xU m):=PE.wk (Ke Fy ha) λY H Q h=>tE.mir1 (λB F L Y H Q F' H' x v fx g r _ _ _ q=>by
 cases x with
 |int i=>unfold Rel at r;exact⟨i,r.1,q.scal g eK⟩
 |_=>exact q.elim) h
noncomputable def bT(k:Nat):List Nat->N5->Option PV
 |j::ks,v::vs=>if j=k then some v else bT k ks vs
 |_,_=>none
def Fl.Oa:Fl->Bool
 |.own=>true
 |_=>false
def aA(k:Nat):PV->N6
 |.obj f _ ks vs=>match bT k ks vs with
  |some v=>if f.Oa&&v.has Fl.Oa then .stuck else .ok v
  |none=>.stuck
 |_=>.stuck
mutual
def Rel.Of:∀{x:PV}{v:V}{fp:NZ},x.has Fl.Oa=false->Rel T F B L H x v fp->fp=[]
 |.non,_,_,_,h|.bl _,_,_,_,h|.int _,_,_,_,h|.str _,_,_,_,h=>by unfold Rel at h;exact h.2
 |.lst f xs,_,fp,hp,h=>by
  unfold Rel at h;simp only[PV.has,or_eq_false_iff]at hp;obtain⟨a,vs,fp',e,hl,hr,hf⟩:=h;cases f with
  |own=>exact absurd hp.1 ()
  |frz|bor|lnt|mod=>exact hf.2
 |.tup xs,_,fp,hp,h=>by unfold Rel at h;simp only[PV.has]at hp;obtain⟨a,vs,e,hl,hr⟩:=h;exact RelL.Of hp hr
 |.obj f c ks xs,_,fp,hp,h=>by
  unfold Rel at h;simp only[PV.has,or_eq_false_iff]at hp;obtain⟨a,dx,vs,fp',e,hl,hk,hr,hf,ha⟩:=h;cases f with
  |own=>exact absurd hp.1 ()
  |frz|bor|lnt|mod=>exact hf.2
 |.exc c,_,fp,hp,h=>by unfold Rel at h;obtain⟨a,_,_,e⟩:=h;exact e
 |.box k xs,_,fp,hp,h=>by unfold Rel at h;obtain⟨a,vs,e,hl,hr⟩:=h;exact RelL.Of hp hr
def RelL.Of:∀{xs:N5}{vs:N3}{fp:NZ},hasL Fl.Oa xs=false->RelL T F B L H xs vs fp->fp=[]
 | [],_,_,_,h=>by unfold RelL at h;exact h.2
 |x::xs,_,fp,hp,h=>by unfold RelL at h;simp only[hasL,or_eq_false_iff]at hp;obtain⟨v,ws,f1,f2,e,h1,h2,rfl⟩:=h;rw[Rel.Of hp.1 h1,RelL.Of hp.2 h2];rfl
end
theorem RelL.get:∀{xs:N5}{vs:N3}{fp:NZ}{i:Nat}{x:PV},RelL T F B L H xs vs fp->xs[i]?=some x->∃v f,vs[i]?=some v/\Rel T F B L H x v f/\f.Sublist fp
 | [],_,_,_,_,_,e=>by simp at e
 |y::xs,_,fp,0,x,h,e=>by
  unfold RelL at h
  grind
 |y::xs,_,fp,i+1,x,h,e=>by obtain⟨v,ws,f1,f2,rfl,h1,h2,rfl⟩:=h;obtain⟨w,f,e1,r,s⟩:=RelL.get h2 (by simpa using e);exact⟨w,f,by simpa using e1,r,s.trans (List.sublist_append_right _ _)⟩
def tJ:∀{ks:List Nat}{xs:N5}{vs:N3}{fp:NZ}{x:PV},RelL T F B L H xs vs fp->bT k ks xs=some x->∃v f,((ks.map T.att).zip vs).lookup (T.att k)=some v/\Rel T F B L H x v f/\f.Sublist fp
 | [],_,_,_,_,_,e|j::ks,[],_,_,_,_,e=>by simp[bT]at e
 |j::ks,y::xs,_,fp,x,h,e=>by
  obtain⟨v,ws,f1,f2,rfl,h1,h2,rfl⟩:=h;unfold bT at e;by_cases hj:j=k
  .rw[if_pos hj]at e;cases e;subst hj;exact⟨v,f1,by simp,h1,List.sublist_append_left _ _⟩
  .rw[if_neg hj]at e;obtain⟨w,f,e1,r,s⟩:=tJ h2 e;refine⟨w,f,?_,r,s.trans (List.sublist_append_right _ _)⟩;have:(T.att k==T.att j)=false:=by rw[beq_eq_false_iff_ne];exact λz=>hj (T.inj _ _ z).symm
   rw[map_cons,zip_cons_cons,List.lookup_cons,this];exact e1
theorem Ck(hK:X.K=T.K)(hf:T.att k=f)(hc:∀c<T.nc,Cls T.K (T.cls c))(hn:∀c<T.nc,gx T.K (T.cls c) f)(h:tE T W (mUn (aA k) m) Y H Q):JU X.K (tE T W m) f Y H Q:=by
 obtain⟨Z,F,env,fp,S,q⟩:=h;unfold mUn at q;walk_at "a";cases x with
 |obj fl c ks xs=>
  simp only[Res.Og,aA]at q;cases e2:bT k ks xs with
  |none=>rw[e2]at q;exact q.elim
  |some y=>
   rw[e2]at q;dsimp only at q;obtain⟨a,dx,vs,fp',rfl,hl,hk,hr,hfl,_⟩:=r1;obtain⟨w,f',l1,l2,l3⟩:=tJ hr e2;have e0:f'=[]:=by
    cases fl with
    |own=>
     simp only[Fl.Oa,Bool.true_and]at q;by_cases ho:y.has Fl.Oa=true
     .rw[if_pos ho]at q;exact q.elim
     .exact Rel.Of () l2
    |frz|bor|lnt|mod=>obtain⟨rfl,_⟩:=hfl;exact sublist_nil.mp l3
   subst e0;by_cases hb:(fl.Oa&&y.has Fl.Oa)=true
   .rw[if_pos hb]at q;exact q.elim
   .rw[if_neg hb]at q;rw[hK];exact⟨a,_,dx,_,w,rfl,hl,hc c hk.2,hn c hk.2,by lia,q.scal g1 l2⟩
 |_=>exact q.elim
def CL(hK:X.K=T.K)(hf:T.att k=f)(hc:∀c<T.nc,Cls T.K (T.cls c))(hn:∀c<T.nc,gx T.K (T.cls c) f)(he:SE X T W e m)(hb:attributeBase e f X.env (eval e X.env)=eval e X.env:=by rfl) :
  SE X T W (.Attribute e f pos) (mUn (aA k) m):=PE.wk (GD he hb) λY H Q h=>Ck hK hf hc hn h
end
end PR
namespace L2
open PySem PySem.Spec
def b_.there(x:b_ P w H h a o):∃u,h.get? a=some u:=by
 cases o with
 |lst xs=>obtain⟨_,_,_,_,e⟩:=x;exact⟨_,e⟩
 |tup xs=>obtain⟨_,_,_,o,e,_⟩:=x;exact⟨_,e⟩
 |dK kvs|dT kvs=>obtain⟨_,_,_,_,o,_,_,e,_⟩:=x;exact⟨_,e⟩
 |set S n=>obtain⟨o,_,_,_,e,_⟩:=x;exact⟨_,e⟩
 |ins C dx fs=>obtain⟨_,_,_,e,_⟩:=x;exact⟨_,e⟩
 |own y=>exact x
 |xd fs=>obtain⟨_,⟨_,_,_,e,_⟩,_⟩:=x;exact⟨_,e⟩
 |rng lo hi=>obtain⟨_,_,_,e⟩:=x;exact⟨_,e⟩
 |frz ob u=>obtain⟨e,_⟩:=x;exact⟨_,e⟩
 |tbl ps=>obtain⟨_,e,_⟩:=x;exact⟨_,e⟩
 |met f y=>exact⟨_,(show h.get? a=some _ from x)⟩
 |ext φ=>obtain⟨_,q,_⟩:=x;exact q
end L2
namespace PR
open PySem PySem.Spec L2
structure Fly(P:Program)(w:World)(outer:List Env)(H:Hp)(s:Shared)(cls:Value)(H':Hp)(e:Value)(s':Shared):Prop where
 os:s'.os=s.os
 bare:PyProof.Rows.AllBare s'.gens
 un:Un (frs outer) [] H H' s.heap s'.heap
 hok:HOk P w H' s'.heap
 fly:∃x a0 Bh,e=.ref x/\Heap.FlyingW Bh outer x cls a0 s'.heap/\(∀b o u,H' b=some u->s'.heap.get? b=some o->Bh.get? b=some o)/\
  (∀b o o',s'.heap.get? b=some o->s.heap.get? b=some o'->b∉frs outer->Bh.get? b=some o)
def CXP(P:Program)(w:World):CXT:=λouter H s E e s'=>∃cls H',Fly P w outer H s cls H' e s'/\E cls none H'
def XF(X:Cx)(T:Tb)(W:Nat->St->N4):Prop:=∀(NP:NU) (Y:St) (H:Hp) (s:Shared) (c:Nat) (H':Hp) (e:Value) (s':Shared),L2.Inv X NP Y H s->Fly X.prog X.w X.stack H s (.ref (T.xcl c)) H' e s'->W c Y H'->X.xe e s'
def XM(X:Cx)(T:Tb)(W:Nat->St->N4):Prop:=∀(NP:NU) (Y:St) (H:Hp) (s:Shared) (c:Nat) (h':Heap) (e:Addr) (vs:NY),L2.Inv X NP Y H s->Heap.MadeExcOf s.heap h' e (.ref (T.xcl c)) vs->W c Y H->X.xe (.ref e) {s with heap:=h'}
section
variable{P:Program}{w:World}{K:PySem.W.Frag}{mg:NS}{base:Heap}{N:N0}{qual:Str}{scope:Scope}{f:Addr}{cd:Value}{A:Around}{outer:List Env}{s:Shared}{H:Hp}{E:XK}
def DY{H:Hp}{h h' Bh:Heap}(ok:HOk P w H h)(k:∀b o u,H b=some u->h.get? b=some o->Bh.get? b=some o)(st:Bh.StaysIn h'):HOk P w H h':=λa o e=>
 (ok a o e).stay (λb u hb q=>by
  rcases hb with rfl|hb
  .exact st _ _ (k b u _ e q)
  .exact st _ _ (k b u _ hb q)) (λ_ q=>q) λ_ _ _ q=>q
def pO(I:L2.Inv X NP Y H1 s1)(hst:X.stack=X.env::X.outer)(hex:X.ex=[])(hfrm:X.env.frame=some X.env.locals)
  (hos:os2=s1.os) (hb:PyProof.Rows.AllBare g2) (u2:Un (frs X.stack) [] H1 H2 s1.heap h2) (ok:HOk X.prog X.w H2 h2) (tr:∀b o u,H2 b=some u->h2.get? b=some o->Bh.get? b=some o)
  (ol:∀b o o',h2.get? b=some o->s1.heap.get? b=some o'->b∉frs X.stack->Bh.get? b=some o) (fl:Heap.FlyingW Bh X.outer x cls a0 h') (up:h2.UpToSlots h') :
  Fly X.prog X.w X.outer X.H₀ X.s₀ cls H2 (.ref x) ⟨h',g2,d2,t2,os2⟩:=by
 have u1:=I.base;rw[hex]at u1;have hfs:frs X.stack=X.env.locals::frs X.outer:=by rw[hst];show List.filterMap _ _=_;rw[List.filterMap_cons,hfrm];rfl
 have u:Un (frs X.stack) [] X.H₀ H2 X.s₀.heap h2:=(u1.mono (λb hb=>by rw[hfs];exact mem_cons_of_mem _ hb) λ_ z=>z).trans u2;have neL:∀b o,X.s₀.heap.get? b=some o->b≠X.env.locals:=λb o e=>Nat.ne_of_lt (Nat.lt_of_lt_of_le (lt_size e) I.ok.above);have nst:∀b o,X.s₀.heap.get? b=some o->b∉frs X.outer->b∉frs X.stack:=λb o e hn hb=>by simp_all
 have data:∀b o,X.s₀.heap.get? b=some o->b∈frs X.outer->∀vs,o.data≠.fields vs:=λb o e hb vs z=>by obtain⟨_,o',ho',hd'⟩:=I.ok.funs.mem hb;rw[e]at ho';cases ho';exact hd' vs z
 refine⟨hos.trans I.os,hb,⟨λb o e n hf _=>?_,λb o e n hf _=>?_,u.free,λb o e _=>?_,u.tups,u.frzs,u.tbls⟩,DY ok tr fl.1,⟨x,a0,Bh,rfl,fl,λb o v e q=>?_,λb o o' e q hf=>?_⟩⟩
 .have q:=u.keep b o e n (nst b o e hf) ();obtain⟨o1,e1⟩:=u1.there b o e ();exact fl.1 b o (ol b o o1 q e1 (nst b o e hf))
 .obtain⟨sl,q⟩:=u.slot b o e n (by rw[hfs];exact mem_cons_of_mem _ hf) ();obtain⟨sl',q'⟩:=up b _ q (data b o e hf);exact⟨sl',q'⟩
 .by_cases hf:b∈frs X.outer
  .obtain⟨_,o2,ho2,_⟩:=fl.2.2.1.mem hf;exact⟨o2,ho2⟩
  .obtain⟨o1,e1⟩:=u1.there b o e ();obtain⟨o2,e2⟩:=u2.there b o1 e1 ();exact⟨o2,fl.1 b o2 (ol b o2 o1 e2 e1 (nst b o e hf))⟩
 .have hlt:=ok.lt e;obtain⟨o2,e2⟩:∃o2,h2.get? b=some o2:=by have x:=ok b v e;exact b_.there x
  have:=fl.1 b o2 (tr b o2 v e e2);rw[q]at this;cases this;exact tr b o v e e2
 .obtain⟨o1,e1⟩:=u1.there b o' q ();obtain⟨o2,e2⟩:=u2.there b o1 e1 ();have hB:=ol b o2 o1 e2 e1 (nst b o' q hf);have:=fl.1 b o2 hB;rw[e]at this;cases this;exact hB
end
section
variable{P:Program}{w:World}{K:PySem.W.Frag}{mg:NS}{base:Heap}{N:N0}{qual:Str}{scope:Scope}{f:Addr}{cd:Value}{A:Around}{outer:List Env}{s:Shared}{H:Hp}{E:XK}{T:Tb}
abbrev WD(T:Tb)(E:XK):Nat->St->N4:=λc _ H=>E (.ref (T.xcl c)) none H
def Fv:XF (gA (CXP P w) P w K mg base N qual scope f cd A outer s H E) T (WD T E):=by intro NP Y H1 s1 c H2 e s2 I fl hW;obtain⟨x,a0,Bh,rfl,fly,tr,ol⟩:=fl.fly;refine wpAny_leaves_onW I.ok.frames rfl fly λh' fly' up=>?_;obtain⟨h2,g2,d2,t2,os2⟩:=s2;exact⟨_,H2,pO I rfl rfl rfl fl.os fl.bare fl.un fl.hok tr ol fly' up,hW⟩
def bH:XM (gA (CXP P w) P w K mg base N qual scope f cd A outer s H E) T (WD T E):=by
 intro NP Y H1 s1 c h2 e vs I mx hW;have hin:∀env ∈(gA (CXP P w) P w K mg base N qual scope f cd A outer s H E).stack,∀b,env.frame=some b->b∈frs (gA (CXP P w) P w K mg base N qual scope f cd A outer s H E).stack:=λenv he b hb=>List.mem_filterMap.mpr ⟨env,he,hb⟩;refine wpAny_leaves_madeW I.ok.frames rfl (λb o q=>PySem.W.of_hideAll _ q) (PySem.W.funFrames_hide I.stack hin) mx λh' t fly' _ _ up=>?_;obtain⟨h1,g1,d1,t1,os1⟩:=s1;have fresh:∀b o,h1.get? b=some o->h2.get? b=some o:=mx.keeps;have nfr:∀b u,H1 b=some u->b∉frs (gA (CXP P w) P w K mg base N qual scope f cd A outer s H E).stack:=λb u e hb=>by rw[I.stkFree b hb]at e;cases e
 refine⟨_,H1,pO I rfl rfl rfl rfl I.bare (Un.kept fresh) (I.hok.kept fresh) (λb o u e q=>?_) (λb o o' e q hb=>?_) fly' up,hW⟩
 .obtain⟨o1,e1⟩:=b_.there (I.hok b u e);have:=fresh b o1 e1;rw[q]at this;cases this;exact hideAll_get _ e1 (nfr b u e)
 .have:=fresh b o' q;rw[e]at this;cases this;exact hideAll_get _ q hb
end
structure Nx(X:Cx)(x:Str)(C:Addr):Prop where
 bm:X.mg x=some (.ref C)
 obj:∃bm N nm q bs hdct sn sub ab col dd k0 k1 k2 k3 k5 mN,X.base.get? C=some (excClassObj nm q C N bs bm hdct sn sub ab col dd k0 k1 k2 k3 k5 "ValueError.__new__")/\X.base.Ns N mN/\mN "__init__"=none /\
  OwnTail X.base [.type "ValueError",.type "Exception",.type "BaseException",.type "object"] bm
section
variable{X:Cx}{T:Tb}{W:Nat->St->N4}
theorem y_(O:Nx X x (T.xcl c))(hx:XM X T W)(hc:X.calm=true)(hg:Gl X x)(ha:SA X T W (e::es) ms)(hne:∀env pvs,ms env=.ok pvs->pvs.length<=100)(hd:Ndq x:=by decide)
  (he:starEach (e::es) X.env=(false,eval e X.env)::starEach es X.env:=by rfl) (hpl:(backTo cpos (starEach es X.env)).any (·.1)=false:=by rfl) :
  SS X T W (.Raise (some (.Call (.Name x np) (e::es) [] cpos)) none pos) (λenv=>match ms env with
   |.ok _=>.exc c env
   |.exc k=>.exc k env
   |.stuck=>.stuck):=by
 intro NP s Y H D I h;obtain⟨Z,F,env,fp,S,q⟩:=h;dsimp only at q;obtain⟨tl,N,nm,qn,bs,hdct,sn,sub,ab,col,dd,k0,k1,k2,k3,k5,mN,hC,hN,hni,TL⟩:=O.obj;refine wpAny_Raise_call_subT (nm:=nm) (q:=qn) (N:=N) (bs:=bs) (hdct:=hdct) (sn:=sn) (sub:=sub) (ab:=ab) (col:=col) (dd:=dd) (k0:=k0) (k1:=k1) (k2:=k2) (k3:=k3) (k5:=k5)
  PySem.F.excBase_ValueError (TL.hasType PySem.F.excBase_ValueError.hasBase) (I.ok.hd hc) (by rw[he];show(false ||(backTo cpos (starEach es X.env)).any (·.1))=false;rw[hpl];rfl) hni (kH I hg O.bm ⟨rfl,?_⟩ hd)
 have h2:=ha cpos NP s Y H (λvs H'=>vs.length <= 100/\W c Y H') I (tA.bind S (λk e H' x=>by rw [e] at q;exact q F H' Y fp (S.grow (Gr.same S.hp.ft x))) (λe=>by rw [e] at q;exact q) λpvs vs H' F' f e g r _ _ _=>by
  rw[e]at q;exact⟨by rw[<- r.length];exact hne env pvs e,q F' H' Y fp (S.grow g)⟩)
 rw[he]at h2 ⊢;refine Calls.evalArgs_plain (wpAny_mono h2 (λvs s₂ h₂=>?_) λ_ _ y=>y);obtain⟨vs',H',I2,rv,hl,hw⟩:=h₂;refine⟨rfl,?_,I2.bk _ _ hC,hN.keeps I2.bk,TL.keeps I2.bk,λh' e' mx=>hx NP Y H' s₂ c h' e' vs I2 mx hw⟩;rw[<- rv.length,sizeLine_eq]
 lia
end
def aG(m:N5->N6)(xs:N5):N6:=match m (mapL Fl.N8 xs)with
 |.ok v=>if v.has Fl.Oc then .stuck else .ok v
 |.exc c=>.exc c
 |.stuck=>.stuck
noncomputable def bf(n:Nat)(m:MS)(args:N5):N6:=match m (args.map some++replicate (n-args.length) none)with
 |.next _=>.ok .non
 |.ret v=>.ok v
 |.exc c _=>.exc c
 |_=>.stuck
def GF(T:Tb)(Z:Zn)(Q:VK)(E:XK):N6->Prop
 |.ok pv=>∀F H v f,ce T Z F H->Rel T F Z.B NoL H pv v f->f.Nodup->(∀a∈f,¬F a)->(∀a∈f,Z.H0 a=none\/Z.fp0 a)->Q v H
 |.exc c=>∀H,(∀a o,Z.H0 a=some o->¬Z.fp0 a->H a=some o)->E (.ref (T.xcl c)) none H
 |.stuck=>False
structure yO(T:Tb)(F B:NV)(H:Hp)(pvs:N5)(vs:N3)(f:NZ):Prop where
 rel:RelL T F B NoL H pvs vs f
 nd:f.Nodup
 nf:∀a∈f,¬F a
 bo:(∀a,B a->(∃o,H a=some o)/\a∉f)/\Ev T H (·∈f)
 ft:∀a,F a->∃o,H a=some o
def spM(T:Tb)(n:Nat)(m:N5->N6):Sp:=λvs H Q E=>vs.length=n/\∃pvs F B f,yO T F B H pvs vs f/\GF T ⟨H,F,(·∈f),B,none⟩ Q E (m pvs)
theorem RelL.split:∀{xs:N5}{vs:N3}{f:NZ},RelL T F B L H xs vs f->f.Nodup ->
  ∃g:Nat->NZ,(∀(i:Nat) x v,xs[i]?=some x->vs[i]?=some v->Rel T F B L H x v (g i))/\(∀i,(g i).Nodup)/\(∀i j,i≠j->∀a∈g i,a∉g j)/\∀i a,a∈g i->a∈f
 | [],_,_,_,_=>⟨λ_=>[],λi x v e=>by simp at e,λ_=>nodup_nil,λ_ _ _ _ z=>(nomatch z),λ_ _ z=>(nomatch z)⟩
 |x::xs,_,_,h,nd=>by
  obtain⟨v,ws,f1,f2,rfl,h1,h2,rfl⟩:=h;obtain⟨n1,n2,n3⟩:=nodup_append.mp nd;obtain⟨g,g1,g2,g3,g4⟩:=RelL.split h2 n2;refine⟨λi=>match i with|0=>f1|j+1=>g j,λi y u e1 e2=>?_,λi=>?_,λi j hij a ha=>?_,λi a ha=>?_⟩
  .cases i with
   |zero=>simp at e1 e2;subst e1 e2;exact h1
   |succ i=>exact g1 i y u (by simp_all) (by simp_all)
  .cases i with
   |zero=>exact n1
   |succ i=>exact g2 i
  .grind
  grind
section
variable{P:Program}{w:World}{K:PySem.W.Frag}{mg:NS}{base:Heap}{T:Tb}
def p7(N:N0)(R:yO T F B H pvs vs f)(pin:Option V)(hpin:∀v,pin=some v->vs[0]?=some v/\∃fl c ks xs,pvs[0]?=some (.obj fl c ks xs)) :
  ∃fp,aC T ⟨H,F,(·∈f),B,pin⟩ F H (L2.start N vs) (pvs.map some++replicate (N.length-pvs.length) none) fp:=by
 obtain⟨g,g1,g2,g3,g4⟩:=R.rel.split R.nd;have hl:=R.rel.length;refine⟨g,⟨R.bo,λ_ _ h _=>h,λ_ h=>h,λ_ h=>.inl h,R.ft⟩,?_,λi pv e=>?_,g2,g3,λi a ha=>⟨R.nf a (g4 i a ha),R.rel.there a (g4 i a ha)⟩,λi a ha=>.inr (g4 i a ha),λi a ha=>R.rel.chg a (g4 i a ha),λv hv=>?_⟩
 .unfold L2.start;simp[hl]
 .by_cases hi:i<pvs.length
  .rw[getElem?_append_left (by simpa using hi),getElem?_map]at e;obtain⟨x,e1,e2⟩:=map_eq_some_iff.mp e;cases e2;obtain⟨v,_,ev,_⟩:=R.rel.get e1;refine⟨v,?_,g1 i pv v e1 ev⟩;unfold L2.start;rw[getElem?_append_left (by simpa[<- hl]using hi),getElem?_map,ev];rfl
  .rw[getElem?_append_right (by simpa using hi),getElem?_replicate]at e;split at e<;>cases e
 .obtain⟨h1,fl,c,ks,xs,h2⟩:=hpin v hv;have hl0:0<vs.length:=(List.getElem?_eq_some_iff.mp h1).1;have hp0:0<pvs.length:=(List.getElem?_eq_some_iff.mp h2).1;unfold L2.start cR;rw[getElem?_append_left (by simpa using hl0),getElem?_append_left (by simpa using hp0),getElem?_map,getElem?_map,h1,h2];exact⟨rfl,rfl⟩
def Lc(F:Fun K x qual st f fd)(S:fT N ps (aO st))
  (body:∀ (cdv:Value) (A:Around) (outer:List Env) (s:Shared) (H:Hp) (E:XK),eM k (A.deeper (PyProof.Rows.envOfC qual (aO st) s.heap.objs.size f cdv)) ->
   SSs (gA (CXP P w) P w K mg base N qual (aO st) f cdv A outer s H E) T (WD T E) (cA st) m):dA P w K mg base (CXP P w) (k+1) f fd ps (spM T ps.length (bf N.length m)):=by
 obtain⟨oc,od,kV,doc,pm,an,cdv,ct,osl,rfl,lk,hcd⟩:=F.ex;refine E0 lk hcd S (λvs H Q E h=>h.1) λA outer s H vs Q E hr hsp=>⟨_,body cdv A outer s H E hr,?_⟩
 obtain⟨_,pvs,F,B,fl,R,q⟩:=hsp;obtain⟨fp,S0⟩:=p7 N R none (λ_ h=>nomatch h);refine⟨_,F,_,fp,S0,?_⟩;unfold bf at q;cases e:m (pvs.map some++replicate (N.length-pvs.length) none)with
 |next e'=>rw[e]at q;exact λF' H' σ' fp' S'=>q F' H' .non [] S'.hp ML nodup_nil (λ_ z=>(nomatch z)) (λ_ z=>(nomatch z))
 |ret v=>rw[e]at q;exact q
 |brk e'|cont e'=>rw[e]at q;exact q.elim
 |exc c e'=>rw[e]at q;exact λF' H' σ' fp' S'=>q H' S'.hp.keep
 |stuck=>rw[e]at q;exact q.elim
end
def At(hB:∀a,B a->B' a)(hL:∀a,L a->B' a):Mp T Fl.N8 (λ_=>false) (λx=>x) (λ_=>True) F B L H F B' L' H:=
 ⟨λf a vs _ c h=>by
  cases f with
  |bor=>exact⟨hB a h.1,h.2⟩
  |lnt=>exact⟨hL a h.1,.inl h.2⟩
  | _=>exact h,λf a _ c h=>⟨by
  cases f with
  |bor=>exact hB a h
  |lnt=>exact hL a h
  |_=>exact h,λ_ q=>q⟩,λf a x y h=>by cases f<;>exact h,rfl,λ_ _=>rfl,λ_ _ q _=>q⟩
def RelL.N8(hB:∀a,B a->B' a)(hL:∀a,L a->B' a)(h:RelL T F B L H x v fo):RelL T F B' L' H (mapL Fl.N8 x) v fo:=(At hB hL).rels (has_noL x) (λ_ _=>True.intro) h
def Rel.noB(hp:x.has Fl.Oc=false)(h:Rel T F B L H x v fo):Rel T F B' L H x v fo:=by
 have:=(Au (p:=Fl.Oc) (B':=B') (λ_ _ q=>q) (λz=>(nomatch z))).rel hp (λ_ _=>True.intro) h
 rwa [mV]at this
def RelL.append:∀{xs ys:N5}{vs us:N3}{f g:NZ},RelL T F B L H xs vs f->RelL T F B L H ys us g->RelL T F B L H (xs++ys) (vs++us) (f++g)
 | [],_,_,_,_,_,h,r=>by obtain⟨rfl,rfl⟩:=h;exact r
 |x::xs,_,_,_,_,_,h,r=>by obtain⟨v,ws,f1,f2,rfl,h1,h2,rfl⟩:=h;exact⟨v,_,f1,_,rfl,h1,RelL.append h2 r,by simp⟩
section
variable{X:Cx}{T:Tb}{W:Nat->St->N4}{Z:Zn}{F F1:NV}{H H1:Hp}{Y:St}{env:En}{fp:Nat->NZ}
theorem EE
  (G:dA X.prog X.w X.K X.mg X.base (CXP X.prog X.w) k f fd ps (spM T ps.length m)) (hr:eM k X.A) (hb:gJ X.K fd ps ds) (hd:aU dvs ds) (hdp:∀F B L H,RelL T F B L H dps dvs []) (hx:XF X T W)
  (S:aC T Z F H Y env fp) (g:Gr F H F1 H1) (r:RelL T F1 Z.B (Own fp) H1 xs vs fx) (nf:∀a∈fx,¬F1 a) (nd:fx.Nodup) (new:∀a∈fx,H a=none) (q:GE T W Z.B F (Own fp) Y H Q (aG m (xs++dps)))
  (I1:L2.Inv X NP Y H1 s1) (rv:aU vs us) (hlen:vs.length+dvs.length=ps.length):wpAny (model X.prog X.w) X.A (call (.ref f) us) (EP X NP Y Q) X.xe s1:=by
 have r2:aU (vs++dvs) (us++ds):=rv.append hd;have hl:(us++ds).length=ps.length:=by rw[<- r2.length,length_append];exact hlen
 have rr:RelL T F1 Z.B (Own fp) H1 (xs++dps) (vs++dvs) fx:=by
  have:=RelL.append r (hdp F1 Z.B (Own fp) H1)
  rwa [append_nil]at this
 have hBo:∀a,Z.B a->(∃o,H1 a=some o)/\a∉fx:=λa h=>by obtain⟨⟨o,h1⟩,h2⟩:=S.hp.bo.1 a h;have h3:=S.hp.keep a o h1 h2;exact⟨⟨o,g.ext a o h3⟩,λz=>by simp_all⟩
 have hOw:∀a,Own fp a->(∃o,H1 a=some o)/\a∉fx:=λa hz1=>by obtain⟨i,hi⟩:=hz1;obtain⟨_,o,ho⟩:=S.dis i a hi;exact⟨⟨o,g.ext a o ho⟩,λz=>by simp_all⟩
 have R:yO T F1 (λa=>(∃o,H1 a=some o)/\a∉fx) H1 (mapL Fl.N8 (xs++dps)) (vs++dvs) fx:=⟨RelL.N8 hBo hOw rr,nd,nf,⟨λa h=>h,S.tbo g.ext λa z=>.inl (new a z)⟩,g.dom⟩
 refine wpAny_call (codeAny_mono (G.run X.A X.stack s1 H1 ⟨us,[]⟩ (us ++ ds) (vs ++ dvs) Q (λcls _ H'=>∃ c,cls=.ref (T.xcl c)/\W c Y H') hr I1.env0 (hb s1 us I1.kIn hl) r2
  ⟨by rw[r2.length,hl],_,F1,_,fx,R,?_⟩) λrs s' hq=>?_)
 .unfold aG at q;cases e:m (mapL Fl.N8 (xs++dps))with
  |ok v=>
   rw[e]at q;dsimp only at q;intro F2 H2 u f2 hp2 r3 nd2 nf2 new2;by_cases hbr:v.has Fl.Oc=true
   .rw[if_pos hbr]at q;exact q.elim
   .rw[if_neg hbr]at q;have hbr':v.has Fl.Oc=false:=by lia
    refine q u H2 F2 f2 ⟨λa o h=>hp2.keep a o (g.ext a o h) λz=>(by simp_all),λa h=>hp2.f0 a (g.mono a h),λa h=>?_,hp2.ft⟩ ?_ nf2 nd2 λa ha=>?_
    .rcases hp2.fn a h with z|z|z
     .exact g.only a z
     .exact .inr (g.ext.free z)
     .exact .inr (new a z)
    .exact Rel.tr (λ_ h=>h) (λ_ h=>h) (λ_ h=>h.elim) (λ_ _ h _=>h) (λ_ _ _ h=>h) (Rel.noB (B':=Z.B) hbr' r3)
    .rcases new2 a ha with z|z
     .exact g.ext.free z
     .exact new a z
  |exc c=>rw[e]at q;exact λH' h=>⟨c,rfl,q H' λa o z=>h a o (g.ext a o z) λz'=>by simp_all⟩
  |stuck=>rw[e]at q;exact q.elim
 .cases rs with
  |error e=>obtain⟨cls,H',fl,c,rfl,hw⟩:=hq;exact hx NP Y H1 s1 c H' e s' I1 fl hw
  |ok fl=>
   cases fl with
   |ret u=>exact I1.after hq
   |next|brk|cont=>exact False.elim hq
def CJ
  (G:dA X.prog X.w X.K X.mg X.base (CXP X.prog X.w) k f fd ps (spM T ps.length m)) (hr:eM k X.A) (hg:Gl X x) (hm:X.mg x=some (.ref f)) (hk:PySem.W.keepIn X.K (.ref f)=true) (hb:gJ X.K fd ps ds) (hd:aU dvs ds) (hdp:∀F B L H,RelL T F B L H dps dvs []) (hx:XF X T W)
  (hn:∀env xs,ms env=.ok xs->xs.length+dvs.length=ps.length) (ha:SA X T W (e::es) ms)
  (hdb:Ndq x:=by decide) (he:starEach (e::es) X.env=(false,eval e X.env)::starEach es X.env:=by rfl) (hpl:(backTo pos (starEach es X.env)).any (·.1)=false:=by rfl) :
  SE X T W (.Call (.Name x p) (e::es) [] pos) (ao (λxs=>aG m (xs++dps)) ms):=by
 intro NP s Y H Q I h;obtain⟨Z,F,env,fp,S,q⟩:=h;unfold ao at q;refine wpAny_Call_Name_kw (kH I hg hm ?_ hdb);refine callWith_K I.ok.mod.kin hk (thn (ha pos NP s Y H (λvs H1=>∀ us s1,L2.Inv X NP Y H1 s1->aU vs us->wpAny (model X.prog X.w) X.A (call (.ref f) us) (EP X NP Y Q) X.xe s1) I
  (tA.bq S λxs vs H1 F1 f1 e1 g1 r1 n1 d1 w1 us s1 I1 rv=>?_)) λus s1 ⟨vs,H1,I1,r,q1⟩=>⟨I1.kIn,q1 us s1 I1 r⟩) he hpl
 rw[e1]at q;exact EE G hr hb hd hdp hx S g1 r1 n1 d1 w1 q I1 rv (by rw[<- r1.length];exact hn env xs e1)
def gB(X:Cx)(T:Tb)(k:Nat)(mn:Str)(ps:N0)(ds:NY)(disp:Nat->Option (N5->N6)):Prop:=
 ∀c m,c<T.nc->disp c=some m->∃f fd,Ex X.K (T.cls c) mn f/\gJ X.K fd ps ds/\dA X.prog X.w X.K X.mg X.base (CXP X.prog X.w) k f fd ps (spM T ps.length m)
def wf(disp:Nat->Option (N5->N6))(dps:N5)(o:ME)(ms:MA):ME:=λenv=>(o env).bind λov=>match ov with
 |.obj _ c _ _=>match disp c with
  |some m=>(ms env).bind λxs=>aG m ((ov::xs)++ dps)
  |none=>.stuck
 |_=>.stuck
def l7(hm:∀k,T.att k≠mn):∀(ks:List Nat) (vs:N3),((ks.map T.att).zip vs).lookup mn=none
 | [],_|j::ks,[]=>rfl
 |j::ks,v::vs=>by rw[map_cons,zip_cons_cons,List.lookup_cons,show(mn==T.att j)=false by rw[beq_eq_false_iff_ne];exact(hm j).symm];exact l7 hm ks vs
def DH
  (hK:X.K=T.K) (hc:∀c<T.nc,Cls T.K (T.cls c)) (hm:∀k,T.att k≠mn) (D:gB X T k mn ps ds disp) (e:disp c=some m) (r:Rel T F1 B L H1 (.obj fl c ks xs) v f1) (I1:L2.Inv X NP Y H1 s1) (ru:bB v u)
  (h:∀a f fd,u=.ref a->PySem.W.keepIn X.K (.ref f)=true->gJ X.K fd ps ds->dA X.prog X.w X.K X.mg X.base (CXP X.prog X.w) k f fd ps (spM T ps.length m)->Q (.ref f,[.ref a]) s1) :
  wpAny (model X.prog X.w) X.A (getMethod u mn pl) Q X.xe s1:=by
 obtain⟨a,dx,vs,fp',rfl,hl,hk,hr,_,_⟩:=r;obtain⟨f,fd,M,hb,G⟩:=D c m hk.2 e;obtain rfl:u=Value.ref a:=ru;refine vj I1 hl (by simp_all) M (l7 hm _ _) (h a f fd rfl M.kp hb G)
def CD
  (hK:X.K=T.K) (hc:∀c<T.nc,Cls T.K (T.cls c)) (hm:∀k,T.att k≠mn) (D:gB X T k mn ps ds disp) (hr:eM k X.A) (hd:aU dvs ds) (hdp:∀F B L H,RelL T F B L H dps dvs []) (hx:XF X T W)
  (hn:∀env xs,ms env=.ok xs->xs.length+1+dvs.length=ps.length) (ho:SE X T W o mo) (ha:SA X T W (e::es) ms)
  (hst:starEach (e::es) X.env=(false,eval e X.env)::starEach es X.env:=by rfl) (hpl:(backTo pos (starEach es X.env)).any (·.1)=false:=by rfl)
  (ht:eval (.Call (.Attribute o mn apos) (e::es) [] pos) X.env=(do
   let ov <- eval o X.env
   standAt apos.atName
   let(f,first) <- holding [ov] (getMethod ov mn pl)
   callWith pos f first (backTo pos (starEach (e::es) X.env)) (backToKw pos (keywordEach [] X.env))):=by rfl) :
  SE X T W (.Call (.Attribute o mn apos) (e::es) [] pos) (wf disp dps mo ms):=by
 intro NP s Y H Q I h;obtain⟨Z,F,env,fp,S,q⟩:=h;unfold wf at q;refine PySem.W.methodCall_KW (thn (ho NP s Y H (λv H1=>∃ ov F1 f1,mo env=.ok ov/\Gr F H F1 H1/\Rel T F1 Z.B (Own fp) H1 ov v f1/\(∀ a ∈ f1,¬ F1 a)/\f1.Nodup/\∀ a ∈ f1,H a=none) I
  (tE.bq S λov v H1 F1 f1 e1 g1 r1 n1 d1 w1=>⟨ov,F1,f1,e1,g1,r1,n1,d1,w1⟩)) λu s1 zz=>?_) ht
 obtain⟨v,H1,I1,ru,ov,F1,f1,e1,g1,r1,n1,d1,w1⟩:=zz;rw[e1]at q;simp only[Res.Og]at q;by_cases hobj:∃fl c ks xs m,ov=.obj fl c ks xs/\disp c=some m
 .obtain⟨fl,c,ks,ys,m,rfl,em⟩:=hobj;dsimp only at q;rw[em]at q;refine DH hK hc hm D em r1 I1 ru λa f fd eu hkp hb G=>?_;subst eu;refine callWith_K I.ok.mod.kin hkp (thn (ha pos NP s1 Y H1 (λvs H2=>∀ us s2,L2.Inv X NP Y H2 s2->aU vs us->wpAny (model X.prog X.w) X.A (call (.ref f) (.ref a::us)) (EP X NP Y Q) X.xe s2) I1
   (tA.bind (S.grow g1) (λc e=>by rw[e]at q;exact λH' x=>q H' (g1.ext.trans x)) (λe=>by rw[e]at q;exact q) λxs vs H2 F2 f2 e2 g2 r2 n2 d2 w2 us s2 I2 rv=>?_)) λus s2 ⟨vs,H2,I2,r,q2⟩=>⟨I2.kIn,q2 us s2 I2 r⟩) hst hpl
  rw[e2]at q;have nn:∀b∈f1,¬F2 b:=λb hb z=>by
   rcases g2.only b z with z|z
   .exact n1 b hb z
   .obtain⟨oo,hoo⟩:=r1.there b hb;rw[hoo]at z;cases z
  refine EE G hr hb hd hdp hx S (g1.trans g2) (by exact⟨v,vs,f1,f2,rfl,r1.ext g2.ext g2.mono,r2,rfl⟩) (λb hb=>?_) ?_ (λb hb=>?_) q I2 (.cons ru rv) ?_
  .rcases mem_append.mp hb with hb|hb
   .exact nn b hb
   .exact n2 b hb
  .refine nodup_append.mpr ⟨d1,d2,λb hb c hc z=>?_⟩;subst z;obtain⟨oo,hoo⟩:=r1.there b hb;rw[w2 b hc]at hoo;cases hoo
  .rcases mem_append.mp hb with hb|hb
   .exact w1 b hb
   .exact g1.ext.free (w2 b hb)
  .have:=hn env xs e2;rw[length_cons,<- r2.length];exact this
 .exfalso;cases ov with
  |obj fl c ks ys=>
   cases em:disp c with
   |none=>simp only[em]at q;exact q
   |some m=>exact hobj ⟨fl,c,ks,ys,m,rfl,em⟩
  |_=>exact q
end
def iZ(ms:MA)(n:Nat):Prop:=∀env xs,ms env=.ok xs->xs.length=n
def gp:iZ am 0:=λ_ _ h=>by cases h;rfl
def eW(h:iZ ms n):iZ (ae m ms) (n+1):=λenv xs e=>by
 unfold ae at e;cases e1:m env with
 |ok x=>
  rw[e1]at e;cases e2:ms env with
  |ok ys=>rw[e2]at e;cases e;rw[length_cons,h env ys e2]
  |exc c|stuck=>rw[e2]at e;cases e
 |exc c|stuck=>rw[e1]at e;cases e
noncomputable def aY:PV->Option (N5)
 |.lst _ xs|.tup xs=>some xs
 |_=>none
section
variable{X:Cx}{T:Tb}{W:Nat->St->N4}{Z:Zn}{F F1 B L:NV}{H H1:Hp}{Y:St}{env:En}{fp:Nat->NZ}{D:Ends}
def Rel.seq(r:Rel T F B L H x v fx)(e:aY x=some xs):∃a vs fx',v=.ref a/\(SqL T.K H a vs\/SqT T.K H a vs)/\RelL T F B L H xs vs fx'/\fx'.Sublist fx:=by
 cases x with
 |lst f ys=>
  cases e;obtain⟨a,vs,fp',rfl,hl,hr,hf⟩:=r;refine⟨a,vs,fp',rfl,.inl hl.sq,hr,?_⟩;cases f with
  |own=>obtain rfl:fx=a::fp':=hf;exact List.sublist_cons_self _ _
  |frz|bor|lnt|mod=>obtain⟨rfl,rfl⟩:=hf;exact Sublist.refl _
 |tup ys=>cases e;obtain⟨a,vs,rfl,hl,hr⟩:=r;exact⟨a,vs,fx,rfl,.inr hl,hr,Sublist.refl _⟩
 |_=>cases e
theorem GE.newL(q:GE T W B F L Y H Q (.ok (.lst .own ys)))(g:Gr F H F1 H1)(r:RelL T F1 B L H1 ys vs fx)(nf:∀a∈fx,¬F1 a)(nd:fx.Nodup)(new:∀a∈fx,H a=none) :
  ∀p,H1 p=none->Q (.ref p) (upd H1 p (.lst vs)):=λp hp=>by
 refine q (.ref p) (upd H1 p (.lst vs)) F1 (p::fx) (g.trans (Gr.same g.dom (Ext.upd hp))) ?_ (λa ha=>?_) ?_ (λa ha=>?_)
 .unfold Rel;exact⟨p,vs,fx,rfl,bp,r.ext (Ext.upd hp) λ_ h=>h,rfl⟩
 .grind[cD,aC,ce,Gr]
 .refine nodup_cons.mpr ⟨λz=>?_,nd⟩;obtain⟨o,ho⟩:=r.there p z;rw[hp]at ho;cases ho
 .rcases mem_cons.mp ha with rfl|ha
  .exact g.ext.free hp
  .exact new a ha
def GE.newT(q:GE T W B F L Y H Q (.ok (.tup ys)))(g:Gr F H F1 H1)(r:RelL T F1 B L H1 ys vs fx)(nf:∀a∈fx,¬F1 a)(nd:fx.Nodup)(new:∀a∈fx,H a=none) :
  ∀p,H1 p=none->Q (.ref p) (upd H1 p (.tup vs)):=λp hp=>by
 refine q (.ref p) (upd H1 p (.tup vs)) F1 fx (g.trans (Gr.same g.dom (Ext.upd hp))) ?_ nf nd new;exact⟨p,vs,rfl,SqT.of bp,r.ext (Ext.upd hp) λ_ h=>h⟩
theorem small(h:n<=1000):n<=sizeLine:=by rw[sizeLine_eq];lia
def dI(ms:MA):ME:=λenv=>(ms env).bind λxs=>.ok (.lst .own xs)
def gh(ms:MA):ME:=λenv=>(ms env).bind λxs=>.ok (.tup xs)
def FZ(ha:SA X T W es ms)(hn:iZ ms n)(hs:n<=1000:=by decide):SE X T W (.List es pos) (dI ms):=PE.wk (GC ha) λY H Q hz1=>by obtain⟨Z,F,env,fp,S,q⟩:=hz1;unfold dI at q;refine tA.bq S λxs vs H1 F1 f1 e1 g1 r1 n1 d1 w1=>?_;rw[e1]at q;exact⟨small (by rw[<- r1.length,hn env xs e1];exact hs),GE.newL q g1 r1 n1 d1 w1⟩
def FV{x1}(ha:SA X T W es ms)(hn:iZ ms n)(hs:n<=1000:=by decide):SE X T W (.Tuple es x1 pos) (gh ms):=PE.wk (zM ha) λY H Q hz1=>by obtain⟨Z,F,env,fp,S,q⟩:=hz1;unfold gh at q;refine tA.bq S λxs vs H1 F1 f1 e1 g1 r1 n1 d1 w1=>?_;rw[e1]at q;exact⟨small (by rw[<- r1.length,hn env xs e1];exact hs),GE.newT q g1 r1 n1 d1 w1⟩
def p1(f:PV->N6):N5->N6
 | [x]=>f x
 |_=>.stuck
def RelL.one(r:RelL T F B L H [x] vs f):∃v,vs=[v]/\Rel T F B L H x v f:=by obtain⟨v,ws,f1,f2,rfl,h1,h2,rfl⟩:=r;obtain⟨rfl,rfl⟩:=h2;exact⟨v,rfl,by rwa [append_nil]⟩
def cG:PV->N6:=λx=>match aY x with
 |some xs=>.ok (.int xs.length)
 |none=>.stuck
theorem DC(hK:X.K=T.K):Mir T W (p1 cG) (λxs H Q=>∃p ys,xs=[.ref p]/\(SqL X.K H p ys\/SqT X.K H p ys)/\Q (.int ys.length) H):=by
 intro B F L Y H Q F' H' xs vs fx g r _ _ _ q
 match xs,r,q with
 | [x],r,q=>
  obtain⟨v,rfl,r1⟩:=r.one;simp only[p1,cG]at q;cases e:aY x with
  |none=>rw[e]at q;exact q.elim
  |some ys=>rw[e]at q;obtain⟨a,ws,fx',rfl,hs,hr,_⟩:=r1.seq e;exact⟨a,ws,rfl,by lia,q.scal g (by rw[<- hr.length];exact eK)⟩
 | [],_,q|_::_::_,_,q=>exact q.elim
def bI(hK:X.K=T.K)(hg:Gl X "len")(hm:X.mg "len"=none)(ha:SE X T W e m)(he:starEach [e] X.env=[(false,eval e X.env)]:=by rfl):SE X T W (.Call (.Name "len" p) [e] [] pos) (ao (p1 cG) (ae m am)):=
 fj q9 (DC hK) hg hm PySem.boot_len (aa ha ah he) (he:=he)
def nS:PV->N6:=λx=>match aY x with
 |some xs=>.ok (.lst .own xs)
 |none=>.stuck
def AA(hK:X.K=T.K):Mir T W (p1 nS) (λxs H Q=>∃p ys,xs=[.ref p]/\(SqL X.K H p ys\/SqT X.K H p ys)/\∀l,H l=none->Q (.ref l) (upd H l (.lst ys))):=by
 intro B F L Y H Q F' H' xs vs fx g r nf nd new q
 match xs,r,q with
 | [x],r,q=>
  obtain⟨v,rfl,r1⟩:=r.one;simp only[p1,nS]at q;cases e:aY x with
  |none=>rw[e]at q;exact q.elim
  |some ys=>rw[e]at q;obtain⟨a,ws,fx',rfl,hs,hr,sl⟩:=r1.seq e;exact⟨a,ws,rfl,by lia,GE.newL q g hr (λb hb=>nf b (sl.subset hb)) (nd.sublist sl) (λb hb=>new b (sl.subset hb))⟩
 | [],_,q|_::_::_,_,q=>exact q.elim
def CG(hK:X.K=T.K)(hg:Gl X "list")(hm:X.mg "list"=none)(hv:bootBuiltins "list"=some (.type "list"))(ha:SE X T W e m)(he:starEach [e] X.env=[(false,eval e X.env)]:=by rfl):SE X T W (.Call (.Name "list" p) [e] [] pos) (ao (p1 nS) (ae m am)):=
 gT qZ (AA hK) hg hm hv (aa ha ah he) (he:=he)
def dR:PV->N6:=λx=>match aY x with
 |some xs=>.ok (.tup xs)
 |none=>.stuck
theorem ya(hK:X.K=T.K):Mir T W (p1 dR) (λxs H Q=>∃p ys,xs=[.ref p]/\((SqL X.K H p ys/\∀l,H l=none->Q (.ref l) (upd H l (.tup ys)))\/(SqT X.K H p ys/\Q (.ref p) H))):=by
 intro B F L Y H Q F' H' xs vs fx g r nf nd new q
 match xs,r,q with
 | [x],r,q=>
  obtain⟨v,rfl,r1⟩:=r.one;simp only[p1,dR]at q;cases x with
  |lst f ys=>
   simp only[aY]at q;obtain⟨a,ws,fp',rfl,hl,hr,hf⟩:=r1;have sl:fp'.Sublist fx:=by
    cases f with
    |own=>obtain rfl:fx=a::fp':=hf;exact List.sublist_cons_self _ _
    |frz|bor|lnt|mod=>obtain⟨rfl,rfl⟩:=hf;exact Sublist.refl _
   exact⟨a,ws,rfl,.inl ⟨by rw[hK];exact hl.sq,GE.newT q g hr (λb hb=>nf b (sl.subset hb)) (nd.sublist sl) (λb hb=>new b (sl.subset hb))⟩⟩
  |tup ys=>have r2:=r1;obtain⟨a,ws,rfl,hs,hr⟩:=r2;exact⟨a,ws,rfl,.inr ⟨by lia,q _ _ _ fx g r1 nf nd new⟩⟩
  |_=>exact q.elim
 | [],_,q|_::_::_,_,q=>exact q.elim
def gS(hK:X.K=T.K)(hg:Gl X "tuple")(hm:X.mg "tuple"=none)(hv:bootBuiltins "tuple"=some (.type "tuple"))(ha:SE X T W e m)(he:starEach [e] X.env=[(false,eval e X.env)]:=by rfl):SE X T W (.Call (.Name "tuple" p) [e] [] pos) (ao (p1 dR) (ae m am)):=
 gT oT (ya hK) hg hm hv (aa ha ah he) (he:=he)
def av:PV->PV->N6
 |x,.int i=>match aY x with
  |some xs=>match atI xs i with
   |some y=>if x.has Fl.Oa&&y.has Fl.Oa then .stuck else .ok y
   |none=>.stuck
  |none=>.stuck
 |_,_=>.stuck
def Et(r:RelL T F B L H xs vs f)(e:atI xs i=some y):∃v f',atI vs i=some v/\Rel T F B L H y v f'/\f'.Sublist f:=by
 unfold atI at e ⊢;rw[<- r.length];cases e1:ixN xs.length i with
 |none=>rw[e1]at e;cases e
 |some j=>rw[e1]at e;exact r.get e
theorem DE(hK:X.K=T.K):jY T W av (λx y H Q=>Gj X.K x y H Q \/(Gh X.K x y H Q\/Gi x y H Q)):=by
 intro B F L Y H Q F' H' x y v u fx fy g rx ry nf nd new q;cases y with
 |int i=>
  obtain⟨rfl,rfl⟩:=ry;simp only[av]at q;cases e:aY x with
  |none=>rw[e]at q;exact q.elim
  |some xs=>
   rw[e]at q;dsimp only at q;obtain⟨a,ws,fx',rfl,hs,hr,sl⟩:=rx.seq e;cases e2:atI xs i with
   |none=>rw[e2]at q;exact q.elim
   |some z=>
    rw[e2]at q;dsimp only at q;obtain⟨w,f',h1,h2,h3⟩:=Et hr e2;have e0:f'=[]:=by
     by_cases ho:x.has Fl.Oa=true
     .by_cases hz:z.has Fl.Oa=true
      .rw[ho,hz]at q;exact q.elim
      .exact Rel.Of () h2
     .have:=Rel.Of () rx;subst this;exact sublist_nil.mp (h3.trans sl)
    subst e0;by_cases hb:(x.has Fl.Oa&&z.has Fl.Oa)=true
    .rw[if_pos hb]at q;exact q.elim
    .rw[if_neg hb]at q;rcases hs with hs|hs
     .exact .inl ⟨a,ws,i,w,rfl,rfl,by lia,h1,q.scal g h2⟩
     .exact .inr (.inl ⟨a,ws,i,w,rfl,rfl,by lia,h1,q.scal g h2⟩)
 |_=>exact q.elim
def F8(hK:X.K=T.K)(ha:SE X T W a ma)(hb:SE X T W b mb)(hs:kY b):SE X T W (.Subscript a b pos) (mOp av ma mb):=
 J3 Ig (DE hK) ha hb hs
abbrev MO:=En->Res (N1)
def cq:MO:=λ_=>.ok none
def dZ(m:ME):MO:=λenv=>(m env).bind fun
 |.int i=>.ok (some i)
 |_=>.stuck
def im(xs:N5)(lo hi:N1):N5:=(xs.drop (HT.sIx xs.length 0 lo)).take (HT.sIx xs.length xs.length hi-HT.sIx xs.length 0 lo)
def dl(o:ME)(lo hi:MO):ME:=λenv=>(o env).bind λx=>(lo env).bind λl=>(hi env).bind λh=>match x with
 |.lst _ xs=>.ok (.lst .own (im xs l h))
 |_=>.stuck
def RelL.drop:∀{xs:N5}{vs:N3}{f:NZ} (n:Nat),RelL T F B L H xs vs f->∃f',RelL T F B L H (xs.drop n) (vs.drop n) f'/\f'.Sublist f
 |xs,vs,f,0,h=>⟨f,h,Sublist.refl _⟩
 | [],vs,f,n+1,h=>by obtain⟨rfl,rfl⟩:=h;exact⟨[],by simp[RelL],Sublist.refl _⟩
 |x::xs,_,_,n+1,h=>by obtain⟨v,ws,f1,f2,rfl,h1,h2,rfl⟩:=h;obtain⟨f',r,s⟩:=RelL.drop n h2;exact⟨f',by simpa using r,s.trans (List.sublist_append_right _ _)⟩
def RelL.take:∀{xs:N5}{vs:N3}{f:NZ} (n:Nat),RelL T F B L H xs vs f->∃f',RelL T F B L H (xs.take n) (vs.take n) f'/\f'.Sublist f
 |xs,vs,f,0,h=>⟨[],by simp[RelL],List.nil_sublist _⟩
 | [],vs,f,n+1,h=>by obtain⟨rfl,rfl⟩:=h;exact⟨[],by simp[RelL],Sublist.refl _⟩
 |x::xs,_,_,n+1,h=>by obtain⟨v,ws,f1,f2,rfl,h1,h2,rfl⟩:=h;obtain⟨f',r,s⟩:=RelL.take n h2;refine⟨f1++f',?_,Sublist.append (Sublist.refl _) s⟩;exact⟨v,_,f1,f',rfl,h1,r,rfl⟩
def tO(T:Tb)(W:Nat->St->N4)(m:MO):TO:=λY H Q=>∃Z F env fp,aC T Z F H Y env fp/\match m env with
 |.ok o=>∀H' F',Gr F H F' H'->Q o H'
 |.exc c=>∀H',Ext H H'->W c Y H'
 |.stuck=>False
abbrev SO(X:Cx)(T:Tb)(W:Nat->St->N4)(e:Option Expr)(m:MO):Prop:=PO X e (tO T W m)
def d_:SO X T W none cq:=λNP s Y H Q I z=>by obtain⟨Z,F,env,fp,S,q⟩:=z;exact C7 NP s Y H Q I (q H F (Gr.refl S.hp.ft))
def dy(h:SE X T W e m):SO X T W (some e) (dZ m):=λNP s Y H Q I ⟨Z,F,env,fp,S,q⟩=>C6 h NP s Y H Q I (by
 unfold dZ at q;refine tE.bind S (λc e=>by rw[e]at q;exact q) (λe=>by simp_all) λx v H1 F1 f1 e1 g1 r1 n1 d1 w1=>?_;rw[e1]at q;cases x with
 |int i=>unfold Rel at r1;exact⟨i,r1.1,q H1 F1 g1⟩
 |_=>exact q.elim)
def c9(hK:X.K=T.K)(he:SE X T W e m)(hl:SO X T W lo ml)(hu:SO X T W hi mh):SE X T W (.Subscript e (.Slice lo hi none p2) pos) (dl m ml mh):=
 PE.wk (sD Cu he hl hu) λY H Q hz1=>by
  walk_at "b";unfold dl at q;walk_at "a";refine⟨Z,F1,env,fp,S.grow g1,?_⟩;cases e2:ml env with
  |exc c=>rw[e2]at q;exact λH' x=>q H' (g1.ext.trans x)
  |stuck=>rw[e2]at q;exact q
  |ok l=>
   rw[e2]at q;intro H2 F2 g2;refine⟨Z,F2,env,fp,(S.grow g1).grow g2,?_⟩;cases e3:mh env with
   |exc c=>rw[e3]at q;exact λH' x=>q H' ((g1.ext.trans g2.ext).trans x)
   |stuck=>rw[e3]at q;exact q
   |ok h=>
    rw[e3]at q;intro H3 F3 g3;cases x with
    |lst f xs=>
     have g:=(g1.trans g2).trans g3;have r3:=(r1.ext (g2.trans g3).ext (g2.trans g3).mono)
     have nf3:∀a∈f1,¬F3 a:=λa ha z=>by
      rcases(g2.trans g3).only a z with z|z
      .exact n1 a ha z
      .obtain⟨o,ho⟩:=r1.there a ha;rw[ho]at z;cases z
     obtain⟨a,ws,fp',rfl,hll,hr,hf⟩:=r3;have sl:fp'.Sublist f1:=by
      cases f with
      |own=>obtain rfl:f1=a::fp':=hf;exact List.sublist_cons_self _ _
      |frz|bor|lnt|mod=>obtain⟨rfl,rfl⟩:=hf;exact Sublist.refl _
     obtain⟨f4,h4,s4⟩:=RelL.drop (HT.sIx xs.length 0 l) hr;obtain⟨f5,h5,s5⟩:=RelL.take (HT.sIx xs.length xs.length h-HT.sIx xs.length 0 l) h4;have sl2:=(s5.trans s4).trans sl;refine⟨a,ws,rfl,by rw[hK];exact hll.sq,?_⟩;unfold Eh;rw[<- hr.length];exact GE.newL q g h5 (λb hb=>nf3 b (sl2.subset hb)) (d1.sublist sl2) (λb hb=>w1 b (sl2.subset hb))
    |_=>exact q.elim
def EH(K:PySem.W.Frag):R2:=λx y H Q=>∃l b xs zs,x=.ref l/\y=.ref b/\Rd H l (.lst xs)/\Rd H b (.lst zs)/\xs.length+zs.length<=sizeLine/\∀p,H p=none->Q (.ref p) (upd H p (.lst (xs++zs)))
theorem Dl:OpR X (binaryOp .Add) (EH K):=by
 intro NP s Y H x y v u Q I rx ry h;obtain⟨l,b,xs,zs,rfl,rfl,hH,hB,hz,q⟩:=h;cases rx;cases ry;obtain⟨z,its,n,r,e⟩:=hH.ok I.hok;obtain⟨z2,its2,n2,r2,e2⟩:=hB.ok I.hok;have hl:=r.length;have hl2:=r2.length;refine PySem.P.add_list e e2 ?_ (by rw[size_toArray,size_toArray];lia);have ea:its.toArray++its2.toArray=(its++its2).toArray:=by simp
 rw[ea];exact⟨.ref _,_,I.lnew (t':=s.toks) (r.append r2) (by rw[length_append];lia),rfl,q _ I.fresh⟩
noncomputable def aP:PV->PV->N6
 |.int i,.int j=>.ok (.int (i+j))
 |.lst f xs,.lst g ys=>if f=.mod\/g=.mod\/¬xs.length+ys.length<=10000000 then .stuck else .ok (.lst .own (xs++ys))
 |_,_=>.stuck
def oJ.rd(h:oJ T F B L H f a vs)(n:f≠.mod):Rd H a (.lst vs):=by
 cases f with
 |own=>exact .inl h
 |lnt=>exact .inl h.2
 |frz|bor=>exact h.2
 |mod=>exact absurd rfl n
def ul.sub(hf:ul f a fp' fx):fp'.Sublist fx:=by
 cases f with
 |own=>obtain rfl:fx=a::fp':=hf;exact List.sublist_cons_self _ _
 |frz|bor|lnt|mod=>obtain⟨rfl,rfl⟩:=hf;exact Sublist.refl _
theorem Ax:jY T W aP (λx y H Q=>(rI0 λi j=>.int (i+j)) x y H Q\/EH T.K x y H Q):=by
 intro B F L Y H Q F' H' x y v u fx fy g rx ry nf nd new q;cases x with
 |int i=>
  cases y with
  |int j=>unfold Rel at rx ry;exact .inl ⟨i,j,rx.1,ry.1,q.scal g eK⟩
  |_=>exact q.elim
 |lst f xs=>
  cases y with
  |lst f' ys=>
   simp only[aP]at q;by_cases hc:f=.mod\/f'=.mod\/¬xs.length+ys.length<=10000000
   .rw[if_pos hc]at q;exact q.elim
   .rw[if_neg hc]at q;obtain⟨a,vs,fp1,rfl,hl1,hr1,hf1⟩:=rx;obtain⟨b,us,fp2,rfl,hl2,hr2,hf2⟩:=ry;have sl:=Sublist.append hf1.sub hf2.sub;refine .inr ⟨a,b,vs,us,rfl,rfl,hl1.rd λz=>hc (.inl z),hl2.rd λz=>hc (.inr (.inl z)),by rw[<- hr1.length,<- hr2.length,sizeLine_eq];lia,?_⟩;exact GE.newL q g (RelL.append hr1 hr2) (λb hb=>nf b (sl.subset hb)) (nd.sublist sl) (λb hb=>new b (sl.subset hb))
  |_=>exact q.elim
 |_=>exact q.elim
def OpR.or(h:OpR X f r)(h':OpR X f r'):OpR X f (λx y H Q=>r x y H Q\/r' x y H Q):=by
 intro NP s Y H x y v u Q I rx ry q;rcases q with q|q
 .exact h NP s Y H x y v u Q I rx ry q
 .exact h' NP s Y H x y v u Q I rx ry q
def aW(ha:SE X T W a ma)(hb:SE X T W b mb):SE X T W (.BinOp a .Add b pos) (mOp aP ma mb):=ke (OpR.or GX Dl) Ax ha hb
end
mutual
noncomputable def PV.data:PV->PyData
 |.non=>.none
 |.bl b=>.bool b
 |.int i=>.int i
 |.str x=>.str x
 |.lst _ xs=>.list (dataL xs)
 |.tup xs=>.tuple (dataL xs)
 |.obj _ _ _ _|.exc _|.box _ _=>.dict []
noncomputable def dataL:N5->List PyData
 | []=>[]
 |x::xs=>x.data::dataL xs
end
def shp(x:PV):Bool:=SeqAt.shaped x.data
section
variable{X:Cx}{T:Tb}{W:Nat->St->N4}{Z:Zn}{F F1 B L:NV}{H H1:Hp}{Y:St}{env:En}{fp:Nat->NZ}{D:Ends}{NP:NU}{s:Shared}
mutual
def Rel.reads(hK:X.K=T.K)(I:L2.Inv X NP Y H s):∀{x:PV}{v:V}{f:NZ}{u:Value},Rel T F B L H x v f->bB v u->x.data.canLay0=true->∃as,Reads s.heap u x.data as
 |.non,_,_,_,r,ru,_=>by unfold Rel at r;obtain⟨rfl,_⟩:=r;cases ru;exact⟨[],.none⟩
 |.bl b,_,_,_,r,ru,_=>by unfold Rel at r;obtain⟨rfl,_⟩:=r;cases ru;exact⟨[],.bool b⟩
 |.int i,_,_,_,r,ru,_=>by unfold Rel at r;obtain⟨rfl,_⟩:=r;obtain⟨t,rfl⟩:=ru;exact⟨[],.int i t⟩
 |.str x,_,_,_,r,ru,_=>by unfold Rel at r;obtain⟨rfl,_⟩:=r;obtain⟨t,rfl⟩:=ru;exact⟨[],.str x t⟩
 |.lst f xs,_,_,_,r,ru,hc=>by unfold Rel at r;obtain⟨a,vs,fp',rfl,hl,hr,_⟩:=r;cases ru;obtain⟨its,rv,⟨o,n,ho,hcl,_,hd⟩,_⟩:=I.list (by rw[hK];exact hl.sq);obtain⟨as,ra⟩:=RelL.reads hK I hr rv (by simpa[PV.data,PyData.canLay0]using hc);exact⟨_,.list ho hcl hd (by simpa using ra)⟩
 |.tup xs,_,_,_,r,ru,hc=>by unfold Rel at r;obtain⟨a,vs,rfl,hl,hr⟩:=r;cases ru;obtain⟨its,rv,⟨o,ho,hcl,n,hd⟩,_⟩:=I.tuple (by rw[hK];exact hl);obtain⟨as,ra⟩:=RelL.reads hK I hr rv (by simpa[PV.data,PyData.canLay0]using hc);exact⟨_,.tuple ho hcl hd (by simpa using ra)⟩
 |.obj _ _ _ _,_,_,_,_,_,hc|.exc _,_,_,_,_,_,hc|.box _ _,_,_,_,_,_,hc=>by simp[PV.data,PyData.canLay0]at hc
def RelL.reads(hK:X.K=T.K)(I:L2.Inv X NP Y H s):∀{xs:N5}{vs:N3}{f:NZ}{us:NY},RelL T F B L H xs vs f->aU vs us->PyData.canLayAll0 (dataL xs)=true->∃as,ReadsAll s.heap us (dataL xs) as
 | [],_,_,_,r,ru,_=>by unfold RelL at r;obtain⟨rfl,_⟩:=r;cases ru;exact⟨[],.nil⟩
 |x::xs,_,_,_,r,ru,hc=>by
  unfold RelL at r;obtain⟨v,ws,f1,f2,rfl,h1,h2,_⟩:=r;cases ru with
  |cons r1 r2=>simp only[dataL,PyData.canLayAll0,and_eq_true]at hc;obtain⟨as,ra⟩:=Rel.reads hK I h1 r1 hc.1;obtain⟨bs,rb⟩:=RelL.reads hK I h2 r2 hc.2;exact⟨_,.cons ra rb⟩
end
def pEq:PV->PV->N6:=λx y=>if shp x&&shp y then .ok (.bl (PyData.eqv x.data y.data))else .stuck
def pNe:PV->PV->N6:=λx y=>if shp x&&shp y then .ok (.bl (!PyData.eqv x.data y.data))else .stuck
def zx(X:Cx)(T:Tb)(g:PyData->PyData->Bool):R2:=λv u H Q=>∃x y F B L fx fy,Rel T F B L H x v fx/\Rel T F B L H y u fy/\shp x=true/\shp y=true/\Q (.bl (g x.data y.data)) H
def zY(hK:X.K=T.K)(hu:X.A.units+64<cLine):OpR X (compareOp .Eq) (zx X T λa b=>PyData.eqv a b):=by intro NP s Y H v u v' u' Q I rv ru h;obtain⟨x,y,F,B,L,fx,fy,rx,ry,hx,hy,q⟩:=h;obtain⟨as,ra⟩:=rx.reads hK I rv (SeqAt.canLay_of_shaped hx);obtain⟨bs,rb⟩:=ry.reads hK I ru (SeqAt.canLay_of_shaped hy);exact PyProof.Rows.eq_dataH ra rb hx hy hu ⟨.bl _,H,I,rfl,q⟩
def zW(hK:X.K=T.K)(hu:X.A.units+64<cLine):OpR X (compareOp .NotEq) (zx X T λa b=>!PyData.eqv a b):=by intro NP s Y H v u v' u' Q I rv ru h;obtain⟨x,y,F,B,L,fx,fy,rx,ry,hx,hy,q⟩:=h;obtain⟨as,ra⟩:=rx.reads hK I rv (SeqAt.canLay_of_shaped hx);obtain⟨bs,rb⟩:=ry.reads hK I ru (SeqAt.canLay_of_shaped hy);exact PyProof.Rows.ne_dataH ra rb hx hy hu ⟨.bl _,H,I,rfl,q⟩
def kC:jY T W (λx y=>if shp x&&shp y then .ok (.bl (g x.data y.data))else .stuck) (zx X T g):=by
 intro B F L Y H Q F' H' x y v u fx fy gr rx ry nf nd new q;dsimp only at q;by_cases hc:(shp x&&shp y)=true
 .rw[if_pos hc]at q;rw[and_eq_true]at hc;exact⟨x,y,F',B,L,fx,fy,rx,ry,hc.1,hc.2,q.scal gr gW⟩
 .rw[if_neg hc]at q;exact q.elim
variable{a b:Expr}{ma mb:ME}{pos:Pos}
def pA(hK:X.K=T.K)(hu:X.A.units+64<cLine)(ha:SE X T W a ma)(hb:SE X T W b mb):SE X T W (.Compare a [.Eq] [b] pos) (mOp pEq ma mb):=k9 (zY hK hu) kC ha hb (eV _)
def vP(hK:X.K=T.K)(hu:X.A.units+64<cLine)(ha:SE X T W a ma)(hb:SE X T W b mb):SE X T W (.Compare a [.NotEq] [b] pos) (mOp pNe ma mb):=k9 (zW hK hu) (kC (g:=λa b=>!PyData.eqv a b)) ha hb (eV _)
def bA(hK:X.K=T.K)(hu:X.A.units+64<cLine)(ha:SE X T W a ma)(hb:SE X T W b mb):ST X T W (.Compare a [.Eq] [b] pos) (aw (mOp pEq ma mb)):=fX (zY hK hu) kC ha hb (eV _)
def dX(hK:X.K=T.K)(hu:X.A.units+64<cLine)(ha:SE X T W a ma)(hb:SE X T W b mb):ST X T W (.Compare a [.NotEq] [b] pos) (aw (mOp pNe ma mb)):=fX (zW hK hu) (kC (g:=λa b=>!PyData.eqv a b)) ha hb (eV _)
def gC(ha:SE X T W a ma)(hb:SE X T W b mb):ST X T W (.Compare a [.Lt] [b] pos) (aw (mOp pLt ma mb)):=fX Km (jf λ_ _ _ _ _ _=>gW) ha hb (eV _)
def JZ(ha:SE X T W a ma)(hb:SE X T W b mb):ST X T W (.Compare a [.LtE] [b] pos) (aw (mOp pLe ma mb)):=fX wb (jf λ_ _ _ _ _ _=>gW) ha hb (eV _)
def j9(ha:SE X T W a ma)(hb:SE X T W b mb):ST X T W (.Compare a [.Gt] [b] pos) (aw (mOp pGt ma mb)):=fX EK (jf λ_ _ _ _ _ _=>gW) ha hb (eV _)
def o_(ha:SE X T W a ma)(hb:SE X T W b mb):ST X T W (.Compare a [.GtE] [b] pos) (aw (mOp pGe ma mb)):=fX Kn (jf λ_ _ _ _ _ _=>gW) ha hb (eV _)
def inL(x:PV)(ys:N5):Bool:=ys.any λy=>PyData.eqv y.data x.data
def pIn:PV->PV->N6:=λx y=>match aY y with
 |some ys=>if shp x&&ys.all shp then .ok (.bl (inL x ys))else .stuck
 |none=>.stuck
def eB:PV->PV->N6:=λx y=>match aY y with
 |some ys=>if shp x&&ys.all shp then .ok (.bl (!inL x ys))else .stuck
 |none=>.stuck
def tV(hK:X.K=T.K)(I:L2.Inv X NP Y H s)(hu:A.units+64<cLine)(rx:Rel T F B L H x v fx)(ry:Rel T F B L H y u fy)(rv:bB v v')(ru:bB u u')(hx:shp x=true)(hy:shp y=true) :
  SeqAt.EqAt A s v' u' (PyData.eqv x.data y.data):=by
 obtain⟨as,ra⟩:=rx.reads hK I rv (SeqAt.canLay_of_shaped hx);obtain⟨bs,rb⟩:=ry.reads hK I ru (SeqAt.canLay_of_shaped hy);exact SeqAt.eqAt_reads _ _ A s v' u' as bs ra rb (SeqAt.canLay_of_shaped hx) (SeqAt.canLay_of_shaped hy) (SeqAt.room_of_shaped hx hu)
theorem kI(hK:X.K=T.K)(I:L2.Inv X NP Y H s)(hu:A.units+64<cLine)(rx:Rel T F B L H x v fx)(rv:bB v v')(hx:shp x=true) :
  ∀{ys:N5}{us:N3}{fy:NZ}{us':NY},RelL T F B L H ys us fy->aU us us'->ys.all shp=true->∃e:Value->Bool,(∀w∈us',SeqAt.EqAt A s w v' (e w))/\us'.any e=inL x ys:=by
 intro ys us fy us' r rv' hs;have one:∀(ys:N5) (us:N3) (fy:NZ) (us':NY),RelL T F B L H ys us fy->aU us us'->ys.all shp=true->∀w∈us',∃b,SeqAt.EqAt A s w v' b/\(b=true->inL x ys=true):=by
  intro ys
  induction ys with
  |nil=>intro us fy us' r rv' _ w hw;obtain⟨rfl,_⟩:=r;cases rv';cases hw
  |cons y ys ih=>
   intro us fy us' r rv' hs w hw;obtain⟨u,ws,f1,f2,rfl,h1,h2,_⟩:=r;cases rv' with
   |cons r1 r2=>
    rw[all_cons,and_eq_true]at hs;rcases mem_cons.mp hw with rfl|hw
    .exact⟨_,tV hK I hu h1 rx r1 rv hs.1 hx,λz=>by simp[inL,z]⟩
    .obtain⟨b,h3,h4⟩:=ih ws f2 _ h2 r2 hs.2 w hw;exact⟨b,h3,λz=>by have:=h4 z;unfold inL at this ⊢;simp[this]⟩
 have some_:∀(ys:N5) (us:N3) (fy:NZ) (us':NY),RelL T F B L H ys us fy->aU us us'->ys.all shp=true->inL x ys=true->∃w∈us',SeqAt.EqAt A s w v' true:=by
  intro ys
  induction ys with
  |nil=>intro us fy us' r rv' _ h;simp[inL]at h
  |cons y ys ih=>
   intro us fy us' r rv' hs h;obtain⟨u,ws,f1,f2,rfl,h1,h2,_⟩:=r;cases rv' with
   |cons r1 r2=>
    rw[all_cons,and_eq_true]at hs;by_cases hy:PyData.eqv y.data x.data=true
    .refine⟨_,mem_cons_self,?_⟩;have:=tV hK I hu h1 rx r1 rv hs.1 hx
     rwa [hy]at this
    .have h':inL x ys=true:=by unfold inL at h ⊢;simpa[hy]using h
     grind
 by_cases hin:inL x ys=true
 .obtain⟨w0,hw0,q0⟩:=some_ ys us fy us' r rv' hs hin;refine⟨λw=>@decide (SeqAt.EqAt A s w v' true) (Classical.propDecidable _),λw hw=>?_,?_⟩
  .obtain⟨b,h1,_⟩:=one ys us fy us' r rv' hs w hw;by_cases ht:SeqAt.EqAt A s w v' true
   .lia
   .simp only[ht];cases b with
    |true=>exact absurd h1 ht
    |false=>exact h1
  .rw[hin,List.any_eq_true];exact⟨w0,hw0,by simp[q0]⟩
 .have hin':inL x ys=false:=by simpa using hin
  refine⟨λ_=>false,λw hw=>?_,by simp_all⟩
  grind
def Gk(X:Cx)(T:Tb)(neg:Bool):R2:=λv u H Q=>∃x ys a vs F B L fx fy,u=.ref a/\(SqL T.K H a vs\/SqT T.K H a vs)/\Rel T F B L H x v fx/\RelL T F B L H ys vs fy/\shp x=true/\ys.all shp=true/\Q (.bl (if neg then !inL x ys else inL x ys)) H
theorem zX(hK:X.K=T.K)(hu:X.A.units+66<cLine):OpR X (compareOp .In) (Gk X T false):=by
 intro NP s Y H v u v' u' Q I rv ru h;obtain⟨x,ys,a,vs,F,B,L,fx,fy,rfl,hs,rx,ry,hx,hy,q⟩:=h;cases ru;have hu1:X.A.in1.units+64<cLine:=by lia
 rcases hs with hs|hs
 .obtain⟨its,r,pl,_⟩:=I.list (by rw[hK];exact hs);obtain⟨e,h1,h2⟩:=kI hK I hu1 rx rv hx ry r hy;refine SeqAt.in_listAt e pl.isList (λw hw=>h1 w (by simp_all)) ⟨.bl _,H,I,rfl,?_⟩;rw[show its.toArray.any e=its.any e by simp,h2];exact q
 .obtain⟨its,r,pl,_⟩:=I.tuple (by rw[hK];exact hs);obtain⟨e,h1,h2⟩:=kI hK I hu1 rx rv hx ry r hy;refine SeqAt.in_tupleAt e pl (λw hw=>h1 w (by simp_all)) ⟨.bl _,H,I,rfl,?_⟩;rw[show its.toArray.any e=its.any e by simp,h2];exact q
def xV(hK:X.K=T.K)(hu:X.A.units+66<cLine):OpR X (compareOp .NotIn) (Gk X T true):=by
 intro NP s Y H v u v' u' Q I rv ru h;obtain⟨x,ys,a,vs,F,B,L,fx,fy,rfl,hs,rx,ry,hx,hy,q⟩:=h;cases ru;have hu1:X.A.in1.units+64<cLine:=by lia
 rcases hs with hs|hs
 .obtain⟨its,r,pl,_⟩:=I.list (by rw[hK];exact hs);obtain⟨e,h1,h2⟩:=kI hK I hu1 rx rv hx ry r hy;refine SeqAt.notIn_listAt e pl.isList (λw hw=>h1 w (by simp_all)) ⟨.bl _,H,I,rfl,?_⟩;rw[show its.toArray.any e=its.any e by simp,h2];exact q
 .obtain⟨its,r,pl,_⟩:=I.tuple (by rw[hK];exact hs);obtain⟨e,h1,h2⟩:=kI hK I hu1 rx rv hx ry r hy;refine SeqAt.notIn_tupleAt e pl (λw hw=>h1 w (by simp_all)) ⟨.bl _,H,I,rfl,?_⟩;rw[show its.toArray.any e=its.any e by simp,h2];exact q
def u6:jY T W (λx y=>match aY y with
 |some ys=>if shp x&&ys.all shp then .ok (.bl (if neg then !inL x ys else inL x ys))else .stuck
 |none=>.stuck) (Gk X T neg):=by
 intro B F L Y H Q F' H' x y v u fx fy gr rx ry nf nd new q;dsimp only at q;cases e:aY y with
 |none=>rw[e]at q;exact q.elim
 |some ys=>
  rw[e]at q;dsimp only at q;by_cases hc:(shp x&&ys.all shp)=true
  .rw[if_pos hc]at q;rw[and_eq_true]at hc;obtain⟨a,ws,f',rfl,hs,hr,_⟩:=ry.seq e;exact⟨x,ys,a,ws,F',B,L,fx,f',rfl,hs,rx,hr,hc.1,hc.2,q.scal gr gW⟩
  .rw[if_neg hc]at q;exact q.elim
def J4(hK:X.K=T.K)(hu:X.A.units+66<cLine)(ha:SE X T W a ma)(hb:SE X T W b mb)(hk:behindInMarks .In b=false:=by with_unfolding_all rfl):SE X T W (.Compare a [.In] [b] pos) (mOp pIn ma mb):=k9 (zX hK hu) (u6 (neg:=false)) ha hb hk
def nq(hK:X.K=T.K)(hu:X.A.units+66<cLine)(ha:SE X T W a ma)(hb:SE X T W b mb)(hk:behindInMarks .In b=false:=by with_unfolding_all rfl):ST X T W (.Compare a [.In] [b] pos) (aw (mOp pIn ma mb)):=fX (zX hK hu) (u6 (neg:=false)) ha hb hk
def i4(hK:X.K=T.K)(hu:X.A.units+66<cLine)(ha:SE X T W a ma)(hb:SE X T W b mb)(hk:behindInMarks .NotIn b=false:=by with_unfolding_all rfl):ST X T W (.Compare a [.NotIn] [b] pos) (aw (mOp eB ma mb)):=fX (xV hK hu) (u6 (neg:=true)) ha hb hk
def PV.isNon:PV->Bool
 |.non=>true
 |_=>false
def uQ:PV->PV->N6
 |x,.non=>.ok (.bl x.isNon)
 |_,_=>.stuck
def jD:PV->PV->N6
 |x,.non=>.ok (.bl (!x.isNon))
 |_,_=>.stuck
def Rel.isNon(r:Rel T F B L H x v f):decide (v=.non)=x.isNon:=by
 cases x with
 |non|bl b|int i|str i=>unfold Rel at r;rw[r.1];rfl
 |lst f xs=>unfold Rel at r;obtain⟨a,_,_,rfl,_⟩:=r;rfl
 |tup xs=>unfold Rel at r;obtain⟨a,_,rfl,_⟩:=r;rfl
 |obj f c ks xs=>unfold Rel at r;obtain⟨a,_,_,_,rfl,_⟩:=r;rfl
 |exc c=>unfold Rel at r;obtain⟨a,rfl,_⟩:=r;rfl
 |box k xs=>unfold Rel at r;obtain⟨a,vs,rfl,_⟩:=r;rfl
def DD:jY T W uQ (λx y H Q=>y=.non/\Q (.bl (decide (x=.non))) H):=by
 intro B F L Y H Q F' H' x y v u fx fy gr rx ry nf nd new q;cases y with
 |non=>unfold Rel at ry;refine⟨ry.1,?_⟩;rw[rx.isNon];exact GE.scal (by simpa[uQ]using q) gr gW
 |_=>simp only[uQ]at q;exact q.elim
def Ay:jY T W jD (λx y H Q=>y=.non/\Q (.bl (!decide (x=.non))) H):=by
 intro B F L Y H Q F' H' x y v u fx fy gr rx ry nf nd new q;cases y with
 |non=>unfold Rel at ry;refine⟨ry.1,?_⟩;rw[rx.isNon];exact GE.scal (by simpa[jD]using q) gr gW
 |_=>simp only[jD]at q;exact q.elim
def y7(ha:SE X T W a ma)(hb:SE X T W b mb):ST X T W (.Compare a [.Is] [b] pos) (aw (mOp uQ ma mb)):=fX GU DD ha hb (eV _)
def vN(ha:SE X T W a ma)(hb:SE X T W b mb):ST X T W (.Compare a [.IsNot] [b] pos) (aw (mOp jD ma mb)):=fX Di Ay ha hb (eV _)
end
abbrev TgM:=PV->En->Option En
abbrev vy:=N5->En->Option En
def tgN(i:Nat):TgM:=λv env=>if aS i env then some (env.set i (some v))else none
def j8:vy:=λvs env=>match vs with
 | []=>some env
 |_=>none
def cF(t:TgM)(u:vy):vy:=λvs env=>match vs with
 |v::r=>match t v env with
  |some e=>u r e
  |none=>none
 | []=>none
noncomputable def tgT(n:Nat)(u:vy):TgM:=λv env=>match v with
 |.tup xs=>if xs.length=n then u xs env else none
 |_=>none
structure yN(Z:Zn)(F:NV)(fp:Nat->NZ)(f:NZ):Prop where
 nd:f.Nodup
 nf:∀a∈f,¬F a
 new:∀a∈f,Z.H0 a=none\/Z.fp0 a
 dj:∀a∈f,∀j,a∉fp j
def yN.nil:yN Z F fp []:=⟨nodup_nil,λ_ z=>(nomatch z),λ_ z=>(nomatch z),λ_ z=>(nomatch z)⟩
def GG(T:Tb)(Z:Zn)(F:NV)(H:Hp)(Q:St->N4):Option En->Prop
 |some e=>∀Y fp,aC T Z F H Y e fp->Q Y H
 |none=>False
def tG(T:Tb)(m:TgM):TG:=λv Y H Q=>∃Z F env fp pv f,aC T Z F H Y env fp/\Rel T F Z.B NoL H pv v f/\yN Z F fp f/\GG T Z F H Q (m pv env)
def tGs(T:Tb)(m:vy):TGs:=λvs Y H Q=>∃Z F env fp pvs f,aC T Z F H Y env fp/\RelL T F Z.B NoL H pvs vs f/\yN Z F fp f/\GG T Z F H Q (m pvs env)
abbrev SG(X:Cx)(T:Tb)(tg:Expr)(m:TgM):Prop:=PG X tg (tG T m)
abbrev SGs(X:Cx)(T:Tb)(ts:List Expr)(m:vy):Prop:=PGs X ts (tGs T m)
section
variable{X:Cx}{T:Tb}{W:Nat->St->N4}{Z:Zn}{F F1 B L:NV}{H H1:Hp}{Y:St}{env:En}{fp:Nat->NZ}{D:Ends}
def PG.wk(h:PG X tg t)(w:∀v Y H Q,t' v Y H Q->t v Y H Q):PG X tg t':=λNP s Y H v u Q I r q=>h NP s Y H v u Q I r (w v Y H Q q)
def PGs.wk(h:PGs X ts t)(w:∀v Y H Q,t' v Y H Q->t v Y H Q):PGs X ts t':=λNP s Y H v u Q I r q=>h NP s Y H v u Q I r (w v Y H Q q)
def Cy(hN:X.N.Nodup)(hi:X.N[i]?=some x)(hx:Loc X.env.scope x)(hf:Lce X.fn X.env x:=by first|exact .inl rfl|exact .inr rfl|assumption):SG X T (.Name x pos) (tgN i):=
 PG.wk (v9 hN hi hx hf) λv Y H Q hz1=>by
  obtain⟨Z,F,env,fp,pv,f,S,r,fr,q⟩:=hz1;unfold tgN at q;by_cases ho:aS i env=true
  .rw[if_pos ho]at q;exact q _ _ (S.put r fr.nd fr.nf fr.new (λa ha j _=>fr.dj a ha j) ho)
  .rw[if_neg ho]at q;exact q.elim
def kc:SGs X T [] j8:=PGs.wk Da λvs Y H Q hz1=>by
 obtain⟨Z,F,env,fp,pvs,f,S,r,fr,q⟩:=hz1;cases pvs with
 |nil=>unfold RelL at r;exact⟨r.1,q Y fp S⟩
 |cons x xs=>exact q.elim
def dE(hN:X.N.Nodup)(hi:X.N[i]?=some x)(hx:Loc X.env.scope x)(h2:SGs X T es u)
  (hs:(assignEach (.Name x pos::es) X.env).map (·.2)=assign (.Name x pos) X.env::(assignEach es X.env).map (·.2):=by rfl)
  (hf:Lce X.fn X.env x:=by first|exact .inl rfl|exact .inr rfl|assumption):SGs X T (.Name x pos::es) (cF (tgN i) u):=
 PGs.wk (zL (v9 hN hi hx hf) h2 hs) λvs Y H Q hz1=>by
  obtain⟨Z,F,env,fp,pvs,f,S,r,fr,q⟩:=hz1;cases pvs with
  |nil=>exact q.elim
  |cons y ys=>
   obtain⟨v,ws,f1,f2,rfl,r1,r2,rfl⟩:=r;obtain⟨n1,n2,n3⟩:=nodup_append.mp fr.nd;by_cases ho:aS i env=true
   case neg=>simp only[cF,tgN,if_neg ho]at q;exact q.elim
   simp only[cF,tgN,if_pos ho]at q;refine⟨v,ws,rfl,Z,F,env.set i (some y),cD fp i f1,ys,f2,S.put r1 n1 (λa ha=>fr.nf a (mem_append_left _ ha)) (λa ha=>fr.new a (mem_append_left _ ha)) (λa ha j _=>fr.dj a (mem_append_left _ ha) j) ho,r2,⟨n2,λa ha=>fr.nf a (mem_append_right _ ha),λa ha=>fr.new a (mem_append_right _ ha),λa ha j=>?_⟩,q⟩;unfold cD;split
   .exact λz=>n3 a z a ha rfl
   .exact fr.dj a (mem_append_right _ ha) j
def nC(hK:X.K=T.K)(hc:X.calm=true)(h:SGs X T es u)(hn:(assignEach es X.env).length=n:=by rfl)(hst:(assignEach es X.env).findIdx? (·.1)=none:=by rfl):SG X T (.Tuple es k pos) (tgT n u):=
 PG.wk (Gy hc h hn hst) λv Y H Q hz1=>by
  obtain⟨Z,F,env,fp,pv,f,S,r,fr,q⟩:=hz1;cases pv with
  |tup xs=>
   obtain⟨a,vs,rfl,hl,hr⟩:=r;simp only[tgT]at q;by_cases hx:xs.length=n
   .rw[if_pos hx]at q;exact⟨a,vs,rfl,by lia,by rw[<- hr.length];exact hx,Z,F,env,fp,xs,f,S,hr,fr,q⟩
   .rw[if_neg hx]at q;exact q.elim
  |_=>exact q.elim
abbrev MI:=En->Res (N5)
def ItR(T:Tb)(F B:NV)(Ow:NV)(H1:Hp)(J:It)(xs:N5):Prop:=
 ∀H2,(∀a o,H1 a=some o->¬Ow a->H2 a=some o)->(∀(i:Nat) x,xs[i]?=some x->J.go i H2/\∀v H3,J.yld i H2 v H3->Ext H2 H3/\Rel T F B NoL H3 x v [])/\J.stop xs.length H2
def ItR.of0(h:∀H2,(∀a o,H1 a=some o->¬Ow a->H2 a=some o)->(∀(i:Nat) x,xs[i]?=some x->J.go i H2/\∀v H3,J.yld i H2 v H3->H3=H2/\Rel T F B NoL H2 x v [])/\J.stop xs.length H2):ItR T F B Ow H1 J xs:=λH2 hk=>by obtain⟨a,b⟩:=h H2 hk;refine⟨λi x e=>⟨(a i x e).1,λv H3 hy=>?_⟩,b⟩;obtain⟨rfl,r⟩:=(a i x e).2 v H3 hy;exact⟨Ext.refl,r⟩
def GI(T:Tb)(W:Nat->St->N4)(B F Ow:NV)(Y:St)(H:Hp)(R:It->N4):Res (N5)->Prop
 |.ok xs=>∀J H1 F1,Gr F H F1 H1->ItR T F1 B Ow H1 J xs->R J H1
 |.exc c=>∀H',Ext H H'->W c Y H'
 |.stuck=>False
def tI(T:Tb)(W:Nat->St->N4)(m:MI):TI:=λY H R=>∃Z F env fp,aC T Z F H Y env fp/\GI T W Z.B F (Own fp) Y H R (m env)
abbrev SI(X:Cx)(T:Tb)(W:Nat->St->N4)(tg iter:Expr)(m:MI):Prop:=PI X tg iter (tI T W m)
def zK(hl:PE X l tl):PI X tg l (λY H R=>tl Y H λx H1=>∃a,x=.ref a/\((∃xs,SqL X.K H1 a xs/\R (Itl X.K a) H1)\/ ∃xs,SqT X.K H1 a xs/\R (Itt X.K a) H1)):=by
 intro NP s Y H R I h;refine thn (hl NP s Y H _ I h) λv s1 hz1=>?_;obtain⟨x,H1,I1,r1,q1⟩:=hz1;obtain⟨a,e,q⟩:=q1;subst e;cases r1;rcases q with⟨xs,hq,q⟩ |⟨xs,hq,q⟩
 .obtain⟨its,rv,p,hz⟩:=I1.list hq;refine wpAny_pyIter_list p.isList ?_;refine⟨s1.heap.objs.size,[s1.heap.objs.size],_,_,H1,rfl,I1.kept (t':=s1.toks) λb o e=>get?_push_of_some _ e,xc a _,⟨_,get?_push_size _ rfl,rfl,rfl⟩,λb hb=>?_,q⟩;have e:b=s1.heap.objs.size:=by simpa using hb
  subst e;exact I1.fpOk (Nat.le_refl _) (I1.hok.fresh (Nat.le_refl _))
 .obtain⟨its,rv,p,hz⟩:=I1.tuple hq;refine wpAny_pyIter_tuple (show s1.heap.IsTuple a its.toArray from p) ?_;refine⟨s1.heap.objs.size,[s1.heap.objs.size],_,_,H1,rfl,I1.kept (t':=s1.toks) λb o e=>get?_push_of_some _ e,ur a _,⟨_,get?_push_size _ rfl,rfl,rfl⟩,λb hb=>?_,q⟩;have e:b=s1.heap.objs.size:=by simpa using hb
  subst e;exact I1.fpOk (Nat.le_refl _) (I1.hok.fresh (Nat.le_refl _))
def gz(xs:N5):Bool:=!hasL Fl.Oa xs&&!hasL Fl.Ob xs
def gj(m:ME):MI:=λenv=>(m env).bind λx=>match x with
 |.lst f xs=>if !f.Ob&&gz xs then .ok xs else .stuck
 |.tup xs=>if gz xs then .ok xs else .stuck
 |_=>.stuck
def jQ{H2:Hp}{Ow:NV}(hF:∀a,F1 a->¬Ow a)(hB:∀a,B a->¬Ow a)(hO:∀a o,Ow a->H1 a=some o->Chg o)(hk:∀a o,H1 a=some o->¬Ow a->H2 a=some o){xs:N5}{vs:N3}(r:RelL T F1 B NoL H1 xs vs []){i:Nat}{x:PV}{v:V}(e:xs[i]?=some x)(ev:vs[i]?=some v):Rel T F1 B NoL H2 x v []:=by
 obtain⟨w,f,e1,r1,sl⟩:=r.get e;rw[ev]at e1;cases e1;obtain rfl:=sublist_nil.mp sl;refine Rel.tr (λ_ h=>h) (λ_ h=>h) (λ_ h=>h) (λa o q h=>hk a o q ?_) (λ_ z=>(nomatch z)) r1;rcases h with h|h|h|h
 .exact hF a h
 .exact hB a h
 .exact h.elim
 .intro z;have:=hO a o z q;cases o with
  |lst _|ins _ _ _=>exact h
  |_=>exact this
def aC.bow(S:aC T Z F H Y env fp):∀a,Z.B a->¬Own fp a:=λa h hz1=>by
 obtain⟨i,hi⟩:=hz1;obtain⟨⟨o,h1⟩,h2⟩:=S.hp.bo.1 a h;rcases S.new i a hi with z|z
 .rw[h1]at z;cases z
 .exact h2 z
def aC.fow(S:aC T Z F H Y env fp):∀a,F a->¬Own fp a:=λa h ⟨i,hi⟩=>(S.dis i a hi).1 h
def aC.oow(S:aC T Z F H Y env fp):∀a o,Own fp a->H a=some o->Chg o:=λa o hz1 e=>by obtain⟨i,hi⟩:=hz1;obtain⟨o',h1,h2⟩:=S.ch i a hi;rw[e]at h1;cases h1;exact h2
def fq(h:gz xs=true)(r:RelL T F B L H xs vs f):f=[]/\RelL T F B NoL H xs vs f:=by simp only[gz,and_eq_true,Bool.not_eq_true']at h;exact⟨RelL.Of h.1 r,RelL.noL h.2 r⟩
def iz(hK:X.K=T.K)(he:SE X T W e m):SI X T W tg e (gj m):=λNP s Y H R I h=>zK he NP s Y H R I (by
 obtain⟨Z,F,env,fp,S,q⟩:=h;unfold gj at q;walk_at "a";simp only[Res.Og]at q;have S1:=S.grow g1;rw[hK];cases x with
 |lst f xs=>
  dsimp only at q;by_cases hc:(!f.Ob&&gz xs)=true
  .rw[if_pos hc]at q;rw[and_eq_true]at hc;obtain⟨a,vs,fp',rfl,hl,hr,hf⟩:=r1;obtain⟨rfl,hr'⟩:=fq hc.2 hr;refine⟨a,rfl,.inl ⟨vs,hl.sq,q _ H1 F1 g1 (ItR.of0 λH2 hk=>?_)⟩⟩;have na:f≠.mod->∀o,H1 a=some o->H2 a=some o:=λhn o ho=>by
    refine hk a o ho ?_;cases f with
    |own=>rintro⟨i,hi⟩;obtain⟨_,o',ho'⟩:=S.dis i a hi;obtain rfl:f1=[a]:=hf;rw[w1 a mem_cons_self]at ho';cases ho'
    |frz=>exact S1.fow a hl.1
    |bor=>exact S1.bow a hl.1
    |lnt=>exact absurd hc.1 ()
    |mod=>exact absurd rfl hn
   have hl2:SqL T.K H2 a vs:=by
    by_cases hn:f=.mod
    .subst hn;exact .inr hl
    .exact .inl (Rd.tr (na hn) (hl.rd hn))
   refine⟨λi x ex=>?_,⟨vs,hl2,by rw[hr.length];exact Nat.le_refl _⟩⟩;obtain⟨v,_,ev,_,_⟩:=hr.get ex;refine⟨⟨vs,v,hl2,ev⟩,λw H3 hy=>⟨hy.1,?_⟩⟩;have e3:=hy.2 vs hl2;exact jQ S1.fow S1.bow S1.oow hk hr' ex e3
  .rw[if_neg hc]at q;exact q.elim
 |tup xs=>
  dsimp only at q;by_cases hc:gz xs=true
  .rw[if_pos hc]at q;obtain⟨a,vs,rfl,hl,hr⟩:=r1;obtain⟨rfl,hr'⟩:=fq hc hr;refine⟨a,rfl,.inr ⟨vs,hl,q _ H1 F1 g1 (ItR.of0 λH2 hk=>?_)⟩⟩;have hl2:SqT T.K H2 a vs:=SqT.tr (λo ho hfx=>hk a o ho λz=>by
    have:=S1.oow a o z ho;cases o with
    |lst _|ins _ _ _=>exact hfx
    |_=>exact this) hl
   refine⟨λi x ex=>?_,⟨vs,hl2,by rw[hr.length];exact Nat.le_refl _⟩⟩;obtain⟨v,_,ev,_,_⟩:=hr.get ex;refine⟨⟨vs,v,hl2,ev⟩,λw H3 hy=>⟨hy.1,?_⟩⟩;exact jQ S1.fow S1.bow S1.oow hk hr' ex (hy.2 vs hl2)
  .rw[if_neg hc]at q;exact q.elim
 |_=>exact q.elim)
noncomputable def eT(lo:Int)(n:Nat):N5:=(range n).map λk=>.int (lo+(k:Nat))
def inR(i:Int):Bool:=decide (-(2 ^ 62)<= i/\i<2 ^ 62)
def b9(ms:MA):MI:=λenv=>(ms env).bind λxs=>match xs with
 | [.int n]=>if inR n then .ok (eT 0 n.toNat)else .stuck
 |_=>.stuck
def pI(ms:MA):MI:=λenv=>(ms env).bind λxs=>match xs with
 | [.int i,.int j]=>if inR i&&inR j then .ok (eT i (j-i).toNat)else .stuck
 |_=>.stuck
def wn:ItR T F1 B Ow H1 (Itr lo n) (eT lo n):=by
 apply ItR.of0;intro H2 _;refine⟨λi x ex=>?_,by simp[eT,Itr]⟩;have hi:i<n:=by have:=(List.getElem?_eq_some_iff.mp ex).1;simpa[eT]using this
 refine⟨hi,λv H3 hy=>⟨hy.1,?_⟩⟩;obtain⟨_,rfl⟩:=hy;have:x=.int (lo+(i:Nat)):=by simp[eT,hi]at ex;exact ex.symm
 subst this;exact eK
def dY(hg:Gl X "range")(hm:X.mg "range" = none)(ha:SA X T W [a] ms)(hs:starEach [a] X.env=[(false,eval a X.env)]:=by rfl):SI X T W tg (.Call (.Name "range" p) [a] [] pos) (b9 ms):=λNP s Y H R I h=>pB hg hm ha hs NP s Y H R I (by
 obtain⟨Z,F,env,fp,S,q⟩:=h;unfold b9 at q;refine tA.bq S λxs vs H1 F1 f1 e1 g1 r1 n1 d1 w1=>?_;rw[e1]at q;simp at q;split at q
 .rename_i n
  split at q
  .rename_i hc
   obtain⟨v,rfl,r2⟩:=r1.one;obtain⟨rfl,_⟩:=r2;have hc':-(2 ^ 62)<= n/\n<2 ^ 62:=by simpa[inR]using hc
   exact⟨n,rfl,hc'.1,hc'.2,q _ H1 F1 g1 wn⟩
  .exact q.elim
 .exact q.elim)
def xq(hg:Gl X "range")(hm:X.mg "range"=none)(ha:SA X T W [a,b] ms)(hs:starEach [a,b] X.env=[(false,eval a X.env),(false,eval b X.env)]:=by rfl)(hs2:starEach [b] X.env=[(false,eval b X.env)]:=by rfl) :
  SI X T W tg (.Call (.Name "range" p) [a,b] [] pos) (pI ms):=λNP s Y H R I h=>xP hg hm ha hs hs2 NP s Y H R I (by
 obtain⟨Z,F,env,fp,S,q⟩:=h;unfold pI at q;refine tA.bq S λxs vs H1 F1 f1 e1 g1 r1 n1 d1 w1=>?_;rw[e1]at q;simp only[Res.Og]at q;split at q
 .rename_i i j
  split at q
  .rename_i hc
   obtain⟨v,ws,f1,f2,rfl,h1,h2,_⟩:=r1;obtain⟨v2,rfl,h3⟩:=h2.one;obtain⟨rfl,_⟩:=h1;obtain⟨rfl,_⟩:=h3;have hc':(-(2 ^ 62)<= i/\i<2 ^ 62)/\(-(2 ^ 62)<= j/\j<2 ^ 62):=by simpa[inR]using hc
   exact⟨i,j,rfl,⟨hc'.1.1,hc'.1.2,hc'.2.1,hc'.2.2⟩,q _ H1 F1 g1 wn⟩
  .exact q.elim
 .exact q.elim)
def dC(it:MI)(tg:TgM)(body:MS):MS:=λenv=>match it env with
 | .ok xs=>oR (λx e=>match tg x e with
  |some e'=>body e'
  |none=>.stuck) xs env
 |.exc c=>.exc c env
 |.stuck=>.stuck
theorem cK(hp:PassesOwn (model X.prog X.w) X.A X.env X.xe)(hc:X.calm=true)(hi:SI X T W tg iter mi)(hg:SG X T tg g)(hb:SSs X T W body mb)
  (hs:∀x,foldedSetIterable iter X.env x=pure x:=by intro _;rfl):SS X T W (.For tg iter body [] pos) (dC mi g mb):=PS.wk (Gp hp hc hi hg hb hs) λD Y H hz1=>by
 walk_at "b";unfold dC at q;refine⟨Z,F,env,fp,S,?_⟩;cases em:mi env with
 |exc c=>rw[em]at q;exact λH' x=>q F H' Y fp (S.grow (Gr.same S.hp.ft x))
 |stuck=>rw[em]at q;exact q
 |ok xs=>
  rw[em]at q;intro J H1 F1 g1 it;have S1:=S.grow g1;generalize hbd:(λ(x:PV) (e:En)=>match g x e with
   |some e'=>mb e'
   |none=>Out.stuck)=bd at q
  refine⟨λi m σ2 H2=>m=xs.length-i/\i<=xs.length/\∃F2 env2 fp2,aC T (Z.re F1 H1 fp) F2 H2 σ2 env2 fp2/\GS T W Z D (oR bd (xs.drop i) env2),⟨xs.length,by simp,zero_le _,F1,env,fp,S1.enter,q⟩,?_⟩;rintro i m σ2 H2 ⟨rfl,hi,F2,env2,fp2,S2,q2⟩;obtain⟨go,stop⟩:=it H2 S2.hp.keep;by_cases hlt:i<xs.length
  .have hx:xs[i]?=some xs[i]:=by simp
   obtain⟨g1',yl⟩:=go i _ hx;refine .inr ⟨g1',λσ3 H3=>∃F3 env3 fp3,aC T (Z.re F1 H1 fp) F3 H3 σ3 env3 fp3/\GS T W Z D (oR bd (xs.drop (i+1)) env3),λσ3 H3 h3=>⟨xs.length-(i+1),by lia,rfl,hlt,h3⟩,λv H3 hy=>?_⟩;obtain⟨ex3,r⟩:=yl v H3 hy;rw[drop_eq_getElem_cons hlt]at q2;unfold oR at q2;rw[<- hbd]at q2;dsimp only at q2;refine⟨Z.re F1 H1 fp,F2,env2,fp2,xs[i],[],S2.grow (Gr.same S2.hp.ft ex3),r.ext Ext.refl S2.hp.f0,yN.nil,?_⟩;cases eg:g xs[i] env2 with
   |none=>rw[eg]at q2;exact q2
   |some e'=>
    rw[eg]at q2;dsimp only at q2;intro σ' fp' S';refine⟨Z.re F1 H1 fp,F2,e',fp',S',?_⟩;cases eb:mb e' with
    |next e2|cont e2=>rw[eb]at q2;exact λF3 H3 σ3 fp3 S3=>⟨F3,e2,fp3,S3,by lia⟩
    |brk e2=>rw[eb]at q2;exact λF3 H3 σ3 fp3 S3=>q2 F3 H3 σ3 fp3 (S1.leave S3)
    |ret v=>rw[eb]at q2;exact λF3 H3 v f hp r nd nf new=>q2 F3 H3 v f (ce.leave S1 hp) r nd nf λa ha=>S1.newL (new a ha)
    |exc c e2=>rw[eb]at q2;exact λF3 H3 σ3 fp3 S3=>q2 F3 H3 σ3 fp3 (S1.leave S3)
    |stuck=>rw[eb]at q2;exact q2
  .have e:i=xs.length:=by lia
   subst e;rw[drop_length]at q2;exact .inl ⟨stop,q2 F2 H2 σ2 fp2 (S1.leave S2)⟩
end
end PR
namespace L2
open PySem PySem.Spec
noncomputable def fC(cells:List (Str×Addr)):List (Str×NameKind)->List (Str×Addr)->List (Str×Addr)
 | [],acc=>acc
 | (n,k)::r,acc=>if (k == .free)=true then (match cells.lookup n with
  |some c=>fC cells r ((n,c)::acc)
  |none=>fC cells r acc)else fC cells r acc
theorem jV:∀(names:List (Str×NameKind)) (acc:List (Str×Addr)),(∀y∈names,y.2=.free->∃c,env.cells.lookup y.1=some c)->
  (forIn names acc λ(x:Str × NameKind) (cs:List (Str × Addr))=>match x with
   |(name,kind)=>if(kind==.free)=true then do let c <- cellOf env name;pure (ForInStep.yield ((name,c)::cs))else pure (ForInStep.yield cs):Sem (List (Str×Addr)))=pure (fC env.cells names acc)
 | [],acc,_=>by simp[fC]
 |(n,k)::r,acc,h=>by
  rw[List.forIn_cons];by_cases hk:(k==NameKind.free)=true
  .obtain⟨c,hc⟩:=h (n,k) mem_cons_self ();simp only[hk,cellOf];rw[fC,if_pos hk,hc];exact jV r _ λy hy=>h y (mem_cons_of_mem _ hy)
  .simp only[hk];rw[fC,if_neg hk];exact jV r _ λy hy=>h y (mem_cons_of_mem _ hy)
def oS(h:∀y∈scope.names,y.2=.free->∃c,env.cells.lookup y.1=some c):closureFor scope env=pure (fC env.cells scope.names []):=by unfold closureFor;rw[<- jV scope.names [] h];simp
theorem ir{cells:List (Str×Addr)}:∀{names:List (Str×NameKind)}{acc:List (Str×Addr)},(∀p∈acc,cells.lookup p.1=some p.2)->∀p∈fC cells names acc,cells.lookup p.1=some p.2
 | [],_,h=>h
 |(n,k)::r,acc,h=>by
  unfold fC;split
  .split
   .rename_i c hc
    exact ir (by grind)
   .exact ir h
  .exact ir h
def kS:∀{names:List (Str×NameKind)}{acc:List (Str×Addr)}{p:Str×Addr},p∈acc->p∈fC cells names acc
 | [],_,_,h=>h
 |(n,k)::r,acc,p,h=>by
  unfold fC;split
  .split
   .exact kS (mem_cons_of_mem _ h)
   .exact kS h
  .exact kS h
def ju{cells:List (Str×Addr)}{x:Str}{c:Addr}(hc:cells.lookup x=some c):∀{names:List (Str×NameKind)}{acc:List (Str×Addr)},(x,NameKind.free)∈ names->(x,c)∈ fC cells names acc
 | [],_,h=>nomatch h
 |(n,k)::r,acc,h=>by
  unfold fC;rcases mem_cons.mp h with e|h
  .cases e;rw[if_pos (by rfl),hc];exact kS mem_cons_self
  .split
   .split
    .exact ju hc h
    .exact ju hc h
   .exact ju hc h
theorem jF{cells l:List (Str×Addr)}(h:∀p∈l,cells.lookup p.1=some p.2){x:Str}{c:Addr}(m:(x,c)∈ l):l.lookup x=some c:=by
 induction l with
 |nil=>cases m
 |cons p r ih=>
  grind
def iq{cells:List (Str×Addr)}{names:List (Str×NameKind)}{x:Str}{c:Addr}(h:(fC cells names []).lookup x=some c):cells.lookup x=some c:=
 ir (acc:=[]) (λ_ z=>nomatch z) (x,c) (PySem.mem_of_lookup h)
def oE:∀(names:List (Str×NameKind)) (a:Nat) (l acc:List (Str×Addr)),cellsFrom a names (l++acc)=cellsFrom a names l++acc
 | [],_,_,_=>rfl
 |(n,k)::r,a,l,acc=>by
  unfold cellsFrom;split
  .exact oE r (a+1) ((n,a)::l) acc
  .exact oE r a l acc
theorem oC:∀{names:List (Str×NameKind)}{a:Nat}{l:List (Str×Addr)}{p:Str×Addr},p∈cellsFrom a names l->p∈l \/(a<=p.2/\(p.1,NameKind.cell)∈ names)
 | [],_,_,_,h=>.inl h
 |(n,k)::r,a,l,p,h=>by
  unfold cellsFrom at h;split at h
  .rename_i hk
   have hk:k=.cell:=by lia
   rcases oC h with h|h
   .grind
   .exact .inr ⟨by lia,mem_cons_of_mem _ h.2⟩
  .rcases oC h with h|h
   .exact .inl h
   .exact .inr ⟨h.1,mem_cons_of_mem _ h.2⟩
theorem qU:∀{names:List (Str×NameKind)}{a:Nat}{l:List (Str×Addr)}{x:Str},((x,NameKind.cell)∈ names \/(l.lookup x).isSome=true)->((cellsFrom a names l).lookup x).isSome=true
 | [],_,_,_,h=>h.resolve_left (λz=>nomatch z)
 |(n,k)::r,a,l,x,h=>by
  unfold cellsFrom;split
  .rename_i hk
   have hk:k=.cell:=by lia
   refine qU ?_
   grind
  .rename_i hk
   refine qU ?_
   grind
theorem oF:∀{names:List (Str×NameKind)}{a:Nat}{l:List (Str×Addr)},(∀p∈l,p.2<a)->(l.Pairwise λx y=>x.2≠y.2)->(cellsFrom a names l).Pairwise λx y=>x.2≠y.2
 | [],_,_,_,h=>h
 |(n,k)::r,a,l,hl,h=>by
  unfold cellsFrom;split
  .refine oF (λp hp=>?_) (pairwise_cons.mpr ⟨λy hy e=>?_,h⟩)
   .grind
   .have e':a=y.2:=e;exact Nat.lt_irrefl _ (Nat.lt_of_lt_of_eq (hl y hy) e')
  .exact oF hl h
theorem n_{α:Type}{x:Str}:∀{l m:List (Str×α)},(l++m).lookup x=(l.lookup x).or (m.lookup x)
 | [],m=>by simp
 |(n,c)::l,m=>by
  grind
abbrev ub(X:Cx)(scope:Scope)(C:Addr):List (Str×Addr):=cellsFrom (C+1) scope.names (fC X.env.cells scope.names [])
theorem kT{X:Cx}{scope:Scope}{C:Addr}{x:Str}{c:Addr}(h:(ub X scope C).lookup x=some c):(C+1<=c/\(x,NameKind.cell)∈ scope.names/\(x,c)∈ cellsFrom (C+1) scope.names [])\/(fC X.env.cells scope.names []).lookup x=some c:=by
 unfold ub at h;rw[show fC X.env.cells scope.names []=[]++ fC X.env.cells scope.names []from rfl,oE,n_]at h;cases e:(cellsFrom (C+1) scope.names []).lookup x with
 |some d=>
  rw[e]at h;cases h;have m:=PySem.mem_of_lookup e;rcases oC m with z|z
  .cases z
  .lia
 |none=>rw[e]at h;exact .inr (by simpa using h)
def IS(hx:(x,NameKind.cell)∉ scope.names)(h:(fC X.env.cells scope.names []).lookup x=some c):(ub X scope C).lookup x=some c:=by
 unfold ub;rw[show fC X.env.cells scope.names []=[]++ fC X.env.cells scope.names []from rfl,oE,n_];cases e:(cellsFrom (C+1) scope.names []).lookup x with
 |some d=>
  rcases oC (PySem.mem_of_lookup e)with z|z
  .cases z
  .exact absurd z.2 hx
 |none=>simpa using h
theorem sJ{M:Model}{A:Around}{E:NR}{s:Shared}{scope:Scope}{globals:Addr}{closure:List (Str×Addr)}{qual:Str}{func:Option Addr}{code:Value}{outer:Env}{builtins:Addr}{Q:Env->Shared->Prop}
  (hQ:∀ h',h'.Ns s.heap.objs.size (λ_=>none)->(∀ b o,s.heap.get? b=some o->h'.get? b=some o)->(∀ n c,(n,c) ∈ cellsFrom (s.heap.objs.size+1) scope.names []->h'.IsCell c none) ->
   Q (newEnv scope s.heap.objs.size globals (cellsFrom (s.heap.objs.size+1) scope.names closure) qual func code (some outer) builtins) {s with heap:=h'}) :
  wpAny M A (newFunctionEnv scope globals closure [] qual func code (some outer) builtins) Q E s:=by
 simp only[newFunctionEnv,Option.isSome_some,if_true];refine wpAny_bind (wpAny_alloc ?_);refine wpAny_bind (wpAny_layCells _ (λname kind cells=>by lia) _ _ _ _ ?_);have ok:=cellsFrom_ok scope.names (s.heap.push {cls:=.type "dict",data:=.dict #[]}) (s.heap.objs.size+1) [] ⟨λ_ _ hm=>(nomatch hm),Pairwise.nil⟩ ();rw[size_push]at ok;rw[show({s with heap:=s.heap.push {cls:=.type "dict",data:=.dict #[]}}:Shared).heap.objs.size=s.heap.objs.size+1 from size_push ..];refine wpAny_bind ?_;exact wpAny_pure (wpAny_pure (hQ _ ((Heap.Ns.new s.heap (.type "dict")).keeps (pushCells_keeps _ _)) (λb o e=>pushCells_keeps _ _ b o (get?_push_of_some _ e)) λn c hm=>(ok.empty n c hm).1))
def cxC(X:Cx)(scope:Scope)(C:Addr)(N:N0)(s:Shared)(H:Hp)(ex:NZ):Cx:=
 {X with env:=compEnvC scope (ub X scope C) C X.env,N:=N,s₀:=s,H₀:=H,outer:=X.stack,stack:=X.stack,ex:=ex,fn:=λx=>scope.names.lookup x==some .cell,pn:=[],xe:=λ_ _=>False}
structure eZ(X:Cx)(scope:Scope)(caps:List Nat)(N tn:N0):Prop where
 kind:scope.kind=.function
 cel:∀y∈scope.names,y.2=.cell->scope.names.lookup y.1=some .cell
 names:∀y∈scope.names,y.2=.local->scope.names.lookup y.1=some .local
 free:∀y∈scope.names,y.2=.free->X.env.kindOf y.1=some .cell\/X.env.kindOf y.1=some .free
 eN:N=caps.map (λi=>X.N.getD i "")++ tn
 capN:∀i∈caps,i<X.N.length
 capF:∀i∈caps,∀x,X.N[i]?=some x->(x,NameKind.free)∈ scope.names/\scope.names.lookup x=some .free
 nd:N.Nodup
theorem ki{scope:Scope}{env:Env}{x:Str}{k:NameKind}(h:(relabel scope env).names.lookup x=some k)(hc:k=.cell\/k=.free):(x,NameKind.free)∈ scope.names \/(x,NameKind.cell)∈ scope.names:=by
 have m:=PySem.mem_of_lookup h;obtain⟨⟨n,k0⟩,hm,e⟩:=mem_map.mp m
 grind
theorem kj{scope:Scope}{env:Env}{x:Str}:∀{names:List (Str×NameKind)},names.lookup x=some .free ->
  (names.map λ(n,k)=>if(k==NameKind.free&&env.scope.kind==.function&&env.kindOf n==some .cell)then(n,NameKind.cell)else(n,k)).lookup x=some .cell \/
  (names.map λ(n,k)=>if(k==NameKind.free&&env.scope.kind==.function&&env.kindOf n==some .cell)then(n,NameKind.cell)else(n,k)).lookup x=some .free
 | [],h=>by simp at h
 |(n,k)::r,h=>by
  have ih:=@kj scope env x r
  grind
section
variable{X:Cx}{scope:Scope}{caps:List Nat}{N tn:N0}{NP:NU}{Y:St}{H:Hp}{s:Shared}{fp:NZ}{C:Addr}
theorem qQ(cs:eZ X scope caps N tn)(I:Inv X NP Y H s)(hf:∀b∈fp,oK X NP H b)(hlt:∀b∈fp,b<s.heap.objs.size)(hC:s.heap.objs.size<=C):(cxC X scope C N s H fp).Ok where
 mod:=I.ok.mod
 kind:=by exact cs.kind
 glob:=I.ok.glob
 blt:=I.ok.blt
 above:=hC
 inj:=λx y c h1 h2=>by
  have old:∀z,(fC X.env.cells scope.names []).lookup z=some c->c<s.heap.objs.size:=λz hz=>let⟨_,hv⟩:=I.cell z c (iq hz);hv.lt
  rcases kT h1 with⟨l1,_,m1⟩|h1<;>rcases kT h2 with⟨l2,_,m2⟩|h2
  .exact name_of_addr (oF (l:=[]) (λ_ z=>nomatch z) Pairwise.nil) m1 m2
  .grind
  .grind
  .exact I.ok.inj x y c (iq h1) (iq h2)
 has:=λx hx=>by
  have m:(x,NameKind.free)∈ scope.names \/(x,NameKind.cell)∈ scope.names:=by
   rcases hx with h|h
   .exact ki h (.inl rfl)
   .exact ki h (.inr rfl)
  refine isSome_iff_exists.mp (qU ?_);rcases m with m|m
  .obtain⟨c,hc⟩:=I.ok.has x (cs.free _ m rfl);exact .inr (by rw[jF (ir (acc:=[]) λ_ z=>nomatch z) (ju hc m)];rfl)
  .exact .inl m
 cab:=λx c h hc=>by
  have h':(scope.names.lookup x==some NameKind.cell)=true:=h;have hx:scope.names.lookup x=some .cell:=by lia
  have hs:s.heap.objs.size<=C:=hC;have hc:(ub X scope C).lookup x=some c:=hc;obtain⟨d,hd⟩:=isSome_iff_exists.mp (qU (.inl (PySem.mem_of_lookup hx)));unfold ub at hc;rw[show fC X.env.cells scope.names []=[]++ fC X.env.cells scope.names []from rfl,oE,n_,hd]at hc;cases hc;rcases oC (PySem.mem_of_lookup hd)with z|z
  .cases z
  .exact Nat.le_trans hs (Nat.le_trans (le_succ _) z.1)
 hd:=I.ok.hd
 frames:=I.ok.frames
 stk:=.inl rfl
 exf:=λb hb=>⟨Nat.ne_of_lt (Nat.lt_of_lt_of_le (hlt b hb) hC),λx c h=>by
  rcases kT h with⟨l1,_,_⟩|h
  .exact λz=>absurd (Nat.lt_of_lt_of_le (hlt b hb) (Nat.le_trans hC (Nat.le_trans (le_succ _) l1))) ()
  .exact(hf b hb).2.2.2.2.1 x c (iq h)⟩
 bs:=I.bs
 bsz:=Nat.le_trans I.ok.bsz I.sz
 noex:=λb o e hb=>by
  rcases(hf b hb).2.2.2.1 with z|z
  .exact I.ok.noex b o e z
  .exact absurd (Nat.lt_of_lt_of_le (lt_size e) (Nat.le_trans I.ok.bsz z)) (Nat.lt_irrefl _)
 exfs:=λb hb hs=>by
  rcases mem_cons.mp (I.stkSub b hs)with z|z
  .exact(hf b hb).2.1 z
  .exact(hf b hb).2.2.1 z
 funs:=I.stack
 frf:=I.stkFree
def qV(caps:List Nat)(k:Nat)(Y:St):St:=caps.map (λi=>(Y[i]?).join)++ replicate k none
theorem AX(cs:eZ X scope caps N tn)(I:Inv X NP Y H s)(hf:∀b∈fp,oK X NP H b)(hlt:∀b∈fp,b<s.heap.objs.size)
  (hns:h₁.Ns (s.heap.objs.size+1) λ_=>none) (hD:h₁.get? s.heap.objs.size=some {cls:=.type "list",data:=.seq ([]:NY).toArray}) (old:∀b o,s.heap.get? b=some o->h₁.get? b=some o)
  (hcl:∀n c,(n,c)∈ cellsFrom (s.heap.objs.size+1+1) scope.names []->h₁.IsCell c none) :
  Inv (cxC X scope (s.heap.objs.size+1) N s H fp) [] (qV caps tn.length Y) (upd H s.heap.objs.size (.lst [])) {s with heap:=h₁,toks:=t}:=by
 have fresh:∀b,s.heap.objs.size<=b->H b=none:=λb hb=>I.hok.fresh hb;have neD:s.heap.objs.size+1≠s.heap.objs.size:=Nat.succ_ne_self _;have ltc:∀x c,(fC X.env.cells scope.names []).lookup x=some c->∃v,s.heap.IsCell c v:=λx c h=>I.cell x c (iq h);refine⟨qQ cs I hf hlt (le_succ _),rfl,I.bare,Un.laid old (Nat.le_refl _) (fresh _ (Nat.le_refl _)),⟨_,hns,λi y v h1 h2 h3=>?_⟩,λx c h=>?_,?_,λx c h=>?_,λp hp=>absurd (show p ∈([]:NU)from hp) (),?_,?_⟩
 .have hi:i<caps.length:=by
   unfold qV at h2;by_cases hi:i<caps.length
   .exact hi
   .rw[getElem?_append_right (by simpa using hi),getElem?_replicate]at h2;split at h2<;>cases h2
  unfold qV at h2;rw[getElem?_append_left (by simpa using hi),getElem?_map]at h2;obtain⟨j,hj,e2⟩:=map_eq_some_iff.mp h2;have hjc:j∈caps:=List.mem_of_getElem? hj;have hjN:=cs.capN j hjc;have hy:X.N[j]?=some y:=by
   have h1':N[i]?=some y:=h1;rw[cs.eN,getElem?_append_left (by simpa using hi),getElem?_map,hj]at h1';have:X.N.getD j ""=y:=by simpa using h1'
   rw[<- this];simp[hjN]
  have hσ:Y[j]?=some (some v):=by
   cases e:Y[j]? with
   |none=>rw[e]at e2;cases e2
   |some w=>rw[e]at e2;simp at e2;rw[e2]
  obtain⟨m0,hn0,hl⟩:=I.loc;obtain⟨hm,hlk⟩:=cs.capF j hjc y hy;have hk:=cs.free _ hm rfl;have hvis:Vis X.env.scope y:=by
   rcases hk with z|z
   .exact .inr (.inl z)
   .exact .inr (.inr z)
  obtain⟨u,ru,lk⟩:=hl j y v hy hσ hvis;refine⟨u,ru,.inr ?_⟩;rcases lk with⟨z,_⟩ |⟨_,c,hc,hcell⟩
  .lia
  .refine⟨kj (scope:=scope) hlk,c,IS (λz=>?_) (jF (ir (acc:=[]) λ_ z=>nomatch z) (ju hc hm)),hcell.keeps old⟩;have:=cs.cel _ z rfl;rw[hlk]at this;cases this
 .rcases kT h with⟨_,_,m⟩|h
  .exact⟨none,hcl x c m⟩
  .obtain⟨v,hv⟩:=ltc x c h;exact⟨v,hv.keeps old⟩
 .show upd H _ _ (s.heap.objs.size+1)=none;rw[aJ neD];exact fresh _ (le_succ _)
 .rcases kT h with⟨l1,_,_⟩|h2
  .rw[aJ (Nat.ne_of_gt (Nat.lt_of_lt_of_le (Nat.lt_succ_of_lt (Nat.lt_succ_self _)) l1))];exact .inl (fresh _ (Nat.le_trans (Nat.le_succ_of_le (le_succ _)) l1))
  .obtain⟨v,hv⟩:=ltc x c h2;rw[aJ (Nat.ne_of_lt hv.lt)];exact(I.freeC x c (iq h2)).imp (λz=>z) λq=>⟨eq_false_iff.mpr λe=>Nat.lt_irrefl _ (Nat.lt_of_lt_of_le hv.lt ((qQ cs I hf hlt (le_succ _)).cab x c e h)),q.2⟩
 .exact I.hok.laid old (Nat.le_refl _) ⟨zero_le _,[],_,.nil,hD⟩
 .show(qV caps tn.length Y).length=N.length;rw[cs.eN];simp[qV]
end
end L2
namespace PR
open PySem PySem.Spec L2
section
def Fl.N_:Fl->Fl
 |.own|.lnt=>.bor
 |f=>f
def PV.N_(x:PV):PV:=x.Oe Fl.N_
def x_(hB:∀a,B a->B' a)(hL:∀a,L a->B' a):Mp T Fl.N_ (λ_=>false) (λ_=>[]) B' F B L H F B' L' H:=
 ⟨λf a vs _ c h=>by
  cases f with
  |own=>exact⟨c rfl,.inl h⟩
  |bor=>exact⟨hB a h.1,h.2⟩
  |lnt=>exact⟨hL a h.1,.inl h.2⟩
  | _=>exact h,λf a _ c h=>⟨by
  cases f with
  |own=>exact c rfl
  |bor=>exact hB a h
  |lnt=>exact hL a h
  |_=>exact h,λ_ q=>q⟩,λf a x y h=>by cases f<;>exact⟨rfl,rfl⟩,rfl,λ_ _=>rfl,λ_ _ q _=>q⟩
def Rel.N_(hB:∀a,B a->B' a)(hL:∀a,L a->B' a)(hp:∀a∈fo,B' a)(h:Rel T F B L H x v fo):Rel T F B' L' H (x.Oe Fl.N_) v []:=(x_ hB hL).rel (oq x) hp h
mutual
def jW:∀x:PV,(x.Oe Fl.N_).has Fl.Oa=false
 |.non|.bl _|.int _|.str _=>rfl
 |.lst f xs=>by simp only[PV.Oe,PV.has,borrow_ownL xs,Bool.or_false];cases f<;>rfl
 |.tup xs=>by simp only[PV.Oe,PV.has,borrow_ownL xs]
 |.obj f c ks xs=>by simp only[PV.Oe,PV.has,borrow_ownL xs,Bool.or_false];cases f<;>rfl
 |.exc _=>rfl
 |.box k xs=>by simp only[PV.Oe,PV.has,borrow_ownL xs]
def borrow_ownL:∀xs:N5,hasL Fl.Oa (mapL Fl.N_ xs)=false
 | []=>rfl
 |x::xs=>by simp only[mapL,hasL,jW x,borrow_ownL xs,Bool.or_false]
end
def ItC(T:Tb)(F B L:NV)(H1:Hp)(J:It)(xs:N5):Prop:=
 ∀H2,Ext H1 H2->(∀(i:Nat) x,xs[i]?=some x->J.go i H2/\∀v H3,J.yld i H2 v H3->Ext H2 H3/\∃f,(∀a∈f,∃o,H1 a=some o)/\Rel T F B L H3 x v f)/\J.stop xs.length H2
def ItC.of0(h:∀H2,Ext H1 H2->(∀(i:Nat) x,xs[i]?=some x->J.go i H2/\∀v H3,J.yld i H2 v H3->H3=H2/\∃f,Rel T F B L H1 x v f)/\J.stop xs.length H2):ItC T F B L H1 J xs:=λH2 hk=>by obtain⟨a,b⟩:=h H2 hk;refine⟨λi x e=>⟨(a i x e).1,λv H3 hy=>?_⟩,b⟩;obtain⟨rfl,f,r⟩:=(a i x e).2 v H3 hy;exact⟨Ext.refl,f,λa ha=>r.there a ha,r.ext hk λ_ h=>h⟩
def GIc(T:Tb)(W:Nat->St->N4)(B F L:NV)(Y:St)(H:Hp)(R:It->N4):Res (N5)->Prop
 |.ok xs=>∀J H1 F1,Gr F H F1 H1->ItC T F1 B L H1 J xs->R J H1
 |.exc c=>∀H',Ext H H'->W c Y H'
 |.stuck=>False
def tIc(T:Tb)(W:Nat->St->N4)(m:MI):TI:=λY H R=>∃Z F env fp,aC T Z F H Y env fp/\GIc T W Z.B F (Own fp) Y H R (m env)
abbrev SIc(X:Cx)(T:Tb)(W:Nat->St->N4)(tg iter:Expr)(m:MI):Prop:=PI X tg iter (tIc T W m)
def bE(m:ME):MI:=λenv=>(m env).bind λx=>match aY x with
 |some xs=>.ok xs
 |none=>.stuck
section
variable{X:Cx}{T:Tb}{W:Nat->St->N4}{Z:Zn}{F F1 B L:NV}{H H1:Hp}{Y:St}{env:En}{fp:Nat->NZ}{D:Ends}
def bt(hK:X.K=T.K)(he:SE X T W e m):SIc X T W tg e (bE m):=λNP s Y H R I h=>zK he NP s Y H R I (by
 obtain⟨Z,F,env,fp,S,q⟩:=h;unfold bE at q;walk_at "a";simp at q;cases es:aY x with
 |none=>rw[es]at q;exact q.elim
 |some xs=>
  rw[es]at q;obtain⟨a,vs,f',rfl,hs,hr,_⟩:=r1.seq es;refine⟨a,rfl,?_⟩;rw[hK];rcases hs with hs|hs
  .refine .inl ⟨vs,hs,q _ H1 F1 g1 (ItC.of0 λH2 hx=>?_)⟩;have h2:SqL T.K H2 a vs:=by
    rcases hs with z|z
    .exact .inl (Rd.tr (λo q=>hx a o q) z)
    .exact .inr z
   refine⟨λi x ex=>?_,⟨vs,h2,by rw[hr.length];exact Nat.le_refl _⟩⟩;obtain⟨v,f,ev,rv,_⟩:=hr.get ex;refine⟨⟨vs,v,h2,ev⟩,λw H3 hy=>⟨hy.1,f,?_⟩⟩;have:=hy.2 vs h2;rw[ev]at this;cases this;exact rv
  .refine .inr ⟨vs,hs,q _ H1 F1 g1 (ItC.of0 λH2 hx=>?_)⟩;have h2:SqT T.K H2 a vs:=SqT.tr (λo q _=>hx a o q) hs;refine⟨λi x ex=>?_,⟨vs,h2,by rw[hr.length];exact Nat.le_refl _⟩⟩;obtain⟨v,f,ev,rv,_⟩:=hr.get ex;refine⟨⟨vs,v,h2,ev⟩,λw H3 hy=>⟨hy.1,f,?_⟩⟩;have:=hy.2 vs h2;rw[ev]at this;cases this;exact rv)
def DP:ItC T F1 B L H1 (Itr lo n) (eT lo n):=by
 apply ItC.of0;intro H2 _;refine⟨λi x ex=>?_,by simp[eT,Itr]⟩;have hi:i<n:=by have:=(List.getElem?_eq_some_iff.mp ex).1;simpa[eT]using this
 refine⟨hi,λv H3 hy=>⟨hy.1,[],?_⟩⟩;obtain⟨_,rfl⟩:=hy;have:x=.int (lo+(i:Nat)):=by simp[eT,hi]at ex;exact ex.symm
 subst this;exact eK
def bW(hg:Gl X "range")(hm:X.mg "range" = none)(ha:SA X T W [a] ms)(hs:starEach [a] X.env=[(false,eval a X.env)]:=by rfl):SIc X T W tg (.Call (.Name "range" p) [a] [] pos) (b9 ms):=λNP s Y H R I h=>pB hg hm ha hs NP s Y H R I (by
 obtain⟨Z,F,env,fp,S,q⟩:=h;unfold b9 at q;refine tA.bq S λxs vs H1 F1 f1 e1 g1 r1 n1 d1 w1=>?_;rw[e1]at q;simp at q;split at q
 .rename_i n
  split at q
  .rename_i hc
   obtain⟨v,rfl,r2⟩:=r1.one;obtain⟨rfl,_⟩:=r2;have hc':-(2 ^ 62)<= n/\n<2 ^ 62:=by simpa[inR]using hc
   exact⟨n,rfl,hc'.1,hc'.2,q _ H1 F1 g1 DP⟩
  .exact q.elim
 .exact q.elim)
abbrev WF:Nat->St->N4:=λ_ _ _=>False
def STs(X:Cx)(T:Tb)(W:Nat->St->N4)(ifs:List Expr)(m:MT):Prop:=
 ∀(NP:NU) (s:Shared) (Y:St) (H:Hp) (Q:Bool->N4),L2.Inv X NP Y H s->tT T W m Y H Q ->
  wpAny (model X.prog X.w) X.A (forIn ifs true λc r=>if r=true then do let ok <- isTrue c X.env (eval c X.env);pure (ForInStep.yield ok)else pure (ForInStep.yield r)) (TP X NP Y Q) X.xe s
def bD:MT:=λ_=>.ok true
def br:STs X T W [] bD:=λNP s Y H Q I z=>by obtain⟨Z,F,env,fp,S,q⟩:=z;exact wpAny_tests_nil ⟨H,I,q H F (Gr.refl S.hp.ft)⟩
def cE(h:ST X T W c m):STs X T W [c] m:=λNP s Y H Q I q=>wpAny_tests_one (h NP s Y H Q I q)
structure iQ(g:TgM)(k:Nat):Prop where
 keep:∀x env e',g x env=some e'->e'.length=env.length/\∀j<k,e'[j]?=env[j]?
 own:∀x env e',g x env=some e'->x.has Fl.Oa=false->∀(j:Nat) pv,e'[j]?=some (some pv)->env[j]?=some (some pv)\/ pv.has Fl.Oa=false
structure m4(g:vy)(k:Nat):Prop where
 keep:∀x env e',g x env=some e'->e'.length=env.length/\∀j<k,e'[j]?=env[j]?
 own:∀x env e',g x env=some e'->hasL Fl.Oa x=false->∀(j:Nat) pv,e'[j]?=some (some pv)->env[j]?=some (some pv)\/ pv.has Fl.Oa=false
theorem yX(h:k<=i):iQ (tgN i) k:=by
 refine⟨λx env e' e=>?_,λx env e' e hx j pv hj=>?_⟩
 .unfold tgN at e;split at e
  .cases e;exact⟨by simp,λj hj=>getElem?_set_ne ()⟩
  .cases e
 .unfold tgN at e;split at e
  .cases e;by_cases hij:i=j
   .subst hij;have hl:i<env.length:=by have:=(List.getElem?_eq_some_iff.mp hj).1;simpa using this
    rw[getElem?_set_self hl]at hj;cases hj;exact .inr hx
   .simp_all
  .cases e
def j5:m4 j8 k:=by
 refine⟨λx env e' e=>?_,λx env e' e _ j pv hj=>?_⟩
 .cases x with
  |nil=>cases e;exact⟨rfl,λ_ _=>rfl⟩
  |cons _ _=>cases e
 .cases x with
  |nil=>cases e;exact .inl hj
  |cons _ _=>cases e
def dW(h1:iQ g k)(h2:m4 u k):m4 (cF g u) k:=by
 refine⟨λx env e' e=>?_,λx env e' e hx j pv hj=>?_⟩
 .cases x with
  |nil=>cases e
  |cons y ys=>
   simp only[cF]at e;cases e1:g y env with
   |none=>rw[e1]at e;cases e
   |some e2=>rw[e1]at e;obtain⟨l1,k1⟩:=h1.keep y env e2 e1;obtain⟨l2,k2⟩:=h2.keep ys e2 e' e;exact⟨l2.trans l1,λj hj=>(k2 j hj).trans (k1 j hj)⟩
 .cases x with
  |nil=>cases e
  |cons y ys=>
   simp only[hasL,or_eq_false_iff]at hx;simp only[cF]at e;cases e1:g y env with
   |none=>rw[e1]at e;cases e
   |some e2=>
    rw[e1]at e;rcases h2.own ys e2 e' e hx.2 j pv hj with z|z
    .exact h1.own y env e2 e1 hx.1 j pv z
    .exact .inr z
def mM(h:m4 u k):iQ (tgT n u) k:=by
 refine⟨λx env e' e=>?_,λx env e' e hx j pv hj=>?_⟩
 .cases x with
  |tup xs=>
   simp only[tgT]at e;split at e
   .exact h.keep xs env e' e
   .cases e
  |_=>cases e
 .cases x with
  |tup xs=>
   simp only[tgT]at e;split at e
   .exact h.own xs env e' e hx j pv hj
   .cases e
  |_=>cases e
def bU(caps:List Nat)(k:Nat)(env:En):En:=caps.map (λi=>((env[i]?).join).map PV.N_)++ replicate k none
def eQ(g:TgM)(mc:MT)(me:ME)(env:En):N5->Res (N5)
 | []=>.ok []
 |x::xs=>match g x.N_ env with
  |none=>.stuck
  |some e=>(mc e).bind λb=>if b then(me e).bind λy=>if y.has Fl.Oc||y.has Fl.Ob then .stuck else(eQ g mc me env xs).bind λys=>.ok (y::ys)else eQ g mc me env xs
def aV(caps:List Nat)(k:Nat)(mi:MI)(g:TgM)(mc:MT)(me:ME):ME:=λenv=>(mi env).bind λxs=>if xs.length <= 10000000 then (match eQ g mc me (bU caps k env) xs with
 |.ok ys=>.ok (.lst .own ys)
 |_=>.stuck)else .stuck
end
section
variable{prog:Program}{w:World}{A:Around}{R:Result->Shared->Prop}{s:Shared}
def qR(I:Nat->Shared->Prop)
  (turn:∀ n s,I n s->wpAny (model prog w) A (pyNext it) (λr s₁=>match r with
   |none=>R (.ok .next) s₁
   | some v=>wpAny (model prog w) A (letOwnedTupleGo target it v) (λ_ s₁'=>wpAny (model prog w) A (assign target env v) (λ_ s₂=>
     wpAny (model prog w) A (forIn ifs true λc r=>if r=true then do let ok <- isTrue c env (eval c env);pure (ForInStep.yield ok) else pure (ForInStep.yield r)) (λok s₃=>
      if ok=true then wpAny (model prog w) A (eval elt env) (λx s₄=>
       wpAny (model prog w) A (call (.builtin "list.append") [acc,x]) (λ_ s₅=>∃m,m<n/\I m s₅) (notedBy (model prog w) A env λe s'=>R (.error e) s') s₄) (notedBy (model prog w) A env λe s'=>R (.error e) s') s₃
      else ∃m,m<n/\I m s₃) (notedBy (model prog w) A env λe s'=>R (.error e) s') s₂) (notedBy (model prog w) A env λe s'=>R (.error e) s') s₁') (notedBy (model prog w) A env λe s'=>R (.error e) s') s₁) (notedBy (model prog w) A env λe s'=>R (.error e) s') s)
  (n:Nat) (h:I n s) :
  codeAny (model prog w) A (.compLoop (.ListComp elt [⟨target,iter,ifs,0⟩] scope pos) 0 it acc env) R s:=by
 refine codeAny_loop rfl I (λn s hI=>?_) n h;refine wpAny_noted ?_;rw[compTurn_list];refine wpAny_bind (wpAny_standAt (wpAny_bind (wpAny_mono (turn n s hI) (λr s₁ h₁=>?_) λ_ _ h'=>h')));cases r with
 |none=>exact wpAny_pure h₁
 |some v=>
  refine wpAny_bind (wpAny_mono h₁ (λ_ s₁' h₁'=>?_) λ_ _ h'=>h');refine wpAny_bind (wpAny_mono h₁' (λ_ s₂ h₂=>wpAny_bind (wpAny_mono h₂ (λok s₃ h₃=>?_) λ_ _ h'=>h')) λ_ _ h'=>h');cases ok with
  |false=>exact wpAny_pure ⟨rfl,h₃⟩
  |true=>exact wpAny_bind (wpAny_bind (wpAny_mono h₃ (λx s₄ h₄=>wpAny_bind (wpAny_mono h₄ (λ_ s₅ h₅=>wpAny_pure (wpAny_pure ⟨rfl,h₅⟩)) λ_ _ h'=>h')) λ_ _ h'=>h'))
end
end
section
section
variable{X:Cx}{T:Tb}{W:Nat->St->N4}{Z:Zn}{F F1 B L:NV}{H H1:Hp}{Y:St}{env:En}{fp:Nat->NZ}{D:Ends}
theorem aC.wk(S:aC T Z F H Y env fp)(hpin:Z.pin=none)(hl:e2.length=env.length)(h:∀(i:Nat) pv,e2[i]?=some (some pv)->env[i]?=some (some pv)):aC T Z F H Y e2 fp:=
 ⟨S.hp,S.len.trans hl.symm,λi pv e=>S.rel i pv (h i pv e),S.nd,S.dj,S.dis,S.new,S.ch,λv hv=>by lia⟩
def aC.Of(S:aC T Z F H Y env fp)(h:∀(i:Nat) pv,env[i]?=some (some pv)->pv.has Fl.Oa=false):aC T Z F H Y env (λ_=>[]):=
 ⟨S.hp,S.len,λi pv e=>by
  obtain⟨v,h1,h2⟩:=S.rel i pv e;have:=Rel.Of (h i pv e) h2;rw[this]at h2;exact⟨v,h1,h2⟩,λ_=>nodup_nil,λ_ _ _ _ z=>(nomatch z),λ_ _ z=>(nomatch z),λ_ _ z=>(nomatch z),λ_ _ z=>(nomatch z),S.pn⟩
theorem aC.updD(S:aC T Z F H Y env (λ_=>[]))(hF:¬F Dd)(h0:Z.H0 Dd=none)(hD:H Dd=some o)(hfx:¬ii o):aC T Z F (upd H Dd o') Y env (λ_=>[]):=by
 have ne:∀a u,H a=some u->(F a\/Z.B a\/NoL a\/ii u)->a≠Dd:=(by grind[cD,aC,ce,Gr])
 refine⟨⟨S.hp.bo,λa u e n=>?_,S.hp.f0,S.hp.fn,λa h=>?_⟩,S.len,λi pv e=>?_,S.nd,S.dj,λ_ _ z=>(nomatch z),S.new,λ_ _ z=>(nomatch z),S.pn⟩
 .have:a≠Dd:=λz=>by rw[z,h0]at e;cases e
  rw[aJ this];exact S.hp.keep a u e n
 .obtain⟨u,e⟩:=S.hp.ft a h;exact⟨u,by rw[aJ (show a≠Dd from λz=>hF ())];exact e⟩
 .obtain⟨v,h1,h2⟩:=S.rel i pv e;refine⟨v,h1,Rel.tr (λ_ h=>h) (λ_ h=>h) (λ_ h=>h) (λa u q h=>?_) (λ_ z=>(nomatch z)) h2⟩;rw[aJ (ne a u q h)];exact q
def zC(F:NV)(H:Hp):Zn:=⟨H,F,λ_=>False,λa=>∃o,H a=some o,none⟩
def yE(S:aC T Z F H Y env fp)(hD:H Dd=none)(hFD:¬F Dd) :
  aC T (zC F H) F (upd H Dd (.lst [])) (qV caps k Y) (bU caps k env) (λ_=>[]):=by
 have ext:Ext H (upd H Dd (.lst [])):=Ext.upd hD;refine⟨⟨⟨λa h=>⟨h,λz=>z⟩,S.tbo Ext.refl λ_ z=>False.elim z⟩,λa o h _=>ext a o h,λ_ h=>h,λ_ h=>.inl h,λa h=>let⟨o,e⟩:=S.hp.ft a h;⟨o,ext a o e⟩⟩,by simp[qV,bU],λi pv e=>?_,λ_=>nodup_nil,λ_ _ _ _ z=>(nomatch z),λ_ _ z=>(nomatch z),λ_ _ z=>(nomatch z),λ_ _ z=>(nomatch z),λ_ h=>(nomatch h)⟩;unfold bU at e;unfold qV;by_cases hi:i<caps.length
 .rw[getElem?_append_left (by simpa using hi),getElem?_map]at e ⊢;obtain⟨j,hj,e2⟩:=map_eq_some_iff.mp e;rw[hj];obtain⟨pv0,e3,rfl⟩:=map_eq_some_iff.mp e2;have e4:env[j]?=some (some pv0):=by
   cases e5:env[j]? with
   |none=>rw[e5]at e3;cases e3
   |some w=>rw[e5]at e3;simp at e3;rw[e3]
  obtain⟨v,h1,h2⟩:=S.rel j pv0 e4;refine⟨v,by simp[h1],?_⟩;refine Rel.N_ (L:=NoL) (λ_ h=>h) (λ_ h=>h.elim) (λa ha=>(S.dis j a ha).2) ?_;exact Rel.tr (λ_ h=>h) (λa h=>let⟨⟨o,h1⟩,h2⟩:=S.hp.bo.1 a h;⟨o,S.hp.keep a o h1 h2⟩) (λ_ h=>h) (λa o q _=>ext a o q) (λa _ o q=>ext a o q) h2
 .rw[getElem?_append_right (by simpa using hi),getElem?_replicate]at e;split at e<;>cases e
set_option maxHeartbeats 1000000 in
theorem pV
  (cs:eZ X scope caps N tn) (hc:X.calm=true) (hi:SIc X T W tg iter mi) (hk:iQ g caps.length)
  (hb:∀C s H ex,SG (cxC X scope C N s H ex) T tg g/\STs (cxC X scope C N s H ex) T WF ifs mc/\SE (cxC X scope C N s H ex) T WF elt me)
  (hs:∀x,foldedSetIterable iter X.env x=pure x) (I:L2.Inv X NP Y H s) (h:tE T W (aV caps tn.length mi g mc me) Y H Q)
  (hfin:∀(Dd C:Addr) (H':Hp) (s6:Shared) (m:NS),Q (.ref Dd) H'->L2.Inv X NP Y H' s6->s6.heap.Ns C m->H' C=none->C≠X.env.locals->C∉X.fs->X.s₀.heap.objs.size<=C->(∀x c,X.env.cells.lookup x=some c->c≠C)->(∀p∈X.pn++NP,p.1≠C)->compPost (model X.prog X.w) X.A X.xe use Q' (.ref Dd) C (.ok .next) s6) :
  wpAny (model X.prog X.w) X.A (comprehension (.ListComp elt [⟨tg,iter,ifs,0⟩] scope pos) scope X.env p' (newList []) false (eval iter X.env) use) Q' X.xe s:=by
 obtain⟨Z,F,env,fp,S,q⟩:=h;unfold aV at q;refine wpAny_comprehension_free rfl hs (oS λy hy hf=>I.ok.has y.1 (cs.free y hy hf)) cs.kind cs.names ?_;refine thn (hi NP s Y H (λJ H1=>∃F1 xs,mi env=.ok xs/\Gr F H F1 H1/\ItC T F1 Z.B (Own fp) H1 J xs) I ⟨Z,F,env,fp,S,?_⟩) λxv s1 h1=>thn h1 λitv s2 h2=>?_
 .cases em:mi env with
  |ok xs=>exact λJ H1 F1 g1 it=>⟨F1,xs,rfl,g1,it⟩
  |exc c|stuck=>rw[em]at q;exact q
 obtain⟨it,fpi,tn_,J,H2,rfl,I2,Tn,st2,f2,F1,xs,em,g1,itc⟩:=h2;rw[em]at q;simp at q;split at q
 case isFalse=>exact q.elim
 cases ec:eQ g mc me (bU caps tn.length env) xs with
 |exc c|stuck=>rw[ec]at q;exact q.elim
 |ok full=>
 rw[ec]at q;have S2:=S.grow g1;have hlt:∀b∈fpi,b<s2.heap.objs.size:=λb hb=>by obtain⟨o,ho,_⟩:=Tn.obj 0 _ st2 b hb;exact lt_size ho
 refine PySem.wpAny_newObj_type (sJ λh₁ hns₁ hsb₁ hcl₁=>?_);generalize hH2:s2.heap.push {cls:=.type "list",dict:=none,data:=.seq ([]:NY).toArray}=P2 at hns₁ hsb₁ hcl₁ ⊢;have hC:P2.objs.size=s2.heap.objs.size+1:=by rw[<- hH2,size_push]
 have old:∀b o,s2.heap.get? b=some o->h₁.get? b=some o:=λb o e=>hsb₁ b o (hH2▸get?_push_of_some _ e);have hDo:h₁.get? s2.heap.objs.size=some {cls:=.type "list",data:=.seq ([]:NY).toArray}:=hsb₁ _ _ (hH2▸get?_push_size _ rfl);rw[hC]at hns₁ hcl₁;have inv0:=AX (t:=s2.toks) cs I2 f2 hlt hns₁ hDo old hcl₁;have hDH:H2 s2.heap.objs.size=none:=I2.hok.fresh (Nat.le_refl _);have hDF:¬F1 s2.heap.objs.size:=λz=>by obtain⟨o,e⟩:=g1.dom _ z;rw[hDH]at e;cases e
 have SB:=yE (caps:=caps) (k:=tn.length) S2 hDH hDF;obtain⟨hgN,hts,hel⟩:=hb (s2.heap.objs.size+1) s2 H2 fpi;have never:∀{α:Type}{t:Sem α}{Qa:α->Shared->Prop}{E':NR}{s':Shared},wpAny (model X.prog X.w) X.A t Qa (λ_ _=>False) s'->wpAny (model X.prog X.w) X.A t Qa E' s':=λh=>wpAny_mono h (λ_ _ x=>x) λ_ _ z=>z.elim;have fpok:∀{H':Hp}{pins':NU},(∀p∈pins',p.1∉fpi)->(∀b∈fpi,H' b=none)->∀b∈fpi,oK (cxC X scope (s2.heap.objs.size+1) N s2 H2 fpi) pins' H' b:=λ{H' pins'} hp hn b hb=>by
  refine⟨hn b hb,Nat.ne_of_lt (Nat.lt_succ_of_lt (hlt b hb)),(qQ cs I2 f2 hlt (le_succ _)).exfs b hb,.inl hb,((qQ cs I2 f2 hlt (le_succ _)).exf b hb).2,λp hp' z=>?_⟩;rcases mem_append.mp hp' with w|w
  .exact absurd (show p ∈([]:NU)from w) ()
  .exact hp p w (z▸hb)
 have key:∀s4:Shared,L2.Inv (cxC X scope (s2.heap.objs.size+1) N s2 H2 fpi) [] (qV caps tn.length Y) (upd H2 s2.heap.objs.size (.lst [])) s4->tn_ 0 s4.heap ->
   codeAny (model X.prog X.w) X.A (.compLoop (.ListComp elt [⟨tg,iter,ifs,0⟩] scope pos) 0 (.ref it) (.ref s2.heap.objs.size) (compEnvC scope (ub X scope (s2.heap.objs.size+1)) (s2.heap.objs.size+1) X.env))
    (compPost (model X.prog X.w) X.A X.xe use Q' (.ref s2.heap.objs.size) (s2.heap.objs.size+1)) s4:=by
  intro s4 inv4 st4;refine qR (λn s'=>∃ (i:Nat) (σ':St) (H':Hp) (Fi:NV) (ys zs:N5) (vs:N3) (f:NZ),n=xs.length - i/\i <= xs.length/\L2.Inv (cxC X scope (s2.heap.objs.size+1) N s2 H2 fpi) [] σ' H' s'/\tn_ i s'.heap/\(∀ b ∈ fpi,H' b=none) /\
   aC T (zC F1 H2) Fi H' σ' (bU caps tn.length env) (λ_=>[])/\H' s2.heap.objs.size=some (.lst vs)/\RelL T Fi Z.B (Own fp) H' ys vs f/\f.Nodup/\(∀a∈f,¬Fi a/\H2 a=none/\a≠s2.heap.objs.size)/\¬Fi s2.heap.objs.size/\ys.length<=i /\
   eQ g mc me (bU caps tn.length env) (xs.drop i)=.ok zs/\full=ys++zs) ?_ xs.length ?_
  case refine_2=>
   refine⟨0,_,_,F1,[],full,[],[],by simp,zero_le _,inv4,st4,λb hb=>?_,SB,bp,by exact⟨rfl,rfl⟩,nodup_nil,λ_ z=>(nomatch z),hDF,zero_le _,ec,rfl⟩;rw[aJ (Nat.ne_of_lt (hlt b hb))];exact(f2 b hb).1
  rintro n s5 ⟨i,σ',H',Fi,ys,zs,vs,f,rfl,hil,inv5,st5,fr5,SI5,hD5,ry,nd5,nf5,nFD,hyl,ecl,efull⟩;have ext5:Ext H2 H':=λa o e=>SI5.hp.keep a o e λz=>z;have gr5:Gr F1 H2 Fi H':=⟨ext5,SI5.hp.f0,λa h=>by
   rcases SI5.hp.fn a h with z|z|z
   .exact .inl z
   .exact .inr z
   .exact z.elim,SI5.hp.ft⟩
  obtain⟨go,stop⟩:=itc H' ext5;by_cases hlt5:i<xs.length
  .have hx:xs[i]?=some xs[i]:=by simp
   obtain⟨g5,yl⟩:=go i _ hx;rw[drop_eq_getElem_cons hlt5]at ecl;unfold eQ at ecl;cases eg:g xs[i].N_ (bU caps tn.length env)with
   |none=>rw[eg]at ecl;cases ecl
   |some e'=>
   rw[eg]at ecl;dsimp only at ecl;refine thn (Tn.item (cxC X scope (s2.heap.objs.size+1) N s2 H2 fpi) rfl rfl rfl hc i [] s5 σ' H' _ inv5 (fpok (λ_ z=>absurd z ()) fr5) st5 g5) λr s6 hz1=>?_;obtain⟨u,hr,h6⟩:=hz1;subst hr;refine thn h6 λ_ s7 hz1=>?_;obtain⟨v,H7,inv7,rv,yy,st7,fr7⟩:=hz1;obtain⟨ex7,fx,tx,rx⟩:=yl v H7 yy
   replace SI5:=SI5.grow (Gr.same SI5.hp.ft ex7)
   replace ry:=ry.ext ex7 λ_ h=>h
   replace hD5:=ex7 _ _ hD5
   replace gr5:=gr5.trans (Gr.same gr5.dom ex7)
   replace ext5:=gr5.ext
   have pinv:=inv7.pinned (fpok (λ_ z=>absurd z ()) fr7) (Tn.obj _ _ st7);have rxb:Rel T Fi (zC F1 H2).B NoL H7 xs[i].N_ v []:=by refine Rel.N_ (L:=Own fp) (λ_ h=>h) (λa ⟨j,hj⟩=>(S2.dis j a hj).2) (λa ha=>tx a ha) ?_;exact Rel.tr SI5.hp.f0 (λa h=>let⟨⟨o,h1⟩,h2⟩:=S2.hp.bo.1 a h;⟨o,S2.hp.keep a o h1 h2⟩) (λ_ h=>h) (λa o q _=>q) (λa _ o q=>q) rx
   refine never (thn (hgN _ s7 σ' H7 v u (λσ8 H8=>H8=H7/\∃fp8,aC T (zC F1 H2) Fi H7 σ8 e' fp8) pinv rv ⟨zC F1 H2,Fi,bU caps tn.length env,λ_=>[],xs[i].N_,[],SI5,rxb,yN.nil,?_⟩) λ_ s8 zz=>?_)
   .rw[eg];exact λσ8 fp8 S8=>⟨rfl,fp8,S8⟩
   obtain⟨σ8,H8,inv8,e8,fp8,S8⟩:=zz;subst e8;obtain⟨kl,kk⟩:=hk.keep _ _ _ eg;have capOwn:∀(j:Nat) pv,(bU caps tn.length env)[j]?=some (some pv)->pv.has Fl.Oa=false:=λj pv ej=>by
    unfold bU at ej;by_cases hj:j<caps.length
    .rw[getElem?_append_left (by simpa using hj),getElem?_map]at ej;obtain⟨jj,_,e2⟩:=map_eq_some_iff.mp ej;obtain⟨pv0,_,rfl⟩:=map_eq_some_iff.mp e2;exact jW pv0
    .rw[getElem?_append_right (by simpa using hj),getElem?_replicate]at ej;split at ej<;>cases ej
   have S8':aC T (zC F1 H2) Fi H8 σ8 e' (λ_=>[]):=S8.Of λj pv ej=>by
    rcases hk.own _ _ _ eg (jW _) j pv ej with z|z
    .exact capOwn j pv z
    .exact z
   have back:∀{F9:NV}{H9:Hp},aC T (zC F1 H2) F9 H9 σ8 e' (λ_=>[])->aC T (zC F1 H2) F9 H9 σ8 (bU caps tn.length env) (λ_=>[]):=λS9=>S9.wk rfl kl.symm λj pv ej=>by
    have hj:j<caps.length:=by
     by_cases hj:j<caps.length
     .exact hj
     .unfold bU at ej;rw[getElem?_append_right (by simpa using hj),getElem?_replicate]at ej;split at ej<;>cases ej
    rw[kk j hj];exact ej
   have pinback:∀{H9:Hp}{s9:Shared},L2.Inv (cxC X scope (s2.heap.objs.size+1) N s2 H2 fpi) ([]++ nK fpi s7.heap) σ8 H9 s9->L2.Inv (cxC X scope (s2.heap.objs.size+1) N s2 H2 fpi) [] σ8 H9 s9/\tn_ (i+1) s9.heap/\∀b∈fpi,H9 b=none:=λ{H9 s9} i9=>
    ⟨i9.unpinned,Tn.keep _ _ _ st7 λb hb o e=>(i9.pin (b,o) (mem_append_right _ (mem_append_right _ (iK hb e)))).1,λb hb=>by
     obtain⟨o,e,_⟩:=Tn.obj _ _ st7 b hb;exact(i9.pin (b,o) (mem_append_right _ (mem_append_right _ (iK hb e)))).2.1⟩
   cases emc:mc e' with
   |exc c|stuck=>rw[emc]at ecl;cases ecl
   |ok bb=>
   rw[emc]at ecl;simp only[Res.Og]at ecl;refine never (thn (hts _ s8 σ8 H8 (λb H9=>b=bb/\∃F9,Gr Fi H8 F9 H9) inv8 ⟨zC F1 H2,Fi,e',λ_=>[],S8',?_⟩) λok s9 zz=>?_)
   .rw[emc];exact λH9 F9 g9=>⟨rfl,F9,g9⟩
   obtain⟨H9,inv9,eb,F9,g9⟩:=zz;subst eb;have S9:=S8'.grow g9;have ry9:=ry.ext g9.ext g9.mono;have nf9:∀a∈f,¬F9 a:=λa ha z=>by
    rcases g9.only a z with z|z
    .exact(nf5 a ha).1 z
    .obtain⟨o,e⟩:=ry.there a ha;rw[e]at z;cases z
   have nFD9:¬F9 s2.heap.objs.size:=λz=>by
    rcases g9.only _ z with z|z
    .exact nFD z
    .rw[hD5]at z;cases z
   cases ok with
   |false=>obtain⟨i10,st10,fr10⟩:=pinback inv9;exact⟨xs.length-(i+1),by lia,i+1,σ8,H9,F9,ys,zs,vs,f,rfl,hlt5,i10,st10,fr10,back S9,g9.ext _ _ hD5,ry9,nd5,λa ha=>⟨nf9 a ha,(nf5 a ha).2⟩,nFD9,by lia,ecl,efull⟩
   |true=>
    simp only[if_true]at ecl ⊢;cases eme:me e' with
    |exc c|stuck=>rw[eme]at ecl;cases ecl
    |ok y=>
    rw[eme]at ecl;simp only[Res.Og]at ecl;split at ecl
    case isTrue=>cases ecl
    rename_i hyb
    simp at hyb;cases ecr:eQ g mc me (bU caps tn.length env) (xs.drop (i+1))with
    |exc c|stuck=>rw[ecr]at ecl;cases ecl
    |ok zs'=>
    rw[ecr]at ecl;cases ecl;refine never (thn (hel _ s9 σ8 H9 (λv' H10=>∃F10 f10,Gr F9 H9 F10 H10/\Rel T F10 (zC F1 H2).B (Own λ_=>[]) H10 y v' f10/\(∀a∈f10,¬F10 a)/\f10.Nodup/\∀a∈f10,H9 a=none) inv9 ⟨zC F1 H2,F9,e',λ_=>[],S9,?_⟩) λw s10 zz=>?_)
    .rw[eme];exact λv' H10 F10 f10 g10 r10 n10 d10 w10=>⟨F10,f10,g10,r10,n10,d10,w10⟩
    obtain⟨v',H10,inv10,rw10,F10,f10,g10,r10,n10,d10,w10⟩:=zz;have hvl:vs.length<sizeLine:=by
     have h1:=ry.length;have h2:sizeLine=16777216:=sizeLine_eq
     lia
    have hD10:H10 s2.heap.objs.size=some (.lst vs):=g10.ext _ _ (g9.ext _ _ hD5);refine never (thn (lA _ s10 σ8 H10 (.ref s2.heap.objs.size) [v'] (.ref s2.heap.objs.size) [w] (λ_ H11=>H11=upd H10 s2.heap.objs.size (.lst (vs++[v']))) inv10 rfl (.cons rw10 .nil) ⟨s2.heap.objs.size,vs,v',rfl,rfl,hD10,hvl,rfl⟩) λ_ s11 zz=>?_);obtain⟨_,H11,inv11,_,e11⟩:=zz;subst e11;obtain⟨i12,st12,fr12⟩:=pinback inv11;have S10:=S9.grow g10;have nFD10:¬F10 s2.heap.objs.size:=λz=>by
     rcases g10.only _ z with z|z
     .exact nFD9 z
     .rw[g9.ext _ _ hD5]at z;cases z
    have ry10:=ry9.ext g10.ext g10.mono;have ryy:RelL T F10 Z.B (Own fp) (upd H10 s2.heap.objs.size (.lst (vs++[v']))) (ys++[y]) (vs++[v']) (f++f10):=by
     have ry1:Rel T F10 Z.B (Own fp) H10 y v' f10:=Rel.noL hyb.2 (Rel.noB (B':=Z.B) hyb.1 r10);have all:RelL T F10 Z.B (Own fp) H10 (ys++[y]) (vs++[v']) (f++f10):=RelL.append ry10 (by exact⟨v',[],f10,[],rfl,ry1,by exact⟨rfl,rfl⟩,by simp⟩);refine RelL.tr (λ_ h=>h) (λ_ h=>h) (λ_ h=>h) (λa o e h=>?_) (λa ha o e=>?_) all
     .refine(aJ λz=>?_).trans e;subst z;rcases h with h|h|h|h
      .exact nFD10 h
      .obtain⟨⟨o',h1⟩,h2⟩:=S2.hp.bo.1 _ h;rw[S2.hp.keep _ o' h1 h2]at hDH;cases hDH
      .obtain⟨j,hj⟩:=h;obtain⟨_,o',ho'⟩:=S2.dis j _ hj;rw[hDH]at ho';cases ho'
      .rw[hD10]at e;cases e;exact h
     .refine(aJ λz=>?_).trans e;subst z;rcases mem_append.mp ha with ha|ha
      .lia
      .have:=w10 _ ha;rw[g9.ext _ _ hD5]at this;cases this
    have nf10:∀a∈f,¬F10 a:=λa ha z=>by
     rcases g10.only a z with z|z
     .exact nf9 a ha z
     .obtain⟨o,e⟩:=ry9.there a ha;rw[e]at z;cases z
    refine⟨xs.length-(i+1),by lia,i+1,σ8,_,F10,ys++[y],zs',vs++[v'],f++f10,rfl,hlt5,i12,st12,fr12,back (S10.updD nFD10 hDH hD10 (λz=>z)),bp,ryy,?_,λa ha=>?_,nFD10,by simp;lia,ecr,by rw[efull,append_assoc];rfl⟩
    .refine nodup_append.mpr ⟨nd5,d10,λa ha b hb z=>?_⟩;subst z;obtain⟨o,e⟩:=ry9.there a ha;rw[w10 a hb]at e;cases e
    .rcases mem_append.mp ha with ha|ha
     .exact⟨nf10 a ha,(nf5 a ha).2⟩
     .refine⟨n10 a ha,?_,λz=>?_⟩
      .have:=w10 a ha;exact ext5.free (g9.ext.free this)
      .subst z;have:=w10 _ ha;rw[g9.ext _ _ hD5]at this;cases this
  .have e:i=xs.length:=by lia
   subst e;rw[drop_length]at ecl;cases ecl;rw[append_nil]at efull;subst efull;refine thn (Tn.done (cxC X scope (s2.heap.objs.size+1) N s2 H2 fpi) rfl rfl rfl hc xs.length [] s5 σ' H' _ inv5 (fpok (λ_ z=>absurd z ()) fr5) st5 stop) λr s6 hz1=>?_;obtain⟨hr,inv6⟩:=hz1;subst hr;obtain⟨m,hn,_⟩:=id inv6.loc;have hlc:X.env.locals<s2.heap.objs.size+1:=Nat.lt_succ_of_lt I2.lt;have iX:L2.Inv X NP Y H' s6:=I2.call' inv6.os inv6.base inv6.hok inv6.bare λb hb=>⟨(f2 b hb).2.2.2.1,(f2 b hb).2.1,(f2 b hb).2.2.2.2.1,(f2 b hb).2.2.2.2.2⟩
   refine hfin _ (s2.heap.objs.size+1) H' s6 m ?_ iX hn inv6.free (Nat.ne_of_gt hlc) (I2.nofs (le_succ _)) (Nat.le_trans I2.sz (le_succ _)) (λx c e z=>?_) (λp hp z=>?_)
   case refine_2=>
    obtain⟨v,hv⟩:=I2.cell x c e;rw[z]at hv;exact absurd hv.lt (Nat.not_lt.mpr (le_succ _))
   case refine_3=>
    have:=lt_size (I2.pin p hp).1;rw[z]at this;exact absurd this (Nat.not_lt.mpr (le_succ _))
   refine q (.ref s2.heap.objs.size) H' Fi (s2.heap.objs.size::f) (g1.trans gr5) ?_ (λa ha=>?_) ?_ (λa ha=>?_)
   .unfold Rel;exact⟨_,vs,f,rfl,hD5,ry,rfl⟩
   .grind
   .exact nodup_cons.mpr ⟨λz=>(nf5 _ z).2.2 rfl,nd5⟩
   .rcases mem_cons.mp ha with rfl|ha
    .exact g1.ext.free hDH
    .exact g1.ext.free (nf5 a ha).2.1
 have st0:tn_ 0 h₁:=Tn.keep _ _ _ st2 λb _ o e=>old b o e;have lp:=key _ inv0 st0;simp only[hC];exact codeAny_compStart_list lp (Tn.self _ 0 _ _ _ st0 lp)
def CI
  (cs:eZ X scope caps N tn) (hc:X.calm=true) (hi:SIc X T W tg iter mi) (hk:iQ g caps.length)
  (hb:∀C s H ex,SG (cxC X scope C N s H ex) T tg g/\STs (cxC X scope C N s H ex) T WF ifs mc/\SE (cxC X scope C N s H ex) T WF elt me)
  (hs:∀x,foldedSetIterable iter X.env x=pure x:=by intro _;rfl):SE X T W (.ListComp elt [⟨tg,iter,ifs,0⟩] scope pos) (aV caps tn.length mi g mc me):=by
 intro NP s Y H Q I h;refine pV cs hc hi hk hb hs I h λDd C H' s6 m hq iX hn hCn hCl hCf hC0 hCc hCp=>⟨m,hn,λh' hs'=>⟨.ref Dd,H',?_,rfl,hq⟩⟩
 exact iX.turned (t':=s6.toks) (λb o hb e=>(hs'.2 b hb).trans e) hCn hCl (.inr hC0) hCc hCp
def Cp
  (cs:eZ X scope caps N tn) (hc:X.calm=true) (hN:X.N.Nodup) (hy:X.N[i]?=some y) (hx:Loc X.env.scope y) (hi:SIc X T W tg iter mi) (hk:iQ g caps.length)
  (hb:∀C s H ex,SG (cxC X scope C N s H ex) T tg g/\STs (cxC X scope C N s H ex) T WF ifs mc/\SE (cxC X scope C N s H ex) T WF elt me)
  (hsw:swapsWith (.ListComp elt [⟨tg,iter,ifs,0⟩] scope pos) (some (.Name y py)) spos.line X.env=pure true:=by rfl)
  (hs:∀x,foldedSetIterable iter X.env x=pure x:=by intro _;rfl)
  (hf:X.fn y=true\/X.env.scope.names.lookup y=some .local:=by first|exact .inl rfl|exact .inr rfl|assumption) :
  SS X T W (.Assign [.Name y py] (.ListComp elt [⟨tg,iter,ifs,0⟩] scope pos) spos) (aI i (aV caps tn.length mi g mc me)):=by
 intro NP s Y H D I h;obtain⟨Z,F,env,fp,S,q⟩:=h;unfold aI at q;rw[exec_Assign_Name_used _ _ _ _ hsw];refine wpAny_bind (wpAny_standAt (wpAny_bind ?_));refine wpAny_bind (wpAny_mono (pV (Q':=λ_ s'=>SP X NP D .next s') (Q:=λv H1=>D.nx (Y.set i (some v)) H1) cs hc hi hk hb hs I ?_ λDd C H' s6 m hq iX hn hCn hCl hCf hC0 hCc hCp=>?_) (λ_ s' hq=>wpAny_pure (wpAny_pure hq)) λ_ _ e=>e)
 .refine tE.bind S (λc e H' x=>?_) (λe=>by rw[e]at q;exact q) λpv v H1 F1 f e g r h1 h2 h3=>?_
  .rw[e]at q;exact q F H' Y fp (S.grow (Gr.same S.hp.ft x))
  .rw[e]at q;simp only at q;split at q
   .rename_i hl
    rw[and_eq_true]at hl;exact q F1 H1 _ _ (S.putN g hl.2 r hl.1 h1 h2 h3)
   .exact q.elim
 .refine wpAny_assign_Name (o8 (v:=.ref Dd) iX hN hy hx rfl (λs7 i7 ⟨a,hsa,ha⟩=>?_) hf);have hCa:C≠a:=by
   rcases ha with ha|ha
   .rw[ha];exact hCl
   .exact λz=>hCc y a ha z.symm
  refine⟨m,hn.sameBut hsa hCa,λh' hs'=>⟨_,H',?_,hq⟩⟩;exact i7.turned (t':=s7.toks) (λb o hb e=>(hs'.2 b hb).trans e) hCn hCl (.inr hC0) hCc hCp
end
def GFI(T:Tb)(Z:Zn)(v0:V)(Q:VK)(E:XK):N6->Prop
 |.ok pv=>∀F H f,ce T Z F H->Rel T F Z.B NoL H pv v0 f->f.Nodup->(∀a∈f,¬F a)->(∀a∈f,Z.H0 a=none\/Z.fp0 a)->Q .non H
 |.exc c=>∀H,(∀a o,Z.H0 a=some o->¬Z.fp0 a->H a=some o)->E (.ref (T.xcl c)) none H
 |.stuck=>False
def spI(T:Tb)(n:Nat)(m:N5->N6):Sp:=λvs H Q E=>vs.length=n/\∃v0 pvs F B f,vs[0]?=some v0/\yO T F B H pvs vs f/\(∃fl c ks xs,pvs[0]?=some (.obj fl c ks xs))/\GFI T ⟨H,F,(·∈f),B,some v0⟩ v0 Q E (m pvs)
noncomputable def jz(n:Nat)(m:MS)(args:N5):N6:=match m (args.map some++replicate (n-args.length) none)with
 |.next e=>match e[0]? with
  |some (some o)=>.ok o
  |_=>.stuck
 |.exc c _=>.exc c
 |_=>.stuck
section
variable{P:Program}{w:World}{K:PySem.W.Frag}{mg:NS}{base:Heap}{T:Tb}
def Iu(F:Fun K x qual st f fd)(S:fT N ps (aO st))
  (body:∀ (cdv:Value) (A:Around) (outer:List Env) (s:Shared) (H:Hp) (E:XK),eM k (A.deeper (PyProof.Rows.envOfC qual (aO st) s.heap.objs.size f cdv)) ->
   SSs (gA (CXP P w) P w K mg base N qual (aO st) f cdv A outer s H E) T (WD T E) (cA st) m):dA P w K mg base (CXP P w) (k+1) f fd ps (spI T ps.length (jz N.length m)):=by
 obtain⟨oc,od,kV,doc,pm,an,cdv,ct,osl,rfl,lk,hcd⟩:=F.ex;refine E0 lk hcd S (λvs H Q E h=>h.1) λA outer s H vs Q E hr hsp=>⟨_,body cdv A outer s H E hr,?_⟩
 obtain⟨_,v0,pvs,F,B,fl,hv0,R,hob,q⟩:=hsp;obtain⟨fp,S0⟩:=p7 N R (some v0) (λv hv=>by simp_all);refine⟨_,F,_,fp,S0,?_⟩;unfold jz at q;cases e:m (pvs.map some++replicate (N.length-pvs.length) none)with
 |next e'=>
  rw[e]at q;dsimp only at q;intro F' H' σ' fp' S';obtain⟨h1,_⟩:=S'.pn v0 rfl;cases e0:e'[0]? with
  |none=>rw[e0]at q;exact q.elim
  |some o0=>
   cases o0 with
   |none=>rw[e0]at q;exact q.elim
   |some o=>rw[e0]at q;obtain⟨v,h2,r⟩:=S'.rel 0 o e0;rw[h1]at h2;cases h2;exact q F' H' (fp' 0) S'.hp r (S'.nd 0) (λa ha=>(S'.dis 0 a ha).1) (S'.new 0)
 |ret v|brk e'|cont e'=>rw[e]at q;exact q.elim
 |exc c e'=>rw[e]at q;exact λF' H' σ' fp' S'=>q H' S'.hp.keep
 |stuck=>rw[e]at q;exact q.elim
end
section
variable{X:Cx}{T:Tb}{W:Nat->St->N4}{Z:Zn}{F F1 B L:NV}{H H1:Hp}{Y:St}{env:En}{fp:Nat->NZ}{D:Ends}
theorem Ge
  (M:Mk X.K (T.cls c) f) (hcn:c<T.nc) (G:dA X.prog X.w X.K X.mg X.base (CXP X.prog X.w) k f fd ps (spI T ps.length m)) (hr:eM (k+1) X.A) (hb:gJ X.K fd ps ds) (hd:aU dvs ds) (hdp:∀F B L H,RelL T F B L H dps dvs []) (hx:XF X T W)
  (S:aC T Z F H Y env fp) (g:Gr F H F1 H1) (r:RelL T F1 Z.B (Own fp) H1 xs vs fx) (nf:∀a∈fx,¬F1 a) (nd:fx.Nodup) (new:∀a∈fx,H a=none) (q:GE T W Z.B F (Own fp) Y H Q (aG m (.obj .own c [] []::(xs++dps))))
  (I1:L2.Inv X NP Y H1 s1) (rv:aU vs us) (hlen:vs.length+dvs.length+1=ps.length):wpAny (model X.prog X.w) X.A (call (.ref (T.cls c)) us) (EP X NP Y Q) X.xe s1:=by
 have hxn:H1 (s1.heap.objs.size+1)=none:=I1.hok.fresh (le_succ _);have hdn:H1 s1.heap.objs.size=none:=I1.hok.fresh (Nat.le_refl _);have hne:s1.heap.objs.size≠s1.heap.objs.size+1:=Nat.ne_of_lt (Nat.lt_succ_self _);generalize hH2:upd (upd H1 s1.heap.objs.size (.own (s1.heap.objs.size+1))) (s1.heap.objs.size+1) (.ins (T.cls c) s1.heap.objs.size [])=H2;have ext2:Ext H1 H2:=by rw[<- hH2];exact(Ext.upd hdn).trans (Ext.upd (by rw[aJ hne.symm];exact hxn))
 have free2:∀a,H2 a=none->H1 a=none:=λa h=>ext2.free h;have hx2:H2 (s1.heap.objs.size+1)=some (.ins (T.cls c) s1.heap.objs.size []):=by rw[<- hH2];exact bp
 have I2:=L2.Inv.made (C:=T.cls c) I1;rw[hH2]at I2;have r2:aU (V.ref (s1.heap.objs.size+1)::(vs++dvs)) (Value.ref (s1.heap.objs.size+1)::(us++ds)):=.cons rfl (rv.append hd);have hl:(Value.ref (s1.heap.objs.size+1)::us++ds).length=ps.length:=by
  have e:=r2.length;simp at e hlen ⊢
  lia
 have rr:RelL T F1 Z.B (Own fp) H1 (xs++dps) (vs++dvs) fx:=by
  have:=RelL.append r (hdp F1 Z.B (Own fp) H1)
  rwa [append_nil]at this
 have nx:s1.heap.objs.size+1∉fx:=λz=>by obtain⟨o,ho⟩:=r.there _ z;rw[hxn]at ho;cases ho
 have hBo:∀a,Z.B a->(∃o,H2 a=some o)/\a ∉(s1.heap.objs.size+1)::fx:=λa h=>by
  obtain⟨⟨o,h1⟩,h2⟩:=S.hp.bo.1 a h;have h3:=S.hp.keep a o h1 h2;refine⟨⟨o,ext2 a o (g.ext a o h3)⟩,λz=>?_⟩;rcases mem_cons.mp z with z|z
  .rw[z]at h3;rw[g.ext _ _ h3]at hxn;cases hxn
  .simp_all
 have hOw:∀a,Own fp a->(∃o,H2 a=some o)/\a ∉(s1.heap.objs.size+1)::fx:=λa hz1=>by
  obtain⟨i,hi⟩:=hz1;obtain⟨_,o,ho⟩:=S.dis i a hi;refine⟨⟨o,ext2 a o (g.ext a o ho)⟩,λz=>?_⟩;rcases mem_cons.mp z with z|z
  .rw[z]at ho;rw[g.ext _ _ ho]at hxn;cases hxn
  .simp_all
 have nF:¬F1 (s1.heap.objs.size+1):=λz=>by obtain⟨o,ho⟩:=g.dom _ z;rw[hxn]at ho;cases ho
 have R:yO T F1 (λa=>(∃o,H2 a=some o)/\a ∉(s1.heap.objs.size+1)::fx) H2 (.obj .own c [] []::mapL Fl.N8 (xs++dps)) (.ref (s1.heap.objs.size+1)::(vs++dvs)) ((s1.heap.objs.size+1)::fx):=by
  refine⟨?_,nodup_cons.mpr ⟨nx,nd⟩,λa ha=>?_,⟨λa h=>h,S.tbo (g.ext.trans ext2) λa z=>.inl ((mem_cons.mp z).elim (λz=>by rw[z];exact g.ext.free hxn) (new a))⟩,λa h=>let⟨o,ho⟩:=g.dom a h;⟨o,ext2 a o ho⟩⟩
  .unfold RelL;refine⟨_,_,[s1.heap.objs.size+1],fx,rfl,?_,RelL.N8 hBo hOw (rr.ext ext2 λ_ h=>h),rfl⟩;exact⟨_,s1.heap.objs.size,[],[],rfl,by simpa using hx2,⟨rfl,hcn⟩,by exact⟨rfl,rfl⟩,rfl,True.intro⟩
  .rcases mem_cons.mp ha with rfl|ha
   .exact nF
   .exact nf a ha
 have newx:∀a ∈(s1.heap.objs.size+1)::fx,H a=none:=λa ha=>by
  rcases mem_cons.mp ha with rfl|ha
  .exact g.ext.free hxn
  .exact new a ha
 refine wpAny_call (AK I1.kIn M.makes M.init (beq_iff_eq.mp M.fn) (codeAny_mono (G.run _ X.stack _ _ ⟨Value.ref (s1.heap.objs.size+1)::us,[]⟩ (Value.ref (s1.heap.objs.size+1)::(us ++ ds)) _ (λv H3=>v=.non/\Q (.ref (s1.heap.objs.size+1)) H3) (λcls _ H'=>∃ c,cls=.ref (T.xcl c)/\W c Y H') (hr.make (T.cls c) us [])
  (I2.env0.make (T.cls c) us []) (hb _ (Value.ref (s1.heap.objs.size+1)::us) I2.kIn hl) r2 ⟨by rw[r2.length];exact hl,_,_,F1,_,_,rfl,R,⟨.own,c,[],[],rfl⟩,?_⟩) λrs s' hq'=>?_))
 .unfold aG at q;have e0:mapL Fl.N8 (PV.obj .own c [] []::(xs++dps))=.obj .own c [] []::mapL Fl.N8 (xs++dps):=by simp[mapL,PV.Oe,Fl.N8]
  rw[e0]at q;cases e:m (.obj .own c [] []::mapL Fl.N8 (xs++dps))with
  |ok v=>
   rw[e]at q;dsimp only at q;intro F3 H3 f3 hp3 r3 nd3 nf3 new3;refine⟨rfl,?_⟩;by_cases hbr:v.has Fl.Oc=true
   .rw[if_pos hbr]at q;exact q.elim
   .rw[if_neg hbr]at q;have hbr':v.has Fl.Oc=false:=by lia
    refine q _ H3 F3 f3 ⟨λa o h=>hp3.keep a o (ext2 a o (g.ext a o h)) λz=>(by rw[newx a z]at h;cases h),λa h=>hp3.f0 a (g.mono a h),λa h=>?_,hp3.ft⟩ ?_ nf3 nd3 λa ha=>?_
    .rcases hp3.fn a h with z|z|z
     .exact g.only a z
     .exact .inr (g.ext.free (free2 a z))
     .exact .inr (newx a z)
    .exact Rel.tr (λ_ h=>h) (λ_ h=>h) (λ_ h=>h.elim) (λ_ _ h _=>h) (λ_ _ _ h=>h) (Rel.noB (B':=Z.B) hbr' r3)
    .rcases new3 a ha with z|z
     .exact g.ext.free (free2 a z)
     .exact newx a z
  |exc c'=>rw[e]at q;exact λH' h=>⟨c',rfl,q H' λa o z=>h a o (ext2 a o (g.ext a o z)) λz'=>by rw[newx a z']at z;cases z⟩
  |stuck=>rw[e]at q;exact q.elim
 .cases rs with
  |error e=>obtain⟨cls,H',fl,c',rfl,hw⟩:=hq';exact hx NP Y H2 _ c' H' e s' I2 fl hw
  |ok fl=>
   cases fl with
   |ret u=>obtain⟨v,H',I3,rv',ev,q3⟩:=I2.after hq';subst ev;exact⟨rv',⟨V.ref (s1.heap.objs.size+1),H',I3,rfl,q3⟩⟩
   |next|brk|cont=>exact False.elim hq'
def CF
  (M:Mk X.K (T.cls c) f) (hcn:c<T.nc) (G:dA X.prog X.w X.K X.mg X.base (CXP X.prog X.w) k f fd ps (spI T ps.length m)) (hr:eM (k+1) X.A) (hg:Gl X x) (hm:X.mg x=some (.ref (T.cls c))) (hb:gJ X.K fd ps ds) (hd:aU dvs ds) (hdp:∀F B L H,RelL T F B L H dps dvs []) (hx:XF X T W)
  (hn:iZ ms n) (hps:n+dvs.length+1=ps.length) (ha:SA X T W (e::es) ms)
  (hdb:Ndq x:=by decide) (he:starEach (e::es) X.env=(false,eval e X.env)::starEach es X.env:=by rfl) (hpl:(backTo pos (starEach es X.env)).any (·.1)=false:=by rfl) :
  SE X T W (.Call (.Name x p) (e::es) [] pos) (ao (λxs=>aG m (.obj .own c [] []::(xs++dps))) ms):=by
 intro NP s Y H Q I h;obtain⟨Z,F,env,fp,S,q⟩:=h;unfold ao at q;refine wpAny_Call_Name_kw (kH I hg hm ?_ hdb);refine callWith_K I.ok.mod.kin M.kp (thn (ha pos NP s Y H (λvs H1=>∀ us s1,L2.Inv X NP Y H1 s1->aU vs us->wpAny (model X.prog X.w) X.A (call (.ref (T.cls c)) us) (EP X NP Y Q) X.xe s1) I
  (tA.bq S λxs vs H1 F1 f1 e1 g1 r1 n1 d1 w1 us s1 I1 rv=>?_)) λus s1 ⟨vs,H1,I1,r,q1⟩=>⟨I1.kIn,q1 us s1 I1 r⟩) he hpl
 rw[e1]at q;exact Ge M hcn G hr hb hd hdp hx S g1 r1 n1 d1 w1 q I1 rv (by rw[<- r1.length,hn env xs e1];exact hps)
theorem aC.mut(S:aC T Z F H Y env fp)(hi:i<env.length)(hv:Y[i]?=some (some v))(ha:a∈fp i)(r:Rel T F Z.B NoL (upd H a o') pv' v f')(nd:f'.Nodup)(nf:∀b∈f',¬F b)
  (new:∀b∈f',Z.H0 b=none\/Z.fp0 b) (dj:∀b∈f',∀j,j≠i->b∉fp j) (ho:i=0->cR env=true->∃fl c ks xs,pv'=.obj fl c ks xs):aC T Z F (upd H a o') Y (env.set i (some pv')) (cD fp i f'):=by
 obtain⟨oa,hoa,hch⟩:=S.ch i a ha;have nFa:¬F a:=(S.dis i a ha).1;have nBa:¬Z.B a:=λz=>S.bow a z ⟨i,ha⟩;have ne:∀b u,H b=some u->(F b\/Z.B b\/NoL b\/ii u)->b≠a:=λb u e h z=>by
  subst z;rcases h with h|h|h|h
  .exact nFa h
  .exact nBa h
  .exact h
  .rw[hoa]at e;cases e;cases oa with
   |lst _|ins _ _ _=>exact h
   |_=>exact hch
 have nz:∀b u,Z.H0 b=some u->¬Z.fp0 b->b≠a:=(by grind[cD,aC,ce,Gr])
 have nj:∀j,j≠i->∀b∈fp j,b≠a:=λj hj b hb z=>by subst z;exact S.dj j i hj _ hb ha
 refine⟨⟨S.hp.bo,λb u e n=>by rw[aJ (nz b u e n)];exact S.hp.keep b u e n,S.hp.f0,S.hp.fn,λb h=>?_⟩,by rw[length_set,S.len],λj pv e=>?_,λj=>?_,λj k hjk b hb=>?_,λj b hb=>?_,λj b hb=>?_,λj b hb=>?_,λw hw=>?_⟩
 .obtain⟨u,e⟩:=S.hp.ft b h;exact⟨u,by rw[aJ (show b≠a from λz=>nFa ())];exact e⟩
 .by_cases hj:j=i
  .subst hj;rw[getElem?_set_self hi]at e;cases e;refine⟨v,hv,?_⟩;unfold cD;rw[if_pos rfl];exact r
  .rw[getElem?_set_ne (Ne.symm hj)]at e;obtain⟨w,h1,h2⟩:=S.rel j pv e;refine⟨w,h1,?_⟩;unfold cD;rw[if_neg hj];exact Rel.tr (λ_ h=>h) (λ_ h=>h) (λ_ h=>h) (λb u q h=>by rw[aJ (ne b u q h)];exact q) (λb hb u q=>by rw[aJ (nj j hj b hb)];exact q) h2
 .unfold cD;split
  .exact nd
  .exact S.nd j
 .grind[cD,aC,ce,Gr]
 .unfold cD at hb;by_cases h1:j=i
  .rw[if_pos h1]at hb;exact⟨nf b hb,r.there b hb⟩
  .rw[if_neg h1]at hb;obtain⟨n,u,e⟩:=S.dis j b hb;exact⟨n,u,by rw[aJ (nj j h1 b hb)];exact e⟩
 .unfold cD at hb;by_cases h1:j=i
  .rw[if_pos h1]at hb;exact new b hb
  .rw[if_neg h1]at hb;exact S.new j b hb
 .unfold cD at hb;by_cases h1:j=i
  .rw[if_pos h1]at hb;exact r.chg b hb
  .rw[if_neg h1]at hb;obtain⟨u,e,c⟩:=S.ch j b hb;exact⟨u,by rw[aJ (nj j h1 b hb)];exact e,c⟩
 .obtain⟨h1,h2⟩:=S.pn w hw;refine⟨h1,?_⟩;by_cases hi0:i=0
  .obtain⟨fl,c,ks,xs,e⟩:=ho hi0 h2;subst hi0 e;unfold cR;rw[getElem?_set_self hi]
  .unfold cR at h2 ⊢;rw[getElem?_set_ne hi0];exact h2
def ib(i k:Nat)(e:ME):MS:=λenv=>match e env with
 | .ok v=>(match env[i]? with
  |some (some (.obj .own c ks vs))=>if v.Od&&!ks.contains k&&decide (ks.length<900)then .next (env.set i (some (.obj .own c (ks++[k]) (vs++[v]))))else .stuck
  |_=>.stuck)
 |.exc c=>.exc c env
 |.stuck=>.stuck
def se:∀{ks:List Nat}{ws:N3},ks.contains k=false->ks.length=ws.length->iF (T.att k) y ((ks.map T.att).zip ws)=((ks++[k]).map T.att).zip (ws++[y])
 | [],[],_,_=>rfl
 |j::ks,w::ws,h,hl=>by simp only[List.contains_cons,or_eq_false_iff,beq_eq_false_iff_ne]at h;show iF (T.att k) y ((T.att j,w)::(ks.map T.att).zip ws)=(T.att j,w)::((ks++[k]).map T.att).zip (ws++[y]);unfold iF;rw[if_neg (λz=>h.1 (T.inj _ _ z).symm),se h.2 (by simp_all)]
 | [],_::_,_,hl|_::_,[],_,hl=>by simp at hl
theorem FN(hK:X.K=T.K)(hf:T.att k=f)(hc:∀c<T.nc,Cls T.K (T.cls c))(hn:∀c<T.nc,gx T.K (T.cls c) f)(hN:X.N[i]?=some x)(hv:Vis X.env.scope x)(he:SE X T W e m)
  (hs:swapsWith e (some (.Attribute (.Name x px) f pos')) pos.line X.env=pure false:=by rfl) (hd:Ndq x:=by decide) (hcd:Ncq x:=by decide) :
  SS X T W (.Assign [.Attribute (.Name x px) f pos'] e pos) (ib i k m):=PS.wk (Gq (pos':=pos') (eU hN hv hd hcd) he hs) λD Y H hz1=>by
 walk_at "b";unfold ib at q;refine tE.bind S (λc e H' x=>?_) (λe=>by rw[e]at q;exact q) λpv v H1 F1 f1 e g r h1 h2 h3=>?_
 .rw[e]at q;exact q F H' Y fp (S.grow (Gr.same S.hp.ft x))
 .rw[e]at q;dsimp only at q;split at q
  .rename_i c ks vs eo
   split at q
   .rename_i hcnd
    simp only[and_eq_true,Bool.not_eq_true']at hcnd;obtain⟨⟨hln,hkn⟩,hkl⟩:=hcnd;have S1:=S.grow g;obtain⟨vo,ho1,ho2⟩:=S1.rel i _ eo;have ho3:=ho2;obtain⟨a,dx,ws,fp',rfl,hl,hk,hr,hfl,_⟩:=ho3;have hfl':fp i=a::fp':=hfl;have hil:i<env.length:=(List.getElem?_eq_some_iff.mp eo).1;refine⟨_,ho1,a,_,dx,_,rfl,hl,by simp_all,by simp_all,?_,?_⟩
    .have:=hr.length;rw[List.length_zip,length_map]
     lia
    .rw[<- hf,se hkn (by rw[<- hr.length];exact hk.1)];have ha:a∈fp i:=by simp_all
     have nd:(a::fp').Nodup:=by rw[<- hfl'];exact S1.nd i
     have old:∀b∈f1,∀j,b∉fp j:=λb hb j hj=>by obtain⟨_,o,e⟩:=S.dis j b hj;rw[h3 b hb]at e;cases e
     have hrv:Rel T F1 Z.B NoL H1 pv v f1:=Rel.noL (by simpa[PV.Od]using hln) r;have nea:∀b u,H1 b=some u->(F1 b\/Z.B b\/NoL b\/ii u)->b≠a:=λb u e h z=>by
      subst z;rcases h with h|h|h|h
      .exact(S1.dis i _ ha).1 h
      .exact S1.bow _ h ⟨i,ha⟩
      .exact h
      .rw[hl]at e;cases e;exact h
     refine q F1 _ Y _ (S1.mut (f':=a::(fp'++f1)) hil ho1 ha ?_ ?_ (λb hb=>?_) (λb hb=>?_) (λb hb j hj=>?_) λ_ _=>⟨_,_,_,_,rfl⟩)
     .unfold Rel;have hrr:RelL T F1 Z.B NoL H1 (vs++[pv]) (ws++[v]) (fp'++f1):=RelL.append hr (by exact⟨v,[],f1,[],rfl,hrv,by exact⟨rfl,rfl⟩,by simp⟩);refine⟨a,dx,ws++[v],fp'++f1,rfl,bp,⟨by simp[hk.1],hk.2⟩,?_,rfl,True.intro⟩;refine RelL.tr (λ_ h=>h) (λ_ h=>h) (λ_ h=>h) (λb u e h=>by rw[aJ (nea b u e h)];exact e) (λb hb u e=>?_) hrr;refine(aJ λz=>?_).trans e
      grind
     .grind
     .grind[cD,aC,ce,Gr]
     .rcases mem_cons.mp hb with rfl|hb
      .exact S1.new i _ ha
      .rcases mem_append.mp hb with hb|hb
       .exact S1.new i b (by simp_all)
       .exact S.hp.newE h3 b hb
     grind[cD,aC,ce,Gr]
   .exact q.elim
  .exact q.elim
theorem aC.mutL{i:Nat}{xs ys:N5}{ws us:N3}{a:Addr}{v:V}{f' fp':NZ}(S:aC T Z F H Y env fp)(eo:env[i]?=some (some (.lst .own xs)))(hv:Y[i]?=some (some (.ref a)))(hfp:fp i=a::fp')(r:RelL T F Z.B NoL H ys us f')(nd:f'.Nodup)
  (hf:∀b∈f',(b∈fp')\/(¬F b/\(Z.H0 b=none\/Z.fp0 b)/\∀j,b∉fp j)) (hl:H a=some (.lst ws)):aC T Z F (upd H a (.lst us)) Y (env.set i (some (.lst .own ys))) (cD fp i (a::f')):=by
 have ha:a∈fp i:=by simp_all
 have ndi:(a::fp').Nodup:=by rw[<- hfp];exact S.nd i
 have sub:∀b∈fp',b∈fp i:=λb hb=>by simp_all
 have na:∀b∈f',b≠a:=(by grind)
 have hil:i<env.length:=(List.getElem?_eq_some_iff.mp eo).1;have nea:∀b u,H b=some u->(F b\/Z.B b\/NoL b\/ii u)->b≠a:=λb u e h z=>by
  subst z;rcases h with h|h|h|h
  .exact(S.dis i _ ha).1 h
  .exact S.bow _ h ⟨i,ha⟩
  .exact h
  .rw[hl]at e;cases e;exact h
 refine S.mut hil hv ha ?_ (nodup_cons.mpr ⟨λz=>na a z rfl,nd⟩) (λb hb=>?_) (λb hb=>?_) (λb hb j hj=>?_) λh0 h1=>?_
 .unfold Rel;exact⟨a,us,f',rfl,bp,RelL.tr (λ_ h=>h) (λ_ h=>h) (λ_ h=>h) (λb u e h=>by rw[aJ (nea b u e h)];exact e) (λb hb u e=>by rw[aJ (na b hb)];exact e) r,rfl⟩
 .rcases mem_cons.mp hb with rfl|hb
  .exact(S.dis i _ ha).1
  .rcases hf b hb with h|h
   .exact(S.dis i b (sub b h)).1
   .exact h.1
 .grind[cD,aC,ce,Gr]
 .grind[cD,aC,ce,Gr]
 .subst h0;unfold cR at h1;rw[eo]at h1;cases h1
def aC.lst{i:Nat}{xs:N5}(S:aC T Z F H Y env fp)(eo:env[i]?=some (some (.lst .own xs))):∃a ws fp',Y[i]?=some (some (.ref a))/\H a=some (.lst ws)/\RelL T F Z.B NoL H xs ws fp'/\fp i=a::fp':=by obtain⟨v,h1,h2⟩:=S.rel i _ eo;obtain⟨a,ws,fp',rfl,hl,hr,hf⟩:=h2;exact⟨a,ws,fp',h1,hl,hr,hf⟩
def aC.beside{f1:NZ}(S:aC T Z F H Y env fp)(g:Gr F H F1 H1)(h1:∀ a ∈ f1,¬ F1 a)(h3:∀ a ∈ f1,H a=none):∀ b ∈ f1,¬ F1 b/\(Z.H0 b=none \/ Z.fp0 b)/\∀ j,b ∉ fp j:=λb hb=>⟨h1 b hb,S.hp.newE h3 b hb,λj hj=>by
 obtain⟨_,o,e⟩:=S.dis j b hj;rw[h3 b hb]at e;cases e⟩
def dz(i:Nat)(e:ME):MS:=λenv=>match e env with
 | .ok v=>(match env[i]? with
  |some (some (.lst .own xs))=>if v.Od&&decide (xs.length<10000000)then .next (env.set i (some (.lst .own (xs++[v]))))else .stuck
  |_=>.stuck)
 | .exc c=>(match env[i]? with
  |some (some (.lst .own _))=>.exc c env
  |_=>.stuck)
 |.stuck=>.stuck
theorem xl{i:Nat}{x:Str}{e:Expr}{m:ME}{pos px apos cpos:Pos}(hK:X.K=T.K)(hN:X.N[i]?=some x)(hv:Vis X.env.scope x)(he:SE X T W e m)
  (hs:swapsWith (.Call (.Attribute (.Name x px) "append" apos) [e] [] cpos) none pos.line X.env=pure false:=by rfl) (hst:starEach [e] X.env=[(false,eval e X.env)]:=by rfl)
  (hfew:Fwe X.env cpos [e]:=by rfl)
  (hline:(apos.endLine==cpos.line)=true:=by rfl) (hd:Ndq x:=by decide) (hcd:Ncq x:=by decide) :
  SS X T W (.Expr (.Call (.Attribute (.Name x px) "append" apos) [e] [] cpos) pos) (dz i m):=
 PS.wk (mS (sE PySem.F.plainAttrs_list PySem.F.slot_list_append PySem.F.type_list_append lA (eU hN hv hd hcd) (aa he ah hst) rfl hfew hline hst) hs) λD Y H hz1=>by
  walk_at "b";unfold dz at q;cases em:m env with
  |stuck=>rw[em]at q;exact q.elim
  |exc c=>
   rw[em]at q;dsimp only at q;split at q
   .rename_i xs eo
    obtain⟨a,ws,fp',h1,hl,hr,hf⟩:=S.lst eo;refine⟨_,h1,.inl ⟨rfl,ws,by exact SqL.of hl⟩,Z,F,env,fp,S,?_⟩;unfold ae;rw[em];exact λH' x=>q F H' Y fp (S.grow (Gr.same S.hp.ft x))
   .exact q.elim
  |ok v=>
   rw[em]at q;dsimp only at q;split at q
   .rename_i xs eo
    split at q
    .rename_i hc
     simp at hc;obtain⟨a,ws,fp',h1,hl,hr,hf⟩:=S.lst eo;refine⟨_,h1,.inl ⟨rfl,ws,by exact SqL.of hl⟩,Z,F,env,fp,S,?_⟩;unfold ae am;rw[em];intro vs H1 F1 f1 g r n1 d1 w1;obtain⟨u,rfl,ru⟩:=r.one;have S1:=S.grow g;have hl1:=g.ext a _ hl;refine⟨a,ws,u,rfl,rfl,hl1,?_,?_⟩
     .rw[<- hr.length,sizeLine_eq];lia
     .have rone:RelL T F1 Z.B NoL H1 [v] [u] f1:=by unfold RelL;exact⟨u,[],f1,[],rfl,Rel.noL (by simpa[PV.Od]using hc.1) ru,by exact⟨rfl,rfl⟩,by simp⟩
      refine q F1 _ Y _ (S1.mutL (v:=u) eo h1 hf (RelL.append (hr.ext g.ext g.mono) rone) ?_ (λb hb=>?_) hl1)
      .have ndi:(a::fp').Nodup:=by rw[<- hf];exact S.nd i
       refine nodup_append.mpr ⟨(nodup_cons.mp ndi).2,d1,λb hb b' hb' z=>?_⟩;subst z;exact(S.beside g n1 w1 b hb').2.2 i (by simp_all)
      .rcases mem_append.mp hb with hb|hb
       .exact .inl hb
       .exact .inr (S.beside g n1 w1 b hb)
    .exact q.elim
   .exact q.elim
def jP(i:Nat)(k e:ME):MS:=λenv=>match e env with
 | .ok v=>(match env[i]? with
  | some (some (.lst .own xs))=>(match k env with
   | .ok (.int j)=>(match ixN xs.length j with
    |some n=>if v.Od then .next (env.set i (some (.lst .own (xs.set n v))))else .stuck
    |none=>.stuck)
   |_=>.stuck)
  |_=>.stuck)
 |.exc c=>.exc c env
 |.stuck=>.stuck
theorem RelL.set{y:PV}{w:V}{g:NZ}(ry:Rel T F B L H y w g):∀{xs:N5}{vs:N3}{f:NZ} (n:Nat),RelL T F B L H xs vs f->(f++g).Nodup->∃f',RelL T F B L H (xs.set n y) (vs.set n w) f'/\f'.Nodup/\∀b∈f',b∈f\/b∈g
 | [],vs,f,n,h,nd=>by obtain⟨rfl,rfl⟩:=h;exact⟨[],by simp[RelL],nodup_nil,λ_ z=>(nomatch z)⟩
 |x::xs,_,_,0,h,nd=>by
  obtain⟨v,ws,f1,f2,rfl,h1,h2,rfl⟩:=h;obtain⟨n1,n2,n3⟩:=nodup_append.mp nd;obtain⟨m1,m2,m3⟩:=nodup_append.mp n1;refine⟨g++f2,?_,(by grind),λb hb=>?_⟩
  .rw[List.set_cons_zero,List.set_cons_zero];exact⟨w,ws,g,f2,rfl,ry,h2,rfl⟩
  grind
 |x::xs,_,_,n+1,h,nd=>by
  obtain⟨v,ws,f1,f2,rfl,h1,h2,rfl⟩:=h;obtain⟨n1,n2,n3⟩:=nodup_append.mp nd;obtain⟨m1,m2,m3⟩:=nodup_append.mp n1;obtain⟨f',r,d,s⟩:=RelL.set ry n h2 (nodup_append.mpr ⟨m2,n2,λa ha b hb=>n3 a (mem_append_right _ ha) b hb⟩);refine⟨f1++f',?_,nodup_append.mpr ⟨m1,d,λa ha b hb z=>?_⟩,λb hb=>?_⟩
  .rw[List.set_cons_succ,List.set_cons_succ];exact⟨v,_,f1,f',rfl,h1,r,rfl⟩
  .grind
  grind
def rM{i:Nat}{x:Str}{k e:Expr}{mk me:ME}{pos px tpos:Pos}(hN:X.N[i]?=some x)(hv:Vis X.env.scope x)(hk:SE X T W k mk)(he:SE X T W e me)
  (ha:∀ v,assign (.Subscript (.Name x px) k tpos) X.env v=(do
   let ov <- holding [v] (eval (.Name x px) X.env)
   let iv <- holding [v,ov] (eval k X.env)
   standAt tpos
   holding [v,ov,iv] (setItem ov iv v)
   release [v,ov,iv] []):=by intro _;rfl)
  (hs:swapsWithSole [.Subscript (.Name x px) k tpos] e pos.line X.env=pure false:=by rfl) (hw:swappedStores [.Subscript (.Name x px) k tpos] e X.env=pure none:=by rfl)
  (h1:(assignEach [.Subscript (.Name x px) k tpos] X.env).map (·.2)=[assign (.Subscript (.Name x px) k tpos) X.env]:=by rfl) (hd:Ndq x:=by decide) (hcd:Ncq x:=by decide) :
  SS X T W (.Assign [.Subscript (.Name x px) k tpos] e pos) (jP i mk me):=
 PS.wk (Gu he (Gz (eU hN hv hd hcd) hk zh ha) hs hw h1) λD Y H hz1=>by
  walk_at "b";unfold jP at q;refine tE.bind S (λc e H' x=>?_) (λe=>by rw[e]at q;exact q) λpv v H1 F1 f1 e g r n1 d1 w1=>?_
  .rw[e]at q;exact q F H' Y fp (S.grow (Gr.same S.hp.ft x))
  .rw[e]at q;dsimp only at q;split at q
   .rename_i xs eo
    have S1:=S.grow g;obtain⟨a,ws,fp',h1,hl,hr,hf⟩:=S1.lst eo;cases ek:mk env with
    |stuck|exc c=>rw[ek]at q;exact q.elim
    |ok kv=>
     rw[ek]at q;refine⟨_,h1,Z,F1,env,fp,S1,?_⟩;rw[ek];intro u H2 F2 f2 g2 r2 _ _ _;cases kv with
     |int j=>
      dsimp only at q;obtain⟨rfl,_⟩:=r2;cases en:ixN xs.length j with
      |none=>rw[en]at q;exact q.elim
      |some n=>
       rw[en]at q;dsimp only at q;split at q
       .rename_i hln
        have S2:=S1.grow g2;have hr2:=hr.ext g2.ext g2.mono;have ndi:(a::fp').Nodup:=by rw[<- hf];exact S.nd i
        have g12:=g.trans g2;have nn:∀b∈f1,¬F2 b:=λb hb z=>by
         rcases g2.only b z with z|z
         .exact n1 b hb z
         .obtain⟨o,ho⟩:=r.there b hb;rw[ho]at z;cases z
        obtain ⟨f',r',nd',sub'⟩:=RelL.set (Rel.noL (L':=NoL) (by simpa [PV.Od] using hln) (r.ext g2.ext g2.mono)) n hr2 (nodup_append.mpr ⟨(nodup_cons.mp ndi).2,d1,λb hb b' hb' z=>by
         subst z;exact(S.beside g12 nn w1 b hb').2.2 i (by simp_all)⟩)
        refine⟨a,ws,j,n,rfl,rfl,g2.ext a _ hl,by rw[<- hr.length];exact en,?_⟩;refine q F2 _ Y _ (S2.mutL (v:=v) eo h1 hf r' nd' (λb hb=>?_) (g2.ext a _ hl));rcases sub' b hb with h|h
        .exact .inl h
        .exact .inr (S.beside g12 nn w1 b h)
       .exact q.elim
     |_=>exact q.elim
   .exact q.elim
end
noncomputable def Dr(i:Nat):Str:=⟨#[1114112+i]⟩
def kX(l:N0)(i:Nat):Str:=match l[i]? with
 |some x=>x
 |none=>Dr i
noncomputable def lg(x:Str):Bool:=x.cps.all λc=>decide (c<1114112)
def gO(i:Nat):lg (Dr i)=false:=by simp[lg,Dr]
def yM(nd:l.Nodup)(h:l.all lg=true)(i j:Nat)(e:kX l i=kX l j):i=j:=by
 have pl:∀(i:Nat) x,l[i]?=some x->lg x=true:=λi x hx=>all_eq_true.mp h x (List.mem_of_getElem? hx);unfold kX at e;cases ei:l[i]? with
 |some x=>
  cases ej:l[j]? with
  |some y=>rw[ei,ej]at e;subst e;obtain⟨h1,e1⟩:=List.getElem?_eq_some_iff.mp ei;obtain⟨h2,e2⟩:=List.getElem?_eq_some_iff.mp ej;exact(getElem_inj nd).mp (e1.trans e2.symm)
  |none=>rw[ei,ej]at e;dsimp only at e;have:=pl i x ei;rw[e,gO]at this;cases this
 |none=>
  cases ej:l[j]? with
  |some y=>rw[ei,ej]at e;dsimp only at e;have:=pl j y ej;rw[<- e,gO]at this;cases this
  |none=>rw[ei,ej]at e;simpa[Dr]using e
def B7(hp:lg m=true)(hm:m∉l)(k:Nat):kX l k≠m:=by
 unfold kX;cases e:l[k]? with
 |some x=>exact λz=>hm (z▸List.mem_of_getElem? e)
 |none=>intro z;rw[<- z,gO]at hp;cases hp
structure Ctx(X:Cx)(T:Tb)(W:Nat->St->N4)(k:Nat):Prop where
 hK:X.K=T.K
 calm:X.calm=true
 room:eM k X.A
 xf:XF X T W
 po:PassesOwn (model X.prog X.w) X.A X.env X.xe
def Ctx.hu(c:Ctx X T W k):X.A.units+64<cLine:=c.room.units
theorem Ctx.hu2(c:Ctx X T W k):X.A.units+66<cLine:=by
 have:=c.room.un
 lia
def wQ
  (hr:eM k (A.deeper (PyProof.Rows.envOfC qual scope s.heap.objs.size f cd))):Ctx (gA (CXP P w) P w T.K mg base N qual scope f cd A outer s H E) T (WD T E) k:=⟨rfl,rfl,hr,Fv,PassesOwn.leaving⟩
def Ctx.comp(c:Ctx X T W k):Ctx (cxC X scope C N s H ex) T WF k:=⟨c.hK,c.calm,c.room,λ_ _ _ _ _ _ _ _ _ _ h=>h.elim,PassesOwn.never⟩
noncomputable def oB(scD scope:Scope)(NX:N0)(caps:List Nat)(N tn:N0):Bool:=
 decide (scope.kind=.function)&&scope.names.all (λy=>decide (y.2=.cell->scope.names.lookup y.1=some .cell))&&scope.names.all (λy=>decide (y.2=.local->scope.names.lookup y.1=some .local)) &&
 scope.names.all (λy=>decide (y.2=.free->scD.names.lookup y.1=some .cell\/scD.names.lookup y.1=some .free))&&decide (N=caps.map (λi=>NX.getD i "")++ tn)&&caps.all (λi=>decide (i<NX.length)) &&
 caps.all (λi=>match NX[i]? with|some x=>decide ((x,NameKind.free)∈ scope.names/\scope.names.lookup x=some .free)|none=>false)&&decide N.Nodup
def Ek(h:oB scD scope NX caps N tn=true)(hs:X.env.scope=scD)(hN:X.N=NX):eZ X scope caps N tn:=by simp only[oB,and_eq_true,decide_eq_true_eq,all_eq_true]at h;obtain⟨⟨⟨⟨⟨⟨⟨h1,h2⟩,h3⟩,h4⟩,h5⟩,h6⟩,h7⟩,h9⟩:=h;subst hs hN;refine⟨h1,h2,h3,h4,h5,h6,λi hi x hx=>?_,h9⟩;have:=h7 i hi;rw[hx]at this;simpa using this
section
variable{X:Cx}{T:Tb}{W:Nat->St->N4}
def sv{i:Nat}(hN:X.N[i]?=some x:=by rfl)(hv:Vis X.env.scope x:=by first|exact Or.inl rfl|exact Or.inr (Or.inl rfl)|exact Or.inr (Or.inr rfl))(hd:Ndq x:=by decide)
  (hcd:Ncq x:=by decide):SE X T W (.Name x pos) (ac i):=FU hN hv hd hcd
noncomputable def tyP:PV->String
 |.non=>"NoneType"
 |.bl _=>"bool"
 |.int _=>"int"
 |.str _=>"str"
 |.lst _ _=>"list"
 |.tup _=>"tuple"
 |_=>""
def oQ(t c:String):Bool:=t==c ||(t=="bool"&&c=="int")
def qp(c:String):PV->N6:=λx=>if tyP x="" then .stuck else .ok (.bl (oQ (tyP x) c))
def y2(m:ME)(c:String):ME:=λenv=>(m env).bind (qp c)
def Jg(K:PySem.W.Frag)(c:String):Prop:=∀t∈["NoneType","bool","int","str","list","tuple"],kitOne K (.type t) (.type c)=some (oQ t c)
def DQ(hK:X.K=T.K)(hc:Jg T.K c)(I:L2.Inv X NP Y H s)(r:Rel T F B L H x v f)(ru:bB v u)(hx:tyP x≠"")
  (h:∀tk,Q (.bool (oQ (tyP x) c)) {s with toks:=tk}):wpAny (model X.prog X.w) A (call (.builtin "isinstance") [u,.type c]) Q E s:=by
 have kin:T.K.In s.heap:=by rw[<- hK];exact I.kIn
 cases x with
 |non=>unfold Rel at r;obtain⟨rfl,_⟩:=r;cases ru;exact kia_one PySem.W.kitx_none kin True.intro (hc _ ()) (λz=>nomatch z) h
 |bl b=>unfold Rel at r;obtain⟨rfl,_⟩:=r;cases ru;exact kia_one PySem.W.kitx_bool kin True.intro (hc _ ()) (λz=>nomatch z) h
 |int i=>unfold Rel at r;obtain⟨rfl,_⟩:=r;obtain⟨t,rfl⟩:=ru;exact kia_one PySem.W.kitx_int kin True.intro (hc _ ()) (λz=>nomatch z) h
 |str i=>unfold Rel at r;obtain⟨rfl,_⟩:=r;obtain⟨t,rfl⟩:=ru;exact kia_one PySem.W.kitx_str kin True.intro (hc _ ()) (λz=>nomatch z) h
 |lst f xs=>obtain⟨a,vs,fp',rfl,hl,hr,_⟩:=r;cases ru;obtain⟨its,_,⟨o,n,ho,hcl,_,_⟩,_⟩:=I.list (by rw[hK];exact hl.sq);exact kia_one PySem.W.kitx_list kin ⟨_,ho,hcl⟩ (hc _ ()) (λz=>nomatch z) h
 |tup xs=>obtain⟨a,vs,rfl,hl,hr⟩:=r;cases ru;obtain⟨its,_,⟨o,ho,hcl,_⟩,_⟩:=I.tuple (by rw[hK];exact hl);exact kia_one PySem.W.kitx_tuple kin ⟨_,ho,hcl⟩ (hc _ ()) (λz=>nomatch z) h
 |obj f c ks xs|exc c|box k xs=>exact absurd rfl hx
theorem F5(hK:X.K=T.K)(hc:Jg T.K c)(hg:Gl X "isinstance")(hm:X.mg "isinstance"=none)(hb:bootBuiltins "isinstance"=some (.builtin "isinstance"))(hgc:Gl X cn)(hmc:X.mg cn=none)(hvc:bootBuiltins cn=some (.type c))(he:SE X T W e m)
  (hcn:cn≠"__name__":=by decide) (hcd:Ndq cn:=by decide) (hst:starEach [e,.Name cn pc] X.env=[(false,eval e X.env),(false,eval (.Name cn pc) X.env)]:=by rfl)
  (hst2:starEach [.Name cn pc] X.env=[(false,eval (.Name cn pc) X.env)]:=by rfl):SE X T W (.Call (.Name "isinstance" p) [e,.Name cn pc] [] pos) (y2 m c):=by
 have ht:PE X (.Name cn pc) (tC (.ty c)):=Df hgc hmc hvc rfl hcn hcd;have hcall:dN X (.builtin "isinstance") (λvs H Q=>∃v x F B L f,vs=[v,.ty c]/\Rel T F B L H x v f/\tyP x≠"" /\ Q (.bl (oQ (tyP x) c)) H):=by
  intro NP s Y H vs us Q I rv h;obtain⟨v,x,F,B,L,f,rfl,r,hx,q⟩:=h;cases rv with
  |cons r1 r2=>
   cases r2 with
   |cons r3 r4=>cases r4;cases r3;exact DQ hK hc I r r1 hx λtk=>⟨.bl _,H,I.tok tk,rfl,q⟩
 have hargs:PA X [e,.Name cn pc] (vI (tE T W m) (vI (tC (.ty c)) FH)):=dO he (dO ht iJ hst2) ();refine PE.wk (nM hcall hg hm hb hargs (he:=by lia)) λY H Q hz1=>?_;walk_at "b";unfold y2 at q;walk_at "a";simp only[Res.Og,qp]at q;by_cases hx:tyP x=""
 .rw[if_pos hx]at q;exact q.elim
 .rw[if_neg hx]at q;exact⟨v,x,F1,Z.B,Own fp,f1,rfl,r1,hx,q.scal g1 gW⟩
def lE(f g:PV->PV->N6)(a b c:ME):ME:=λenv=>(a env).bind λx=>(b env).bind λy=>(f x y).bind fun
 |.bl true=>(c env).bind λz=>g y z
 |.bl false=>.ok (.bl false)
 |_=>.stuck
def xi{f f':Int->Int->Bool}(h:tE T W (lE (eP λi j=>.bl (f i j)) (eP λi j=>.bl (f' i j)) ma mb mc) Y H Q) :
  y3 (rI0 λi j=>.bl (f i j)) (rI0 λi j=>.bl (f' i j)) (tE T W ma) (tE T W mb) (tE T W mc) Y H Q:=by
 obtain⟨Z,F,env,fp,S,q⟩:=h;unfold lE at q;walk_at "a";refine tE.bind (S.grow g1) (λc e=>by rw[e]at q;exact λH' x=>q H' (g1.ext.trans x)) (λe=>by rw[e]at q;exact q) λy u H2 F2 f2 e2 g2 r2 n2 d2 w2=>?_;rw[e2]at q;cases x<;>cases y<;>first
  |exact q.elim
  |skip
 rename_i i j
 obtain⟨rfl,_⟩:=r1;obtain⟨rfl,_⟩:=r2;refine⟨i,j,rfl,rfl,f i j,rfl,?_⟩;simp only[eP,Res.Og]at q;cases hb:f i j with
 |false=>rw[hb]at q;exact(if_neg ()).mpr (q.scal (g1.trans g2) gW)
 |true=>
  rw[hb]at q;dsimp only at q;refine(if_pos rfl).mpr ?_;refine tE.bind ((S.grow g1).grow g2) (λc e=>by rw[e]at q;exact λH' x=>q H' ((g1.ext.trans g2.ext).trans x)) (λe=>by rw[e]at q;exact q) λz w H3 F3 f3 e3 g3 r3 n3 d3 w3=>?_;rw[e3]at q;cases z with
  |int k=>obtain⟨rfl,_⟩:=r3;exact⟨j,k,rfl,rfl,q.scal ((g1.trans g2).trans g3) gW⟩
  |_=>exact q.elim
def zk{f f':Int->Int->Bool}(ho:OpR X (compareOp op) (rI0 λi j=>.bl (f i j)))(ho':OpR X (compareOp op') (rI0 λi j=>.bl (f' i j)))(ha:SE X T W a ma)(hb:SE X T W b mb)(hc:SE X T W c mc)
  (hm:lastMarks [op,op'] [b,c]=false:=by with_unfolding_all rfl):SE X T W (.Compare a [op,op'] [b,c] pos) (lE (eP λi j=>.bl (f i j)) (eP λi j=>.bl (f' i j)) ma mb mc):=PE.wk (zS ho ho' ha hb hc hm) λY H Q h=>xi h
end
def zj(hg:Gl X x)(hm:X.mg x=some (.int i t))(hd:Ndq x:=by decide):SE X T W (.Name x pos) (mC (.int i)):=
 jJ (v:=.int i) (ku hg hm ⟨t,rfl⟩ hd) λ_ _ _ _=>eK
end
end PR
namespace PR
open PySem PySem.Spec
structure NB(K:PySem.W.Frag)(C:Addr):Prop where
 ga:PySem.W.findIn K (.ref C) "__getattribute__"=some (some (.builtin "BaseException.__getattribute__"))
 gt:PySem.W.findIn K (.ref C) "__getattr__"=some none
 ca:PySem.W.findIn K (.ref C) "__class__"=some (some (.builtin "object.__class__"))
 sb:mroIn K C (.type "BaseException")=some true
 so:mroIn K C (.type "object")=some true
 cl:(clsIn K C).isSome=true
end PR
namespace PR
open PySem PySem.Spec L2
def f_(F B L:NV)(H:Hp):RelL T F B L H [] [] []:=by exact⟨rfl,rfl⟩
def b7(disp:Nat->Option (N5->N6))(o:ME)(ms:MA):ME:=λenv=>(o env).bind λov=>match ov with
 |.obj _ c _ _=>match disp c with
  |some m=>(ms env).bind λxs=>aG m (ov::xs)
  |none=>.stuck
 |_=>.stuck
def DK(disp:Nat->Option (N5->N6))(o:ME)(ms:MA):wf disp [] o ms=b7 disp o ms:=by
 funext env;unfold wf b7;congr 1;funext ov;cases ov with
 |obj f c ks vs=>simp<;>rfl
 |_=>rfl
def mG(c:Nat)(m:N5->N6)(ms:MA):ME:=ao (λxs=>aG m (.obj .own c [] []::xs)) ms
section
variable{X:Cx}{T:Tb}{W:Nat->St->N4}
def zm
  (G:dA X.prog X.w X.K X.mg X.base (CXP X.prog X.w) k f fd ps (spM T ps.length m)) (cx:Ctx X T W kk) (hk:k<=kk) (hg:Gl X x) (hm:X.mg x=some (.ref f)) (hkp:PySem.W.keepIn X.K (.ref f)=true) (hb:gJ X.K fd ps [])
  (hn:iZ ms n) (hps:n=ps.length) (ha:SA X T W (e::es) ms)
  (hdb:Ndq x:=by decide) (he:starEach (e::es) X.env=(false,eval e X.env)::starEach es X.env:=by rfl) (hpl:(backTo pos (starEach es X.env)).any (·.1)=false:=by rfl) :
  SE X T W (.Call (.Name x p) (e::es) [] pos) (ao (aG m) ms):=by
 have h:=CJ (p:=p) G (cx.room.mono hk) hg hm hkp hb .nil f_ cx.xf (λenv xs q=>by rw[hn env xs q];exact hps) ha hdb he hpl;simpa using h
def FY
  (cx:Ctx X T W kk) (hc:∀c<T.nc,Cls T.K (T.cls c)) (hm:∀k,T.att k≠mn) (D:gB X T k mn ps [] disp) (hk:k<=kk)
  (hn:iZ ms n) (hps:n+1=ps.length) (ho:SE X T W o mo) (ha:SA X T W (e::es) ms)
  (hst:starEach (e::es) X.env=(false,eval e X.env)::starEach es X.env:=by rfl) (hpl:(backTo pos (starEach es X.env)).any (·.1)=false:=by rfl)
  (ht:eval (.Call (.Attribute o mn apos) (e::es) [] pos) X.env=(do
   let ov <- eval o X.env
   standAt apos.atName
   let(f,first) <- holding [ov] (getMethod ov mn pl)
   callWith pos f first (backTo pos (starEach (e::es) X.env)) (backToKw pos (keywordEach [] X.env))):=by rfl) :
  SE X T W (.Call (.Attribute o mn apos) (e::es) [] pos) (b7 disp mo ms):=by
 rw[<- DK];exact CD cx.hK hc hm D (cx.room.mono hk) .nil f_ cx.xf (λenv xs q=>by rw[hn env xs q];exact hps) ho ha hst hpl ht
def FX
  (M:Mk X.K (T.cls c) f) (hcn:c<T.nc) (G:dA X.prog X.w X.K X.mg X.base (CXP X.prog X.w) k f fd ps (spI T ps.length m)) (cx:Ctx X T W kk) (hk:k+1<=kk) (hg:Gl X x) (hm:X.mg x=some (.ref (T.cls c))) (hb:gJ X.K fd ps [])
  (hn:iZ ms n) (hps:n+1=ps.length) (ha:SA X T W (e::es) ms)
  (hdb:Ndq x:=by decide) (he:starEach (e::es) X.env=(false,eval e X.env)::starEach es X.env:=by rfl) (hpl:(backTo pos (starEach es X.env)).any (·.1)=false:=by rfl) :
  SE X T W (.Call (.Name x p) (e::es) [] pos) (mG c m ms):=by
 have h:=CF (p:=p) M hcn G (cx.room.mono hk) hg hm hb .nil f_ cx.xf hn hps ha hdb he hpl;unfold mG;simpa using h
end
def D7(X:K.In h)(q:excIn K C [.type "ValueError",.type "Exception",.type "BaseException",.type "object"] "ValueError.__new__"=true) :
  ∃bm N nm q bs hdct sn sub ab col dd k0 k1 k2 k3 k5 mN,h.get? C=some (excClassObj nm q C N bs bm hdct sn sub ab col dd k0 k1 k2 k3 k5 "ValueError.__new__")/\h.Ns N mN/\mN "__init__"=none /\
   OwnTail h [.type "ValueError",.type "Exception",.type "BaseException",.type "object"] bm:=by
 unfold excIn at q;split at q
 .rename_i dd cd sl ho
  split at q
  .rename_i C' bm k0 k1 k2 k3 n k5 hm hs
   simp at q;obtain⟨⟨⟨⟨⟨rfl,rfl⟩,hdel⟩,ht⟩,hok⟩,hni⟩:=q;cases cd;cases sl;dsimp only at hm hdel hok hni hs;subst hm hdel hs;exact⟨bm,_,_,_,_,_,_,_,_,_,dd,k0,k1,k2,k3,k5,_,X _ _ ho,.of_isNs (PySem.W.isNs_of_in X hok),PySem.W.nsMap_none_of_in X hok hni,PySem.W.tail_of_in X ht⟩
  .cases q
 .cases q
def ba(c:Nat)(ms:MA):MS:=λenv=>match ms env with
 |.ok _=>.exc c env
 |.exc k=>.exc k env
 |.stuck=>.stuck
def xk(cx:Ctx X T W k)(hm:X.mg x=some (.ref (T.xcl c)))(hB:T.K.In X.base)
  (hE:excIn T.K (T.xcl c) [.type "ValueError",.type "Exception",.type "BaseException",.type "object"] "ValueError.__new__"=true) (hx:XM X T W) (hg:Gl X x) (hn:iZ ms n) (hn2:n<=100) (ha:SA X T W (e::es) ms)
  (hd:Ndq x:=by decide)
  (he:starEach (e::es) X.env=(false,eval e X.env)::starEach es X.env:=by rfl) (hpl:(backTo cpos (starEach es X.env)).any (·.1)=false:=by rfl) :
  SS X T W (.Raise (some (.Call (.Name x np) (e::es) [] cpos)) none pos) (ba c ms):=
 y_ ⟨hm,D7 hB hE⟩ hx cx.calm hg ha (λenv pvs q=>by rw[hn env pvs q];exact hn2) hd he hpl
structure Scr(fl:Fl):Prop where
 is:fl=.frz\/fl=.mod
def Scr.N7(h:Scr fl):fl.N7=fl:=by rcases h.is with rfl|rfl<;>rfl
def Scr.N8(h:Scr fl):fl.N8=fl:=by rcases h.is with rfl|rfl<;>rfl
def Scr.N_(h:Scr fl):fl.N_=fl:=by rcases h.is with rfl|rfl<;>rfl
def lc:∀ns:NW,RelL T F B L H (ns.map PV.int) (ns.map V.int) []
 | []=>f_ _ _ _ _
 |n::ns=>by exact⟨_,_,[],[],rfl,eK,lc ns,rfl⟩
def zc(K:PySem.W.Frag)(tb:Addr->Option (N2):=λ_=>none):Sp:=λvs H Q _=>(∀b ps,tb b=some ps->H b=some (.tbl ps))/\∃(a:Addr) (ns:NW),vs=[.ref a]/\SqL K H a (ns.map V.int)/\ns.length<=63/\∀v H',v=.bl true->Q v H'
def HW(G:dA P w T.K mg base (CXP P w) k f fd [x] (spM T 1 m))
  (h:∀(fl:Fl) (ns:NW),Scr fl->ns.length<=63->m [.lst fl (ns.map .int)]=.ok (.bl true)):dA P w T.K mg base (CXP P w) k f fd [x] (zc T.K T.tb):=by
 refine G.imp λvs H Q E q=>?_;obtain⟨hT,a,ns,rfl,hS,hl,hQ⟩:=q;have hTb:Ev T H (· ∈([]:NZ)):=λb ps h=>⟨hT b ps h,λz=>nomatch z⟩
 have fin:∀fl,Scr fl->∀Z:Zn,GF T Z Q E (m [.lst fl (ns.map .int)]):=λfl hf Z=>by rw[h fl ns hf hl];intro F H' v f' _ r _ _ _;exact hQ v H' r.1
 refine⟨rfl,?_⟩;rcases hS with hS|hS
 .refine⟨[.lst .frz (ns.map .int)],(·=a),λ_=>False,[],⟨?_,nodup_nil,λ_ z=>(nomatch z),⟨λ_ z=>False.elim z,hTb⟩,λb hb=>?_⟩,fin _ ⟨.inl rfl⟩ _⟩
  .unfold RelL;refine⟨_,_,[],[],rfl,?_,f_ _ _ _ _,rfl⟩;exact⟨a,_,[],rfl,⟨rfl,hS⟩,lc ns,rfl,rfl⟩
  .subst hb;rcases hS with e |⟨o,e⟩
   .exact⟨_,e⟩
   .exact⟨_,e⟩
 .refine⟨[.lst .mod (ns.map .int)],λ_=>False,λ_=>False,[],⟨?_,nodup_nil,λ_ z=>(nomatch z),⟨λ_ z=>False.elim z,hTb⟩,λ_ z=>z.elim⟩,fin _ ⟨.inr rfl⟩ _⟩;refine⟨_,_,[],[],rfl,?_,f_ _ _ _ _,rfl⟩;exact⟨a,_,[],rfl,hS,lc ns,rfl,rfl⟩
def AQ{l:PySem.W.OpenLaw}{k:Nat}{x:Str}{q:Program}{loose:N0}{XP:(NS)->Heap->Prop}{YP:World->Heap->Prop}{d:DefRec}{K:Params->PySem.W.Frag}(hn:l.most=some 63)(hdf:d.params.defaults=[])(hr:eM k callerA)
  (hY:∀(w:World) (h:Heap),YP w h->(K w.params).In h)
  (F:∀ (w:World) (mg:NS) (fa:Addr) (h:Heap),(K w.params).In h->h.Ns mainGlobals mg->mg d.name=some (.ref fa) ->
   ∃fd:FuncData,(∀(s:Shared) (u:Value),BindsTo s fd ⟨[u],[]⟩ [(x,u)])/\∀base:Heap,(K w.params).In base->base.Ns mainGlobals mg->dA l.prog w (K w.params) mg base (CXP l.prog w) k fa fd [x] (zc (K w.params))) :
  PySem.W.WalkO q loose XP YP l.row.toRowW d [] (λf vs=>PySem.call f vs):=
 L2.Cd hn () hdf hr hY F (λ_ _ a ns hl _ hS=>⟨λ_ _ z=>(nomatch z),a,ns,rfl,hS,hl,λ_ _ z=>z⟩) λ_ _ _ _ _ ⟨_,_,_,z⟩=>z
def AS:Jg K "list":=by intro t ht;simp at ht;rcases ht with rfl|rfl|rfl|rfl|rfl|rfl<;>kernel_rfl
theorem oY:bootBuiltins "isinstance"=some (.builtin "isinstance"):=by decide +kernel
theorem rh:bootBuiltins "list"=some (.type "list"):=by decide +kernel
theorem iu:bootBuiltins "tuple"=some (.type "tuple"):=by decide +kernel
noncomputable def BH(K:PySem.W.Frag)(C:Addr):Bool:=
 decide (PySem.W.findIn K (.ref C) "__getattribute__"=some (some (.builtin "BaseException.__getattribute__")))&&decide (PySem.W.findIn K (.ref C) "__getattr__"=some none) &&
 decide (PySem.W.findIn K (.ref C) "__class__"=some (some (.builtin "object.__class__")))&&decide (mroIn K C (.type "BaseException")=some true)&&decide (mroIn K C (.type "object")=some true)&&(clsIn K C).isSome &&
 excIn K C [.type "ValueError",.type "Exception",.type "BaseException",.type "object"] "ValueError.__new__"
def D8(h:BH K C=true):NB K C/\excIn K C [.type "ValueError",.type "Exception",.type "BaseException",.type "object"] "ValueError.__new__"=true:=by simp only[BH,and_eq_true,decide_eq_true_eq]at h;obtain⟨⟨⟨⟨⟨⟨h1,h2⟩,h3⟩,h4⟩,h5⟩,h6⟩,h7⟩:=h;exact⟨⟨h1,h2,h3,h4,h5,h6⟩,h7⟩
def C_(l:NZ)(i:Nat):Addr:=l.getD i (l.headD 0)
def sC(l:List Bool)(i:Nat):Bool:=l.getD i (l.headD false)
theorem zJ{α:Type}{f:Addr->Option α}{g:α->Bool}{l:NZ}{bs:List Bool}{r:Bool->Option α}(hl:l≠[])(h:l.map f=bs.map r)(i:Nat):f (C_ l i)=r (sC bs i):=by
 have hlen:l.length=bs.length:=by simpa using congrArg List.length h
 unfold C_ sC;rw[getD_eq_getElem?_getD,getD_eq_getElem?_getD];have key:∀j,(l[j]?).map f=(bs[j]?).map r:=λj=>by rw[<- getElem?_map,<- getElem?_map,h]
 cases e:l[i]? with
 |some C=>
  have:=key i;rw[e]at this;cases e2:bs[i]? with
  |some b=>rw[e2]at this;simpa using this
  |none=>rw[e2]at this;simp at this
 |none=>
  have hb:bs[i]?=none:=by
   rw[List.getElem?_eq_none_iff]at e ⊢
   lia
  rw[hb];cases l with
  |nil=>exact absurd rfl hl
  |cons a l=>
   cases bs with
   |nil=>simp at hlen
   |cons b bs=>simpa using key 0
def vF:∀(xs:N3) (ys:NY),xs.length=ys.length->(∀(i:Nat) x y,xs[i]?=some x->ys[i]?=some y->bB x y)->aU xs ys
 | [],[],_,_=>.nil
 |x::xs,y::ys,hl,h=>.cons (h 0 x y rfl rfl) (vF xs ys (by simp_all) λi a b e1 e2=>h (i+1) a b (by simpa using e1) (by simpa using e2))
 | [],_::_,hl,_|_::_,[],hl,_=>by simp at hl
def xC(lo:Int)(n:Nat):N3:=(range n).map λk=>.int (lo+(k:Nat))
section
variable{X:Cx}{T:Tb}{W:Nat->St->N4}{Z:Zn}{F F1 B L:NV}{H H1:Hp}{Y:St}{env:En}{fp:Nat->NZ}
def zr(lo:Int)(n:Nat):RelL T F B L H (eT lo n) (xC lo n) []:=by
 have:∀l:List Nat,RelL T F B L H (l.map λk=>PV.int (lo+(k:Nat))) (l.map λk=>V.int (lo+(k:Nat))) []:=by
  intro l
  induction l with
  |nil=>exact f_ _ _ _ _
  |cons a l ih=>exact⟨_,_,[],[],rfl,eK,ih,rfl⟩
 exact this _
def xQ(hg:Gl X "range")(hm:X.mg "range"=none)(ha:PA X [a] ta)(hs:starEach [a] X.env=[(false,eval a X.env)]:=by rfl) :
  PE X (.Call (.Name "range" p) [a] [] pos) (λY H Q=>ta Y H λvs H1=>∃j:Int,vs=[.int j]/\∀r,H1 r=none->Q (.ref r) (upd H1 r (.rng 0 j))):=by
 intro NP s Y H Q I h;refine PyProof.Rows.Call_ (iN I hg hm PyProof.Rows.boot_range (PyProof.Rows.callWith_type1 (thn (ha pos NP s Y H _ I h) λus s1 zz=>?_) hs rfl));obtain⟨vs,H1,I1,r1,q1⟩:=zz;obtain⟨j,e,q⟩:=q1;subst e;cases r1 with
 |cons r rr=>cases rr;obtain⟨t,rfl⟩:=r;refine call_range_1 ⟨.ref s1.heap.objs.size,_,I1.laid (λb u e=>get?_push_of_some _ e) (Nat.le_refl _) ?_,rfl,q _ (I1.hok.fresh (Nat.le_refl _))⟩;exact⟨_,_,_,get?_push_size _ rfl⟩
theorem oW(hc:X.calm=true):dN X (.type "list") (λxs H Q=>∃r hi,xs=[.ref r]/\H r=some (.rng 0 hi)/\(0<=hi/\hi<=1000000)/\∀l,H l=none->Q (.ref l) (upd H l (.lst (xC 0 hi.toNat)))):=by
 intro NP s Y H xs us Q I rv h;obtain⟨r,hi,rfl,hr,⟨h0,h1⟩,q⟩:=h;obtain⟨u,rfl,rx⟩:=eO rv;cases rx;obtain⟨t,u,v,e⟩:=I.hok r _ hr;have hsz:Builtin.Range.rangeSize 0 hi 1=(hi.toNat:Int):=by unfold Builtin.Range.rangeSize;split<;>lia
 have hsm:Builtin.Range.small 0 hi 1=true:=by unfold Builtin.Range.small;simp only[Builtin.Range.rangeFitsLong,and_eq_true,or_eq_true,show(1:Int)>0 by decide,if_true];refine⟨⟨⟨⟨by decide,by lia⟩,by decide⟩,by lia⟩,.inr ()⟩
 refine call_list_range (I.ok.hd hc) e hsm hsz () λh' tk acc c' kp eS hacc=>?_;refine⟨.ref s.heap.objs.size,_,I.laid (t':=tk) kp (Nat.le_refl _) ?_,rfl,q _ (I.hok.fresh (Nat.le_refl _))⟩;refine⟨?_,acc.toList,c',vF _ _ ?_ λi x y e1 e2=>?_,?_⟩
 .rw[sizeLine_eq];simp[xC];lia
 .simp[xC,hacc.1]
 .have:=hacc.2 i y (by simpa using e2);obtain⟨t,rfl⟩:=this;have hi:i<hi.toNat:=by have:=(List.getElem?_eq_some_iff.mp e1).1;simpa[xC]using this
  simp[xC,hi]at e1;subst e1;exact⟨t,by simp⟩
 .simpa using eS
def qo:N5->N6
 | [.int n]=>if decide (0<=n/\n<=1000000)then .ok (.lst .own (eT 0 n.toNat))else .stuck
 |_=>.stuck
def xu(hc:X.calm=true)(hg:Gl X "list")(hm:X.mg "list"=none)(hv:bootBuiltins "list"=some (.type "list"))(hg2:Gl X "range")(hm2:X.mg "range"=none)(ha:SA X T W [a] ms)
  (hs:starEach [a] X.env=[(false,eval a X.env)]:=by rfl)
  (he:starEach [.Call (.Name "range" p2) [a] [] pos2] X.env=[(false,eval (.Call (.Name "range" p2) [a] [] pos2) X.env)]:=by rfl) :
  SE X T W (.Call (.Name "list" p) [.Call (.Name "range" p2) [a] [] pos2] [] pos) (ao qo ms):=by
 refine PE.wk (lh (oW hc) hg hm hv (dO (xQ hg2 hm2 ha hs) iJ (by rfl))) λY H Q hz1=>?_;walk_at "b";unfold ao at q;refine tA.bq S λpvs vs H1 F1 f1 e1 g1 r1 n1 d1 w1=>?_;rw[e1]at q;simp at q;rcases pvs with _ |⟨x,_ |⟨y,l⟩⟩
 .exact q.elim
 .cases x with
  |int n=>
   obtain⟨v,rfl,rv⟩:=RelL.one r1;obtain⟨rfl,rfl⟩:=rv;simp only[qo]at q;refine⟨n,rfl,λr hr=>?_⟩;by_cases hn:decide (0<=n/\n<=1000000)=true
   .rw[if_pos hn]at q;have g2:Gr F H F1 (upd H1 r (.rng 0 n)):=g1.trans (Gr.same g1.dom (Ext.upd hr));exact⟨r,n,rfl,bp,of_decide_eq_true hn,λl hl=>GE.newL q g2 (zr 0 n.toNat) (λ_ z=>(nomatch z)) nodup_nil (λ_ z=>(nomatch z)) l hl⟩
   .rw[if_neg hn]at q;exact q.elim
  |_=>exact q.elim
 .cases x<;>exact q.elim
end
noncomputable def bK:N5->Option (NW)
 | []=>some []
 |.int i::xs=>(bK xs).map (i::·)
 |_::_=>none
def pT(ns:NW):Nat:=(firstMet (λi=>ns.getD i 0) ns.length).length
def jw:PV->N6
 |.lst _ xs=>match bK xs with
  |some ns=>if decide (ns.length<=1000)then .ok (.int (pT ns))else .stuck
  |none=>.stuck
 |_=>.stuck
section
variable{X:Cx}{T:Tb}{W:Nat->St->N4}{Z:Zn}{F F1 B L:NV}{H H1:Hp}{Y:St}{env:En}{fp:Nat->NZ}
def dq:∀{xs:N5}{vs:N3}{f:NZ}{ns:NW},bK xs=some ns->RelL T F B L H xs vs f->vs=ns.map V.int
 | [],_,_,_,e,r=>by cases e;exact r.1
 |.int i::xs,_,_,ns,e,r=>by
  obtain⟨v,ws,f1,f2,rfl,h1,h2,rfl⟩:=r;simp only[bK]at e;cases e2:bK xs with
  |none=>rw[e2]at e;cases e
  |some ms=>rw[e2]at e;cases e;rw[h1.1,dq e2 h2];rfl
 |.non::_,_,_,_,e,_|.bl _::_,_,_,_,e,_|.str _::_,_,_,_,e,_|.lst _ _::_,_,_,_,e,_|.tup _::_,_,_,_,e,_|.obj _ _ _ _::_,_,_,_,e,_|.exc _::_,_,_,_,e,_|.box _ _::_,_,_,_,e,_=>by simp[bK]at e
def iw:∀{ns:NW}{its:NY},aU (ns.map V.int) its->PyProof.Rows.IntsAre its ns
 | [],_,r=>by cases r;exact .nil
 |n::ns,_,r=>by
  cases r with
  |cons h t=>obtain⟨tk,rfl⟩:=h;exact .cons _ _ (iw t)
theorem oU(hc:X.calm=true):dN X (.type "set") (λxs H Q=>∃p ns,xs=[.ref p]/\SqL X.K H p (ns.map V.int)/\ns.length<=1000/\∀r S,H r=none->Q (.ref r) (upd H r (.set S (pT ns)))):=by
 intro NP s Y H xs us Q I rv h;obtain⟨p,ns,rfl,hS,hl,q⟩:=h;obtain⟨u,rfl,rx⟩:=eO rv;cases rx;obtain⟨its,r',pl,hz⟩:=I.list hS;have hlen:=r'.length;rw[length_map]at hlen;refine call_set_list (I.ok.hd hc) pl.isList (by simpa using iw r') (by simp;unfold scanBound;lia) λh' tk hs kp=>?_;have e:its.toArray.size=ns.length:=by simp[hlen]
 rw[e]at hs;exact⟨.ref s.heap.objs.size,_,I.laid (t':=tk) (o:=.set (λk'=>(firstMet (λi=>ns.getD i 0) ns.length).any (·==k')) (pT ns)) (λb o e=>kp b o (lt_size e) e) (Nat.le_refl _) hs,rfl,q _ _ (I.hok.fresh (Nat.le_refl _))⟩
theorem oX:dN X (.builtin "len") (λxs H Q=>∃r S n,xs=[.ref r]/\H r=some (.set S n)/\Q (.int n) H):=by intro NP s Y H xs us Q I rv h;obtain⟨r,S,n,rfl,hr,q⟩:=h;obtain⟨u,rfl,rx⟩:=eO rv;cases rx;obtain⟨o,es,ep,t,ho,hex,hd,_,_,hb,hf,hn⟩:=I.hok r _ hr;have hb':es.size<4096:=hb;exact call_len_set ho hex hd hf () ⟨.int n,H,I.tok _,⟨s.toks+1,by rw[hn]⟩,q⟩
theorem I0:bootBuiltins "set"=some (.type "set"):=by decide +kernel
def pz(hK:X.K=T.K)(hc:X.calm=true)(hg:Gl X "len")(hm:X.mg "len"=none)(hg2:Gl X "set")(hm2:X.mg "set"=none)(he:SE X T W e m)
  (hs:starEach [e] X.env=[(false,eval e X.env)]:=by rfl)
  (hs2:starEach [.Call (.Name "set" p2) [e] [] pos2] X.env=[(false,eval (.Call (.Name "set" p2) [e] [] pos2) X.env)]:=by rfl) :
  SE X T W (.Call (.Name "len" p) [.Call (.Name "set" p2) [e] [] pos2] [] pos) (mUn jw m):=by
 refine PE.wk (nM oX hg hm boot_len (dO (lh (oU hc) hg2 hm2 I0 (dO he iJ (by rw[hs];rfl)) (he:=by rw[hs];rfl)) iJ (by rfl))) λY H Q hz1=>?_;walk_at "b";unfold mUn at q;walk_at "a";cases x with
 |lst fl xs=>
  simp only[Res.Og,jw]at q;cases en:bK xs with
  |none=>rw[en]at q;exact q.elim
  |some ns=>
   rw[en]at q;dsimp only at q;obtain⟨a,vs,fp',rfl,hl,hr,_⟩:=r1;by_cases hn:decide (ns.length<=1000)=true
   .rw[if_pos hn]at q;have hv:=dq en hr;subst hv;exact⟨a,ns,rfl,by rw[hK];exact hl.sq,of_decide_eq_true hn,λr S hr=>⟨r,S,_,rfl,bp,q.scal (g1.trans (Gr.same g1.dom (Ext.upd hr))) eK⟩⟩
   .rw[if_neg hn]at q;exact q.elim
 |_=>exact q.elim
end
noncomputable def hV:NW->Int
 | []=>0
 | [a]=>a
 |a::b::l=>min a (hV (b::l))
def jO:NW->Int
 | []=>0
 | [a]=>a
 |a::b::l=>max a (jO (b::l))
theorem hG:∀{l:NW},l≠[]->hV l∈l/\∀x∈l,hV l<=x
 | [],h=>absurd rfl h
 | [a],_=>by simp[hV]
 |a::b::l,_=>by
  obtain⟨h1,h2⟩:=hG (l:=b::l) ();unfold hV
  grind
theorem n5:∀{l:NW},l≠[]->jO l∈l/\∀x∈l,x<=jO l
 | [],h=>absurd rfl h
 | [a],_=>by simp[jO]
 |a::b::l,_=>by
  obtain⟨h1,h2⟩:=n5 (l:=b::l) ();unfold jO;refine⟨?_,λx hx=>?_⟩
  .rcases Int.le_total a (jO (b::l))with h|h
   .rw[Int.max_eq_right h];exact mem_cons_of_mem _ h1
   .rw[Int.max_eq_left h];exact mem_cons_self
  .rcases mem_cons.mp hx with rfl|hx
   .lia
   .exact Int.le_trans (h2 x hx) (Int.le_max_right _ _)
section
variable{X:Cx}{T:Tb}{W:Nat->St->N4}{Z:Zn}{F F1 B L:NV}{H H1:Hp}{Y:St}{env:En}{fp:Nat->NZ}{NP:NU}{s:Shared}
def ij{h':Heap}{t:Nat}(I:L2.Inv X NP Y H s)(k:∀b o,s.heap.get? b=some o->h'.get? b=some o):L2.Inv X NP Y H {s with heap:=h',toks:=t}:=I.un (Un.kept k) (I.hok.kept k)
def eF{its:NY}{ns:NW}(r:aU (ns.map V.int) its):∀(i:Nat) (v:Value),its.toArray[i]?=some v->∃t,v=.int (ns.getD i 0) t:=by
 intro i v e;have e':its[i]?=some v:=by simpa using e
 have:∀{ns:NW}{its:NY}{i:Nat}{v:Value},aU (ns.map V.int) its->its[i]?=some v->∃t,v=.int (ns.getD i 0) t:=by
  intro ns
  induction ns with
  |nil=>intro its i v r e;cases r;simp at e
  |cons n ns ih=>
   intro its i v r e;cases r with
   |cons h t=>
    obtain⟨tk,rfl⟩:=h;cases i with
    |zero=>simp at e;exact⟨tk,by rw[<- e];rfl⟩
    |succ i=>obtain⟨tk',h'⟩:=ih t (by simpa using e);exact⟨tk',by rw[h'];rfl⟩
 exact this r e'
theorem ug{ns:NW}(h:0<ns.length):ns.getD (argBest (λi j=>decide (ns.getD i 0<ns.getD j 0)) (ns.length-1)) 0=hV ns:=by
 obtain⟨h1,h2⟩:=argBest_lt (λi=>ns.getD i 0) (ns.length-1);obtain⟨m1,m2⟩:=hG (l:=ns) (by intro z;simp[z]at h);refine Int.le_antisymm ?_ (m2 _ ?_)
 .obtain⟨i,hi,e⟩:=getElem_of_mem m1;have:=h2 i ()
  grind
 .rw[getD_eq_getElem?_getD,getElem?_eq_getElem ()];exact getElem_mem _
theorem uh{ns:NW}(h:0<ns.length):ns.getD (argBest (λi j=>decide (ns.getD i 0>ns.getD j 0)) (ns.length-1)) 0=jO ns:=by
 obtain⟨h1,h2⟩:=argBest_gt (λi=>ns.getD i 0) (ns.length-1);obtain⟨m1,m2⟩:=n5 (l:=ns) (by intro z;simp[z]at h);refine Int.le_antisymm (m2 _ ?_) ?_
 .rw[getD_eq_getElem?_getD,getElem?_eq_getElem ()];exact getElem_mem _
 .obtain⟨i,hi,e⟩:=getElem_of_mem m1;have:=h2 i ()
  grind
theorem i3{n:Nat}{l I:Addr}(hl:l<n)(e:I=n):∀b∈[I,l],b<n+1:=(by grind)
def eC{h h':Heap}{o:Obj}(hk:∀b u,b∉[h.objs.size]->(h.push o).get? b=some u->h'.get? b=some u):∀b u,h.get? b=some u->h'.get? b=some u:=λb u e=>
 hk b u (λhm=>by
  rcases mem_cons.mp hm with z|z
  .exact absurd (z▸lt_size e) (Nat.lt_irrefl _)
  .cases z) (get?_push_of_some _ e)
theorem qX(hc:X.calm=true):dN X (.builtin "min") (λxs H Q=>∃p ns,xs=[.ref p]/\(SqL X.K H p (ns.map V.int)\/ SqT X.K H p (ns.map V.int))/\0<ns.length/\Q (.int (hV ns)) H):=by
 intro NP s Y H xs us Q I rv h;obtain⟨p,ns,rfl,hq,hn,q⟩:=h;obtain⟨u,rfl,rx⟩:=eO rv;cases rx;have hh:=I.ok.hd hc;have key:∀{its:NY},aU (ns.map V.int) its->∀{v:Value}{h':Heap}{tk:Nat},its.toArray[argBest (λi j=>decide (ns.getD i 0<ns.getD j 0)) (its.toArray.size-1)]?=some v->(∀b o,s.heap.get? b=some o->h'.get? b=some o)->EP X NP Y Q v {s with heap:=h',toks:=tk}:=by
  intro its r v h' tk hv k;walk_at "c"
  rw[hl]at hv;obtain⟨t,rfl⟩:=eF r _ _ hv;rw[ug hn];exact⟨.int _,H,ij I k,⟨t,rfl⟩,q⟩
 rcases hq with hq|hq
 .obtain⟨its,r,pl,hz⟩:=I.list hq;walk_at "c"
  obtain⟨o,ho,hcl,n,hd⟩:=pl.isList;have hlt:=lt_size ho;refine call_min_walk (wpAny_pyIter_list pl.isList ?_);refine⟨_,_,_,_,_,_,_,rfl,Walks.list (A:=X.A.in1) hh _ p (Nat.ne_of_lt hlt) its.toArray,⟨⟨_,get?_push_size _ rfl,rfl,rfl⟩,pl.isList.push _⟩,λb hb=>?_,by lia,CmpOf.ints_lt (λi=>ns.getD i 0) (eF r),λv h' tk hP hk=>key r hP (eC hk)⟩;rw[size_push];exact i3 hlt rfl b hb
 .obtain⟨its,r,pl,hz⟩:=I.tuple hq;walk_at "c"
  have pt:s.heap.IsTuple p its.toArray:=pl;obtain⟨o,ho,hcl,n,hd⟩:=pl;have hlt:=lt_size ho;refine call_min_walk (wpAny_pyIter_tuple pt ?_);refine⟨_,_,_,_,_,_,_,rfl,Walks.tuple (A:=X.A.in1) hh _ p (Nat.ne_of_lt hlt) its.toArray,⟨⟨_,get?_push_size _ rfl,rfl,rfl⟩,pt.push _⟩,λb hb=>?_,by lia,CmpOf.ints_lt (λi=>ns.getD i 0) (eF r),λv h' tk hP hk=>key r hP (eC hk)⟩;rw[size_push];exact i3 hlt rfl b hb
def qY(hc:X.calm=true):dN X (.builtin "max") (λxs H Q=>∃p ns,xs=[.ref p]/\(SqL X.K H p (ns.map V.int)\/ SqT X.K H p (ns.map V.int))/\0<ns.length/\Q (.int (jO ns)) H):=by
 intro NP s Y H xs us Q I rv h;obtain⟨p,ns,rfl,hq,hn,q⟩:=h;obtain⟨u,rfl,rx⟩:=eO rv;cases rx;have hh:=I.ok.hd hc;have key:∀{its:NY},aU (ns.map V.int) its->∀{v:Value}{h':Heap}{tk:Nat},its.toArray[argBest (λi j=>decide (ns.getD i 0>ns.getD j 0)) (its.toArray.size-1)]?=some v->(∀b o,s.heap.get? b=some o->h'.get? b=some o)->EP X NP Y Q v {s with heap:=h',toks:=tk}:=by
  intro its r v h' tk hv k;walk_at "c"
  rw[hl]at hv;obtain⟨t,rfl⟩:=eF r _ _ hv;rw[uh hn];exact⟨.int _,H,ij I k,⟨t,rfl⟩,q⟩
 rcases hq with hq|hq
 .obtain⟨its,r,pl,hz⟩:=I.list hq;walk_at "c"
  obtain⟨o,ho,hcl,n,hd⟩:=pl.isList;have hlt:=lt_size ho;refine call_max_walk (wpAny_pyIter_list pl.isList ?_);refine⟨_,_,_,_,_,_,_,rfl,Walks.list (A:=X.A.in1) hh _ p (Nat.ne_of_lt hlt) its.toArray,⟨⟨_,get?_push_size _ rfl,rfl,rfl⟩,pl.isList.push _⟩,λb hb=>?_,by lia,CmpOf.ints_gt (λi=>ns.getD i 0) (eF r),λv h' tk hP hk=>key r hP (eC hk)⟩;rw[size_push];exact i3 hlt rfl b hb
 .obtain⟨its,r,pl,hz⟩:=I.tuple hq;walk_at "c"
  have pt:s.heap.IsTuple p its.toArray:=pl;obtain⟨o,ho,hcl,n,hd⟩:=pl;have hlt:=lt_size ho;refine call_max_walk (wpAny_pyIter_tuple pt ?_);refine⟨_,_,_,_,_,_,_,rfl,Walks.tuple (A:=X.A.in1) hh _ p (Nat.ne_of_lt hlt) its.toArray,⟨⟨_,get?_push_size _ rfl,rfl,rfl⟩,pt.push _⟩,λb hb=>?_,by lia,CmpOf.ints_gt (λi=>ns.getD i 0) (eF r),λv h' tk hP hk=>key r hP (eC hk)⟩;rw[size_push];exact i3 hlt rfl b hb
def g7(g:NW->Int):PV->N6:=λx=>match aY x with
 |some xs=>match bK xs with
  |some ns=>if ns.isEmpty then .stuck else .ok (.int (g ns))
  |none=>.stuck
 |none=>.stuck
theorem sQ(hK:X.K=T.K):Mir T W (p1 (g7 g)) (λxs H Q=>∃p ns,xs=[.ref p]/\(SqL X.K H p (ns.map V.int)\/ SqT X.K H p (ns.map V.int))/\0<ns.length/\Q (.int (g ns)) H):=by
 intro B F L Y H Q F' H' xs vs fx gr r nf nd new q
 match xs,r,q with
 | [x],r,q=>
  obtain⟨v,rfl,rv⟩:=RelL.one r;simp only[p1,g7]at q;cases e:aY x with
  |none=>rw[e]at q;exact q.elim
  |some ys=>
   rw[e]at q;dsimp only at q;cases e2:bK ys with
   |none=>rw[e2]at q;exact q.elim
   |some ns=>
    rw[e2]at q;obtain⟨a,us,fx',rfl,hs,hr,_⟩:=rv.seq e;have hu:=dq e2 hr;subst hu;cases ns with
    |nil=>exact q.elim
    |cons n ns=>exact⟨a,_,rfl,by lia,by simp,q.scal gr eK⟩
 | [],_,q=>exact q.elim
 |_::_::_,_,q=>simp only[p1]at q;exact q.elim
theorem vv:bootBuiltins "min"=some (.builtin "min"):=by decide +kernel
theorem BZ:bootBuiltins "max"=some (.builtin "max"):=by decide +kernel
def vQ(hK:X.K=T.K)(hc:X.calm=true)(hg:Gl X "min")(hm:X.mg "min"=none)(ha:SE X T W e m)(he:starEach [e] X.env=[(false,eval e X.env)]:=by rfl):SE X T W (.Call (.Name "min" p) [e] [] pos) (ao (p1 (g7 hV)) (ae m am)):=
 fj (qX hc) (sQ hK) hg hm vv (aa ha ah (by rw[he];rfl)) (he:=by rw[he];rfl)
def vR(hK:X.K=T.K)(hc:X.calm=true)(hg:Gl X "max")(hm:X.mg "max"=none)(ha:SE X T W e m)(he:starEach [e] X.env=[(false,eval e X.env)]:=by rfl):SE X T W (.Call (.Name "max" p) [e] [] pos) (ao (p1 (g7 jO)) (ae m am)):=
 fj (qY hc) (sQ hK) hg hm BZ (aa ha ah (by rw[he];rfl)) (he:=by rw[he];rfl)
noncomputable def gc(g:Int->Int->Int):N5->N6
 | [.int i,.int j]=>.ok (.int (g i j))
 |_=>.stuck
def yb{g:Int->Int->Int}{g':Int->Int->Int}(hg:∀i j,g' i j=g i j):Mir T W (gc g) (λxs H Q=>∃i j,xs=[.int i,.int j]/\Q (.int (g' i j)) H):=by
 intro B F L Y H Q F' H' xs vs fx gr r nf nd new q
 match xs,r,q with
 | [x,y],r,q=>
  cases x with
  |int i=>
   cases y with
   |int j=>obtain⟨v,ws,f1,f2,rfl,h1,h2,rfl⟩:=r;obtain⟨u,rfl,h3⟩:=RelL.one h2;obtain⟨rfl,_⟩:=h1;obtain⟨rfl,_⟩:=h3;exact⟨i,j,rfl,by rw[hg];exact q.scal gr eK⟩
   |_=>exact q.elim
  |_=>exact q.elim
 | [],_,q=>exact q.elim
 | [x],_,q=>cases x<;>exact q.elim
 |x::y::z::l,_,q=>cases x<;>cases y<;>exact q.elim
theorem mQ(hc:X.calm=true)(hg:Gl X "min")(hm:X.mg "min"=none)(ha:SA X T W [a,b] ms)(he:starEach [a,b] X.env=[(false,eval a X.env),(false,eval b X.env)]:=by rfl)(he2:starEach [b] X.env=[(false,eval b X.env)]:=by rfl) :
  SE X T W (.Call (.Name "min" p) [a,b] [] pos) (ao (gc min) ms):=
 fj (yH hc) (yb λi j=>by lia) hg hm vv ha (he:=by rw[he,he2]) (hpl:=by rw[he2];rfl)
end
end PR
namespace PR
open PySem PySem.W PyProof.Rows
structure Ord(N:Nat)(lt:Nat->Nat->Bool):Prop where
 tr:∀i j k,i<N->j<N->k<N->lt i j=true->lt j k=true->lt i k=true
 tot:∀i j,i<N->j<N->i≠j->lt i j=false->lt j i=true
 irr:∀i,i<N->lt i i=false
structure Plc(N:Nat)(p:Array Nat):Prop where
 pm:p.toList.Perm (range N)
abbrev at_(p:Array Nat)(i:Nat):Nat:=p.getD i 0
section
variable{N:Nat}{lt:Nat->Nat->Bool}{p:Array Nat}
def Plc.sz(P:Plc N p):p.size=N:=by simpa using P.pm.length_eq
def Plc.get(P:Plc N p)(h:i<N):p[i]?=some (at_ p i):=by
 have:i<p.size:=by rw[P.sz];exact h
 simp[this]
def Plc.bd(P:Plc N p)(h:i<N):at_ p i<N:=by
 have hm:at_ p i∈p.toList:=by have:=P.get h;exact Array.mem_toList_iff.mpr (Array.mem_of_getElem? this)
 simpa using P.pm.mem_iff.mp hm
def Plc.inj(P:Plc N p)(hi:i<N)(hj:j<N)(e:at_ p i=at_ p j):i=j:=by
 have nd:p.toList.Nodup:=P.pm.nodup_iff.mpr nodup_range;have h1:=P.get hi;have h2:=P.get hj;rw[e]at h1;have h1':p.toList[i]?=some (at_ p j):=by simpa using h1
 have h2':p.toList[j]?=some (at_ p j):=by simpa using h2
 obtain⟨a1,b1⟩:=List.getElem?_eq_some_iff.mp h1';obtain⟨a2,b2⟩:=List.getElem?_eq_some_iff.mp h2';exact(getElem_inj nd).mp (b1.trans b2.symm)
def Asc(lt:Nat->Nat->Bool)(p:Array Nat)(n:Nat):Prop:=∀a b,a<b->b<n->lt (at_ p a) (at_ p b)=true
def Dsc(lt:Nat->Nat->Bool)(p:Array Nat)(n:Nat):Prop:=∀a b,a<b->b<n->lt (at_ p b) (at_ p a)=true
theorem Asc.more(O:Ord N lt)(P:Plc N p)(h:Asc lt p n)(h1:1<=n)(hn:n<N)(hl:lt (at_ p (n-1)) (at_ p n)=true):Asc lt p (n+1):=λa b hab hb=>by
 by_cases hbn:b<n
 .exact h a b hab hbn
 .obtain rfl:b=n:=by lia
  by_cases ha:a=b-1
  .rw[ha];exact hl
  .exact O.tr _ _ _ (P.bd ()) (P.bd ()) (P.bd ()) (h a (b-1) () ()) hl
def Dsc.more(O:Ord N lt)(P:Plc N p)(h:Dsc lt p n)(h1:1<=n)(hn:n<N)(hl:lt (at_ p n) (at_ p (n-1))=true):Dsc lt p (n+1):=λa b hab hb=>by
 by_cases hbn:b<n
 .exact h a b hab hbn
 .obtain rfl:b=n:=by lia
  by_cases ha:a=b-1
  .rw[ha];exact hl
  .exact O.tr _ _ _ (P.bd ()) (P.bd ()) (P.bd ()) hl (h a (b-1) () ())
theorem Dsc.rev(P:Plc N p)(h:Dsc lt p n)(hn:n<=N):Asc lt (kas_rev p 0 n) n/\Plc N (kas_rev p 0 n):=by
 have hp:(kas_rev p 0 n).toList.Perm p.toList:=Array.perm_iff_toList_perm.mp (mirror_perm _ _ _ _);have P':Plc N (kas_rev p 0 n):=⟨hp.trans P.pm⟩
 have ix:∀k,k<n->at_ (kas_rev p 0 n) k=at_ p (n-1-k):=λk hk=>by
  have e:=getElem?_mirror_all (i:=0) (by rw[P.sz];exact hn) k;have h1:(kas_rev p 0 n)[k]?=p[0+n-1-k]?:=by unfold kas_rev;rw[e,if_pos ⟨by lia,hk⟩]
  rw[P'.get (),show 0+n-1-k=n-1-k by lia,P.get ()]at h1;exact Option.some.inj h1
 refine⟨λa b hab hb=>?_,P'⟩;rw[ix a (),ix b hb];exact h _ _ () ()
variable{cmp:Nat->Nat->(Bool->Shared->Prop)->Shared->Prop}{s:Shared}
abbrev Cmp(N:Nat)(lt:Nat->Nat->Bool)(cmp:Nat->Nat->(Bool->Shared->Prop)->Shared->Prop)(s:Shared):Prop:=∀(i j:Nat) (C:Bool->Shared->Prop),i<N->j<N->C (lt i j) s->cmp i j C s
theorem vw(O:Ord N lt)(C:Cmp N lt cmp s)(P:Plc N p):∀(f n:Nat) (Q:Nat->Shared->Prop),1<=n->n+f=N->Asc lt p n->(∀m,n<=m->m<=N->Asc lt p m->(m<N->lt (at_ p m) (at_ p (m-1))=true)->Q m s)->(kas_asc p f n).kasWp cmp Q s
 |0,n,Q,h1,hn,ha,k=>k n (Nat.le_refl _) () ha ()
 |f+1,n,Q,h1,hn,ha,k=>by
  refine C _ _ _ (P.bd ()) (P.bd ()) ?_;cases e:lt (at_ p n) (at_ p (n-1))with
  |true=>exact k n (Nat.le_refl _) () ha λ_=>e
  |false=>have hl:=O.tot _ _ (P.bd ()) (P.bd ()) (λz=>by have:=P.inj () () z;lia) e;exact vw O C P f (n+1) Q () () (ha.more O P h1 () hl) λm hm=>k m ()
def BP(O:Ord N lt)(C:Cmp N lt cmp s)(P:Plc N p):∀(f n:Nat) (Q:Array Nat×Nat×Nat->Shared->Prop),1<=n->n+f=N->Dsc lt p n->(∀m,n<=m->m<=N->Dsc lt p m->Q (p,m,0) s)->(kas_desc f p n 0).kasWp cmp Q s
 |0,n,Q,h1,hn,ha,k=>k n (Nat.le_refl _) () ha
 |f+1,n,Q,h1,hn,ha,k=>by
  refine C _ _ _ (P.bd ()) (P.bd ()) ?_;cases e:lt (at_ p n) (at_ p (n-1))with
  |true=>exact BP O C P f (n+1) Q () () (ha.more O P h1 () e) λm hm=>k m ()
  |false=>have hl:=O.tot _ _ (P.bd ()) (P.bd ()) (λz=>by have:=P.inj () () z;lia) e;refine C _ _ _ (P.bd ()) (P.bd ()) ?_;have e2:lt (p.getD (n-1) 0) (p.getD n 0)=true:=hl;rw[e2];exact k n (Nat.le_refl _) () ha
theorem BU(O:Ord N lt)(C:Cmp N lt cmp s)(P:Plc N p)(h2:2<=N)(Q:Nat×Array Nat->Shared->Prop)(k:∀m p',1<=m->m<=N->Plc N p'->Asc lt p' m->Q (m,p') s):(kas_count N p).kasWp cmp Q s:=by
 unfold kas_count;rw[KasT.kasWp_bind];refine vw O C P (N-1) 1 _ (Nat.le_refl _) () (λa b _ hb=>by lia) λn h1 hn ha hs=>?_;by_cases e:n=N
 .rw[if_pos (by simpa using e)];exact k n p h1 hn P ha
 .rw[if_neg (by simpa using e)];by_cases hn1:n>1
  .rw[if_pos hn1];refine C _ _ _ (P.bd ()) (P.bd ()) ?_;have e2:lt (p.getD 0 0) (p.getD (n-1) 0)=true:=ha 0 (n-1) () ();rw[e2];exact k n p h1 hn P ha
  .rw[if_neg hn1];obtain rfl:n=1:=by lia
   unfold kas_descPart;rw[KasT.kasWp_bind];refine BP O C P (N-2) 2 _ () () (λa b hab hb=>?_) λm hm1 hm2 hd=>?_
   .obtain rfl:a=0:=by lia
    obtain rfl:b=1:=by lia
    exact hs ()
   .dsimp only;rw[if_neg (Nat.lt_irrefl 0)];obtain⟨ha',P'⟩:=hd.rev P hm2;unfold kas_tail3;rw[KasT.kasWp_bind];exact vw O C P' (N-m) m _ () () ha' λn' h1' hn' ha'' _=>k n' _ () hn' P' ha''
theorem nJ(O:Ord N lt)(C:Cmp N lt cmp s)(P:Plc N p)(hk:k<N)(ha:Asc lt p k):∀(f l r:Nat) (Q:Nat->Shared->Prop),l<=r->r<=k->r-l<=f->(∀a,a<l->lt (at_ p a) (at_ p k)=true)->(∀a,r<=a->a<k->lt (at_ p k) (at_ p a)=true)->
  (∀m,m<=k->(∀a,a<m->lt (at_ p a) (at_ p k)=true)->(∀a,m<=a->a<k->lt (at_ p k) (at_ p a)=true)->Q m s)->(kas_place p k f l r).kasWp cmp Q s
 |0,l,r,Q,h1,h2,h3,h4,h5,q=>by
  obtain rfl:l=r:=by lia
  exact q l h2 h4 h5
 |f+1,l,r,Q,h1,h2,h3,h4,h5,q=>by
  unfold kas_place;by_cases e:l >= r
  .rw[if_pos e];obtain rfl:l=r:=by lia
   exact q l h2 h4 h5
  .rw[if_neg e];have hm2:l <=(l+r) / 2:=by lia
   refine C _ _ _ (P.bd hk) (P.bd ()) ?_;cases e2:lt (at_ p k) (at_ p ((l+r) / 2))with
   |true=>
    refine nJ O C P hk ha f l ((l+r) / 2) Q hm2 () () h4 (λa h6 h7=>?_) q;by_cases hae:a=(l+r) / 2
    .rw[hae];exact e2
    .exact O.tr _ _ _ (P.bd hk) (P.bd ()) (P.bd ()) e2 (ha _ a () h7)
   |false=>
    have hl:=O.tot _ _ (P.bd hk) (P.bd ()) (λz=>by have:=P.inj hk () z;lia) e2;refine nJ O C P hk ha f ((l+r) / 2+1) r Q () h2 () (λa h6=>?_) h5 q;by_cases hae:a=(l+r) / 2
    .rw[hae];exact hl
    .exact O.tr _ _ _ (P.bd ()) (P.bd ()) (P.bd hk) (ha a _ () ()) hl
theorem BY(O:Ord N lt)(C:Cmp N lt cmp s):∀(f k:Nat) (p:Array Nat) (Q:Array Nat->Shared->Prop),Plc N p->Asc lt p k->k+f=N->(∀p',Plc N p'->Asc lt p' N->Q p' s)->(kas_bin f p k).kasWp cmp Q s
 |0,k,p,Q,P,ha,hk,q=>q p P ()
 |f+1,k,p,Q,P,ha,hk,q=>by
  unfold kas_bin;rw[KasT.kasWp_bind];refine nJ O C P () ha k 0 k _ (zero_le _) (Nat.le_refl _) () (λ_ z=>absurd z (Nat.not_lt_zero _)) (λa h1 h2=>by lia) λm hm h1 h2=>?_;have P':Plc N (bubble p k (k-m)):=⟨(Array.perm_iff_toList_perm.mp (bubble_perm _ _ _)).trans P.pm⟩
  have ix:=getElem?_bubble (src:=k) (by rw[P.sz];lia) (k-m) ();have g:∀i,i<k+1->at_ (bubble p k (k-m)) i=if i=m then at_ p k else if m<i then at_ p (i-1)else at_ p i:=λi hi=>by
   have e:=ix i;rw[P'.get ()]at e;have hkm:k-(k-m)=m:=by lia
   rw[hkm]at e;by_cases c1:i=m
   .rw[if_pos c1];rw[if_pos c1,P.get ()]at e;exact Option.some.inj e
   .rw[if_neg c1]at e ⊢;by_cases c2:m<i
    .rw[if_pos c2];rw[if_pos ⟨c2,by lia⟩,P.get ()]at e;exact Option.some.inj e
    .rw[if_neg c2];rw[if_neg (λz=>c2 z.1),P.get ()]at e;exact Option.some.inj e
  refine BY O C f (k+1) _ Q P' (λa b hab hb=>?_) () q;rw[g a (),g b hb];by_cases a1:a=m
  .rw[if_pos a1,if_neg (),if_pos ()];exact h2 (b-1) () ()
  .rw[if_neg a1];by_cases a2:m<a
   .rw[if_pos a2,if_neg (),if_pos ()];exact ha _ _ () ()
   .rw[if_neg a2];by_cases b1:b=m
    .rw[if_pos b1];exact h1 a ()
    .rw[if_neg b1];by_cases b2:m<b
     .rw[if_pos b2];by_cases hh:a=b-1
      .lia
      .exact ha _ _ () ()
     .rw[if_neg b2];exact ha _ _ hab ()
theorem Cr(O:Ord N lt)(C:Cmp N lt cmp s)(h2:2<=N)(Q:Array Nat->Shared->Prop)(q:∀p,Plc N p->Asc lt p N->Q p s):(kas_sort N).kasWp cmp Q s:=by
 unfold kas_sort;rw[KasT.kasWp_bind];refine BU O C ⟨by simp⟩ h2 _ λm p' h1 hm P ha=>?_;by_cases e:m<N
 .rw[if_pos e,Nat.max_eq_left h1];exact BY O C (N-m) m p' Q P ha () q
 .rw[if_neg e];obtain rfl:m=N:=by lia
  exact q p' P ha
end
end PR
namespace PR
open PySem PySem.Spec L2 PyProof.Rows PySem.W
section
variable{prog:Program}{w:World}{A:Around}{E:NR}{s:Shared}
def nT(vs:NY)(p:Array Nat):N2:=(p.toList.map λi=>vs.getD i Value.none).toArray
def xN(N:Nat):Plc N (range N).toArray:=⟨by simp⟩
def lZ:nT vs (range vs.length).toArray=vs.toArray:=by unfold nT;congr 1;refine ext_getElem () λi h1 h2=>?_;simp[h2]
theorem B_{vs:NY}(h:vs.length<2):(vs.toArray.zip vs.toArray).map (·.2)=vs.toArray:=by
 cases vs with
 |nil=>simp
 |cons v l=>cases l with
  |nil=>simp
  |cons w l=>simp only[List.length_cons]at h;omega
theorem ye{κ:SortKind}(ho:s.heap.get? a=some (seqObj "list" vs.toArray n))(h64:vs.length<64)
  (hK:2<=vs.length->∀s':Shared,(∀b o,b≠a->s.heap.get? b=some o->s'.heap.get? b=some o)->Ord vs.length lt/\(∀Q:SortKind->Shared->Prop,Q κ s'->wpAny (model prog w) A (keyKind' vs.toArray) Q E s')/\Cmp vs.length lt (kas_ask prog w A κ vs) s')
  (h:∀p,Plc vs.length p->Asc lt p vs.length->P (.done (.ret .none)) {s with heap:=sortedHeap s.heap a vs (nT vs p)}) :
  wpAny (model prog w) A (Builtin.«list.sort» ⟨[.ref a],[]⟩) P E s:=by
 obtain⟨e1,g1⟩:∃e1,(s.heap.update a (Obj.mapSeq λ_=>#[])).get? a=some (seqObj "list" #[] e1):=⟨_,get?_update_seq ho (λ_=>#[])⟩
 have g6:(((s.heap.update a (Obj.mapSeq λ_=>#[])).push (seqObj "tuple" vs.toArray 0)).push (seqObj "list" #[] 0)).get? a=some (seqObj "list" #[] e1):=get?_push_of_some _ (get?_push_of_some _ g1);have kp:∀b o,b≠a->s.heap.get? b=some o->(((s.heap.update a (Obj.mapSeq λ_=>#[])).push (seqObj "tuple" vs.toArray 0)).push (seqObj "list" #[] 0)).get? b=some o:=λb o hb q=>
  get?_push_of_some _ (get?_push_of_some _ ((Heap.get?_update_ne _ _ _ _ hb).trans q))
 rw[list_sort_plain];refine wpAny_bind (listItems_at ho rfl (wpAny_bind (listUpdate_at ho rfl (wpAny_bind (seqEpoch_at g1 rfl (wpAny_bind (wpAny_newTuple (wpAny_bind (wpAny_newList (wpAny_holding ?_))))))))))<;>try (simp;lia)
 dsimp only;by_cases h2:vs.toArray.size<2
 .have h2':vs.length<2:=by simpa using h2
  rw[if_pos h2,if_pos h2];refine wpAny_bind (wpAny_pure ?_);refine wpAny_bind (wpAny_pure ?_);dsimp only;have e3:(arrOf (SortSt.mk' general' (vs.toArray.zip vs.toArray) #[] 7 none)).map (·.2)=nT vs (range vs.length).toArray:=by rw[lZ];exact B_ h2'
  rw[e3];refine wpAny_bind (seqEpoch_at g6 rfl (wpAny_bind (listUpdate_at g6 rfl ?_ (zero_le _) (by rw[lZ];lia))));simp only[bne_self_eq_false];exact wpAny_pure (h _ (xN _) λx y hxy hy=>by lia)
 .have h2':2<=vs.length:=by simp at h2;lia
  rw[if_neg h2,if_neg h2];obtain⟨O,hk,C⟩:=hK h2' {s with heap:=((s.heap.update a (Obj.mapSeq λ_=>#[])).push (seqObj "tuple" vs.toArray 0)).push (seqObj "list" #[] 0)} kp;refine wpAny_bind (hk _ ?_);refine wpAny_bind (wpAny_mono (kat_run (Q:=λst' s'=>∃ p:Array Nat,arrOf st'=p.map (kas_item (vs.toArray.zip vs.toArray))/\failedOf st'=none/\Plc vs.length p/\Asc lt p vs.length/\s'=_) rfl h2' h64
   (λp st' s' _ a2 a3 a4=>⟨p,a2,a3,a4⟩) (Cr O C h2' _ λp c1 c2=>⟨c1,c2,rfl⟩)) ?_ λ_ _ e=>e)
  rintro⟨⟨⟩,st'⟩ s' ⟨p,har,hf,c1,c2,rfl⟩;have e3:=kat_snds rfl har;rw[e3];refine wpAny_bind (seqEpoch_at g6 rfl (wpAny_bind (listUpdate_at g6 rfl ?_ (zero_le _) (by
   rw[size_toArray,length_map,Array.length_toList,c1.sz,sizeLine_eq];lia))))
  rw[hf];simp only[bne_self_eq_false];exact wpAny_pure (h _ c1 c2)
theorem ux{κ:SortKind}(hl:s.heap.IsList l vs.toArray)(h64:vs.length<64)
  (hK:2<=vs.length->∀s':Shared,(∀b o,s.heap.get? b=some o->s'.heap.get? b=some o)->Ord vs.length lt/\(∀(E:NR) (Q:SortKind->Shared->Prop),Q κ s'->wpAny (model prog w) A.in1.in1 (keyKind' vs.toArray) Q E s')/\Cmp vs.length lt (kas_ask prog w A.in1.in1 κ vs) s')
  (h:∀p,Plc vs.length p->Asc lt p vs.length->Q (.ref (s.heap.objs.size+1)) {s with heap:=sortedAll s.heap vs (nT vs p)}) :
  wpAny (model prog w) A (call (.builtin "sorted") [.ref l]) Q E s:=by
 refine Calls.call_function_entry kind_sorted plain_sorted entry_sorted (args_sorted1 _) ?_;have sz:((s.heap.push (seqObj "list" #[] 0)).update s.heap.objs.size (Obj.mapSeq (·++vs.toArray))).objs.size=s.heap.objs.size+1:=(Heap.size_update _ _ _).trans (size_push' _ _);refine wpAny_bind (wpAny_pure (wpAny_bind (collect_list hl (wpAny_bind (wpAny_newList ?_ (by rw[sizeLine_eq];lia))) (by rw[sizeLine_eq];lia))));have g:(((s.heap.push (seqObj "list" #[] 0)).update s.heap.objs.size (Obj.mapSeq (·++vs.toArray))).push (seqObj "list" vs.toArray 0)).get? (s.heap.objs.size+1)=some (seqObj "list" vs.toArray 0):=sz▸get?_push_size _ rfl;have kp:∀b o,s.heap.get? b=some o->(((s.heap.push (seqObj "list" #[] 0)).update s.heap.objs.size (Obj.mapSeq (·++vs.toArray))).push (seqObj "list" vs.toArray 0)).get? b=some o:=λb o q=>
  get?_push_of_some _ ((Heap.get?_update_ne _ _ _ _ (Nat.ne_of_lt (lt_size q))).trans (get?_push_of_some _ q))
 rw[sz];refine wpAny_bind (wpAny_holding (wpAny_call_entry slot_list_sort ⟨_,g,rfl⟩ entry_list_sort ?body (args_list_sort _)));refine ye (κ:=κ) g h64 (λh2 s' k'=>?_) λp c1 c2=>⟨_,rfl,wpAny_pure ⟨_,rfl,h p c1 c2⟩⟩
 obtain⟨O,hk,C⟩:=hK h2 s' λb o q=>k' b o (Nat.ne_of_lt (Nat.lt_succ_of_lt (lt_size q))) (kp b o q);exact⟨O,λQ q=>hk _ Q q,C⟩
noncomputable def fO(x y:Int×Int):Bool:=decide (x.1<y.1) ||(x.1==y.1&&decide (x.2<y.2))
theorem jN(h1:fO x y=true)(h2:fO y z=true):fO x z=true:=by
 simp only[fO]at *
 lia
def sw(x:Int×Int):fO x x=false:=by simp[fO]
theorem si(h:x≠y):fO x y=true\/fO y x=true:=by
 obtain⟨a,b⟩:=x;obtain⟨c,d⟩:=y;have:a≠c\/b≠d:=by lia
 simp only[fO,or_eq_true,and_eq_true]
 lia
def cW(h:Heap):NY->NT->Prop
 | [],[]=>True
 |v::vs,x::ps=>(∃a o n t u,v=.ref a/\h.get? a=some o/\o.cls=.type "tuple" /\ o.data=.seq #[.int x.1 t,.int x.2 u] n)/\cW h vs ps
 |_,_=>False
def cW.len:∀{vs:NY}{ps:NT},cW h vs ps->vs.length=ps.length
 | [],[],_=>rfl
 |_::_,_::_,q=>by simp[q.2.len]
def cW.kept(k:∀b o,h.get? b=some o->h'.get? b=some o){vs:NY}{ps:NT}(r:cW h vs ps):cW h' vs ps:=by
 induction ps generalizing vs with
 |nil=>cases vs with
  |nil=>trivial
  |cons=>exact r.elim
 |cons x ps i=>cases vs with
  |nil=>exact r.elim
  |cons=>obtain⟨⟨a,o,n,t,u,e1,e2,e3⟩,q⟩:=r;exact⟨⟨a,o,n,t,u,e1,k _ _ e2,e3⟩,i q⟩
def cW.at{vs:NY}{ps:NT}(r:cW h vs ps)(i)(hi:i<ps.length):∃a o n t u,vs.getD i Value.none=.ref a/\h.get? a=some o/\o.data=.seq #[.int (ps.getD i (0,0)).1 t,.int (ps.getD i (0,0)).2 u] n:=by
 induction ps generalizing vs i with
 |nil=>simp at hi
 |cons x ps k=>cases vs with
  |nil=>exact r.elim
  |cons v vs=>
   obtain⟨⟨a,o,n,t,u,e1,e2,e3⟩,q⟩:=r;cases i with
   |zero=>exact⟨a,o,n,t,u,by simp[e1],e2,by simpa using e3.2⟩
   |succ i=>have:=k q i (by simp_all);simpa using this
def cW.firsts{vs:NY}{ps:NT}(r:cW h vs ps):∃fs,KatTups h vs fs/\fs.length=ps.length/\∀v∈fs,∃i t,v=.int i t:=by
 induction ps generalizing vs with
 |nil=>cases vs with
  |nil=>exact⟨[],.nil,rfl,λv hv=>by cases hv⟩
  |cons=>exact r.elim
 |cons x ps k=>cases vs with
  |nil=>exact r.elim
  |cons=>
   obtain⟨⟨a,o,n,t,u,e1,e2,e3,e4⟩,q⟩:=r;obtain⟨fs,h1,h2,h3⟩:=k q;subst e1;refine⟨_::fs,.cons e2 e3 e4 rfl h1,by simp[h2],λv hv=>?_⟩;rcases mem_cons.mp hv with rfl|hv
   .exact⟨_,_,rfl⟩
   .exact h3 v hv
def xR{ps:NT}(hd:ps.Nodup):Ord ps.length (λi j=>fO (ps.getD i (0,0)) (ps.getD j (0,0))):=by
 refine⟨λi j k _ _ _ h1 h2=>jN h1 h2,λi j hi hj hn h=>?_,λi _=>sw _⟩;have:ps.getD i (0,0)≠ ps.getD j (0,0):=by simp only[getD_eq_getElem?_getD,getElem?_eq_getElem hi,getElem?_eq_getElem hj];exact λe=>hn ((getElem_inj hd).mp e)
 rcases si this with q|q
 .rw[q]at h;cases h
 .exact q
def pG(h:Q (decide (x<y)) s):wpAny (model prog w) A (oneLt' b (.int x t) (.int y u)) Q E s:=by
 cases b with
 |true=>exact oneLt_int h
 |false=>exact kat_one _ _ (wpAny_lt_int h)
def xS(hp:cW s.heap vs ps):Cmp vs.length (λi j=>fO (ps.getD i (0,0)) (ps.getD j (0,0))) (kas_ask prog w A (tuples' true) vs) s:=by
 intro i j C hi hj q;rw[hp.len]at hi hj;obtain⟨a,o,n,t,u,e1,e2,e3⟩:=hp.at i hi;obtain⟨a',o',n',t',u',e1',e2',e3'⟩:=hp.at j hj;unfold kas_ask;rw[e1,e1'];dsimp only at q;generalize ps.getD i (0,0)=x at *;generalize ps.getD j (0,0)=y at *;refine kat_lt e2 e3 e2' e3' (kat_cons (wpAny_eqBool_int (kat_go (λh1=>kat_yes (kat_cons (wpAny_eqBool_int (kat_go (λh2=>kat_yes (kat_nil ?_)) λh2=>kat_no (pG ?_))))) λh1=>kat_no (pG ?_))))
 .simp at h1 h2;have:fO x y=false:=by simp[fO,h1,h2]
  rw[this]at q;exact q
 .simp at h1;have:fO x y=decide (x.2<y.2):=by simp[fO,h1]
  rw[this]at q;exact q
 .have:fO x y=decide (x.1<y.1):=by simp[fO,h1]
  rw[this]at q;exact q
theorem uO(hp:cW s.heap vs ps)(h2:2<=vs.length){Q:SortKind->Shared->Prop}(q:Q (tuples' true) s):wpAny (model prog w) A (keyKind' vs.toArray) Q E s:=by obtain⟨fs,h1,hl,hi⟩:=hp.firsts;refine kat_kind (T:=.type "int") h1 (by rw[hl,<- hp.len];lia) (λv hv=>?_) rfl q;obtain⟨i,t,rfl⟩:=hi v hv;exact Looks.of_pure rfl
def qc(hl:s.heap.IsList l vs.toArray)(h64:vs.length<64)(hp:cW s.heap vs ps)(hd:ps.Nodup)
  (h:∀p,Plc vs.length p->Asc (λi j=>fO (ps.getD i (0,0)) (ps.getD j (0,0))) p vs.length->Q (.ref (s.heap.objs.size+1)) {s with heap:=sortedAll s.heap vs (nT vs p)}) :
  wpAny (model prog w) A (call (.builtin "sorted") [.ref l]) Q E s:=
 ux hl h64 (λh2 s' k=>⟨hp.len▸xR hd,λE Q q=>uO (hp.kept k) h2 q,xS (hp.kept k)⟩) h
end
end PR
namespace PR
open PySem PySem.Spec L2 PyProof.Rows
noncomputable def vg(x:Int):NW->NW
 | []=>[x]
 |y::l=>if x<=y then x::y::l else y::vg x l
def ka:NW->NW
 | []=>[]
 |x::l=>vg x (ka l)
def lL(x:Int):∀l,(vg x l).Perm (x::l)
 | []=>.refl _
 |y::l=>by
  unfold vg;split
  .exact .refl _
  .exact((lL x l).cons y).trans (.swap x y l)
def fY:∀l,(ka l).Perm l
 | []=>.refl _
 |x::l=>(lL x _).trans ((fY l).cons x)
theorem tB(x:Int):∀{l:NW},l.Pairwise (·<=·)->(vg x l).Pairwise (·<=·)
 | [],_=>by simp[vg]
 |y::l,h=>by
  obtain⟨h1,h2⟩:=pairwise_cons.mp h;unfold vg;split
  .refine pairwise_cons.mpr ⟨λz hz=>?_,h⟩;rcases mem_cons.mp hz with rfl|hz
   .assumption
   .have:=h1 z hz;lia
  .refine pairwise_cons.mpr ⟨λz hz=>?_,tB x h2⟩;rcases mem_cons.mp ((lL x l).mem_iff.mp hz)with rfl|hz
   .lia
   .exact h1 z hz
def ph:∀l,(ka l).Pairwise (·<=·)
 | []=>.nil
 |x::l=>tB x (ph l)
def uz{l l':NW}(h1:l'.Perm l)(h2:l'.Pairwise (·<=·)):l'=ka l:=
 List.Perm.eq_of_pairwise (λa b _ _ x y=>Int.le_antisymm x y) h2 (ph l) (h1.trans (fY l).symm)
def vf(x:Int×Int):NT->NT
 | []=>[x]
 |y::l=>if fO x y then x::y::l else y::vf x l
def cU:NT->NT
 | []=>[]
 |x::l=>vf x (cU l)
def lK(x:Int×Int):∀l,(vf x l).Perm (x::l)
 | []=>.refl _
 |y::l=>by
  unfold vf;split
  .exact .refl _
  .exact((lK x l).cons y).trans (.swap x y l)
def cY:∀l,(cU l).Perm l
 | []=>.refl _
 |x::l=>(lK x _).trans ((cY l).cons x)
def tz(x:Int×Int):∀{l:NT},x∉l->l.Pairwise (λa b=>fO a b=true)->(vf x l).Pairwise (λa b=>fO a b=true)
 | [],_,_=>by simp[vf]
 |y::l,hn,h=>by
  obtain⟨h1,h2⟩:=pairwise_cons.mp h;unfold vf;split
  .refine pairwise_cons.mpr ⟨λz hz=>?_,h⟩;rcases mem_cons.mp hz with rfl|hz
   .assumption
   .exact jN ‹_› (h1 z hz)
  .refine pairwise_cons.mpr ⟨λz hz=>?_,tz x (λz=>hn (mem_cons_of_mem _ z)) h2⟩;rcases mem_cons.mp ((lK x l).mem_iff.mp hz)with rfl|hz
   .rcases si (y:=z) (λe=>hn (e▸mem_cons_self))with q|q
    .exact q
    .contradiction
   .exact h1 z hz
def pf:∀{l:NT},l.Nodup->(cU l).Pairwise (λa b=>fO a b=true)
 | [],_=>.nil
 |x::l,h=>by obtain⟨h1,h2⟩:=nodup_cons.mp h;exact tz x (λz=>h1 ((cY l).mem_iff.mp z)) (pf h2)
def uy(hd:l.Nodup)(h1:l'.Perm l)(h2:l'.Pairwise (λa b=>fO a b=true)):l'=cU l:=
 List.Perm.eq_of_pairwise (λa b _ _ x y=>by
  have:=jN x y;rw[sw]at this;cases this) h2 (pf hd) (h1.trans (cY l).symm)
def xK{α:Type}(l:List α)(d:α):(range l.length).map (λi=>l.getD i d)=l:=by refine ext_getElem () λi h1 h2=>?_;simp[h2]
theorem xM{ps:NT}{p:Array Nat}(hd:ps.Nodup)(P:Plc ps.length p)(a:Asc (λi j=>fO (ps.getD i (0,0)) (ps.getD j (0,0))) p ps.length):p.toList.map (λi=>ps.getD i (0,0))=cU ps:=by
 refine uy hd (by have:=P.pm.map (λi=>ps.getD i (0,0));rwa [xK]at this) ?_;refine List.pairwise_iff_getElem.mpr λi j hi hj hij=>?_;have hs:=P.sz;have hi':i<p.size:=by simpa using hi
 have hj':j<p.size:=by simpa using hj
 have:=a i j hij ();simpa[at_,hi',hj']using this
def PrH(K:PySem.W.Frag)(H:Hp):N3->NT->Prop
 | [],[]=>True
 |v::vs,x::ps=>(∃a,v=.ref a/\SqT K H a [.int x.1,.int x.2])/\PrH K H vs ps
 |_,_=>False
def PrH.len{K:PySem.W.Frag}{H:Hp}:∀{vs:N3}{ps:NT},PrH K H vs ps->vs.length=ps.length
 | [],[],_=>rfl
 |_::_,_::_,q=>by simp[q.2.len]
section
variable{X:Cx}{T:Tb}{W:Nat->L2.St->N4}{Z:Zn}{F F1 B L:NV}{H H1:Hp}{Y:L2.St}{env:En}{fp:Nat->NZ}{NP:NU}{s:Shared}
def PrH.at(I:L2.Inv X NP Y H s):∀{vs:N3}{its:NY}{ps:NT},PrH X.K H vs ps->aU vs its->cW s.heap its ps
 | [],_,[],_,r=>by cases r;trivial
 |_::_,_,_::_,⟨⟨a,e,h⟩,q⟩,r=>by
  cases r with
  |cons h1 h2=>
   subst e;cases h1;refine⟨?_,q.at I h2⟩;obtain⟨its,r,pl,_⟩:=I.tuple h;obtain⟨u,r2,rfl,⟨t,rfl⟩,r3⟩:∃u r2,its=u::r2/\bB _ u/\aU _ r2:=by cases r with|cons a b=>exact⟨_,_,rfl,a,b⟩
   obtain⟨u',rfl,⟨t',rfl⟩⟩:=eO r3;obtain⟨o,ho,hcl,n,hd⟩:=pl;exact⟨a,o,n,t,t',rfl,ho,hcl,hd⟩
def yR{vs:N3}{its:NY}(r:aU vs its)(q:List Nat)(hq:∀i∈q,i<vs.length):aU (q.map λi=>vs.getD i .non) (q.map λi=>its.getD i Value.none):=by
 induction q with
 |nil=>exact .nil
 |cons i q ih=>
  refine .cons ?_ (ih λj hj=>hq j (mem_cons_of_mem _ hj));have hi:=hq i mem_cons_self;have:∀{vs:N3}{its:NY}{i:Nat},aU vs its->i<vs.length->bB (vs.getD i .non) (its.getD i Value.none):=by
   intro vs its i r
   induction r generalizing i with
   |nil=>intro h;simp at h
   |cons a b ih=>
    intro h;cases i with
    |zero=>simpa using a
    |succ i=>simpa using ih (by simpa using h)
  exact this r hi
def qC:∀{ns:NW}{its:NY},PyProof.Rows.IntsAre its ns->aU (ns.map V.int) its:=by
 intro ns its h
 induction h with
 |nil=>exact .nil
 |cons=>exact .cons ⟨_,rfl⟩ ‹_›
theorem ud:dN X (.builtin "sorted") (λxs H Q=>∃ p ys,xs=[.ref p]/\SqL X.K H p ys/\ys.length < 64 /\
    ((∃ ns,ys=ns.map V.int/\∀ l,H l=none->Q (.ref l) (upd H l (.lst ((ka ns).map V.int)))) \/
     (∃ps,PrH X.K H ys ps/\ps.Nodup/\∀l (q:List Nat),H l=none->q.Perm (range ys.length)->q.map (λi=>ps.getD i (0,0))=cU ps->Q (.ref l) (upd H l (.lst (q.map λi=>ys.getD i .non)))))):=by
  intro NP s Y H xs us Q I rv h;obtain⟨p,ys,rfl,hq,h64,h⟩:=h;obtain⟨u,rfl,rx⟩:=eO rv;cases rx;obtain⟨its,r,pl,hz⟩:=I.list hq;have hlen:=r.length;have hfr:=I.hok.fresh (le_succ s.heap.objs.size);rcases h with⟨ns,rfl,q⟩ |⟨ps,hp,hd,q⟩
  . refine sorted_ints pl.isList (iw r) () λout ns' a1 a2 a3=>?_;obtain⟨c,hc⟩:=sortedAll_at s.heap its out;have e:=uz a2 a3;subst e;refine⟨.ref (s.heap.objs.size+1),_,I.laid (λb o=>sortedAll_old) (le_succ _) ?_,rfl,q _ hfr⟩;refine⟨?_,out.toList,c,qC a1,by simpa using hc⟩;rw[sizeLine_eq];simp[(fY ns).length_eq]at h64 ⊢;lia
  . refine qc pl.isList () (hp.at I r) hd λp P a=>?_;obtain⟨c,hc⟩:=sortedAll_at s.heap its (nT its p);have hl:=hp.len;have pm:p.toList.Perm (range ys.length):=by rw[hlen];exact P.pm
    refine⟨.ref (s.heap.objs.size+1),_,I.laid (λb o=>sortedAll_old) (le_succ _) ?_,rfl,q _ p.toList hfr pm (xM hd () ())⟩;refine⟨?_,_,c,yR r p.toList (λi hi=>by simpa using pm.mem_iff.mp hi),hc⟩;rw[sizeLine_eq];simp[P.sz];lia
end
end PR
namespace PR
open PySem PySem.Spec L2
section
noncomputable def prV(x:Int×Int):PV:=.tup [.int x.1,.int x.2]
noncomputable def nR:PV->Option (Int×Int)
 |.tup [.int a,.int b]=>some (a,b)
 |_=>none
def jb:N5->Option (NT)
 | []=>some []
 |x::xs=>match nR x,jb xs with
  |some y,some ys=>some (y::ys)
  |_,_=>none
def fP:PV->N6
 | .lst _ xs=>if decide (xs.length < 64) then (match bK xs with
  |some ns=>.ok (.lst .own ((ka ns).map .int))
  |none=>match jb xs with
   |some ps=>if decide ps.Nodup then .ok (.lst .own ((cU ps).map prV))else .stuck
   |none=>.stuck)else .stuck
 |_=>.stuck
section
variable{X:Cx}{T:Tb}{W:Nat->St->N4}{Z:Zn}{F F1 B L:NV}{H H1:Hp}{Y:St}{env:En}{fp:Nat->NZ}
def xT(e:nR x=some y):x=prV y:=by
 unfold nR at e;split at e
 .cases e;rfl
 .cases e
def nQ:∀{xs:N5}{vs:N3}{f:NZ}{ps:NT},jb xs=some ps->RelL T F B L H xs vs f->PrH T.K H vs ps/\f=[]
 | [],_,_,_,e,r=>by cases e;obtain⟨rfl,rfl⟩:=r;exact⟨trivial,rfl⟩
 |x::xs,_,_,ps,e,r=>by
  obtain⟨v,ws,f1,f2,rfl,h1,h2,rfl⟩:=r;unfold jb at e;cases e1:nR x with
  |none=>rw[e1]at e;cases e
  |some y=>
   cases e2:jb xs with
   |none=>rw[e1,e2]at e;cases e
   |some ys=>rw[e1,e2]at e;cases e;obtain⟨q,rfl⟩:=nQ e2 h2;have:=xT e1;subst this;obtain⟨a,us,rfl,hs,hr⟩:=h1;obtain⟨v1,w1,g1,g2,rfl,k1,k2,rfl⟩:=hr;obtain⟨v2,rfl,k3⟩:=RelL.one k2;obtain⟨rfl,rfl⟩:=k1;obtain⟨rfl,rfl⟩:=k3;exact⟨⟨⟨a,rfl,hs⟩,q⟩,rfl⟩
def PrH.rel:∀{vs:N3}{ps:NT},PrH T.K H vs ps->RelL T F B L H (ps.map prV) vs []
 | [],[],_=>f_ _ _ _ _
 |_::_,x::ps,⟨⟨a,e,h⟩,q⟩=>by subst e;refine⟨_,_,[],[],rfl,?_,q.rel,rfl⟩;refine⟨a,_,rfl,h,?_⟩;refine⟨_,_,[],[],rfl,eK,?_,rfl⟩;exact⟨_,_,[],[],rfl,eK,f_ _ _ _ _,rfl⟩
def PrH.get:∀{vs:N3}{ps:NT},PrH K H vs ps->∀i,i<vs.length->∃a,vs.getD i .non=.ref a/\SqT K H a [.int (ps.getD i (0,0)).1,.int (ps.getD i (0,0)).2]
 |_::_,_::_,⟨h,q⟩,0,_=>by simpa using h
 |_::_,_::_,⟨_,q⟩,i+1,hi=>by simpa using q.get i (by simp_all)
 | [],[],_,_,hi=>by simp at hi
def PrH.map(h:PrH K H vs ps)(q:List Nat)(hq:∀i∈q,i<vs.length):PrH K H (q.map λi=>vs.getD i .non) (q.map λi=>ps.getD i (0,0)):=by
 induction q with
 |nil=>trivial
 |cons i q ih=>exact⟨h.get i (hq i mem_cons_self),ih λj hj=>hq j (mem_cons_of_mem _ hj)⟩
def CU(ns:NW):RelL T F B L H (ns.map PV.int) (ns.map V.int) []:=by
 induction ns with
 |nil=>exact f_ _ _ _ _
 |cons a l ih=>exact⟨_,_,[],[],rfl,eK,ih,rfl⟩
def RelL.len2:∀{xs:N5}{vs:N3}{f:NZ},RelL T F B L H xs vs f->xs.length=vs.length
 | [],_,_,r=>by rw[r.1];rfl
 |x::xs,_,_,r=>by obtain⟨v,ws,f1,f2,rfl,_,h2,_⟩:=r;simp[h2.len2]
theorem u0(hK:X.K=T.K):Mir T W (p1 fP) (λxs H Q=>∃ p ys,xs=[.ref p]/\SqL X.K H p ys/\ys.length < 64 /\
    ((∃ ns,ys=ns.map V.int/\∀ l,H l=none->Q (.ref l) (upd H l (.lst ((ka ns).map V.int)))) \/
     (∃ps,PrH X.K H ys ps/\ps.Nodup/\∀l (q:List Nat),H l=none->q.Perm (range ys.length)->q.map (λi=>ps.getD i (0,0))=cU ps->Q (.ref l) (upd H l (.lst (q.map λi=>ys.getD i .non)))))):=by
  intro B F L Y H Q F' H' xs vs fx g r nf nd new q
  match xs,r,q with
  | [x],r,q=>
    obtain⟨v,rfl,r1⟩:=r.one;simp only[p1]at q;cases x with
    |lst f xs=>
      obtain⟨a,ws,fp',rfl,hl,hr,_⟩:=r1;simp only[fP]at q;by_cases hn:decide (xs.length<64)=true
      . rw[if_pos hn]at q;refine⟨a,ws,rfl,by rw[hK];exact hl.sq,by rw[<- hr.len2];exact of_decide_eq_true hn,?_⟩;cases e1:bK xs with
        |some ns=>rw[e1]at q;exact .inl ⟨ns,dq e1 hr,GE.newL q g (CU _) (λ_ h=>by cases h) .nil (λ_ h=>by cases h)⟩
        |none=>
          rw[e1]at q;cases e2:jb xs with
          |none=>rw[e2]at q;exact q.elim
          |some ps=>
            rw[e2]at q;dsimp only at q;by_cases hd:decide ps.Nodup=true
            . rw[if_pos hd]at q;obtain⟨hp,rfl⟩:=nQ e2 hr;refine .inr ⟨ps,by lia,of_decide_eq_true hd,λl q' hl' pm e=>?_⟩;have h2:=hp.map q' λi hi=>by simpa using pm.mem_iff.mp hi
              rw[e]at h2;exact GE.newL q g h2.rel (λ_ h=>by cases h) .nil (λ_ h=>by cases h) l hl'
            . rw[if_neg hd]at q;exact q.elim
      . rw[if_neg hn]at q;exact q.elim
    |_=>exact q.elim
  | [],_,q=>exact q.elim
  |_::_::_,_,q=>simp only[p1]at q;exact q.elim
theorem yL:bootBuiltins "sorted"=some (.builtin "sorted"):=by decide +kernel
def pq(hK:X.K=T.K)(hg:Gl X "sorted")(hm:X.mg "sorted"=none)(ha:SE X T W e m)(he:starEach [e] X.env=[(false,eval e X.env)]:=by rfl):SE X T W (.Call (.Name "sorted" p) [e] [] pos) (ao (p1 fP) (ae m am)):=
 fj ud (u0 hK) hg hm yL (aa ha ah (by rw[he];rfl)) (he:=by rw[he];rfl)
end
section
variable{X:Cx}{T:Tb}{W:Nat->St->N4}{Z:Zn}{F:NV}{H:Hp}{Y:St}{env:En}{fp:Nat->NZ}
def dF(hg:Gl X x)(hm:∃t,X.mg x=some (.int i t))(hd:Ndq x:=by decide):SE X T W (.Name x pos) (mC (.int i)):=by obtain⟨t,h⟩:=hm;exact zj hg h hd
end
noncomputable def jC{α:Type}(n:Nat)(y:α)(xs:List α):List α:=xs.take n++y::xs.drop n
def GJ:PV->PV->N6:=fF (λ_ j=>decide (0<=j)) λi j=>.int (i / 2 ^ j.toNat)
def zU:PV->PV->N6:=eP λi j=>.int (Builtin.bitAnd i j)
def ef(ns:NW):Bool:=ns.all λv=>decide (-1000000<=v/\v<=1000000)
def ky:PV->N6:=λx=>match aY x with
 |some xs=>match bK xs with
  |some ns=>if decide (ns.length<=1000)&&ef ns then .ok (.int ns.sum)else .stuck
  |none=>.stuck
 |none=>.stuck
theorem qk(ns:NW):∀n,n<=ns.length->preSum (λi=>ns.getD i 0) n=(ns.take n).sum
 |0,_=>rfl
 |n+1,h=>by have hn:n<ns.length:=h;have e:preSum (λi=>ns.getD i 0) (n+1)=preSum (λi=>ns.getD i 0) n+ns.getD n 0:=rfl;rw[e,qk ns n (),take_add_one,getElem?_eq_getElem hn,Option.toList_some,List.sum_append,List.sum_singleton];simp[hn]
theorem o6:∀{ns:NW},ef ns=true->-(1000000*ns.length:Int)<= ns.sum/\ns.sum<=1000000*ns.length
 | [],_=>by simp
 |n::ns,h=>by
  simp only[ef,all_cons,and_eq_true]at h;have:=o6 (by simpa[ef]using h.2);simp
  lia
def uA(h:ef ns=true)(k:Nat):ef (ns.take k)=true:=by simp only[ef,all_eq_true]at h ⊢;exact λx hx=>h x (List.mem_of_mem_take hx)
section
variable{X:Cx}{T:Tb}{W:Nat->St->N4}{Z:Zn}{F F1 B L:NV}{H H1:Hp}{Y:St}{env:En}{fp:Nat->NZ}{NP:NU}{s:Shared}{a b:Expr}{ma mb:ME}{pos:Pos}
def FW(ha:SE X T W a ma)(hb:SE X T W b mb):SE X T W (.BinOp a .RShift b pos) (mOp GJ ma mb):=ke GM (sR (λ_ _ h=>of_decide_eq_true h) λ_ _ _ _ _ _=>eK) ha hb
def CK(ha:SE X T W a ma)(hb:SE X T W b mb):SE X T W (.BinOp a .BitAnd b pos) (mOp zU ma mb):=ke GW (jf λ_ _ _ _ _ _=>eK) ha hb
theorem qW(hc:X.calm=true):dN X (.builtin "sum") (λxs H Q=>∃p ns,xs=[.ref p]/\(SqL X.K H p (ns.map V.int)\/ SqT X.K H p (ns.map V.int))/\ns.length<=1000/\ef ns=true/\Q (.int ns.sum) H):=by
 intro NP s Y H xs us Q I rv h;obtain⟨p,ns,rfl,hq,hn,hsm,q⟩:=h;obtain⟨u,rfl,rx⟩:=eO rv;cases rx;have hh:=I.ok.hd hc;have fit:∀m,m=ns.length->∀j,j<m->InLong (ns.getD j 0)/\InLong (preSum (λi=>ns.getD i 0) (j+1)):=λm e j hj=>by
  subst e;have h1:ns.getD j 0∈ns:=by simp[hj]
  simp only[ef,all_eq_true]at hsm;have h2:=hsm _ h1;have h3:=o6 (uA (k:=j+1) (show ef ns=true by simpa[ef]using hsm));rw[qk ns (j+1) hj];have h4:(ns.take (j+1)).length<=1000:=by simp;lia
  unfold InLong
  lia
 have key:∀{its:NY},aU (ns.map V.int) its->∀{h':Heap}{tk t':Nat},(∀b o,s.heap.get? b=some o->h'.get? b=some o)->EP X NP Y Q (.int (preSum (λi=>ns.getD i 0) its.toArray.size) t') {s with heap:=h',toks:=tk}:=by
  intro its r h' tk t' k;walk_at "c"
  rw[hl,qk ns _ (Nat.le_refl _),List.take_length];exact⟨.int _,H,ij I k,⟨t',rfl⟩,q⟩
 rcases hq with hq|hq
 .obtain⟨its,r,pl,hz⟩:=I.list hq;walk_at "c"
  obtain⟨o,ho,hcl,n,hd⟩:=pl.isList;have hlt:=lt_size ho;refine call_sum_walk (wpAny_pyIter_list pl.isList ?_);refine⟨_,_,_,_,_,_,(λi=>ns.getD i 0),rfl,Walks.list (A:=X.A.in1) hh _ p (Nat.ne_of_lt hlt) its.toArray,⟨⟨_,get?_push_size _ rfl,rfl,rfl⟩,pl.isList.push _⟩,λb hb=>?_,eF r,fit _ hl,λh' tk t' hk=>key r (eC hk)⟩;rw[size_push];exact i3 hlt rfl b hb
 .obtain⟨its,r,pl,hz⟩:=I.tuple hq;walk_at "c"
  have pt:s.heap.IsTuple p its.toArray:=pl;obtain⟨o,ho,hcl,n,hd⟩:=pl;have hlt:=lt_size ho;refine call_sum_walk (wpAny_pyIter_tuple pt ?_);refine⟨_,_,_,_,_,_,(λi=>ns.getD i 0),rfl,Walks.tuple (A:=X.A.in1) hh _ p (Nat.ne_of_lt hlt) its.toArray,⟨⟨_,get?_push_size _ rfl,rfl,rfl⟩,pt.push _⟩,λb hb=>?_,eF r,fit _ hl,λh' tk t' hk=>key r (eC hk)⟩;rw[size_push];exact i3 hlt rfl b hb
theorem DA(hK:X.K=T.K):Mir T W (p1 ky) (λxs H Q=>∃p ns,xs=[.ref p]/\(SqL X.K H p (ns.map V.int)\/ SqT X.K H p (ns.map V.int))/\ns.length<=1000/\ef ns=true/\Q (.int ns.sum) H):=by
 intro B F L Y H Q F' H' xs vs fx gr r nf nd new q
 match xs,r,q with
 | [x],r,q=>
  obtain⟨v,rfl,rv⟩:=RelL.one r;simp only[p1,ky]at q;cases e:aY x with
  |none=>rw[e]at q;exact q.elim
  |some ys=>
   rw[e]at q;dsimp only at q;cases e2:bK ys with
   |none=>rw[e2]at q;exact q.elim
   |some ns=>
    rw[e2]at q;dsimp only at q;obtain⟨a,us,fx',rfl,hs,hr,_⟩:=rv.seq e;have hu:=dq e2 hr;subst hu;split at q
    .rename_i hc
     simp at hc;exact⟨a,_,rfl,by lia,hc.1,hc.2,q.scal gr eK⟩
    .exact q.elim
 | [],_,q=>exact q.elim
 |_::_::_,_,q=>simp only[p1]at q;exact q.elim
theorem IZ:bootBuiltins "sum"=some (.builtin "sum"):=by decide +kernel
def nD(hK:X.K=T.K)(hc:X.calm=true)(hg:Gl X "sum")(hm:X.mg "sum"=none)(ha:SE X T W e m)(he:starEach [e] X.env=[(false,eval e X.env)]:=by rfl):SE X T W (.Call (.Name "sum" p) [e] [] pos) (ao (p1 ky) (ae m am)):=
 fj (qW hc) (DA hK) hg hm IZ (aa ha ah (by rw[he];rfl)) (he:=by rw[he];rfl)
end
structure Sup(K:PySem.W.Frag)(C f:Addr):Prop where
 ga:specialIn K (.ref C) "__getattribute__"=some (some (.builtin "type.__getattribute__"))
 rd:readsIn K C (.type "type")=true
 fc:findCls K (.ref C) (.type "type") "__init__"=some (.val (.ref f))
 kp:PySem.W.keepIn K (.ref f)=true
def iY(m:N5->N6)(ms:MA):MS:=λenv=>match (env[(0:Nat)]?:Option (Option PV))with
 |some (some (.obj .own c ks vs))=>match ms env with
  |.ok xs=>if hasL Fl.Ob xs then .stuck else match m (.obj .own c ks vs::mapL Fl.N8 xs)with
   |.ok (.obj fl c' ks' vs')=>if(PV.obj fl c' ks' vs').has Fl.Oc then .stuck else .next (env.set 0 (some (.obj fl c' ks' vs')))
   |_=>.stuck
  |.exc c=>.exc c env
  |.stuck=>.stuck
 |_=>.stuck
section
variable{X:Cx}{T:Tb}{W:Nat->St->N4}{Z:Zn}{F F1 F3:NV}{H H1 H3:Hp}{Y:St}{env:En}{fp:Nat->NZ}
theorem aC.sup(S:aC T Z F H Y env fp)(h0:Y[0]?=some (some v0))(hl:0<env.length)
  (nx:∀a∈fx,Z.H0 a=none\/Z.fp0 a) (nj:∀a∈fx,∀i,a∉fp i) (nF:∀a∈fx,¬F a) (cx:∀a∈fx,∃o,H a=some o/\Chg o)
  (hp3:ce T ⟨H,F,(·∈fp 0++fx),B',some v0⟩ F3 H3) (r:Rel T F3 B' NoL H3 o v0 f3) (hb:o.has Fl.Oc=false) (nd3:f3.Nodup) (nf3:∀a∈f3,¬F3 a) (new3:∀a∈f3,H a=none\/a∈fp 0++fx)
  (ho:∃fl c ks xs,o=.obj fl c ks xs):aC T Z F3 H3 Y (env.set 0 (some o)) (cD fp 0 f3):=by
 have zfree:∀a,H a=none->Z.H0 a=none\/Z.fp0 a:=λa z=>by
  by_cases q:Z.fp0 a
  .exact .inr q
  .refine .inl ?_;cases w:Z.H0 a with
   |none=>rfl
   |some o=>rw[S.hp.keep a o w q]at z;exact(nomatch z)
 have inn:∀a∈fp 0++fx,Z.H0 a=none\/Z.fp0 a:=λa h=>by
  rcases mem_append.mp h with h|h
  .exact S.new 0 a h
  .exact nx a h
 have jn:∀j,j≠0->∀a∈fp j,a∉fp 0++fx:=λj hj a ha z=>by
  rcases mem_append.mp z with z|z
  .exact S.dj j 0 hj a ha z
  .exact nj a z j ha
 have chgn:∀a∈fp 0++fx,∃o,H a=some o/\Chg o:=λa h=>by
  rcases mem_append.mp h with h|h
  .exact S.ch 0 a h
  .exact cx a h
 have rel':Rel T F3 Z.B NoL H3 o v0 f3:=Rel.noB hb r;refine⟨⟨S.hp.bo,λa u e n=>hp3.keep a u (S.hp.keep a u e n) λz=>?_,λa h=>hp3.f0 a (S.hp.f0 a h),λa h=>?_,hp3.ft⟩,by rw[length_set,S.len],λj pv e=>?_,λj=>?_,λj k hjk b hb=>?_,λj b hb=>?_,λj b hb=>?_,λj b hb=>?_,λw hw=>?_⟩
 .rcases inn a z with q|q
  .rw[e]at q;cases q
  .exact n q
 .rcases hp3.fn a h with z|z|z
  .exact S.hp.fn a z
  .exact .inr (zfree a z)
  .exact .inr (inn a z)
 .by_cases hj:j=0
  .subst hj;rw[getElem?_set_self hl]at e;cases e;refine⟨v0,h0,?_⟩;unfold cD;exact rel'
  .rw[getElem?_set_ne (Ne.symm hj)]at e;obtain⟨w,h1,h2⟩:=S.rel j pv e;refine⟨w,h1,?_⟩;unfold cD;rw[if_neg hj];refine Rel.tr (λa h=>hp3.f0 a h) (λ_ h=>h) (λ_ h=>h) (λb u q h=>hp3.keep b u q λz=>?_) (λb hb u q=>hp3.keep b u q (jn j hj b hb)) h2;rcases h with h|h|h|h
   .rcases mem_append.mp z with z|z
    .exact(S.dis 0 b z).1 h
    .exact nF b z h
   .obtain⟨⟨o',e1⟩,e2⟩:=S.hp.bo.1 b h;rcases inn b z with q'|q'
    .lia
    .exact e2 q'
   .exact h
   .obtain⟨o',e1,e2⟩:=chgn b z;have q1:H b=some u:=q;rw[q1]at e1;cases e1;cases u with
    |lst _|ins _ _ _=>exact h
    |_=>exact e2
 .unfold cD;split
  .exact nd3
  .exact S.nd j
 .grind[cD,aC,ce,Gr]
 .unfold cD at hb;by_cases h1:j=0
  .rw[if_pos h1]at hb;exact⟨nf3 b hb,r.there b hb⟩
  .rw[if_neg h1]at hb;obtain⟨n,u,e⟩:=S.dis j b hb;refine⟨λz=>?_,u,hp3.keep b u e (jn j h1 b hb)⟩;rcases hp3.fn b z with q|q|q
   .exact n q
   .lia
   .exact jn j h1 b hb q
 .unfold cD at hb;by_cases h1:j=0
  .rw[if_pos h1]at hb;rcases new3 b hb with q|q
   .exact zfree b q
   .exact inn b q
  .rw[if_neg h1]at hb;exact S.new j b hb
 .unfold cD at hb;by_cases h1:j=0
  .rw[if_pos h1]at hb;exact r.chg b hb
  .rw[if_neg h1]at hb;obtain⟨u,e,c⟩:=S.ch j b hb;exact⟨u,hp3.keep b u e (jn j h1 b hb),c⟩
 .obtain⟨h1,h2⟩:=S.pn w hw;refine⟨h1,?_⟩;obtain⟨fl,c,ks,xs,e⟩:=ho;subst e;unfold cR;rw[getElem?_set_self hl]
theorem FL
  (cx:Ctx X T W kk) (U:Sup X.K C f) (G:dA X.prog X.w X.K X.mg X.base (CXP X.prog X.w) k f fd ps (spI T ps.length m)) (hk:k<=kk) (hg:Gl X x) (hm:X.mg x=some (.ref C)) (hb:gJ X.K fd ps [])
  (hN:X.N[0]?=some y) (hv:Vis X.env.scope y) (hn:iZ ms n) (hps:n+1=ps.length) (ha:SA X T W es ms)
  (hdb:Ndq x:=by decide) (hdy:Ndq y:=by decide) (hcy:Ncq y:=by decide)
  (hst:starEach (.Name y px::es) X.env=(false,eval (.Name y px) X.env)::starEach es X.env:=by rfl) (hpl:(backTo pos (starEach es X.env)).any (·.1)=false:=by rfl)
  (ht:eval (.Call (.Attribute (.Name x p) "__init__" apos) (.Name y px::es) [] pos) X.env=(do
   let ov <- eval (.Name x p) X.env
   standAt apos.atName
   let(f,first) <- holding [ov] (getMethod ov "__init__" pl)
   callWith pos f first (backTo pos (starEach (.Name y px::es) X.env)) (backToKw pos (keywordEach [] X.env))):=by rfl)
  (hs:swapsWith (.Call (.Attribute (.Name x p) "__init__" apos) (.Name y px::es) [] pos) none pos'.line X.env=pure false:=by rfl) :
  SS X T W (.Expr (.Call (.Attribute (.Name x p) "__init__" apos) (.Name y px::es) [] pos) pos') (iY m ms):=by
 have pe:PE X (.Call (.Attribute (.Name x p) "__init__" apos) (.Name y px::es) [] pos) (λY H Q=>∃ Z F env fp,aC T Z F H Y env fp/\(match iY m ms env with
   |.next e=>∀F' H' fp',aC T Z F' H' Y e fp'->Q .non H'
   |.exc c e=>∀F' H' fp',aC T Z F' H' Y e fp'->W c Y H'
   |_=>False)):=by
  intro NP s Y H Q I h;obtain⟨Z,F,env,fp,S,q⟩:=h;refine PySem.W.methodCall_KW (kH I hg hm ?_ hdb) ht;refine PySem.W.method_cls I.kIn U.ga (PySem.W.cls_value I.kIn U.rd U.fc rfl ?_);have I':=I.tok (s.toks+1);unfold iY at q;cases e0:env[0]? with
  |none=>rw[e0]at q;exact q.elim
  |some o0=>
  cases o0 with
  |none=>rw[e0]at q;exact q.elim
  |some ov=>
  obtain⟨v0,hv0,r0⟩:=S.rel 0 ov e0;have hl0:0<env.length:=(List.getElem?_eq_some_iff.mp e0).1;rw[e0]at q;by_cases hob:∃c ks vs,ov=.obj .own c ks vs
  case neg=>
   exfalso;cases ov with
   |obj fl c ks vs=>
    cases fl with
    |own=>exact hob ⟨_,_,_,rfl⟩
    |_=>exact q
   |_=>exact q
  obtain⟨c,ks,vs0,rfl⟩:=hob;dsimp only at q;have pa:=dO (eU hN hv hdy hcy) ha hst;refine callWith_K I'.ok.mod.kin U.kp (thn (pa pos NP _ Y H (λvs H1=>∀ us s1,L2.Inv X NP Y H1 s1->aU vs us->wpAny (model X.prog X.w) X.A (call (.ref f) us) (EP X NP Y Q) X.xe s1) I'
   ⟨v0,hv0,tA.bind S (λc e=>?_) (λe=>by lia) λxs vs H1 F1 f1 e1 g1 r1 n1 d1 w1 us s1 I1 rv=>?_⟩) λus s1 ⟨vs,H1,I1,r,q1⟩=>⟨I1.kIn,q1 us s1 I1 r⟩) hst hpl
  .rw[e]at q;exact λH' x=>q F H' fp (S.grow (Gr.same S.hp.ft x))
  rw[e1]at q;dsimp only at q;by_cases hln:hasL Fl.Ob xs=true
  .lia
  rw[if_neg hln]at q;have hln':hasL Fl.Ob xs=false:=by lia
  have S1:=S.grow g1;obtain⟨v0',hv0',r0'⟩:=S1.rel 0 _ e0;rw[hv0]at hv0';cases hv0';have xn:∀a∈f1,∀i,a∉fp i:=λa ha i hi=>by obtain⟨_,o,e⟩:=S.dis i a hi;rw[w1 a ha]at e;cases e
  have xz:∀a∈f1,Z.H0 a=none\/Z.fp0 a:=λa ha=>by
   by_cases q:Z.fp0 a
   .exact .inr q
   .refine .inl ?_;cases w:Z.H0 a with
    |none=>rfl
    |some o=>have:=w1 a ha;rw[S.hp.keep a o w q]at this;cases this
  have hBo:∀a,Z.B a->(∃o,H1 a=some o)/\a∉fp 0++f1:=λa h=>by
   obtain⟨⟨o,h1⟩,h2⟩:=S.hp.bo.1 a h;have h3:=S.hp.keep a o h1 h2;refine⟨⟨o,g1.ext a o h3⟩,λz=>?_⟩;rcases mem_append.mp z with z|z
   .exact S.bow a h ⟨0,z⟩
   .simp_all
  have R:yO T F1 (λa=>(∃o,H1 a=some o)/\a∉fp 0++f1) H1 (.obj .own c ks vs0::mapL Fl.N8 xs) (v0::vs) (fp 0++f1):=by
   refine⟨?_,nodup_append.mpr ⟨S.nd 0,d1,λa ha b hb z=>by simp_all⟩,λa ha=>?_,⟨λa h=>h,S.tbo g1.ext λa z=>(mem_append.mp z).elim (λz=>.inr ⟨0,z⟩) λz=>.inl (w1 a z)⟩,g1.dom⟩
   .unfold RelL;refine⟨v0,vs,fp 0,f1,rfl,Rel.tr (λ_ h=>h) hBo (λ_ h=>h) (λ_ _ q _=>q) (λ_ _ _ q=>q) r0',?_,rfl⟩;exact RelL.N8 hBo (λ_ h=>h.elim) (RelL.noL (L':=NoL) hln' r1)
   .rcases mem_append.mp ha with ha|ha
    .exact(S1.dis 0 a ha).1
    .exact n1 a ha
  have r2:aU (v0::vs) us:=rv;have hl:us.length=ps.length:=by rw[<- r2.length,length_cons,<- r1.length,hn env xs e1];exact hps
  refine wpAny_call (codeAny_mono (G.run X.A X.stack s1 H1 ⟨us,[]⟩ us (v0::vs) Q (λcls _ H'=>∃ c,cls=.ref (T.xcl c)/\W c Y H') (cx.room.mono hk) I1.env0 (by simpa using hb s1 us I1.kIn (by simpa using hl)) r2
   ⟨by rw[r2.length,hl],v0,_,F1,_,_,rfl,R,⟨.own,c,ks,vs0,rfl⟩,?_⟩) λrs s' hq=>?_)
  .cases e:m (.obj .own c ks vs0::mapL Fl.N8 xs)with
   |ok o=>
    rw[e]at q;cases o with
    |obj fl c' ks' vs'=>
     dsimp only at q;by_cases hbr:(PV.obj fl c' ks' vs').has Fl.Oc=true
     .lia
     .rw[if_neg hbr]at q;have hbr':(PV.obj fl c' ks' vs').has Fl.Oc=false:=by lia
      intro F3 H3 f3 hp3 r3 nd3 nf3 new3;exact q F3 H3 _ (S1.sup hv0 hl0 xz xn n1 r1.chg hp3 r3 hbr' nd3 nf3 new3 ⟨_,_,_,_,rfl⟩)
    |_=>exact q.elim
   |exc c|stuck=>rw[e]at q;exact q.elim
  .cases rs with
   |error e=>obtain⟨cls,H',fl,c,rfl,hw⟩:=hq;exact cx.xf NP Y H1 s1 c H' e s' I1 fl hw
   |ok fl=>
    cases fl with
    |ret u=>exact I1.after hq
    |next|brk|cont=>exact False.elim hq
 exact PS.wk (mS pe hs) λD Y H hz1=>by
  walk_at "b";refine⟨Z,F,env,fp,S,?_⟩;cases e:iY m ms env with
  |next e'|exc c e'=>rw[e]at q;exact λF' H' fp' S'=>q F' H' Y fp' S'
  |ret v=>
   exfalso;revert e;unfold iY;split
   .lia
   .simp
  |brk e'=>
   exfalso;revert e;unfold iY;split
   .lia
   .simp
  |cont e'=>
   exfalso;revert e;unfold iY;split
   .lia
   .simp
  |stuck=>rw[e]at q;exact q
end
end
section
noncomputable def whL(c:MT)(b:MS):Nat->MS
 |0,_=>.stuck
 |k+1,env=>match c env with
  |.ok true=>match b env with
   |.next e|.cont e=>whL c b k e
   |.brk e=>.next e
   |.ret v=>.ret v
   |.exc x e=>.exc x e
   |.stuck=>.stuck
  |.ok false=>.next env
  |.exc x=>.exc x env
  |.stuck=>.stuck
def lB(c:MT)(b:MS):MS:=whL c b 100000
section
variable{X:Cx}{T:Tb}{W:Nat->St->N4}
def ny(hp:PassesOwn (model X.prog X.w) X.A X.env X.xe)(hc:ST X T W c mc)(hb:SSs X T W body mb):SS X T W (.While c body [] pos) (lB mc mb):=
 PS.wk (zD hp hc hb) λD Y H hz1=>by
  walk_at "b";refine⟨λm σ' H'=>∃F' env' fp',aC T Z F' H' σ' env' fp'/\GS T W Z D (whL mc mb m env'),⟨100000,F,env,fp,S,q⟩,?_⟩;rintro m σ' H' ⟨F',env',fp',S',q'⟩;cases m with
  |zero=>exact q'.elim
  |succ k=>
   unfold whL at q';refine tT.bind S' (λc e H2 x=>?_) (λe=>by rw[e]at q';exact q') λb H1 F1 e g=>?_
   .rw[e]at q';exact q' F' H2 σ' fp' (S'.grow (Gr.same S'.hp.ft x))
   .cases b with
    |false=>rw[e]at q';exact(if_neg ()).mpr (q' F1 H1 σ' fp' (S'.grow g))
    |true=>
     rw[e]at q';dsimp only at q';refine(if_pos rfl).mpr ⟨λσ2 H2=>∃F2 env2 fp2,aC T Z F2 H2 σ2 env2 fp2/\GS T W Z D (whL mc mb k env2),λσ2 H2 h=>⟨k,Nat.lt_succ_self k,h⟩,Z,F1,env',fp',S'.grow g,?_⟩;cases eb:mb env' with
     |next e2|cont e2=>rw[eb]at q';exact λF3 H3 σ3 fp3 S3=>⟨F3,e2,fp3,S3,q'⟩
     |brk e2|ret v|exc c e2|stuck=>rw[eb]at q';exact q'
end
noncomputable def fD:N5->Option (List Bool)
 | []=>some []
 |.bl b::xs=>(fD xs).map (b::·)
 |_=>none
def qq(f:List Bool->Bool):PV->N6
 |.lst _ xs=>match fD xs with
  |some bs=>.ok (.bl (f bs))
  |none=>.stuck
 |_=>.stuck
def mI(bs:List Bool):Bool:=bs.all id
section
variable{X:Cx}{T:Tb}{W:Nat->St->N4}{Z:Zn}{F F1 B L:NV}{H H1:Hp}{Y:St}{env:En}{fp:Nat->NZ}{NP:NU}{s:Shared}
def pX:∀{xs:N5}{vs:N3}{f:NZ}{bs:List Bool},fD xs=some bs->RelL T F B L H xs vs f->vs=bs.map V.bl
 | [],_,_,_,e,h=>by simp only[fD,Option.some.injEq]at e;subst e;rw[h.1];rfl
 |.bl b::xs,_,_,bs,e,h=>by
  simp only[fD]at e;cases e2:fD xs with
  |none=>rw[e2]at e;cases e
  |some ms=>rw[e2]at e;cases e;obtain⟨v,ws,f1,f2,rfl,h1,h2,_⟩:=h;rw[h1.1,pX e2 h2];rfl
 |.non::_,_,_,_,e,_|.int _::_,_,_,_,e,_|.str _::_,_,_,_,e,_|.lst _ _::_,_,_,_,e,_|.tup _::_,_,_,_,e,_|.obj _ _ _ _::_,_,_,_,e,_|.exc _::_,_,_,_,e,_|.box _ _::_,_,_,_,e,_=>by simp[fD]at e
def BX:∀{bs:List Bool}{its:NY},aU (bs.map V.bl) its->∀(i:Nat) (v:Value),its.toArray[i]?=some v->v=.bool (bs.getD i false)
 | [],_,r,i,v,e=>by cases r;simp at e
 |b::bs,_,r,i,v,e=>by
  cases r with
  |cons r1 r2=>
   cases i with
   |zero=>simp at e;subst e;exact r1
   |succ i=>exact BX r2 i v (by simpa using e)
def CO(bs:List Bool)(n:Nat)(h:n=bs.length):(range n).all (λi=>bs.getD i false)=mI bs:=by
 subst h;unfold mI;rw[Bool.eq_iff_iff,all_eq_true,all_eq_true];refine⟨λz x hx=>?_,λz i hi=>?_⟩
 .obtain⟨i,hi,e⟩:=getElem_of_mem hx;have:=z i (mem_range.mpr hi);rw[<- e];simpa[hi]using this
 .have hi':=mem_range.mp hi;have:=z bs[i] (getElem_mem hi');simpa[hi']using this
def yJ{bs:List Bool}{its:NY}(r:aU (bs.map V.bl) its):TruthOf X.prog X.w A (λi v=>its.toArray[i]?=some v) (λi=>bs.getD i false):=λi v s Q E hP hQ=>by rw[BX r i v hP];exact wpAny_truthy_bool hQ
def q_(hc:X.calm=true):dN X (.builtin "all") (λxs H Q=>∃p bs,xs=[.ref p]/\SqL X.K H p (bs.map V.bl)/\Q (.bl (mI bs)) H):=by
 intro NP s Y H xs us Q I rv h;obtain⟨p,bs,rfl,hq,q⟩:=h;obtain⟨u,rfl,rx⟩:=eO rv;cases rx;have hh:=I.ok.hd hc;obtain⟨its,r,pl,hz⟩:=I.list hq;have hl:its.toArray.size=bs.length:=by have:=r.length;simpa using this.symm
 obtain⟨o,ho,hcl,n,hd⟩:=pl.isList;have hlt:=lt_size ho;have key:∀{h':Heap}{tk:Nat},(∀b o,s.heap.get? b=some o->h'.get? b=some o)->EP X NP Y Q (.bool (mI bs)) {s with heap:=h',toks:=tk}:=λk=>⟨.bl _,H,ij I k,rfl,q⟩
 refine call_all_walk (wpAny_pyIter_list pl.isList ?_);refine⟨_,_,_,_,_,_,(λi=>bs.getD i false),rfl,Walks.list (A:=X.A.in1) hh _ p (Nat.ne_of_lt hlt) its.toArray,⟨⟨_,get?_push_size _ rfl,rfl,rfl⟩,pl.isList.push _⟩,yJ r,λh' tk hk=>?_⟩;rw[CO bs _ hl];exact key (eC hk)
def DF(hK:X.K=T.K)(f:List Bool->Bool):Mir T W (p1 (qq f)) (λxs H Q=>∃p bs,xs=[.ref p]/\SqL X.K H p (bs.map V.bl)/\Q (.bl (f bs)) H):=by
 intro B F L Y H Q F' H' xs vs fx gr r nf nd new q
 match xs,r,q with
 | [x],r,q=>
  obtain⟨v,rfl,rv⟩:=RelL.one r;simp only[p1]at q;cases x with
  |lst fl ys=>
   simp only[qq]at q;cases e2:fD ys with
   |none=>rw[e2]at q;exact q.elim
   |some bs=>rw[e2]at q;obtain⟨a,us,fp',rfl,hl,hr,_⟩:=rv;have hu:=pX e2 hr;subst hu;exact⟨a,_,rfl,by rw[hK];exact hl.sq,q.scal gr gW⟩
  |_=>exact q.elim
 | [],_,q=>exact q.elim
 |_::_::_,_,q=>simp only[p1]at q;exact q.elim
theorem I8:bootBuiltins "all"=some (.builtin "all"):=by decide +kernel
def zn(hK:X.K=T.K)(hc:X.calm=true)(hg:Gl X "all")(hm:X.mg "all"=none)(ha:SE X T W e m)(he:starEach [e] X.env=[(false,eval e X.env)]:=by rfl):SE X T W (.Call (.Name "all" p) [e] [] pos) (ao (p1 (qq mI)) (ae m am)):=
 fj (q_ hc) (DF hK mI) hg hm I8 (aa ha ah (by rw[he];rfl)) (he:=by rw[he];rfl)
def AN(i:Nat)(m:ME):MS:=λenv=>match env[i]? with
 |some (some (.int a))=>match m env with
  |.ok (.int b)=>if aS i env then .next (env.set i (some (.int (a+b))))else .stuck
  |.ok _=>.stuck
  |.exc c=>.exc c env
  |.stuck=>.stuck
 |_=>.stuck
def FO(hN:X.N.Nodup)(hi:X.N[i]?=some x)(hx:Loc X.env.scope x)(he:SE X T W e m)
  (hf:Lce X.fn X.env x:=by first|exact .inl rfl|exact .inr rfl|assumption):SS X T W (.AugAssign (.Name x pos') .Add e pos) (AN i m):=
 PS.wk (Gs hN hi hx he (λNP s Y H x y v u Q I rx ry h=>DR NP s Y H x y v u Q I rx ry h) hf) λD Y H hz1=>by
  walk_at "b";unfold AN at q;split at q
  .rename_i a ea
   obtain⟨v,e1,r⟩:=S.rel i _ ea;refine⟨v,e1,tE.bind S (λc e H' x=>?_) (λe=>by rw[e]at q;exact q) λpv w H1 F1 f e2 g r2 h1 h2 h3=>?_⟩
   .rw[e]at q;exact q F H' Y fp (S.grow (Gr.same S.hp.ft x))
   .rw[e2]at q;cases pv with
    |int b=>
     dsimp only at q;split at q
     .rename_i ho
      refine⟨a,b,r.1,r2.1,?_⟩;exact q F1 H1 _ _ ((S.grow g).put eK nodup_nil (λ_ z=>nomatch z) (λ_ z=>nomatch z) (λ_ z=>nomatch z) ho)
     .exact q.elim
    |_=>exact q.elim
  .exact q.elim
end
end
section
open AutoSeq1 (wpAny_loadPart')
section
variable{prog:Program}{w:World}{A:Around}{E:NR}{s:Shared}
theorem pW(ft:TypeCalled T nI iI)
  (c1:checkTypeCall T ⟨us,kw⟩=pure .unit) (c2:checkBuiltinCall nI ⟨.type T::us,kw⟩=pure .unit) (eN:entryFor table nI=some Bn) (eI:entryFor table iI=some Bi) (g:Meets (Bn ⟨.type T::us,kw⟩) S)
  (h:S A.in1 (wants Q1 E) s) (nx:∀ob s1,Q1 ob s1->s1.TypeIs ob T/\argsOk iI ⟨ob::us,kw⟩/\∃Si,Meets (Bi ⟨ob::us,kw⟩) Si/\Si A.in1 (wants (λr s2=>r=.none/\Q ob s2) E) s1) :
  wpAny (model prog w) A (call (.type T) us kw) Q E s:=by
 obtain⟨cc,tt,hmro⟩:=ft.mro;have hmade:=ft.made;have hsub:=ft.sub;have h1:=ft.notType;have h2:=ft.canCreate;refine wpAny_call (codeAny_of_tree (show wpAny _ _ (callAny (.type T) _) _ _ _ from wpAny_pure ⟨Code.quiet_builtin _ (by decide +kernel),codeAny_builtin F.entry_type_call ?_⟩))
 repeat (any_goals (first|assumption|wp_step|fail))
 refine codeAny_mono (codeAny_call_builtin ft.plain eN (wpAny_of_eq c2 (g prog w A.in1 _ s h))) λr s1 hr=>?_;cases r with
 |error e=>exact hr
 |ok fl=>
  cases fl with
  |ret ob=>
   obtain⟨hT,hok,Si,gi,hsi⟩:=nx _ _ hr;have hli:=ft.init.lookup;have hbi:=ft.init.bind ob
   repeat (any_goals (first|assumption|wp_step|fail))
   refine codeAny_mono (codeAny_call_builtin ft.init.plain eI (ft.init.check _ _ _ _ _ _ _ _ hT hok (gi prog w A.in1 _ s1 hsi))) λr2 s2 hr2=>?_;cases r2 with
   |error e=>exact hr2
   |ok fl2=>
    cases fl2 with
    |ret r=>
     obtain⟨rfl,hq⟩:=hr2
     repeat (any_goals (first|assumption|wp_step|fail))
    |_=>exact hr2.elim
  |_=>exact hr.elim
def K4(hl:typeLookup (.type T) "__init__"=pure (some (.builtin "object.__init__")))(hm:Bind.madeBy (.type T)=pure (some nI))(hne:(some nI != some "object.__new__")=true) :
  Meets (Builtin.«object.__init__» ⟨[self,a],kw⟩) (λ_ R s=>s.TypeIs self T/\R (.ok (.ret .none)) s):=by
 refine Meets.of_wp λpr w A R s0 hs=>?_;obtain⟨hT,hq⟩:=hs
 repeat (any_goals (first|assumption|wp_step|fail))
 exact⟨_,rfl,hq⟩
def cK1(a v:Value):checkTypeCall "enumerate" ⟨[a],[("start",v)]⟩=pure .unit:=by kernel_rfl
def cK2(a v:Value):checkBuiltinCall "enumerate.__new__" ⟨[.type "enumerate",a],[("start",v)]⟩=pure .unit:=by kernel_rfl
def cK3(a b v:Value):argsOk "object.__init__" ⟨[a,b],[("start",v)]⟩:=by
 unfold argsOk
 kernel_rfl
abbrev itO(n:String)(l:Addr):Obj:={cls:=.type n,data:=.fields #[.ref l,.int 0 0]}
noncomputable abbrev enO(it:Addr)(i:Int):Obj:={cls:=.type "enumerate",data:=.fields #[.none,.bool false,.ref it,rawInt i,.none,.none]}
def B8(n:String)(l:Addr)(s:Shared):Prop:=∀(pr:Program) (w:World) (A:Around) (Q:NR) (E:NR),Q (.ref s.heap.objs.size) {s with heap:=s.heap.push (itO n l)}->wpAny (model pr w) A (pyIter (.ref l)) Q E s
def Lg(n:String)(l:Addr)(t:Tok) :
  Meets (Builtin.«enumerate.__new__» ⟨[.type "enumerate",.ref l],[("start",.int 1 t)]⟩) (λ_ R s=>B8 n l s/\R (.ok (.ret (.ref (s.heap.push (itO n l)).objs.size))) {s with heap:=(s.heap.push (itO n l)).push (enO s.heap.objs.size 1)}):=
 .of_wp λpr w A R s0 h=>by
  obtain⟨hp,g,d,tk,os⟩:=s0;obtain⟨hI,h⟩:=h;have hsub:=sub_enumerate;have hJ:∀{Q:NR}{E:NR},Q (.ref hp.objs.size) ⟨hp.push (itO n l),g,d,tk,os⟩->wpAny (model pr w) A.in1 (pyIter (.ref l)) Q E ⟨hp,g,d,tk,os⟩:=λ{Q E} q=>hI pr w A.in1 Q E q;have hJ':∀{Q:NR}{E:NR},Q (.ref hp.objs.size) ⟨hp.push (itO n l),g,d,tk,os⟩->wpAny (model pr w) A (pyIter (.ref l)) Q E ⟨hp,g,d,tk,os⟩:=λ{Q E} q=>hI pr w A Q E q
  wp_walk
  refine wpAny_stack_any λst=>wpAny_pure ?_;split<;>try (rename_i c _ _ _ _ _;cases(c==Value.type "enumerate"))
  all_goals (wp_walk using hJ,hJ')
  all_goals exact⟨_,rfl,h⟩
def IT(hI:B8 n l s)(h:Q (.ref (s.heap.objs.size+1)) {s with heap:=(s.heap.push (itO n l)).push (enO s.heap.objs.size 1)}) :
  wpAny (model prog w) A (call (.type "enumerate") [.ref l] [("start",.int 1 t)]) Q E s:=by
 have hz:(s.heap.push (itO n l)).objs.size=s.heap.objs.size+1:=size_push ..
 refine pW (Q1:=λob s1=>s1.TypeIs ob "enumerate" /\ Q ob s1) F.called_enumerate (cK1 _ _) (cK2 _ _) F.entry_enumerate_new F.entry_object_init (Lg n l t) ⟨hI,?_⟩ λob s1 hq=>⟨hq.1,cK3 ob _ _,_,K4 F.called_enumerate.init.lookup F.called_enumerate.made (),hq.1,rfl,hq.2⟩
 rw[hz];have:=get?_push_size (s.heap.push (itO n l)) (o:=enO s.heap.objs.size 1) rfl;rw[hz]at this;exact⟨⟨_,this,rfl⟩,h⟩
def Ae(hit:s.heap.IsTupleIter it t i)(ht:s.heap.IsTuple t items)(hx:items[i]?=some x)
  (hQ:∀h',h'.IsTupleIter it t (i+1)->SameBut it s.heap h'->Q x {s with heap:=h'}):wpAny (model prog w) A (Builtin.SmallTypes.nextOf (.ref it)) Q E s:=by
 obtain⟨o,ho,hc,hd⟩:=id hit;obtain⟨o2,ho2,_,n2,hd2⟩:=ht;refine wpAny_bind (wpAny_callSpecial?_slot hit.typeIs F.slot_tuple_iterator_next (wpAny_call_entry F.slot_tuple_iterator_next hit.typeIs F.entry_tuple_iterator_next ?_ (F.args_tuple_iterator_next_1 _)));refine(show wpAny _ _ (field (.ref it) 0 >>= _) _ _ s from wpAny_bind (wpAny_field ho hd (x:=.ref t) rfl ?_));refine(show wpAny _ _ (if(Value.ref t==Value.none)=true then _ else _) _ _ s from ?_);refine(show wpAny _ _ (field (.ref it) 1 >>= _) _ _ s from wpAny_bind (wpAny_field ho hd rfl ?_));refine(show wpAny _ _ (seqItems? (.ref t) >>= _) _ _ s from wpAny_bind (wpAny_seqItems ho2 hd2 ?_));simp only[Int.toNat_natCast,hx];refine wpAny_bind (wpAny_setField ho hd () (wpAny_pure ⟨x,rfl,wpAny_pure (hQ _ ⟨_,Heap.get?_update_self _ ho (Obj.isFreed_of_fields (Obj.data_mapFields hd _)),(Obj.cls_mapFields ..).trans hc,by rw[Obj.data_mapFields hd];simp[rawInt]⟩ (SameBut.update ..))⟩))
theorem Dt(hh:A.handled=none)(hit:s.heap.IsTupleIter it t i)(ht:s.heap.IsTuple t items)(hx:items[i]?=none)
  (hE:∀h' e,ExtBut it s.heap h'->(∃o,h'.get? e=some o/\o.cls=.type "StopIteration")->E (.ref e) {s with heap:=h'}):wpAny (model prog w) A (Builtin.SmallTypes.nextOf (.ref it)) Q E s:=by
 obtain⟨o,ho,hc,hd⟩:=id hit;obtain⟨o2,ho2,_,n2,hd2⟩:=ht;refine wpAny_bind (wpAny_callSpecial?_slot hit.typeIs F.slot_tuple_iterator_next (wpAny_call_entry F.slot_tuple_iterator_next hit.typeIs F.entry_tuple_iterator_next ?_ (F.args_tuple_iterator_next_1 _)));refine(show wpAny _ _ (field (.ref it) 0 >>= _) _ _ s from wpAny_bind (wpAny_field ho hd (x:=.ref t) rfl ?_));refine(show wpAny _ _ (if(Value.ref t==Value.none)=true then _ else _) _ _ s from ?_);refine(show wpAny _ _ (field (.ref it) 1 >>= _) _ _ s from wpAny_bind (wpAny_field ho hd rfl ?_));refine(show wpAny _ _ (seqItems? (.ref t) >>= _) _ _ s from wpAny_bind (wpAny_seqItems ho2 hd2 ?_));simp only[Int.toNat_natCast,hx];refine wpAny_bind (wpAny_rule (wpAny_bind (wpAny_setField ho hd () (show wpAny _ _ (newExc (.type "StopIteration") [] >>= _) _ _ _ from wpAny_bind ?_))));refine wpAny_bind (wpAny_newObj_type (wpAny_bind (wpAny_of_eq (a:=Value.none) (by first|rfl |(simp;rfl)) (wpAny_newObj_type ?_ (by size_fits)))) (by size_fits));refine wpAny_bind (wpAny_handled ?_)
 first|rw[show A.in1.handled=none from hh]|rw[hh]|skip
 exact wpAny_bind (wpAny_pure (wpAny_throw (hE _ _ (((SameBut.update ..).extBut.push _).push _) ⟨_,get?_push_size _ rfl,rfl⟩)))
inductive jZ(h:Heap)(it l:Addr)(its:N2)(i:Nat):Prop
 |lst (a:h.IsListIter it l i) (b:h.IsList l its)
 |tup (a:h.IsTupleIter it l i) (b:h.IsTuple l its)
def jZ.at(x:jZ h it l its i)(k1:∀o,h.get? it=some o->h'.get? it=some o)(k2:∀o,h.get? l=some o->h'.get? l=some o):jZ h' it l its i:=by
 rcases x with⟨⟨o,e,r⟩,⟨o2,e2,r2⟩⟩ |⟨⟨o,e,r⟩,⟨o2,e2,r2⟩⟩
 .exact .lst ⟨o,k1 o e,r⟩ ⟨o2,k2 o2 e2,r2⟩
 .exact .tup ⟨o,k1 o e,r⟩ ⟨o2,k2 o2 e2,r2⟩
def jZ.obj(x:jZ h it l its i):∃o,h.get? it=some o/\∀v,o.data≠.cell v:=by
 rcases x with⟨⟨o,e,_,d⟩,_⟩ |⟨⟨o,e,_,d⟩,_⟩
 .exact⟨o,e,λv z=>by lia⟩
 .exact⟨o,e,λv z=>by lia⟩
def Ds(hi:jZ s.heap it l its i)(hne:l≠it)(hx:its[i]?=some x)(hQ:∀h',jZ h' it l its (i+1)->SameBut it s.heap h'->Q x {s with heap:=h'}) :
  wpAny (model prog w) A (Builtin.SmallTypes.nextOf (.ref it)) Q E s:=by
 rcases hi with⟨a,b⟩ |⟨a,b⟩
 .exact wpAny_nextOf_list_item a b hx λh' q sb=>hQ h' (.lst q (b.extBut sb.extBut hne)) sb
 .exact Ae a b hx λh' q sb=>hQ h' (.tup q (b.extBut sb.extBut hne)) sb
def HE(hh:A.handled=none)(hi:jZ s.heap it l its i)(hx:its[i]?=none)
  (hE:∀h' e,ExtBut it s.heap h'->(∃o,h'.get? e=some o/\o.cls=.type "StopIteration")->E (.ref e) {s with heap:=h'}):wpAny (model prog w) A (Builtin.SmallTypes.nextOf (.ref it)) Q E s:=by
 rcases hi with⟨a,b⟩ |⟨a,b⟩
 .exact wpAny_nextOf_list_end hh a b hx hE
 .exact Dt hh a b hx hE
theorem Ea{Q:NR}(he:IsEnum s.heap e it k old)(hi:jZ s.heap it l its i)(hne:e≠it)(hli:l≠it)(hle:l≠e)(hx:its[i]?=some x)
  (hQ:∀ h',IsEnumOut h' e it (k+1) x s.heap.objs.size->jZ h' it l its (i+1)->h'.get? s.heap.objs.size=some { cls:=.type "tuple", data:=.seq #[.int k s.toks,x] }->h'.objs.size=s.heap.objs.size+1 ->
   (∀b o,b≠e->b≠it->s.heap.get? b=some o->h'.get? b=some o)->Q (.ref s.heap.objs.size) {s with heap:=h',toks:=s.toks+1}) :
  wpAny (model prog w) A (Builtin.«enumerate.__next__» ⟨[.ref e],[]⟩) (λfin s'=>∃v,fin=.done (.ret v)/\Q v s') E s:=by
 obtain⟨hp,g,d,tk,os⟩:=s;refine(show wpAny _ _ (field (.ref e) 2 >>= _) _ _ _ from wpAny_bind (wpAny_field he rfl rfl ?_));refine wpAny_bind (Ds hi hli hx λh1 i1 s1=>?_)
 replace s1:SameBut it hp h1:=s1
 have e1:IsEnum h1 e it k old:=(s1.2 e hne).trans he;refine(show wpAny _ _ (field (.ref e) 3 >>= _) _ _ ⟨h1,g,d,tk,os⟩from wpAny_bind (wpAny_field e1 rfl rfl ?_));refine(show wpAny _ _ (field (.ref e) 4 >>= _) _ _ ⟨h1,g,d,tk,os⟩from wpAny_bind (wpAny_field e1 rfl rfl ?_));refine(show wpAny _ _ (mkInt k >>= _) _ _ ⟨h1,g,d,tk,os⟩from wpAny_bind (wpAny_mkInt ?_));refine(show wpAny _ _ (setField (.ref e) 3 (rawInt (k+1)) >>= _) _ _ ⟨h1,g,d,tk+1,os⟩from wpAny_bind (wpAny_setField_rec e1 () λh2 e2 s2=>?_))
 replace s2:SameBut e h1 h2:=s2
 replace e2:IsEnum h2 e it (k+1) old:=e2
 refine(show wpAny _ _ (setField (.ref e) 4 .none >>= _) _ _ ⟨h2,g,d,tk+1,os⟩from wpAny_bind (wpAny_setField_rec e2 () λh3 e3 s3=>?_))
 replace s3:SameBut e h2 h3:=s3
 replace e3:IsEnum h3 e it (k+1) old:=e3
 refine(show wpAny _ _ (newTuple [.int k tk,x] >>= _) _ _ ⟨h3,g,d,tk+1,os⟩from wpAny_bind (wpAny_newTuple ?_));have e4:IsEnum (h3.push {cls:=.type "tuple",data:=.seq #[.int k tk,x]}) e it (k+1) old:=get?_push_of_some _ e3;generalize hh4:h3.push {cls:=.type "tuple",data:=.seq #[.int k tk,x]}=h4 at e4;have z3:h3.objs.size=hp.objs.size:=by rw[s3.1,s2.1,s1.1]
 have lte:e<hp.objs.size:=lt_size he;have t4:h4.get? hp.objs.size=some {cls:=.type "tuple",data:=.seq #[.int k tk,x]}:=by rw[<- hh4,<- z3];exact get?_push_size _ rfl
 have z4:h4.objs.size=hp.objs.size+1:=by rw[<- hh4,size_push,z3]
 have k4:∀b o,b≠e->h1.get? b=some o->h4.get? b=some o:=λb o hb q=>by rw[<- hh4];exact get?_push_of_some _ (s3.extBut b o hb (s2.extBut b o hb q))
 refine(show wpAny _ _ (Builtin.SmallTypes.ownedTupleIsFree (.ref e) >>= _) _ _ ⟨h4,g,d,tk+1,os⟩from ?_);rw[z3];refine wpAny_bind ?_;refine wpAny_bind (wpAny_field e4 rfl rfl (wpAny_pure ?_));refine wpAny_bind (wpAny_rule (wpAny_bind (wpAny_field e4 rfl (x:=old) rfl (wpAny_bind (wpAny_setField_rec e4 () λh5 e5 s5=>?_)))))
 replace s5:SameBut e h4 h5:=s5
 replace e5:IsEnum h5 e it (k+1) x:=e5
 refine(show wpAny _ _ (Builtin.SmallTypes.ownedTupleHandOut (.ref e) (.ref hp.objs.size) >>= _) _ _ ⟨h5,g,d,tk+1,os⟩from wpAny_bind ?_);refine wpAny_bind (wpAny_setField_rec e5 () λh6 e6 s6=>?_)
 replace s6:SameBut e h5 h6:=s6
 replace e6:IsEnumOut h6 e it (k+1) x hp.objs.size:=e6
 refine wpAny_setField_rec e6 () λh7 e7 s7=>?_
 replace s7:SameBut e h6 h7:=s7
 replace e7:IsEnumOut h7 e it (k+1) x hp.objs.size:=e7
 have up:∀b o,b≠e->h4.get? b=some o->h7.get? b=some o:=λb o hb q=>s7.extBut b o hb (s6.extBut b o hb (s5.extBut b o hb q));refine wpAny_bind (wpAny_letGo (wpAny_pure ⟨_,rfl,hQ h7 e7 (i1.at (λo q=>up it o hne.symm (k4 it o hne.symm q)) λo q=>up l o hle (k4 l o hle q)) (up _ _ (Nat.ne_of_gt lte) t4) (by rw[s7.1,s6.1,s5.1,z4]) λb o hb hb2 q=>up b o hb (k4 b o hb (s1.extBut b o hb2 q))⟩))
def C8(he:IsEnum s.heap e it k old)(hi:jZ s.heap it l its i)(hne:e≠it)(hli:l≠it)(hle:l≠e)(hx:its[i]?=some x)
  (hQ:∀ h',IsEnumOut h' e it (k+1) x s.heap.objs.size->jZ h' it l its (i+1)->h'.get? s.heap.objs.size=some { cls:=.type "tuple", data:=.seq #[.int k s.toks,x] }->h'.objs.size=s.heap.objs.size+1 ->
   (∀b o,b≠e->b≠it->s.heap.get? b=some o->h'.get? b=some o)->Q (some (.ref s.heap.objs.size)) {s with heap:=h',toks:=s.toks+1}):wpAny (model prog w) A (pyNext (.ref e)) Q E s:=by
 have hT:s.TypeIs (.ref e) "enumerate":=⟨_,he,rfl⟩
 exact wpAny_bind (wpAny_attempt (wpAny_callSpecial?_slot hT F.slot_enumerate_next (wpAny_call_entry F.slot_enumerate_next hT F.entry_enumerate_next (Ea he hi hne hli hle hx λh' a b c d q=>wpAny_pure (hQ h' a b c d q)) (F.args_enumerate_next_1 _))))
def Gv(hh:A.handled=none)(he:IsEnum s.heap e it k old)(hi:jZ s.heap it l its i)(hx:its[i]?=none)
  (hQ:∀h',ExtBut it s.heap h'->Q none {s with heap:=h'}):wpAny (model prog w) A (pyNext (.ref e)) Q E s:=by
 have hT:s.TypeIs (.ref e) "enumerate":=⟨_,he,rfl⟩
 refine wpAny_bind (wpAny_attempt (wpAny_callSpecial?_slot hT F.slot_enumerate_next (wpAny_call_entry F.slot_enumerate_next hT F.entry_enumerate_next ?_ (F.args_enumerate_next_1 _))));refine(show wpAny _ _ (field (.ref e) 2 >>= _) _ _ _ from wpAny_bind (wpAny_field he rfl rfl ?_));refine wpAny_bind (HE hh hi hx λh' y q ⟨o,ho,hc⟩=>?_);exact wpAny_bind (wpAny_isInstance ⟨o,ho,hc⟩ isSubtype_stop (wpAny_pure (hQ _ q)))
end
section
variable{X:Cx}{T:Tb}{W:Nat->St->N4}{Z:Zn}{F F1 B L:NV}{H H1:Hp}{Y:St}{env:En}{NP:NU}{s:Shared}
def pM{fp:NZ}{vs:N3}(I:L2.Inv X NP Y H s)(hf:∀b∈fp,oK X NP H b)(k:∀b o,b∉fp->s.heap.get? b=some o->h'.get? b=some o)(hp:s.heap.objs.size<=a)(new:b_ X.prog X.w (upd H a (.tup vs)) h' a (.tup vs)) :
  L2.Inv X NP Y (upd H a (.tup vs)) {s with heap:=h',toks:=t'}:=by
 have hn:H a=none:=I.hok.fresh hp;have nit:∀b u,H b=some u->b∉fp:=λb u e z=>by rw[(hf b z).1]at e;cases e
 refine I.step (g':=s.gens) (d':=s.drawn) (λb hb=>?_) (λb o _ _ hc e _=>k b o hc e) (λb o _ _ hc e _=>⟨o.slots,k b o hc e⟩) (λb o _ e n=>?_) (λb o hc e=>⟨o,k b o hc e⟩)
  (λb xs e=>by rw[aJ (b6 e hn)];exact e) (λb o u e=>by rw[aJ (b6 e hn)];exact e) (λb ps e=>⟨#[],by rw[aJ (b6 e hn),e];simp⟩) (λm hm=>?_) (λb u e=>?_) I.bare
 .obtain⟨_,q1,_,q3,q4,q5⟩:=hf b hb;exact⟨q3,q1,q4,q5⟩
 .rw[aJ (Nat.ne_of_lt (Nat.lt_of_lt_of_le (lt_size e) hp))];exact n
 .obtain⟨o,es,ep,ho,r⟩:=hm;exact⟨o,es,ep,k _ o (λz=>(hf _ z).2.1 rfl) ho,r⟩
 .by_cases hb:b=a
  .subst hb;rw[bp]at e;cases e;exact new
  .rw[aJ hb]at e;refine(I.hok b u e).stay (λc v hc q=>k c v ?_ q) (λc q=>by rw[aJ (b6 q hn)];exact q) λc xs _ q=>by rw[aJ (b6 q hn)];exact q
   rcases hc with z|z
   .rw[z];exact nit b u e
   .exact nit c _ z
def Sq(tp:Bool)(K:PySem.W.Frag)(H:Hp)(l:Addr)(xs:N3):Prop:=match tp with
 |true=>SqT K H l xs
 |false=>SqL K H l xs
def Ey(tp:Bool)(h:Heap)(it l:Addr)(i:Nat):Prop:=match tp with
 |true=>h.IsTupleIter it l i
 |false=>h.IsListIter it l i
def Ite(tp:Bool)(K:PySem.W.Frag)(st:Int)(l:Addr):It:=
 ⟨λi H=>∃xs x,Sq tp K H l xs/\xs[i]?=some x,λi H v H'=>∃p y,H p=none/\v=.ref p/\H'=upd H p (.tup [.int (st+i),y])/\∀xs,Sq tp K H l xs->xs[i]?=some y,λi H=>∃xs,Sq tp K H l xs/\xs.length<=i⟩
theorem EB(I:L2.Inv X NP Y H s)(hq:Sq tp X.K H l xs)(ha:Ey tp s.heap it l i):∃its:NY,aU xs its/\jZ s.heap it l its.toArray i/\l≠it/\∀e k old,IsEnum s.heap e it k old->e≠it/\l≠e:=by
 cases tp with
 |false=>
  obtain⟨its,rv,p,_⟩:=I.list hq;obtain⟨o,ho,hc,_⟩:=id p.isList;obtain⟨o2,ho2,hc2,_⟩:=id (show s.heap.IsListIter it l i from ha);refine⟨its,rv,.lst ha p.isList,λz=>?_,λe k old he=>⟨λz=>?_,λz=>?_⟩⟩
  .lia
  .grind
  grind
 |true=>
  obtain⟨its,rv,p,_⟩:=I.tuple hq;have p':s.heap.IsTuple l its.toArray:=p;obtain⟨o,ho,hc,_⟩:=id p';obtain⟨o2,ho2,hc2,_⟩:=id (show s.heap.IsTupleIter it l i from ha);refine⟨its,rv,.tup ha p',λz=>?_,λe k old he=>⟨λz=>?_,λz=>?_⟩⟩
  .lia
  .grind
  grind
def FP(I:L2.Inv X NP Y H s)(h1:Sq tp X.K H l xs)(h2:Sq tp X.K H l ys):xs=ys:=by
 cases tp with
 |false=>exact I.list_inj h1 h2
 |true=>exact I.tuple_inj h1 h2
theorem KZ(x:jZ h it l its i)(hl:tp=true->∃o,h.get? l=some o/\o.cls=.type "tuple")(hl2:tp=false->∃o,h.get? l=some o/\o.cls=.type "list"):Ey tp h it l i:=by
 cases tp with
 |false=>
  obtain⟨o,ho,hc⟩:=hl2 rfl;rcases x with⟨a,b⟩ |⟨a,⟨o2,ho2,hc2,_⟩⟩
  .exact a
  .lia
 |true=>
  obtain⟨o,ho,hc⟩:=hl rfl;rcases x with⟨a,⟨o2,ho2,hc2,_⟩⟩ |⟨a,b⟩
  .lia
  .exact a
theorem xh{els:List Expr}{x1}(tp:Bool)(st:Int)(l e it:Addr) :
  vx P w K (.Tuple els x1 tpos) (Ite tp K st l) [e,it] e (λi h=>(∃old,IsEnum h e it (st+i) old)/\Ey tp h it l i) where
 mem:=by simp
 obj:=λi h st b hb=>by
  obtain⟨⟨old,he⟩,ha⟩:=st;simp at hb;rcases hb with rfl|rfl
  .exact⟨_,he,λv z=>by cases z⟩
  .cases tp with
   |false=>obtain⟨o,e,c,d⟩:=id (show h.IsListIter b l i from ha);exact⟨o,e,λv z=>by lia⟩
   |true=>obtain⟨o,e,c,d⟩:=id (show h.IsTupleIter b l i from ha);exact⟨o,e,λv z=>by lia⟩
 keep:=λi h h' st k=>by
  obtain⟨⟨old,he⟩,ha⟩:=st;refine⟨⟨old,k e () _ he⟩,?_⟩;cases tp with
  |false=>obtain⟨o,e,r⟩:=id (show h.IsListIter it l i from ha);exact⟨o,k it () o e,r⟩
  |true=>obtain⟨o,e,r⟩:=id (show h.IsTupleIter it l i from ha);exact⟨o,k it () o e,r⟩
 item:=by
  intro X hP hw hK hc i NP s Y H E I hf stt hg;subst hP hw hK;obtain⟨⟨old,he⟩,ha⟩:=stt;obtain⟨xs,x,hq,hx⟩:=hg;obtain⟨its,rv,hi,hli,hen⟩:=EB I hq ha;obtain⟨hne,hle⟩:=hen e _ old he;obtain⟨u,hu,ru⟩:=rv.get hx;refine C8 he hi hne hli hle (by simpa using hu) λh1 eo in1 tu sz kp=>?_;refine⟨_,rfl,wpAny_letOwnedTupleGo_enum eo λh2 e2 s2=>?_⟩
  replace s2:SameBut e h1 h2:=s2
  have lte:e<s.heap.objs.size:=lt_size he;have kp2:∀b o,b∉[e,it]->s.heap.get? b=some o->h2.get? b=some o:=λb o hb q=>by simp at hb;exact s2.extBut b o hb.1 (kp b o hb.1 hb.2 q)
  have tu2:h2.get? s.heap.objs.size=some {cls:=.type "tuple",data:=.seq #[.int (st+i) s.toks,u]}:=s2.extBut _ _ (Nat.ne_of_gt lte) tu;refine⟨.ref s.heap.objs.size,upd H s.heap.objs.size (.tup [.int (st+i),x]),(pM (h':=h2) (t':=s.toks+1) (vs:=[.int (st+i),x]) I hf kp2 (Nat.le_refl _) ⟨by rw[sizeLine_eq];simp,[.int (st+i) s.toks,u],.cons ⟨_,rfl⟩ (.cons ru .nil),⟨_,tu2,rfl,_,rfl⟩⟩ :),rfl,⟨_,x,I.hok.fresh (Nat.le_refl _),rfl,rfl,λys hy=>by rw[FP I hy hq];exact hx⟩,⟨⟨u,?_⟩,?_⟩,λb hb=>?_⟩
  .lia
  .have in2:=in1.at (λo q=>s2.extBut it o hne.symm q) λo q=>s2.extBut l o hle q;refine KZ in2 (λz=>?_) λz=>?_
   .subst z;obtain⟨_,_,p,_⟩:=I.tuple hq;obtain⟨o,ho,hc,_⟩:=id (show s.heap.IsTuple l _ from p);exact⟨o,kp2 l o (by simp[hle,hli]) ho,hc⟩
   .subst z;obtain⟨_,_,p,_⟩:=I.list hq;obtain⟨o,ho,hc,_⟩:=id p.isList;exact⟨o,kp2 l o (by simp[hle,hli]) ho,hc⟩
  .have:b<s.heap.objs.size:=by
    simp at hb;rcases hb with rfl|rfl
    .exact lte
    .obtain⟨o,ho,_⟩:=hi.obj;exact lt_size ho
   rw[aJ (Nat.ne_of_lt this)];exact(hf b hb).1
 done:=by intro X hP hw hK hc i NP s Y H E I hf stt hg;subst hP hw hK;obtain⟨⟨old,he⟩,ha⟩:=stt;obtain⟨xs,hq,hx⟩:=hg;obtain⟨its,rv,hi,hli,hen⟩:=EB I hq ha;obtain⟨f0,f1,f2,f3,f4,f5⟩:=hf it ();have hl:=rv.length;exact Gv (I.ok.hd hc) he hi (by simp;lia) λh' eb=>⟨rfl,I.turned (t':=s.toks) (λb o hb e=>eb b o hb e) f0 f1 f3 f4 f5⟩
 self:=λ_ _ _ _ _ st h=>by obtain⟨⟨old,he⟩,_⟩:=st;exact wpAny_pyIter_enum he h
def kW{M:Model}{A:Around}{E:NR}{s:Shared}{env:Env}{v:Value}{bF:List Expr}{kws:List Keyword}{Q:NR}
  (h:wpAny M A (spliced (backTo pos (starEach (e::bF) env))) (λvs s1=>wpAny M A (evalAll ((backToKw pos (keywordEach kws env)).map (·.2))) (λks s2=>wpAny M A (call v vs (((backToKw pos (keywordEach kws env)).filterMap (·.1)).zip ks)) Q E s2) E s1) E s)
  (hall:(backToKw pos (keywordEach kws env)).all (·.1.isSome)=true:=by rfl) (hkw:(backToKw pos (keywordEach kws env)).any (·.1.isNone)=false:=by rfl)
  (he:starEach (e::bF) env=(false,eval e env)::starEach bF env:=by rfl) (hpl:(backTo pos (starEach (e::bF) env)).any (·.1)=false:=by rfl) (hv:keeperOf v=pure .machine:=by rfl) :
  wpAny M A (callWith pos v [] (backTo pos (starEach (e::bF) env)) (backToKw pos (keywordEach kws env))) Q E s:=by
 refine wpAny_bind (wpAny_holding (wpAny_mono (PyProof.Rows.evalArgs_kw2 (Q:=λa s1=>wpAny M A (call v ([]++ a.pos) a.kw) Q E s1) hall h he) (λa s1 h1=>wpAny_bind (wpAny_standAt ?_)) λ_ _ x=>x));simp only[hpl,hkw];rw[hv];exact wpAny_bind (wpAny_pure (wpAny_bind (wpAny_mono h1 (λr s2 hr=>wpAny_bind (wpAny_holding (wpAny_point (wpAny_pure hr)))) λ_ _ x=>x)))
theorem Er:bootBuiltins "enumerate"=some (.type "enumerate"):=by decide +kernel
noncomputable abbrev enE(l:Expr)(p pos kp cp:Pos)(j:Nat):Expr:=.Call (.Name "enumerate" p) [l] [⟨some "start",.Constant (.int 1) j cp,kp⟩] pos
theorem v8{x1}(hg:Gl X "enumerate")(hm:X.mg "enumerate"=none)(hl:PE X l tl)(hs:starEach [l] X.env=[(false,eval l X.env)]:=by rfl) :
  PI X (.Tuple els x1 tpos) (enE l p pos kp cp j) (λY H R=>tl Y H λx H1=>∃a tp xs,[x]=[V.ref a]/\Sq tp X.K H1 a xs/\R (Ite tp X.K 1 a) H1):=by
 intro NP s Y H R I h;refine wpAny_Call_Name_kw (iN I hg hm Er ?_ () ());refine kW ?_ rfl rfl hs (by rw[hs];rfl);refine thn (dO hl iJ (by rw[hs];rfl) pos NP s Y H (λvs H1=>∃a tp xs,vs=[.ref a]/\Sq tp X.K H1 a xs/\R (Ite tp X.K 1 a) H1) I h) λus s1 hz1=>?_;obtain⟨vs,H1,I1,r1,a,tp,xs,ev,hq,q⟩:=hz1;subst ev;obtain⟨u,rfl,rx⟩:=eO r1;cases rx;refine thn (v5 (zP) zH pos NP s1 Y H1 (λzs H2=>zs=[.int 1]/\H2=H1) I1 ⟨rfl,rfl⟩) λws s2 hz1=>?_;obtain⟨zs,H2,I2,r2,ez,eh⟩:=hz1;subst ez;rw[eh]at I2;obtain⟨u2,rfl,rx2⟩:=eO r2;obtain⟨t,rfl⟩:=rx2;have hI:∃n,B8 n a s2/\∀h',h'.get? s2.heap.objs.size=some (itO n a)->Ey tp h' s2.heap.objs.size a 0:=by
  cases tp with
  |false=>obtain⟨its,rv,pl,_⟩:=I2.list hq;exact⟨"list_iterator",λ_ _ _ _ _ q=>wpAny_pyIter_list pl.isList q,λh' e=>⟨_,e,rfl,rfl⟩⟩
  |true=>obtain⟨its,rv,pl,_⟩:=I2.tuple hq;exact⟨"tuple_iterator",λ_ _ _ _ _ q=>wpAny_pyIter_tuple (show s2.heap.IsTuple a its.toArray from pl) q,λh' e=>⟨_,e,rfl,rfl⟩⟩
 obtain⟨n,hI,hA⟩:=hI;have hz:(s2.heap.push (itO n a)).objs.size=s2.heap.objs.size+1:=size_push ..
 have he:((s2.heap.push (itO n a)).push (enO s2.heap.objs.size 1)).get? (s2.heap.objs.size+1)=some (enO s2.heap.objs.size 1):=by have:=get?_push_size (s2.heap.push (itO n a)) (o:=enO s2.heap.objs.size 1) rfl;rw[hz]at this;exact this
 refine IT hI (wpAny_pyIter_enum he ?_);refine⟨s2.heap.objs.size+1,[s2.heap.objs.size+1,s2.heap.objs.size],_,_,H1,rfl,I2.kept (t':=s2.toks) λb o e=>get?_push_of_some _ (get?_push_of_some _ e),xh tp 1 a _ _,⟨⟨.none,by lia⟩,hA _ (get?_push_of_some _ (get?_push_size _ rfl))⟩,λb hb=>?_,q⟩;simp at hb;rcases hb with rfl|rfl
 .exact I2.fpOk (le_succ _) (I2.hok.fresh (le_succ _))
 .exact I2.fpOk (Nat.le_refl _) (I2.hok.fresh (Nat.le_refl _))
end
noncomputable def enP(k:Int):N5->N5
 | []=>[]
 |x::xs=>.tup [.int k,x]::enP (k+1) xs
theorem mY:∀(k:Int) (xs:N5) (i:Nat),(enP k xs)[i]?=(xs[i]?).map λx=>.tup [.int (k+i),x]
 |_,[],i|k,x::xs,0=>by simp[enP]
 |k,x::xs,i+1=>by
  simp only[enP,getElem?_cons_succ,mY (k+1) xs i];congr 1;funext y;congr 3
  lia
def mX:∀(k:Int) (xs:N5),(enP k xs).length=xs.length
 |_,[]=>rfl
 |k,_::xs=>by simp[enP,mX (k+1) xs]
def yd(m:ME):MI:=λenv=>(m env).bind λx=>match x with
 |.lst f xs=>if !f.Ob&&gz xs then .ok (enP 1 xs)else .stuck
 |.tup xs=>if gz xs then .ok (enP 1 xs)else .stuck
 |_=>.stuck
def DL(m:ME):MI:=λenv=>(m env).bind λx=>match aY x with
 |some xs=>.ok (enP 1 xs)
 |none=>.stuck
section
variable{X:Cx}{T:Tb}{W:Nat->St->N4}{Z:Zn}{F F1 B L:NV}{H H1:Hp}{Y:St}{env:En}{fp:Nat->NZ}
def r_(hp:H2 p=none)(r:Rel T F B L H2 x v f):Rel T F B L (upd H2 p (.tup [.int k,v])) (.tup [.int k,x]) (.ref p) f:=by refine⟨p,_,rfl,SqT.of bp,?_⟩;have r2:Rel T F B L (upd H2 p (.tup [.int k,v])) x v f:=r.ext (Ext.upd hp) λ_ h=>h;refine⟨.int k,[v],[],f,rfl,eK,?_,rfl⟩;exact⟨v,[],f,[],rfl,r2,by exact⟨rfl,rfl⟩,by simp⟩
def Cw{x1}(hK:X.K=T.K)(hg:Gl X "enumerate")(hm:X.mg "enumerate"=none)(he:SE X T W e m)(hs:starEach [e] X.env=[(false,eval e X.env)]:=by rfl) :
  SI X T W (.Tuple els x1 tpos) (enE e p pos kp cp j) (yd m):=λNP s Y H R I h=>v8 hg hm he hs NP s Y H R I (by
 obtain⟨Z,F,env,fp,S,q⟩:=h;unfold yd at q;walk_at "a";simp only[Res.Og]at q;have S1:=S.grow g1;rw[hK];have key:∀(tp:Bool) (a:Addr) (xs:N5) (vs:N3),RelL T F1 Z.B NoL H1 xs vs []->(∀H2,(∀a o,H1 a=some o->¬Own fp a->H2 a=some o)->Sq tp T.K H2 a vs)->ItR T F1 Z.B (Own fp) H1 (Ite tp T.K 1 a) (enP 1 xs):=by intro tp a xs vs hr hq H2 hk;have hq2:=hq H2 hk;refine⟨λi x ex=>?_,⟨vs,hq2,by rw[mX,hr.length];exact Nat.le_refl _⟩⟩;rw[mY]at ex;obtain⟨y,ey,rfl⟩:=map_eq_some_iff.mp ex;obtain⟨v,_,ev,_,_⟩:=hr.get ey;refine⟨⟨vs,v,hq2,ev⟩,λw H3 hy=>?_⟩;obtain⟨p,y',hp,rfl,rfl,hall⟩:=hy;have:=hall vs hq2;rw[ev]at this;cases this;exact⟨Ext.upd hp,r_ hp (jQ S1.fow S1.bow S1.oow hk hr ey ev)⟩
 cases x with
 |lst f xs=>
  dsimp only at q;by_cases hc:(!f.Ob&&gz xs)=true
  .rw[if_pos hc]at q;rw[and_eq_true]at hc;obtain⟨a,vs,fp',rfl,hl,hr,hf⟩:=r1;obtain⟨rfl,hr'⟩:=fq hc.2 hr;refine⟨a,false,vs,rfl,hl.sq,q _ H1 F1 g1 (key false a xs vs hr' λH2 hk=>?_)⟩;have na:f≠.mod->∀o,H1 a=some o->H2 a=some o:=λhn o ho=>by
    refine hk a o ho ?_;cases f with
    |own=>rintro⟨i,hi⟩;obtain⟨_,o',ho'⟩:=S.dis i a hi;obtain rfl:f1=[a]:=hf;rw[w1 a mem_cons_self]at ho';cases ho'
    |frz=>exact S1.fow a hl.1
    |bor=>exact S1.bow a hl.1
    |lnt=>exact absurd hc.1 ()
    |mod=>exact absurd rfl hn
   by_cases hn:f=.mod
   .subst hn;exact .inr hl
   .exact .inl (Rd.tr (na hn) (hl.rd hn))
  .rw[if_neg hc]at q;exact q.elim
 |tup xs=>
  dsimp only at q;by_cases hc:gz xs=true
  .rw[if_pos hc]at q;obtain⟨a,vs,rfl,hl,hr⟩:=r1;obtain⟨rfl,hr'⟩:=fq hc hr;refine⟨a,true,vs,rfl,hl,q _ H1 F1 g1 (key true a xs vs hr' λH2 hk=>?_)⟩;exact SqT.tr (λo ho hfx=>hk a o ho λz=>by
    have:=S1.oow a o z ho;cases o with
    |lst _|ins _ _ _=>exact hfx
    |_=>exact this) hl
  .rw[if_neg hc]at q;exact q.elim
 |_=>exact q.elim)
def zd{x1}(hK:X.K=T.K)(hg:Gl X "enumerate")(hm:X.mg "enumerate"=none)(he:SE X T W e m)(hs:starEach [e] X.env=[(false,eval e X.env)]:=by rfl) :
  SIc X T W (.Tuple els x1 tpos) (enE e p pos kp cp j) (DL m):=λNP s Y H R I h=>v8 hg hm he hs NP s Y H R I (by
 obtain⟨Z,F,env,fp,S,q⟩:=h;unfold DL at q;walk_at "a";simp at q;cases es:aY x with
 |none=>rw[es]at q;exact q.elim
 |some xs=>
  rw[es]at q;obtain⟨a,vs,f',rfl,hs,hr,_⟩:=r1.seq es;rw[hK];have key:∀(tp:Bool),Sq tp T.K H1 a vs->(∀H2,Ext H1 H2->Sq tp T.K H2 a vs)->ItC T F1 Z.B (Own fp) H1 (Ite tp T.K 1 a) (enP 1 xs):=by intro tp _ hq H2 hx;have hq2:=hq H2 hx;refine⟨λi x ex=>?_,⟨vs,hq2,by rw[mX,hr.length];exact Nat.le_refl _⟩⟩;rw[mY]at ex;obtain⟨y,ey,rfl⟩:=map_eq_some_iff.mp ex;obtain⟨v,f,ev,rv,_⟩:=hr.get ey;refine⟨⟨vs,v,hq2,ev⟩,λw H3 hy=>?_⟩;obtain⟨p,y',hp,rfl,rfl,hall⟩:=hy;have:=hall vs hq2;rw[ev]at this;cases this;exact⟨Ext.upd hp,f,λb hb=>rv.there b hb,r_ hp (rv.ext hx λ_ h=>h)⟩
  rcases hs with hs|hs
  .refine⟨a,false,vs,rfl,hs,q _ H1 F1 g1 (key false hs λH2 hx=>?_)⟩;rcases hs with z|z
   .exact .inl (Rd.tr (λo q=>hx a o q) z)
   .exact .inr z
  .exact⟨a,true,vs,rfl,hs,q _ H1 F1 g1 (key true hs λH2 hx=>SqT.tr (λo q _=>hx a o q) hs)⟩)
end
section
variable{X:Cx}{T:Tb}{W:Nat->St->N4}{Z:Zn}{F F1 B L:NV}{H H1:Hp}{Y:St}{env:En}{fp:Nat->NZ}{D:Ends}
def RelL.erase:∀{xs:N5}{ws:N3} (n:Nat),RelL T F B L H xs ws []->RelL T F B L H (xs.eraseIdx n) (ws.eraseIdx n) []
 | [],ws,n,h=>by unfold RelL at h;obtain⟨rfl,_⟩:=h;simpa using f_ F B L H
 |x::xs,ws,n,h=>by
  unfold RelL at h;obtain⟨w,ws,f1,f2,rfl,h1,h2,e⟩:=h;obtain⟨rfl,rfl⟩:=List.append_eq_nil_iff.mp e.symm;cases n with
  |zero=>simpa using h2
  |succ n=>rw[List.eraseIdx_cons_succ,List.eraseIdx_cons_succ];unfold RelL;exact⟨w,_,[],[],rfl,h1,RelL.erase n h2,rfl⟩
end
open AutoSeq1 (wpAny_loadPart')
section
variable{prog:Program}{w:World}{A:Around}{E:NR}{s:Shared}
noncomputable abbrev zTI(n:Addr):Obj:={cls:=.type "tuple",data:=.seq #[.ref n,.ref (n+1)]}
noncomputable abbrev zTO:Obj:={cls:=.type "tuple",data:=.seq #[.none,.none]}
noncomputable abbrev zO(n:Addr):Obj:={cls:=.type "zip",data:=.fields #[.none,.bool false,.bool false,.ref (n+2),.ref (n+3)]}
abbrev Ez(h:Heap)(l1 l2:Addr):Heap:=((((h.push (itO "list_iterator" l1)).push (itO "list_iterator" l2)).push (zTI h.objs.size)).push zTO).push (zO h.objs.size)
def JK(hl:typeLookup (.type T) "__init__"=pure (some (.builtin "object.__init__")))(hm:Bind.madeBy (.type T)=pure (some nI))(hne:(some nI != some "object.__new__")=true) :
  Meets (Builtin.«object.__init__» ⟨[self,a,b],[]⟩) (λ_ R s=>s.TypeIs self T/\R (.ok (.ret .none)) s):=by
 refine Meets.of_wp λpr w A R s0 hs=>?_;obtain⟨hT,hq⟩:=hs
 repeat (any_goals (first|assumption|wp_step|fail))
 exact⟨_,rfl,hq⟩
def Mm(l1 l2:Addr)(xs ys:N2) :
  Meets (Builtin.«zip.__new__» ⟨[.type "zip",.ref l1,.ref l2],[]⟩) (λ_ R s=>s.heap.IsList l1 xs/\s.heap.IsList l2 ys/\R (.ok (.ret (.ref (s.heap.objs.size+4)))) {s with heap:=Ez s.heap l1 l2}):=
 .of_wp λpr w A R s0 h=>by
  obtain⟨hp,g,d,tk,os⟩:=s0;obtain⟨h1,h2,h⟩:=h;have hsub:=sub_zip;have h2':(hp.push (itO "list_iterator" l1)).IsList l2 ys:=by obtain⟨o,e,r⟩:=h2;exact⟨o,get?_push_of_some _ e,r⟩
  have hz1:(hp.push (itO "list_iterator" l1)).objs.size=hp.objs.size+1:=size_push ..
  have hJ1:∀{Q:NR}{E:NR},Q (.ref hp.objs.size) ⟨hp.push (itO "list_iterator" l1),g,d,tk,os⟩->wpAny (model pr w) A.in1 (pyIter (.ref l1)) Q E ⟨hp,g,d,tk,os⟩:=λ{Q E} q=>wpAny_pyIter_list h1 q;have hJ2:∀{Q:NR}{E:NR},Q (.ref (hp.push (itO "list_iterator" l1)).objs.size) ⟨(hp.push (itO "list_iterator" l1)).push (itO "list_iterator" l2),g,d,tk,os⟩->wpAny (model pr w) A.in1 (pyIter (.ref l2)) Q E ⟨hp.push (itO "list_iterator" l1),g,d,tk,os⟩:=λ{Q E} q=>wpAny_pyIter_list h2' q
  wp_walk using hJ1,hJ2
  refine⟨_,rfl,?_⟩;simp only[size_push];exact h
def Eo(h1:s.heap.IsList l1 xs)(h2:s.heap.IsList l2 ys)(h:Q (.ref (s.heap.objs.size+4)) {s with heap:=Ez s.heap l1 l2}) :
  wpAny (model prog w) A (call (.type "zip") [.ref l1,.ref l2] []) Q E s:=by
 have hz:((((s.heap.push (itO "list_iterator" l1)).push (itO "list_iterator" l2)).push (zTI s.heap.objs.size)).push zTO).objs.size=s.heap.objs.size+4:=by simp only[size_push]
 refine pW (Q1:=λob s1=>s1.TypeIs ob "zip" /\ Q ob s1) F.called_zip (F.typeCall_zip_2 _ _) (F.newCall_zip_2 _ _) F.entry_zip_new F.entry_object_init (Mm l1 l2 xs ys) ⟨h1,h2,?_⟩ λob s1 hq=>⟨hq.1,?_,_,JK F.called_zip.init.lookup F.called_zip.made (),hq.1,rfl,hq.2⟩
 .have:=get?_push_size ((((s.heap.push (itO "list_iterator" l1)).push (itO "list_iterator" l2)).push (zTI s.heap.objs.size)).push zTO) (o:=zO s.heap.objs.size) rfl;rw[hz]at this;exact⟨⟨_,this,rfl⟩,h⟩
 .exact F.args_object_init_3 _ _ _
end
section
variable{X:Cx}{T:Tb}{W:Nat->St->N4}{Z:Zn}{F F1 B L:NV}{H H1:Hp}{Y:St}{env:En}{NP:NU}{s:Shared}
def yn{fp:NZ}(I:L2.Inv X NP Y H s)(hf:∀b∈fp,oK X NP H b)(k:∀b o,b∉fp->s.heap.get? b=some o->h'.get? b=some o) :
  L2.Inv X NP Y H {s with heap:=h',toks:=t'}:=by
 have nit:∀b u,H b=some u->b∉fp:=λb u e z=>by rw[(hf b z).1]at e;cases e
 refine I.step (g':=s.gens) (d':=s.drawn) (λb hb=>?_) (λb o _ _ hc e _=>k b o hc e) (λb o _ _ hc e _=>⟨o.slots,k b o hc e⟩) (λ_ _ _ _ n=>n) (λb o hc e=>⟨o,k b o hc e⟩)
  (λ_ _ e=>e) (λ_ _ _ e=>e) (λb ps e=>⟨#[],by rw[e];simp⟩) (λm hm=>?_) (λb u e=>?_) I.bare
 .obtain⟨_,q1,_,q3,q4,q5⟩:=hf b hb;exact⟨q3,q1,q4,q5⟩
 .obtain⟨o,es,ep,ho,r⟩:=hm;exact⟨o,es,ep,k _ o (λz=>(hf _ z).2.1 rfl) ho,r⟩
 .refine(I.hok b u e).stay (λc v hc q=>k c v ?_ q) (λ_ q=>q) λ_ _ _ q=>q;rcases hc with z|z
  .rw[z];exact nit b u e
  .exact nit c _ z
def Itz(K:PySem.W.Frag)(l1 l2:Addr):It:=
  ⟨λi H=>∃ xs ys x y,SqL K H l1 xs/\SqL K H l2 ys/\xs[i]?=some x/\ys[i]?=some y,
   λi H v H'=>∃p x y,H p=none/\v=.ref p/\H'=upd H p (.tup [x,y])/\(∀xs,SqL K H l1 xs->xs[i]?=some x)/\∀ys,SqL K H l2 ys->ys[i]?=some y,
   λi H=>∃xs ys,SqL K H l1 xs/\SqL K H l2 ys/\(xs.length<=i\/ys.length<=i)⟩
def kG{h h':Heap}{it l:Addr}{i:Nat}(a:h.IsListIter it l i)(k:∀o,h.get? it=some o->h'.get? it=some o):h'.IsListIter it l i:=by obtain⟨o,e,r⟩:=a;exact⟨o,k o e,r⟩
theorem yS{P:Program}{w:World}{K:PySem.W.Frag}{els:List Expr}{x1}(l1 l2 z ti to i1 i2:Addr)(D:ZipApart z ti to i1 i2 l1 l2) :
  vx P w K (.Tuple els x1 tpos) (Itz K l1 l2) [z,ti,to,i1,i2] z (λi h=>IsZip h z ti to .none/\IsPair h ti (.ref i1) (.ref i2)/\(∃a b,IsPair h to a b)/\h.IsListIter i1 l1 i/\h.IsListIter i2 l2 i) where
 mem:=by simp
 obj:=λi h st b hb=>by
  obtain⟨hz,ht,⟨a',b',ho⟩,h1,h2⟩:=st;simp at hb;rcases hb with rfl|rfl|rfl|rfl|rfl
  .exact⟨_,hz,λv z=>by cases z⟩
  .exact⟨_,ht,λv z=>by cases z⟩
  .exact⟨_,ho,λv z=>by cases z⟩
  .obtain⟨o,e,c,d⟩:=id h1;exact⟨o,e,λv z=>by lia⟩
  .obtain⟨o,e,c,d⟩:=id h2;exact⟨o,e,λv z=>by lia⟩
 keep:=λi h h' st k=>by obtain⟨hz,ht,⟨a',b',ho⟩,h1,h2⟩:=st;exact⟨k z () _ hz,k ti () _ ht,⟨a',b',k to () _ ho⟩,kG h1 (k i1 ()),kG h2 (k i2 ())⟩
 item:=by
  intro X hP hw hK hc i NP s Y H E I hf stt hg;subst hP hw hK;obtain⟨hz,ht,⟨a',b',ho⟩,h1,h2⟩:=stt;obtain⟨xs,ys,x,y,hq1,hq2,hx,hy⟩:=hg;obtain⟨its1,rv1,pl1,_⟩:=I.list hq1;obtain⟨its2,rv2,pl2,_⟩:=I.list hq2;obtain⟨u1,hu1,ru1⟩:=rv1.get hx;obtain⟨u2,hu2,ru2⟩:=rv2.get hy;refine wpAny_pyNext_zip_item D hz ht ho h1 h2 pl1.isList pl2.isList (by simpa using hu1) (by simpa using hu2) λh' z' to' i1' i2' pr sz kp=>?_;refine⟨_,rfl,wpAny_letOwnedTupleGo_zip z' λh3 z3 s3=>?_⟩
  replace s3:SameBut z h' h3:=s3
  have ltz:z<s.heap.objs.size:=lt_size hz;have kp2:∀b o,b∉[z,ti,to,i1,i2]->s.heap.get? b=some o->h3.get? b=some o:=λb o hb q=>by simp at hb;exact s3.extBut b o hb.1 (kp b o hb.1 hb.2.2.1 hb.2.2.2.1 hb.2.2.2.2 q)
  have tu2:h3.get? s.heap.objs.size=some {cls:=.type "tuple",data:=.seq #[u1,u2]}:=s3.extBut _ _ (Nat.ne_of_gt ltz) pr;refine⟨.ref s.heap.objs.size,upd H s.heap.objs.size (.tup [x,y]),(pM (h':=h3) (t':=s.toks) I hf kp2 (Nat.le_refl _) ⟨by rw[sizeLine_eq];simp,[u1,u2],.cons ru1 (.cons ru2 .nil),⟨_,tu2,rfl,_,rfl⟩⟩ :),rfl,⟨_,x,y,I.hok.fresh (Nat.le_refl _),rfl,rfl,λzs hz=>by rw[I.list_inj hz hq1];exact hx,λzs hz=>by rw[I.list_inj hz hq2];exact hy⟩,⟨z3,s3.extBut ti _ D.TIz (kp ti _ D.TIz D.TITO D.TIi1 D.TIi2 ht),⟨_,_,s3.extBut to _ D.TOz to'⟩,kG i1' λo q=>s3.extBut i1 o D.i1z q,kG i2' λo q=>s3.extBut i2 o D.i2z q⟩,λb hb=>?_⟩;have:b<s.heap.objs.size:=by
   simp at hb;rcases hb with rfl|rfl|rfl|rfl|rfl
   .exact ltz
   .exact lt_size ht
   .exact lt_size ho
   .obtain⟨o,e,_⟩:=id h1;exact lt_size e
   .obtain⟨o,e,_⟩:=id h2;exact lt_size e
  rw[aJ (Nat.ne_of_lt this)];exact(hf b hb).1
 done:=by
  intro X hP hw hK hc i NP s Y H E I hf stt hg;subst hP hw hK;obtain⟨hz,ht,⟨a',b',ho⟩,h1,h2⟩:=stt;obtain⟨xs,ys,hq1,hq2,hx⟩:=hg;obtain⟨its1,rv1,pl1,_⟩:=I.list hq1;obtain⟨its2,rv2,pl2,_⟩:=I.list hq2;have l1':=rv1.length;have l2':=rv2.length;refine wpAny_pyNext_zip_end (I.ok.hd hc) D hz ht ho h1 h2 pl1.isList pl2.isList (by simp;lia) λh' kp=>⟨rfl,yn (t':=s.toks) I hf λb o hb q=>?_⟩
  grind
 self:=λ_ _ _ _ _ st h=>wpAny_pyIter_zip st.1 h
theorem IY:bootBuiltins "zip"=some (.type "zip"):=by decide +kernel
theorem Gw{x1}(hg:Gl X "zip")(hm:X.mg "zip"=none)(ha:PA X [a,b] ta)(hs:starEach [a,b] X.env=[(false,eval a X.env),(false,eval b X.env)]:=by rfl)(hs2:starEach [b] X.env=[(false,eval b X.env)]:=by rfl) :
  PI X (.Tuple els x1 tpos) (.Call (.Name "zip" p) [a,b] [] pos) (λY H R=>ta Y H λvs H1=>∃l1 l2 xs ys,vs=[V.ref l1,V.ref l2]/\SqL X.K H1 l1 xs/\SqL X.K H1 l2 ys/\R (Itz X.K l1 l2) H1):=by
 intro NP s Y H R I h;refine PyProof.Rows.Call_ (iN I hg hm IY (PyProof.Rows.callWith_type1 (thn (ha pos NP s Y H _ I h) λus s1 zz=>?_) (by rw[hs,hs2]) (by rw[hs2];rfl)));obtain⟨vs,H1,I1,r1,q1⟩:=zz;obtain⟨l1,l2,xs,ys,e,hq1,hq2,q⟩:=q1;subst e;cases r1 with
 |cons r rr=>
  cases rr with
  |cons r' rr=>
   cases rr;cases r;cases r';obtain⟨its1,rv1,pl1,_⟩:=I1.list hq1;obtain⟨its2,rv2,pl2,_⟩:=I1.list hq2;have hl1:l1<s1.heap.objs.size:=by obtain⟨o,e,_⟩:=id pl1.isList;exact lt_size e
   have hl2:l2<s1.heap.objs.size:=by obtain⟨o,e,_⟩:=id pl2.isList;exact lt_size e
   have z1:(s1.heap.push (itO "list_iterator" l1)).objs.size=s1.heap.objs.size+1:=size_push ..
   have z2:((s1.heap.push (itO "list_iterator" l1)).push (itO "list_iterator" l2)).objs.size=s1.heap.objs.size+2:=by simp
   have z3:(((s1.heap.push (itO "list_iterator" l1)).push (itO "list_iterator" l2)).push (zTI s1.heap.objs.size)).objs.size=s1.heap.objs.size+3:=by simp
   have z4:((((s1.heap.push (itO "list_iterator" l1)).push (itO "list_iterator" l2)).push (zTI s1.heap.objs.size)).push zTO).objs.size=s1.heap.objs.size+4:=by simp only[size_push]
   have e4:=get?_push_size ((((s1.heap.push (itO "list_iterator" l1)).push (itO "list_iterator" l2)).push (zTI s1.heap.objs.size)).push zTO) (o:=zO s1.heap.objs.size) rfl;have e3:=get?_push_size (((s1.heap.push (itO "list_iterator" l1)).push (itO "list_iterator" l2)).push (zTI s1.heap.objs.size)) (o:=zTO) rfl;have e2:=get?_push_size ((s1.heap.push (itO "list_iterator" l1)).push (itO "list_iterator" l2)) (o:=zTI s1.heap.objs.size) rfl;have e1:=get?_push_size (s1.heap.push (itO "list_iterator" l1)) (o:=itO "list_iterator" l2) rfl;have e0:=get?_push_size s1.heap (o:=itO "list_iterator" l1) rfl;rw[z4]at e4;rw[z3]at e3;rw[z2]at e2;rw[z1]at e1;refine Eo pl1.isList pl2.isList (wpAny_pyIter_zip e4 ?_);refine⟨s1.heap.objs.size+4,[s1.heap.objs.size+4,s1.heap.objs.size+2,s1.heap.objs.size+3,s1.heap.objs.size,s1.heap.objs.size+1],_,_,H1,rfl,I1.kept (t':=s1.toks) λb o e=>get?_push_of_some _ (get?_push_of_some _ (get?_push_of_some _ (get?_push_of_some _ (get?_push_of_some _ e)))),yS l1 l2 _ _ _ _ _ (PyProof.Rows.zipApart_new hl1 hl2),⟨e4,get?_push_of_some _ (get?_push_of_some _ e2),⟨.none,.none,get?_push_of_some _ e3⟩,⟨_,get?_push_of_some _ (get?_push_of_some _ (get?_push_of_some _ (get?_push_of_some _ e0))),rfl,rfl⟩,⟨_,get?_push_of_some _ (get?_push_of_some _ (get?_push_of_some _ e1)),rfl,rfl⟩⟩,λb hb=>?_,q⟩;simp at hb;have hb':s1.heap.objs.size<=b:=by lia
   exact I1.fpOk hb' (I1.hok.fresh hb')
end
noncomputable def jI:N5->N5->N5
 |x::xs,y::ys=>.tup [x,y]::jI xs ys
 |_,_=>[]
def rA:∀(xs ys:N5) (i:Nat) {p:PV},(jI xs ys)[i]?=some p->∃x y,xs[i]?=some x/\ys[i]?=some y/\p=.tup [x,y]
 | [],_,i,_,h|_::_,[],i,_,h=>by simp[jI]at h
 |x::xs,y::ys,0,p,h=>by exact⟨x,y,rfl,rfl,(Option.some.inj h).symm⟩
 |x::xs,y::ys,i+1,p,h=>by exact rA xs ys i h
theorem rq:∀(xs ys:N5),(jI xs ys).length=min xs.length ys.length
 | [],_|_::_,[]=>by simp[jI]
 |_::xs,_::ys=>by simp only[jI,length_cons,rq xs ys];lia
def kD(ms:MA):MI:=λenv=>(ms env).bind λzs=>match zs with
 | [.lst _ xs,.lst _ ys]=>if gz xs&&gz ys then .ok (jI xs ys)else .stuck
 |_=>.stuck
section
variable{X:Cx}{T:Tb}{W:Nat->St->N4}{Z:Zn}{F F1 B L:NV}{H H1:Hp}{Y:St}{env:En}{fp:Nat->NZ}
def xH(hp:H2 p=none)(r:Rel T F B L H2 x v [])(r':Rel T F B L H2 y u []):Rel T F B L (upd H2 p (.tup [v,u])) (.tup [x,y]) (.ref p) []:=by refine⟨p,_,rfl,SqT.of bp,?_⟩;have r1:Rel T F B L (upd H2 p (.tup [v,u])) x v []:=r.ext (Ext.upd hp) λ_ h=>h;have r2:Rel T F B L (upd H2 p (.tup [v,u])) y u []:=r'.ext (Ext.upd hp) λ_ h=>h;refine⟨v,[u],[],[],rfl,r1,?_,rfl⟩;exact⟨u,[],[],[],rfl,r2,by exact⟨rfl,rfl⟩,by simp⟩
def wt{xs:N5}{vs:N3}{i:Nat}{x:PV}(h:RelL T F B L H xs vs [])(e:xs[i]?=some x):∃v,vs[i]?=some v/\Rel T F B L H x v []:=by obtain⟨v,f,ev,rv,sl⟩:=h.get e;have:f=[]:=List.eq_nil_of_sublist_nil sl;subst this;exact⟨v,ev,rv⟩
theorem qe{els:List Expr}{x1}(hK:X.K=T.K)(hg:Gl X "zip")(hm:X.mg "zip"=none)(ha:SA X T W [a,b] ms)(hs:starEach [a,b] X.env=[(false,eval a X.env),(false,eval b X.env)]:=by rfl)(hs2:starEach [b] X.env=[(false,eval b X.env)]:=by rfl) :
  SIc X T W (.Tuple els x1 tpos) (.Call (.Name "zip" p) [a,b] [] pos) (kD ms):=λNP s Y H R I h=>Gw hg hm ha hs hs2 NP s Y H R I (by
 obtain⟨Z,F,env,fp,S,q⟩:=h;unfold kD at q;refine tA.bq S λzs vs H1 F1 f1 e1 g1 r1 n1 d1 w1=>?_;rw[e1]at q;simp only[Res.Og]at q;split at q
 .rename_i f xs g ys
  split at q
  .rename_i hc
   rw[and_eq_true]at hc;obtain⟨v1,ws,f2,f3,rfl,ra,rb,_⟩:=r1;obtain⟨v2,rfl,rc⟩:=rb.one;obtain⟨a1,us,fp1,rfl,hl1,hr1,_⟩:=ra;obtain⟨a2,ws,fp2,rfl,hl2,hr2,_⟩:=rc;obtain⟨rfl,_⟩:=fq hc.1 hr1;obtain⟨rfl,_⟩:=fq hc.2 hr2;rw[hK];refine⟨a1,a2,us,ws,rfl,hl1.sq,hl2.sq,q _ H1 F1 g1 λH2 hx=>?_⟩;have up:∀{a:Addr}{us:N3},SqL T.K H1 a us->SqL T.K H2 a us:=λ{a us} hs=>by
    rcases hs with z|z
    .exact .inl (Rd.tr (λo q=>hx a o q) z)
    .exact .inr z
   have s1:=up hl1.sq;have s2:=up hl2.sq;have ln1:=hr1.length;have ln2:=hr2.length;refine⟨λi x ex=>?_,⟨us,ws,s1,s2,by rw[rq];lia⟩⟩;obtain⟨x1,y1,ex1,ey1,rfl⟩:=rA xs ys i ex;obtain⟨v,ev,rv⟩:=wt hr1 ex1;obtain⟨u,eu,ru⟩:=wt hr2 ey1;refine⟨⟨us,ws,v,u,s1,s2,ev,eu⟩,λw H3 hy=>?_⟩;obtain⟨p,v',u',hp,rfl,rfl,hall1,hall2⟩:=hy;have q1:=hall1 us s1;have q2:=hall2 ws s2;rw[ev]at q1;rw[eu]at q2;cases q1;cases q2;exact⟨Ext.upd hp,[],λb hb=>(nomatch hb),xH hp (rv.ext hx λ_ h=>h) (ru.ext hx λ_ h=>h)⟩
  .exact q.elim
 .exact q.elim)
end
section
variable{prog:Program}{w:World}{A:Around}{R:Result->Shared->Prop}{ia:Addr}{fps wrs:NZ}{len:Nat}{Pv:Nat->Value->Prop}{Sv:Nat->Heap->Prop}
abbrev CA(xs:N2)(c:Nat):Obj:={cls:=.type "list",dict:=none,data:=.seq xs c,slots:=#[]}
def mN:Bool->String|true=>"min"|_=>"max"
def mO:Bool->CmpOp|true=>.Lt|_=>.Gt
def lpB:Bool->Builtin|true=>Builtin.«min.loop»|_=>Builtin.«max.loop»
abbrev lpN(b:Bool):String:=toString (mN b)++ toString ".loop"
def lpE(b:Bool):entryFor table (lpN b)=some (lpB b)/\plainId (lpN b)=true:=by
 cases b
 .exact(by decide:"max.loop"=lpN false)▸⟨F.entry_max_loop,F.plain_max_loop⟩
 .exact(by decide:"min.loop"=lpN true)▸⟨F.entry_min_loop,F.plain_min_loop⟩
theorem HU(kw:List (Str×Value))(Wk:Walks prog w A.in1 ia fps wrs len Pv Sv)(lt:Nat->Nat->Bool)(hc:CmpOf prog w A.in1 (mO y) Pv lt)(best:Addr)(nb:best∉fps)(left j:Nat)(sh:Shared)(u:Value)(cap:Nat)(e1:len-(j+1)=left)(e2:j+1<=len)(st:Sv (j+1) sh.heap)(pu:Pv (argBest lt j) u)(ob:sh.heap.get? best=some (CA #[u,u] cap))
   (fin:∀v h' tk,Pv (argBest lt (len-1)) v->(∀b o,b∉wrs->b≠best->sh.heap.get? b=some o->h'.get? b=some o)->R (.ok (.ret v)) {sh with heap:=h',toks:=tk}):codeAny (model prog w) A (.builtin (lpN y) ⟨[.ref ia,.none,.ref best],kw⟩) R sh:=by
 have nw:best∉wrs:=λz=>nb (Wk.sub _ z);have hq:=plainId_quiet (lpE y).2
 induction left generalizing j sh u cap with
 |zero=>
  have ej:j+1=len:=by lia
  cases y
  all_goals
   walk_at "d";refine(show wpAny _ A.in1 (tryCatch (pyNext (.ref ia)) _ >>= _) _ _ sh from wpAny_bind (wpAny_tryCatch (Wk.done sh _ _ (ej▸st) λh' tk kp=>?_)));refine(show wpAny _ A.in1 (updateSeq best (λ_=>#[]) >>= _) _ _ _ from wpAny_bind (wpAny_updateSeq (kp best _ nw ob) rfl (wpAny_bind (wpAny_letGo (wpAny_pure ?_)))));exact fin u _ tk (by rw[<- ej];exact pu) λb o q1 q2 e=>(get?_update_other _ _ (Ne.symm q2)).trans (kp b o q1 e)
 |succ left ih=>
  have lj:j+1<len:=by lia
  cases y
  all_goals
   walk_at "d";refine(show wpAny _ A.in1 (tryCatch (pyNext (.ref ia)) _ >>= _) _ _ sh from wpAny_bind (wpAny_tryCatch (Wk.item (j+1) sh _ _ lj st λv h' tk pv st' kp=>?_)));have ob':=kp best _ nw ob;refine(show wpAny _ A.in1 (tryCatch (holding [v,v] (richCompare _ v u >>= _)) _ >>= _) _ _ _ from wpAny_bind (wpAny_tryCatch (wpAny_holding (wpAny_bind (hc (j+1) (argBest lt j) v u _ _ _ pv pu (wpAny_bind (wpAny_holding (wpAny_truthy_bool (wpAny_bind (wpAny_letGo (wpAny_pure ?_)))))))))));by_cases yes:lt (j+1) (argBest lt j)=true
   .rw[yes];simp only[if_true];refine wpAny_bind (wpAny_updateSeq ob' rfl (wpAny_bind (wpAny_letGo ?_)));refine wpAny_pure ⟨hq _,ih (j+1) _ v _ () lj (Wk.frame _ _ _ st' λb hb o e=>(get?_update_other _ _ (λz:best=b=>nb (z▸hb))).trans e) (by simp only[argBest,yes];exact pv) (Heap.get?_update_self _ ob' rfl) λv' h2 t2 pv' kp2=>?_⟩;exact fin v' h2 t2 pv' λb o q1 q2 e=>kp2 b o q1 q2 ((get?_update_other _ _ (Ne.symm q2)).trans (kp b o q1 e))
   .have no:lt (j+1) (argBest lt j)=false:=by simpa using yes
    rw[no];simp;refine wpAny_bind (wpAny_letGo ?_);refine wpAny_pure ⟨hq _,ih (j+1) _ u cap () lj st' (by simp only[argBest,no];exact pu) ob' λv' h2 t2 pv' kp2=>?_⟩;exact fin v' h2 t2 pv' λb o q1 q2 e=>kp2 b o q1 q2 (kp b o q1 e)
theorem DI(kw:List (Str×Value))(Wk:Walks prog w A.in1 ia fps wrs len Pv Sv)(lt:Nat->Nat->Bool)(hc:CmpOf prog w A.in1 (mO y) Pv lt)(best:Addr)(nb:best∉fps)(pos:0<len)(st:Sv 0 sh.heap)(ob:sh.heap.get? best=some (CA #[] cap))
  (fin:∀v h' tk,Pv (argBest lt (len-1)) v->(∀b o,b∉wrs->b≠best->sh.heap.get? b=some o->h'.get? b=some o)->R (.ok (.ret v)) {sh with heap:=h',toks:=tk}):codeAny (model prog w) A (.builtin (lpN y) ⟨[.ref ia,.none,.ref best],kw⟩) R sh:=by
 have nw:best∉wrs:=λz=>nb (Wk.sub _ z);have hq:=plainId_quiet (lpE y).2;cases y
 all_goals
  walk_at "d";refine(show wpAny _ A.in1 (tryCatch (pyNext (.ref ia)) _ >>= _) _ _ sh from wpAny_bind (wpAny_tryCatch (Wk.item 0 sh _ _ pos st λv h' tk pv st' kp=>?_)));have ob':=kp best _ nw ob;refine(show wpAny _ A.in1 (updateSeq best (λ_=>#[v,v]) >>= _) _ _ _ from wpAny_bind (wpAny_updateSeq ob' rfl ?_));refine wpAny_pure ⟨hq _,HU kw Wk lt hc best nb _ 0 _ v _ rfl pos (Wk.frame _ _ _ st' λb hb o e=>(get?_update_other _ _ (λz:best=b=>nb (z▸hb))).trans e) pv (Heap.get?_update_self _ ob' rfl) λv' h2 t2 pv' kp2=>?_⟩;exact fin v' h2 t2 pv' λb o q1 q2 e=>kp2 b o q1 q2 ((get?_update_other _ _ (Ne.symm q2)).trans (kp b o q1 e))
def HS(hc:CmpOf prog w A.in1 (mO y) Pv lt)(Wk:Walks prog w A.in1 ia fps wrs 0 Pv Sv)(best:Addr)(nb:best∉fps)(st:Sv 0 sh.heap)(ob:sh.heap.get? best=some (CA #[] cap))
  (fin:∀h' tk,(∀b o,b∉wrs->sh.heap.get? b=some o->h'.get? b=some o)->R (.ok (.ret d)) {sh with heap:=h',toks:=tk}):codeAny (model prog w) A (.builtin (lpN y) ⟨[.ref ia,.none,.ref best],[(dn,d)]⟩) R sh:=by
 cases y
 all_goals
  walk_at "d";refine(show wpAny _ A.in1 (tryCatch (pyNext (.ref ia)) _ >>= _) _ _ sh from wpAny_bind (wpAny_tryCatch (Wk.done sh _ _ st λh' tk kp=>?_)));exact wpAny_bind (wpAny_rule (wpAny_pure (fin h' tk kp)))
end
section
variable{prog:Program}{w:World}{A:Around}{E:NR}{s:Shared}
def uk(y d:Value):argsOk (mN b) ⟨[y],[(Str.ofString "default",d)]⟩:=by cases b<;>kernel_rfl
theorem ue
  (h:wpAny (model prog w) A.in1 (pyIter x) (λit s2=>∃ ia fps wrs len Pv Sv lt,it=.ref ia/\Walks prog w A.in1 ia fps wrs len Pv Sv/\Sv 0 s2.heap/\(∀ b ∈ fps,b < s2.heap.objs.size)/\CmpOf prog w A.in1 (mO y) Pv lt /\
   ∀v h' tk,(len=0/\v=d\/0<len/\Pv (argBest lt (len-1)) v)->(∀b o,b∉wrs->s2.heap.get? b=some o->h'.get? b=some o)->Q v {s2 with heap:=h',toks:=tk}) E s) :
  wpAny (model prog w) A (call (.builtin (mN y)) [x] [(Str.ofString "default",d)]) Q E s:=by
 have hq:=plainId_quiet (lpE y).2;cases y;refine kmk_tree F.kind_max F.plain_max F.entry_max (uk _ _) ?_
 rotate_left
 refine kmk_tree F.kind_min F.plain_min F.entry_min (uk _ _) ?_
 all_goals
  refine(show wpAny _ A.in1 (Builtin.Builtins.bindParams _ ["key","default"] 0 ⟨[],[(Str.ofString "default",d)]⟩ >>= _) _ _ s from wpAny_bind (wpAny_of_eq (a:=[none,some d]) (by kernel_rfl) (wpAny_bind (wpAny_pure (wpAny_bind (wpAny_mono h (λit s2 q=>?_) λ_ _ e=>e))))));obtain⟨ia,fps,wrs,len,Pv,Sv,lt,rfl,Wk,st,hf,hc,fin⟩:=q;refine wpAny_bind (wpAny_newObj_type ?_);have nb:s2.heap.objs.size∉fps:=λz=>Nat.lt_irrefl _ (hf _ z);have st':=Wk.frame _ _ (s2.heap.push (CA #[] 0)) st λb _ o e=>get?_push_of_some _ e;refine wpAny_pure ⟨hq _,?_⟩;by_cases pos:0<len
  .exact DI _ Wk lt hc s2.heap.objs.size nb pos st' (get?_push_size _ rfl) λv h' tk pv kp=>fin v h' tk (.inr ⟨pos,pv⟩) λb o q e=>kp b o q (Nat.ne_of_lt (lt_size e)) (get?_push_of_some _ e)
  .have z:len=0:=by lia
   subst z;exact HS hc Wk s2.heap.objs.size nb st' (get?_push_size _ rfl) λh' tk kp=>fin d h' tk (.inl ⟨rfl,rfl⟩) λb o q e=>kp b o q (get?_push_of_some _ e)
end
section
variable{X:Cx}{T:Tb}{W:Nat->St->N4}{Z:Zn}{F F1 B L:NV}{H H1:Hp}{Y:St}{env:En}{fp:Nat->NZ}{NP:NU}{s:Shared}
def Ko(vs:N3)(P:V->Prop):Prop:=match vs with
 | [v]=>P v
 |_=>False
def Dp(h:Ko vs P):∃v,vs=[v]/\P v:=by
 match vs,h with
 | [v],h=>exact⟨v,rfl,h⟩
def BW(y:Bool)(d:V)(ns:NW):V:=if ns.isEmpty then d else .int ((bif y then hV else jO) ns)
noncomputable def bLt(y:Bool)(ns:NW)(i j:Nat):Bool:=bif y then decide (ns.getD i 0<ns.getD j 0)else decide (ns.getD i 0>ns.getD j 0)
def zw(y:Bool)(d:V)(K:PySem.W.Frag):V->Hp->VK->Prop:=λv H Q=>∃p ns,v=.ref p/\(SqL K H p (ns.map V.int)\/ SqT K H p (ns.map V.int))/\Q (BW y d ns) H
def yG(hc:X.calm=true)(I:L2.Inv X NP Y H s)(hq:SqL X.K H p (ns.map V.int)\/ SqT X.K H p (ns.map V.int))(rd:bB d du)(q:Q (BW y d ns) H):wpAny (model X.prog X.w) X.A (call (.builtin (mN y)) [.ref p] [(Str.ofString "default",du)]) (EP X NP Y Q) X.xe s:=by
 have hh:=I.ok.hd hc;have cm:∀{its:NY},aU (ns.map V.int) its->CmpOf X.prog X.w X.A.in1 (mO y) (λi v=>its.toArray[i]?=some v) (bLt y ns):=λr=>match y with
  |true=>CmpOf.ints_lt (λi=>ns.getD i 0) (eF r)
  |false=>CmpOf.ints_gt (λi=>ns.getD i 0) (eF r)
 have key:∀{its:NY},aU (ns.map V.int) its->∀{v:Value}{h':Heap}{tk:Nat},(its.toArray.size=0/\v=du\/0<its.toArray.size/\its.toArray[argBest (bLt y ns) (its.toArray.size-1)]?=some v)->(∀b o,s.heap.get? b=some o->h'.get? b=some o)->EP X NP Y Q v {s with heap:=h',toks:=tk}:=by
  intro its r v h' tk hv k;walk_at "c"
  rw[hl]at hv;rcases hv with⟨h0,rfl⟩ |⟨hn,hv⟩
  .have e:ns=[]:=List.length_eq_zero_iff.mp h0;subst e;exact⟨d,H,ij I k,rd,q⟩
  .obtain⟨t,rfl⟩:=eF r _ _ hv;have e:BW y d ns=.int (ns.getD (argBest (bLt y ns) (ns.length-1)) 0):=by
    unfold BW;rw[if_neg λz=>by simp_all];cases y
    .exact congrArg V.int (uh hn).symm
    .exact congrArg V.int (ug hn).symm
   exact⟨.int _,H,ij I k,⟨t,rfl⟩,e▸q⟩
 rcases hq with hq|hq
 .obtain⟨its,r,pl,hz⟩:=I.list hq;obtain⟨o,ho,hcl,n,hd⟩:=pl.isList;have hlt:=lt_size ho;refine ue (wpAny_pyIter_list pl.isList ?_);refine⟨_,_,_,_,_,_,_,rfl,Walks.list (A:=X.A.in1) hh _ p (Nat.ne_of_lt hlt) its.toArray,⟨⟨_,get?_push_size _ rfl,rfl,rfl⟩,pl.isList.push _⟩,λb hb=>?_,cm r,λv h' tk hP hk=>key r hP (eC hk)⟩;rw[size_push];exact i3 hlt rfl b hb
 .obtain⟨its,r,pl,hz⟩:=I.tuple hq;have pt:s.heap.IsTuple p its.toArray:=pl;obtain⟨o,ho,hcl,n,hd⟩:=pl;have hlt:=lt_size ho;refine ue (wpAny_pyIter_tuple pt ?_);refine⟨_,_,_,_,_,_,_,rfl,Walks.tuple (A:=X.A.in1) hh _ p (Nat.ne_of_lt hlt) its.toArray,⟨⟨_,get?_push_size _ rfl,rfl,rfl⟩,pt.push _⟩,λb hb=>?_,cm r,λv h' tk hP hk=>key r hP (eC hk)⟩;rw[size_push];exact i3 hlt rfl b hb
noncomputable def mN8:Bool->Str|true=>"min"|_=>"max"
abbrev mdE(y:Bool)(e de:Expr)(p pos kp:Pos):Expr:=.Call (.Name (mN8 y) p) [e] [⟨some "default",de,kp⟩] pos
def Db(hc:X.calm=true)(hg:Gl X (mN8 y))(hm:X.mg (mN8 y)=none)(he:PE X e te)(hd:PE X de (tC d))(hk:keywordEach [⟨some "default",de,kp⟩] X.env=[(some (Str.ofString "default"),eval de X.env)]:=by rfl)(hs:starEach [e] X.env=[(false,eval e X.env)]:=by rfl):PE X (mdE y e de p pos kp) (tUn (zw y d X.K) te):=by intro NP s Y H Q I h;refine wpAny_Call_Name_kw (iN I hg hm (u:=.builtin (mN y)) (by cases y;exact BZ;exact vv) ?_ (by cases y<;>decide) (by cases y<;>decide));refine kW ?_ (by rfl) (by rfl) hs (by rw[hs];rfl);refine thn (dO he iJ (by rw[hs];rfl) pos NP s Y H (λvs H1=>Ko vs λv=>zw y d X.K v H1 Q) I h) λus s1 hz1=>?_;obtain⟨vs,H1,I1,r1,q1⟩:=hz1;obtain⟨v,rfl,a,ns,rfl,hq,q⟩:=Dp q1;obtain⟨u,rfl,rx⟩:=eO r1;cases rx;refine thn (v5 hd zH pos NP s1 Y H1 (λzs H2=>zs=[d]/\H2=H1) I1 ⟨rfl,rfl⟩) λws s2 hz1=>?_;obtain⟨zs,H2,I2,r2,ez,eh⟩:=hz1;subst ez;rw[eh]at I2;obtain⟨u2,rfl,rx2⟩:=eO r2;exact yG hc I2 hq rx2 q
def pE(x:PV):N6:=match aY x with
 | some xs=>(match bK xs with
  |some ns=>.ok (if ns.isEmpty then .non else .int (hV ns))
  |none=>.stuck)
 |none=>.stuck
def Az(hK:X.K=T.K):Ew T W pE (zw true .non X.K):=by
 intro B F L Y H Q F' H' x v fx g rx nf nd new q;unfold pE at q;cases e:aY x with
 |none=>rw[e]at q;exact q.elim
 |some xs=>
  rw[e]at q;dsimp only at q;cases e2:bK xs with
  |none=>rw[e2]at q;exact q.elim
  |some ns=>
   rw[e2]at q;obtain⟨a,us,fx',rfl,hs,hr,_⟩:=rx.seq e;have hu:=dq e2 hr;subst hu;refine⟨a,ns,rfl,by lia,q.scal g ?_⟩;unfold BW;split
   .unfold Rel;exact⟨rfl,rfl⟩
   .exact eK
def CC{cp kp:Pos}(hK:X.K=T.K)(hc:X.calm=true)(hg:Gl X "min")(hm:X.mg "min"=none)(he:SE X T W e m)(hs:starEach [e] X.env=[(false,eval e X.env)]:=by rfl):SE X T W (mdE true e (.Constant .none j cp) p pos kp) (mUn pE m):=
 PE.wk (Db hc hg hm he zN rfl hs) λ_ _ _ h=>tE.mir1 (Az hK) h
end
def zT(x y:PV):N6:=match x,y with
 | .tup xs,.tup ys=>(match bK xs,bK ys with
  |some ns,some ms=>.ok (.bl (HT.lexLt ns ms))
  |_,_=>.stuck)
 |_,_=>.stuck
section
variable{X:Cx}{T:Tb}{W:Nat->St->N4}{Z:Zn}{F F1 B L:NV}{H H1:Hp}{Y:St}{env:En}{fp:Nat->NZ}{D:Ends}
theorem DB(hK:X.K=T.K):jY T W zT (Ka X.K):=by
 intro B F L Y H Q F' H' x y v u fx fy gr rx ry _ _ _ q;unfold zT at q;split at q
 case h_2=>exact q.elim
 split at q
 case h_2=>exact q.elim
 rename_i ns ms e1 e2
 obtain⟨a,vs,rfl,hs,hr⟩:=rx;obtain⟨b,us,rfl,ht,hq⟩:=ry;have z1:=dq e1 hr;have z2:=dq e2 hq;subst z1 z2;exact⟨a,b,ns,ms,rfl,rfl,by lia,by lia,q.scal gr gW⟩
theorem FK(hK:X.K=T.K)(hu:X.A.units+64<cLine)(ha:SE X T W a ma)(hb:SE X T W b mb):ST X T W (.Compare a [.Lt] [b] pos) (aw (mOp zT ma mb)):=fX (GR ()) (DB hK) ha hb (eV _)
end
open AutoSeq1 (wpAny_loadPart')
def tY(P:Params):List DictEntry->List (Str×Int)->Prop
 | [],[]=>True
 |e::es,kv::kvs=>(∃t u,e=⟨PyData.keyHash P kv.1,.str kv.1 t,.int kv.2 u⟩)/\tY P es kvs
 |_,_=>False
structure my(w:World)(K:PySem.W.Frag)(d:Addr)(kvs:List (Str×Int)):Prop where
 ne:(d==sysModules)=false
 ex:∃(es:List DictEntry) (ep:Nat),K.lookup d=some {cls:=.type "dict",dict:=none,data:=.dict es.toArray ep,slots:=#[]}/\tY w.params es kvs
noncomputable def look(kvs:List (Str×Int))(k:Str):N1:=(kvs.find? λp=>p.1==k).map (·.2)
def LX(f:NS)(kvs:List (Str×Int)):Prop:=∀k,match look kvs k with
 |some i=>∃u,f k=some (.int i u)
 |none=>f k=none
def tW:∀{es:List DictEntry}{kvs:List (Str×Int)},tY P es kvs->LX (λk=>(es.find? λe=>Value.isStrOf k e.key).map (·.val)) kvs
 | [],[],_=>λk=>rfl
 | [],_::_,h|_::_,[],h=>h.elim
 |e::es,kv::kvs,h=>λk=>by
  obtain⟨⟨t,u,rfl⟩,h2⟩:=h;have ih:=tW h2 k;simp only[look,find?_cons,Value.isStrOf]at ih ⊢;by_cases q:(kv.1==k)=true
  .simp only[q,Option.map_some];exact⟨u,rfl⟩
  .simp only[q];exact ih
def tX:∀{es:List DictEntry}{kvs:List (Str×Int)},tY P es kvs->∀e∈es,∃k t,e.key=.str k t/\e.hash=PyData.keyHash P k
 | [],_,_=>λe he=>nomatch he
 |_::_,[],h=>h.elim
 |e::es,kv::kvs,h=>λe' he=>by
  obtain⟨⟨t,u,rfl⟩,h2⟩:=h;rcases mem_cons.mp he with rfl|he
  .exact⟨kv.1,t,rfl,rfl⟩
  .exact tX h2 e' he
def my.map(hD:my w K d kvs)(hI:K.In h):∃f,h.MapOf (strKind prog w) d f/\LX f kvs:=by
 obtain⟨es,ep,hl,he⟩:=hD.ex;refine⟨_,⟨_,es.toArray,ep,hI _ _ hl,⟨rfl,rfl,rfl⟩,rfl,λe hm=>?_,λk=>rfl⟩,?_⟩
 .obtain⟨k,t,h1,h2⟩:=tX he e (by simpa using hm);refine⟨k,?_,h2⟩;rw[h1];show(k==k)=true;simp
 .intro k;have:=tW he k;simpa[findBy,strKind]using this
section
variable{X:Cx}{T:Tb}{W:Nat->St->N4}{Z:Zn}{F F1 B L:NV}{H H1:Hp}{Y:St}{env:En}{fp:Nat->NZ}{d:Addr}{kvs:List (Str×Int)}
def EG(d:Addr)(kvs:List (Str×Int)):R2:=λx y H Q=>∃k i,x=.ref d/\y=.str k/\look kvs k=some i/\Q (.int i) H
def DO(hD:my X.w X.K d kvs):IxR X (EG d kvs):=by
 intro value slice NP s Y H x y v u Q I rx ry h hs;obtain⟨k,i,rfl,rfl,e,q⟩:=h;cases rx;obtain⟨t,rfl⟩:=ry;obtain⟨f,hm,hf⟩:=hD.map (prog:=X.prog) I.kIn;have:=hf k;rw[e]at this;obtain⟨u,hu⟩:=this;exact PyProof.Rows.subscriptTail_builtinR (x:=.int i u) hm.typeIs PySem.F.slot_dict_getitem.lookup
  (wpAny_getItem_of (knd:=strKind X.prog X.w) (k:=k) (Q:=λr s'=>r=.int i u/\EP X NP Y Q r s') (by show(k==k)=true;simp) hm hu ⟨rfl,.int i,H,I.tok _,⟨u,rfl⟩,q⟩) hs
def pF(kvs:List (Str×Int)):PV->N6
 | .str k=>(match look kvs k with
  |some i=>.ok (.int i)
  |none=>.stuck)
 |_=>.stuck
def AC:Ew T W (pF kvs) (λx H Q=>EG d kvs (.ref d) x H Q):=by
 intro B F L Y H Q F' H' x v fx g rx nf nd new q;cases x with
 |str k=>
  unfold Rel at rx;unfold pF at q;dsimp only at q;cases e:look kvs k with
  |none=>rw[e]at q;exact q.elim
  |some i=>rw[e]at q;exact⟨k,i,rfl,rx.1,e,q.scal g eK⟩
 |_=>exact q.elim
def CH(hg:Gl X x)(hm:X.mg x=some (.ref d))(hD:my X.w X.K d kvs)(he:SE X T W e m)(hs:kY e)(hd:Ndq x:=by decide):SE X T W (.Subscript (.Name x px) e pos) (mUn (pF kvs) m):=
 PE.wk (EI (pos:=pos) (DO hD) (ku (v:=.ref d) (pos:=px) hg hm rfl hd) he hs) λ_ _ _ h=>tE.mir1 AC h
end
noncomputable def u_(i j:Nat):MS:=λenv=>match env[i]?,env[j]? with
 |some (some v),some (some w)=>if i=j then .stuck else .ret (.tup [v,w])
 |_,_=>.stuck
section
variable{X:Cx}{T:Tb}{W:Nat->St->N4}{Z:Zn}{F F1 B L:NV}{H H1:Hp}{Y:St}{env:En}{fp:Nat->NZ}{D:Ends}
def y9{x1}(hN:X.N[i]?=some x)(hv:Vis X.env.scope x)(hN2:X.N[j]?=some y)(hv2:Vis X.env.scope y)(hd:Ndq x:=by decide)(hcd:Ncq x:=by decide)(hd2:Ndq y:=by decide)(hcd2:Ncq y:=by decide) :
  SS X T W (.Return (some (.Tuple [.Name x px,.Name y py] x1 tpos)) pos) (u_ i j):=
 PS.wk (uL (zM (dO (eU hN hv hd hcd) (dO (eU hN2 hv2 hd2 hcd2) iJ)))) λD Y H hz1=>by
  walk_at "b";unfold u_ at q;split at q
  case h_2=>exact q.elim
  rename_i pv pw ei ej
  split at q
  case isTrue=>exact q.elim
  rename_i hij
  obtain⟨v,e1,r1⟩:=S.rel i pv ei;obtain⟨w,e2,r2⟩:=S.rel j pw ej;refine⟨v,e1,w,e2,small (),λp hp=>?_⟩;have g:Gr F H F (upd H p (.tup [v,w])):=Gr.same S.hp.ft (Ext.upd hp);have S2:=S.grow g;obtain⟨v',e1',r1'⟩:=S2.rel i pv ei;obtain⟨w',e2',r2'⟩:=S2.rel j pw ej;rw[e1]at e1';cases e1';rw[e2]at e2';cases e2';refine q F (upd H p (.tup [v,w])) (.ref p) (fp i++fp j) S2.hp ?_ (nodup_append.mpr ⟨S.nd i,S.nd j,λa ha b hb z=>?_⟩) (λa ha=>?_) (λa ha=>?_)
  .unfold Rel;refine⟨p,_,rfl,SqT.of bp,?_⟩;refine⟨v,[w],fp i,fp j,rfl,r1',?_,rfl⟩;exact⟨w,[],fp j,[],rfl,r2',by exact⟨rfl,rfl⟩,by simp⟩
  .subst z;exact S.dj i j hij a ha hb
  .rcases mem_append.mp ha with h|h
   .exact(S2.dis i a h).1
   .exact(S2.dis j a h).1
  .rcases mem_append.mp ha with h|h
   .exact S.new i a h
   .exact S.new j a h
end
section
variable{P:Program}{w:World}{mg:NS}{base:Heap}{T:Tb}
def Iq(F:Fun T.K x qual st f fd)(S:fT N ps (aO st))
  (body:∀ (cdv:Value) (A:Around) (outer:List Env) (s:Shared) (H:Hp) (E:XK),Ctx (gA (CXP P w) P w T.K mg base N qual (aO st) f cdv A outer s H E) T (WD T E) k ->
   SSs (gA (CXP P w) P w T.K mg base N qual (aO st) f cdv A outer s H E) T (WD T E) (cA st) m):dA P w T.K mg base (CXP P w) (k+1) f fd ps (spM T ps.length (bf N.length m)):=
 Lc F S λcdv A outer s H E hr=>body cdv A outer s H E (wQ hr)
def DX(F:Fun T.K x qual st f fd)(S:fT N ps (aO st))
  (body:∀ (cdv:Value) (A:Around) (outer:List Env) (s:Shared) (H:Hp) (E:XK),Ctx (gA (CXP P w) P w T.K mg base N qual (aO st) f cdv A outer s H E) T (WD T E) k ->
   SSs (gA (CXP P w) P w T.K mg base N qual (aO st) f cdv A outer s H E) T (WD T E) (cA st) m):dA P w T.K mg base (CXP P w) (k+1) f fd ps (spI T ps.length (jz N.length m)):=
 Iu F S λcdv A outer s H E hr=>body cdv A outer s H E (wQ hr)
end
section
variable{X:Cx}{T:Tb}{W:Nat->St->N4}{Z:Zn}{F F1 B L:NV}{H H1:Hp}{Y:St}{env:En}{fp:Nat->NZ}
def nH:Rel T F B L H (.str x) (.str x) []:=by exact⟨rfl,rfl⟩
noncomputable def pD(C:Str->Str->Bool)(g:Str->Str->PV):PV->PV->N6
 |.str i,.str j=>if C i j then .ok (g i j)else .stuck
 |_,_=>.stuck
def AD{C:Str->Str->Prop}{C':Str->Str->Bool}{g:Str->Str->V}{g':Str->Str->PV}(hc:∀i j,C' i j=true->C i j)(hg:∀i j F B L H,Rel T F B L H (g' i j) (g i j) []):jY T W (pD C' g') (λx y H Q=>∃i j,x=.str i/\y=.str j/\C i j/\Q (g i j) H):=by
  intro B F L Y H Q F' H' x y v u fx fy gr rx ry _ _ _ q;cases x<;>cases y<;>first
    |exact q.elim
    | (unfold Rel at rx ry
       simp only[pD]at q;split at q
       . rename_i hh
         exact⟨_,_,rx.1,ry.1,hc _ _ hh,q.scal gr (hg _ _ _ _ _ _)⟩
       . exact q.elim)
def inS(i j:Str):Bool:=!(Builtin.Str.occurrences j i 0 j.length 1).isEmpty
def GV:OpR X (compareOp .In) (λx y H Q=>∃i j,x=.str i/\y=.str j/\True/\Q (.bl (inS i j)) H):=by intro NP s Y H x y v u Q I rx ry h;obtain⟨i,j,e1,e2,_,q⟩:=h;exact xW NP s Y H x y v u Q I rx ry ⟨i,j,e1,e2,q⟩
def Dh:PV->PV->N6:=pD (λ_ _=>true) λi j=>.bl (inS i j)
def Dm:OpR X (binaryOp .Add) (λx y H Q=>∃i j,x=.str i/\y=.str j/\i.length+j.length<=sizeLine/\Q (.str (i++j)) H):=uS
def dH:PV->PV->N6:=pD (λi j=>decide (i.length+j.length<=10000)) λi j=>.str (i++j)
theorem fN(ha:SE X T W a ma)(hb:SE X T W b mb):SE X T W (.BinOp a .Add b pos) (mOp dH ma mb):=
 ke Dm (AD (λi j h=>by rw[sizeLine_eq];lia) λ_ _ _ _ _ _=>nH) ha hb
def F7(ha:SE X T W a ma)(hb:SE X T W b mb)(hk:behindInMarks .In b=false:=by with_unfolding_all rfl):SE X T W (.Compare a [.In] [b] pos) (mOp Dh ma mb):=k9 GV (AD (λ_ _ _=>True.intro) λ_ _ _ _ _ _=>gW) ha hb hk
noncomputable def gD(C:Str->Bool)(g:Str->PV):PV->N6
 |.str i=>if C i then .ok (g i)else .stuck
 |_=>.stuck
def AE{C:Str->Prop}{C':Str->Bool}{g:Str->V}{g':Str->PV}(hc:∀i,C' i=true->C i)(hg:∀i F B L H,Rel T F B L H (g' i) (g i) []):Mir T W (p1 (gD C' g')) (λxs H Q=>∃i,xs=[.str i]/\C i/\Q (g i) H):=by
  intro B F L Y H Q F' H' xs vs fx gr r _ _ _ q;cases xs with
  |nil=>exact q.elim
  |cons x xs=>
    cases xs with
    |cons _ _=>exact q.elim
    |nil=>
      obtain⟨v,rfl,rv⟩:=r.one;cases x<;>first
        |exact q.elim
        | (unfold Rel at rv
           simp only[p1,gD]at q;split at q
           . rename_i hh
             obtain⟨rfl,_⟩:=rv;exact⟨_,rfl,hc _ hh,q.scal gr (hg _ _ _ _ _)⟩
           . exact q.elim)
theorem vS(hg:Gl X "len")(hm:X.mg "len"=none)(ha:SE X T W e m)(he:starEach [e] X.env=[(false,eval e X.env)]:=by rfl):SE X T W (.Call (.Name "len" p) [e] [] pos) (ao (p1 (gD (λz=>decide (z.length<=10000)) λz=>.int z.length)) (ae m am)):=
 fj q8 (AE (λz h=>by rw[sizeLine_eq];lia) λ_ _ _ _ _=>eK) hg hm PySem.boot_len (aa ha ah he) (he:=he)
def yI:dN X (.type "int") (λxs H Q=>∃z,xs=[.str z]/\(z.length<=640/\(PySem.intText? z).isSome)/\Q (.int ((PySem.intText? z).getD 0)) H):=by intro NP s Y H xs us Q I r h;obtain⟨z,rfl,⟨hl,hi⟩,q⟩:=h;obtain⟨u,rfl,ru⟩:=aU.one r;obtain⟨t,rfl⟩:=ru;obtain⟨n,hn⟩:=isSome_iff_exists.mp hi;rw[hn]at q;exact PySem.W.KIN.call_text hn hl ⟨.int n,H,I.tok _,⟨_,rfl⟩,q⟩
theorem Ep:bootBuiltins "int"=some (.type "int"):=by decide +kernel
theorem wV:bootBuiltins "str"=some (.type "str"):=by decide +kernel
def qh(hg:Gl X "int")(hm:X.mg "int"=none)(ha:SE X T W e m)(he:starEach [e] X.env=[(false,eval e X.env)]:=by rfl):SE X T W (.Call (.Name "int" p) [e] [] pos) (ao (p1 (gD (λz=>decide (z.length<=640)&&(PySem.intText? z).isSome) λz=>.int ((PySem.intText? z).getD 0))) (ae m am)):=
 gT yI (AE (λz h=>by simpa using h) λ_ _ _ _ _=>eK) hg hm Ep (aa ha ah he) (he:=he)
noncomputable def da:PV->N6
 |.int i=>if i.natAbs<2 ^ 1000 then .ok (.str (PySem.Str.ofString (toString i)))else .stuck
 |_=>.stuck
def sP:Mir T W (p1 da) (λxs H Q=>∃i,xs=[.int i]/\i.natAbs.log2<1920/\Q (.str (toString i)) H):=by
  intro B F L Y H Q F' H' xs vs fx gr r _ _ _ q;cases xs with
  |nil=>exact q.elim
  |cons x xs=>
    cases xs with
    |cons _ _=>exact q.elim
    |nil=>
      obtain⟨v,rfl,rv⟩:=r.one;cases x<;>first
        |exact q.elim
        | (unfold Rel at rv
           simp only[p1,da]at q;split at q
           . rename_i i hh
             obtain⟨rfl,_⟩:=rv;refine⟨i,rfl,?_,q.scal gr nH⟩;by_cases h0:i.natAbs=0
             . rw[h0];decide
             . exact Nat.lt_trans ((Nat.log2_lt h0).mpr hh) ()
           . exact q.elim)
def fe(hg:Gl X "str")(hm:X.mg "str"=none)(ha:SE X T W e m)(he:starEach [e] X.env=[(false,eval e X.env)]:=by rfl):SE X T W (.Call (.Name "str" p) [e] [] pos) (ao (p1 da) (ae m am)):=
 gT kU sP hg hm wV (aa ha ah he) (he:=he)
def CW:V->N3->Hp->VK->Prop:=λx vs H Q=>∃z y,x=.str z/\vs=[.str y]/\Q (.bl (PySem.Txt.startswith z y)) H
def xZ:MtM X "str.startswith" CW:=by intro NP s Y H x vs v us Q I rx rv h;obtain⟨z,y,rfl,rfl,q⟩:=h;obtain⟨t,rfl⟩:=rx;obtain⟨u,rfl,ru⟩:=aU.one rv;obtain⟨t2,rfl⟩:=ru;exact PySem.SC.startswith ⟨.bl _,H,I,rfl,q⟩
def gE(mo mk:ME):ME:=λenv=>(mo env).bind λx=>match x,mk env with
 |.str z,.ok (.str y)=>.ok (.bl (PySem.Txt.startswith z y))
 |_,_=>.stuck
def pp(ho:SE X T W o mo)(hk:SE X T W k mk)(hbase:attributeBase o "startswith" X.env (eval o X.env)=eval o X.env:=by rfl)
  (hst:starEach [k] X.env=[(false,eval k X.env)]:=by rfl)
  (hfew:Fwe X.env cpos [k]:=by rfl)
  (hline:(apos.endLine==cpos.line)=true:=by rfl):SE X T W (.Call (.Attribute o "startswith" apos) [k] [] cpos) (gE mo mk):=
 PE.wk (sE PySem.F.plainAttrs_str PySem.F.slot_str_startswith PySem.F.type_str_startswith xZ ho (aa hk ah hst) hbase hfew hline hst) λY H Q hz1=>by
  walk_at "b";unfold gE at q;refine tE.bq S λpv v H1 F1 f1 e1 g1 r1 n1 d1 w1=>?_;rw[e1]at q;simp at q;have S1:=S.grow g1;split at q
  .rename_i z y em
   obtain⟨rfl,_⟩:=r1;refine⟨rfl,Z,F1,env,fp,S1,?_⟩;unfold ae am;rw[em];intro vs H2 F2 f2 g2 r2 n2 d2 w2;obtain⟨u,rfl,ru⟩:=r2.one;obtain⟨rfl,_⟩:=ru;exact⟨_,_,rfl,rfl,GE.scal q (g1.trans g2) gW⟩
  .exact q.elim
def Its(x:Str):It:=⟨λi _=>i<x.cps.size,λi H v H'=>H'=H/\∃c,x.cps[i]?=some c/\v=.str ⟨#[c]⟩,λi _=>x.cps.size<=i⟩
theorem yT(x:Str)(t:Tok)(it:Addr):vx P w K tg (Its x) [it] it (λi h=>h.IsStrIter it "str_ascii_iterator" x t i) where
 mem:=by simp
 obj:=λi h st b hb=>by
  have e:b=it:=by simpa using hb
  subst e;obtain⟨o,e,c,d⟩:=st;exact⟨o,e,λv z=>by lia⟩
 keep:=λi h h' st k=>by obtain⟨o,e,r⟩:=st;exact⟨o,k it () o e,r⟩
 item:=by intro X hP hw hK hc i NP s Y H E I hf st hg;obtain⟨f0,f1,f2,f3,f4,f5⟩:=hf it ();have hg':i<x.cps.size:=hg;refine wpAny_pyNext_ascii_item st (c:=x.cps[i]) () λh' st' sb=>?_;have I1:Inv X NP Y H {s with heap:=h',toks:=s.toks+1}:=I.turned (t':=s.toks+1) (λb o hb e=>sb.extBut b o hb e) f0 f1 f3 f4 f5;obtain⟨o,e,c,d⟩:=id st';exact⟨_,rfl,wr e c d () ⟨.str ⟨#[x.cps[i]]⟩,H,I1,⟨_,rfl⟩,⟨rfl,_,by simp,rfl⟩,st',λb hb=>(hf b hb).1⟩⟩
 done:=by intro X hP hw hK hc i NP s Y H E I hf st hg;obtain⟨f0,f1,f2,f3,f4,f5⟩:=hf it ();have hg':x.cps.size<=i:=hg;exact wpAny_pyNext_ascii_end (I.ok.hd hc) st (by simp[hg']) λh' eb=>⟨rfl,I.turned (t':=s.toks) (λb o hb e=>eb b o hb e) f0 f1 f3 f4 f5⟩
 self:=λ_ _ _ _ _ st h=>wpAny_pyIter_striter_ascii st h
noncomputable def asc(x:Str):Bool:=x.cps.all (· < 128)
def Gx(hl:PE X l tl):PI X tg l (λY H R=>tl Y H λx H1=>∃z,x=.str z/\asc z=true/\R (Its z) H1):=by
 intro NP s Y H R I h;refine thn (hl NP s Y H _ I h) λv s1 hz1=>?_;obtain⟨x,H1,I1,r1,q1⟩:=hz1;obtain⟨z,rfl,ha,q⟩:=q1;obtain⟨t,rfl⟩:=r1;refine wpAny_pyIter_ascii ha ?_;refine⟨s1.heap.objs.size,[s1.heap.objs.size],_,_,H1,rfl,I1.kept (t':=s1.toks) λb o e=>get?_push_of_some _ e,yT z t _,⟨_,get?_push_size _ rfl,rfl,rfl⟩,λb hb=>?_,q⟩;have e:b=s1.heap.objs.size:=by simpa using hb
 subst e;exact I1.fpOk (Nat.le_refl _) (I1.hok.fresh (Nat.le_refl _))
def rT(z:Str):N5:=z.cps.toList.map λc=>.str ⟨#[c]⟩
def sV(m:ME):MI:=λenv=>(m env).bind λx=>match x with
 |.str z=>if asc z then .ok (rT z)else .stuck
 |_=>.stuck
def Cv(he:SE X T W e m):SIc X T W tg e (sV m):=λNP s Y H R I h=>Gx he NP s Y H R I (by
 obtain⟨Z,F,env,fp,S,q⟩:=h;unfold sV at q;walk_at "a";simp at q;cases x with
 |str z=>
  dsimp only at q;split at q
  .rename_i ha
   refine⟨z,r1.1,ha,q _ H1 F1 g1 (ItC.of0 λH2 hx=>⟨λi x ex=>?_,?_⟩)⟩
   .unfold rT at ex;rw[getElem?_map]at ex;obtain⟨c,hc,rfl⟩:=map_eq_some_iff.mp ex;have hc':z.cps[i]?=some c:=by simpa using hc
    refine⟨?_,λv H3 hy=>⟨hy.1,[],?_⟩⟩
    .have:=(Array.getElem?_eq_some_iff.mp hc').1;exact this
    .obtain⟨_,d,hd,rfl⟩:=hy;rw[hc']at hd;cases hd;exact nH
   .show z.cps.size <=(rT z).length;simp[rT]
  .exact q.elim
 |_=>exact q.elim)
def MM:V->N1->N1->Hp->VK->Prop:=λx lo hi H Q=>∃z,x=.str z/\z.length<=sizeLine/\Q (.str (PySem.Txt.slice z lo hi)) H
def FQ:SlR X MM:=by
 intro NP s Y H x v vl vu lo hi sl Q I rx hs pl pu h;obtain⟨z,rfl,hz,q⟩:=h;obtain⟨t,rfl⟩:=rx;refine⟨"str",_,PySem.F.slot_str_getitem.lookup,typeIs_str _ _ _,?_⟩;cases pl with
 |none=>
  cases pu with
  |none=>exact wpAny_getItem_str_slice (l:=none) (u:=none) (st:=none) hs rfl (post_val_or_str ⟨Nat.le_trans (Txt.slice_le z _ _) hz,λt' k=>⟨.str _,H,I.tok _,⟨_,rfl⟩,q⟩⟩)
  |int j uj=>exact wpAny_getItem_str_slice (l:=none) (u:=some (j,uj)) (st:=none) hs rfl (post_val_or_str ⟨Nat.le_trans (Txt.slice_le z _ _) hz,λt' k=>⟨.str _,H,I.tok _,⟨_,rfl⟩,q⟩⟩)
 |int i ui=>
  cases pu with
  |none=>exact wpAny_getItem_str_slice (l:=some (i,ui)) (u:=none) (st:=none) hs rfl (post_val_or_str ⟨Nat.le_trans (Txt.slice_le z _ _) hz,λt' k=>⟨.str _,H,I.tok _,⟨_,rfl⟩,q⟩⟩)
  |int j uj=>exact wpAny_getItem_str_slice (l:=some (i,ui)) (u:=some (j,uj)) (st:=none) hs rfl (post_val_or_str ⟨Nat.le_trans (Txt.slice_le z _ _) hz,λt' k=>⟨.str _,H,I.tok _,⟨_,rfl⟩,q⟩⟩)
def kE(o:ME)(lo hi:MO):ME:=λenv=>(o env).bind λx=>(lo env).bind λl=>(hi env).bind λh=>match x with
 |.str z=>if z.length<=10000 then .ok (.str (PySem.Txt.slice z l h))else .stuck
 |_=>.stuck
theorem xt(he:SE X T W e m)(hl:SO X T W lo ml)(hu:SO X T W hi mh):SE X T W (.Subscript e (.Slice lo hi none p2) pos) (kE m ml mh):=
 PE.wk (sD FQ he hl hu) λY H Q hz1=>by
  walk_at "b";unfold kE at q;walk_at "a";simp only[Res.Og]at q;refine⟨Z,F1,env,fp,S.grow g1,?_⟩;cases e2:ml env with
  |exc c=>rw[e2]at q;exact λH' x=>q H' (g1.ext.trans x)
  |stuck=>rw[e2]at q;exact q
  |ok l=>
   rw[e2]at q;intro H2 F2 g2;refine⟨Z,F2,env,fp,(S.grow g1).grow g2,?_⟩;cases e3:mh env with
   |exc c=>rw[e3]at q;exact λH' x=>q H' ((g1.ext.trans g2.ext).trans x)
   |stuck=>rw[e3]at q;exact q
   |ok h=>
    rw[e3]at q;intro H3 F3 g3;cases x with
    |str z=>
     dsimp only at q;split at q
     .rename_i hz
      exact⟨z,r1.1,by rw[sizeLine_eq];lia,GE.scal q ((g1.trans g2).trans g3) nH⟩
     .exact q.elim
    |_=>exact q.elim
def zi(hg:Gl X x)(hm:∃t,X.mg x=some (.str y t))(hd:Ndq x:=by decide):SE X T W (.Name x pos) (mC (.str y)):=by obtain⟨t,h⟩:=hm;exact jJ (ku (v:=.str y) hg h ⟨t,rfl⟩ hd) λ_ _ _ _=>nH
end
section
variable{prog:Program}{w:World}{A:Around}{E:NR}{s:Shared}
abbrev liO(xs:NY)(c:Nat):Obj:={cls:=.type "list",data:=.seq xs.toArray c}
def nP(x:Str)(w:Nat):∀(cuts:List Nat) (a:Nat),(StrLaws.partsFrom x w a cuts).length=cuts.length+1
 | [],_=>rfl
 |c::r,a=>by show(_::StrLaws.partsFrom x w (c+w) r).length=_;rw[length_cons,nP x w r];rfl
theorem sG(x y:Str):(Builtin.Str.partsBetween x (Builtin.Str.occurrences x y 0 x.length (x.length+1)) y.length).length<=x.length+2:=by
 rw[StrLaws.partsBetween_eq,nP];have:=StrLaws.occ_length_le x y 0 x.length (x.length+1)
 lia
def zb(x y:Str):(PySem.Txt.split x y).length<=x.length+2:=by
 unfold PySem.Txt.split;split
 .simp
 .split
  .simp
  .exact sG x y
theorem za(hy:(y.length==0)=false)(hz:x.length<=1000000)
  (hq:∀l c k,l.map (·.1)=PySem.Txt.split x y->Q (.ref s.heap.objs.size) {s with heap:=s.heap.push (liO (strValues l) c),toks:=k}) :
  wpAny (model prog w) A (call (.builtin "str.split") [.str x t,.str y u]) Q E s:=by
 have hz1:x.length<=sizeLine:=by rw[sizeLine_eq];lia
 have hn:(Builtin.Str.partsBetween x (Builtin.Str.occurrences x y 0 x.length (x.length+1)) y.length).length<=sizeLine:=by
  have:=sG x y;rw[sizeLine_eq]
  lia
 have one:∀(e:[x]=PySem.Txt.split x y),Q (.ref s.heap.objs.size) {s with heap:=s.heap.push (liO (strValues [(x,t)]) 0),toks:=s.toks}:=λe=>hq [(x,t)] 0 s.toks e;by_cases h1:(decide (x.length<y.length)||decide (Builtin.Str.strKind x<Builtin.Str.strKind y))=true
 .exact call_meets F.slot_str_split (typeIs_str _ _ _) F.entry_str_split (F.args_str_split_2 _ _) (meets_str_split_cannot_occur x y t u h1) (one (if_pos h1).symm)
 .by_cases h2:(Builtin.Str.occurrences x y 0 x.length (x.length+1)).isEmpty=true
  .exact call_meets F.slot_str_split (typeIs_str _ _ _) F.entry_str_split (F.args_str_split_2 _ _) (meets_str_split_not_found x y t u (eq_false_iff.mpr h1) hy h2) (one ((if_neg h1).trans (if_pos h2)).symm)
  .refine call_meets F.slot_str_split (typeIs_str _ _ _) F.entry_str_split (F.args_str_split_2 _ _) (meets_str_split_sep x y t u (eq_false_iff.mpr h1) hy (eq_false_iff.mpr h2) hz1 hn) ?_;rw[strsFrom_eq];exact hq (numbered s.toks _) 0 _ ((numbered_texts _ _).trans ((if_neg h1).trans (if_neg h2)).symm)
def qa:∀(l:List (Str×Tok)),aU ((l.map (·.1)).map V.str) (strValues l)
 | []=>.nil
 |p::l=>.cons ⟨p.2,rfl⟩ (qa l)
def vG:∀{ys:N0}{its:NY},aU (ys.map V.str) its->∃l:List (Str×Tok),its=strValues l/\l.map (·.1)=ys
 | [],_,.nil=>⟨[],rfl,rfl⟩
 |y::ys,_,.cons ⟨t,h⟩ r=>by obtain⟨l,h1,h2⟩:=vG r;exact⟨(y,t)::l,by rw[h,h1];rfl,by rw[map_cons,h2]⟩
end
section
variable{X:Cx}{T:Tb}{W:Nat->St->N4}{Z:Zn}{F F1 B L:NV}{H H1:Hp}{Y:St}{env:En}{fp:Nat->NZ}
def Gf:V->N3->Hp->VK->Prop:=λx vs H Q=>∃z y,x=.str z/\vs=[.str y]/\((y.length==0)=false/\z.length<=1000000)/\∀l,H l=none->Q (.ref l) (upd H l (.lst ((PySem.Txt.split z y).map V.str)))
theorem Am:MtM X "str.split" Gf:=by
 intro NP s Y H x vs v us Q I rx rv h;obtain⟨z,y,rfl,rfl,⟨hy,hz⟩,q⟩:=h;obtain⟨t,rfl⟩:=rx;obtain⟨u,rfl,ru⟩:=aU.one rv;obtain⟨t2,rfl⟩:=ru;refine za hy hz λl c k hl=>?_;have hv:=qa l;rw[hl]at hv;have hs:((PySem.Txt.split z y).map V.str).length<=sizeLine:=by
  have:=zb z y;rw[length_map,sizeLine_eq]
  lia
 exact⟨.ref s.heap.objs.size,_,I.laid (t':=k) (λb o e=>get?_push_of_some _ e) (Nat.le_refl _) (show b_ X.prog X.w _ _ _ (.lst ((PySem.Txt.split z y).map V.str))from⟨hs,strValues l,c,hv,get?_push_size _ rfl⟩),rfl,q _ (I.hok.fresh (Nat.le_refl _))⟩
def Kb(K:PySem.W.Frag):V->N3->Hp->VK->Prop:=λx vs H Q=>∃z p ys,x=.str z/\vs=[.ref p]/\SqL K H p (ys.map V.str)/\JoinOk z ys=true/\Q (.str (PySem.Txt.join z ys)) H
def Dx:MtM X "str.join" (Kb X.K):=by intro NP s Y H x vs v us Q I rx rv h;obtain⟨z,p,ys,rfl,rfl,hq,hj,q⟩:=h;obtain⟨t,rfl⟩:=rx;obtain⟨u,rfl,ru⟩:=aU.one rv;cases ru;obtain⟨its,r',pl,hz⟩:=I.list hq;obtain⟨l,rfl,hl⟩:=vG r';exact PySem.SC.join pl.isList hl hj λt' k=>⟨.str _,H,I.tok _,⟨_,rfl⟩,q⟩
def mMt(g:Str->PV->N6)(mo mk:ME):ME:=λenv=>(mo env).bind λx=>match x,mk env with
 |.str z,.ok v=>g z v
 |_,_=>.stuck
def ED{nm:Str}{id:String}{r:V->N3->Hp->VK->Prop}{g:Str->PV->N6}{o k:Expr}{mo mk:ME}{apos cpos:Pos}(slot:Slot "str" nm id)(hty:typeOf (.builtin id)=pure (.type "method_descriptor"))(hmt:MtM X id r)
  (hr:∀{B F L F2:NV}{Y:St}{H H2:Hp}{Q:VK}{z:Str}{v:PV}{u:V}{f2:NZ},Gr F H F2 H2->Rel T F2 B L H2 v u f2->GE T W B F L Y H Q (g z v)->r (.str z) [u] H2 Q)
  (ho:SE X T W o mo) (hk:SE X T W k mk) (hbase:attributeBase o nm X.env (eval o X.env)=eval o X.env:=by rfl)
  (hst:starEach [k] X.env=[(false,eval k X.env)]:=by rfl)
  (hfew:Fwe X.env cpos [k]:=by rfl)
  (hline:(apos.endLine==cpos.line)=true:=by rfl):SE X T W (.Call (.Attribute o nm apos) [k] [] cpos) (mMt g mo mk):=
 PE.wk (sE PySem.F.plainAttrs_str slot hty hmt ho (aa hk ah hst) hbase hfew hline hst) λY H Q hz1=>by
  walk_at "b";unfold mMt at q;refine tE.bq S λpv v H1 F1 f1 e1 g1 r1 n1 d1 w1=>?_;rw[e1]at q;simp at q;have S1:=S.grow g1;split at q
  .rename_i z y em
   obtain⟨rfl,_⟩:=r1;refine⟨rfl,Z,F1,env,fp,S1,?_⟩;unfold ae am;rw[em];intro vs H2 F2 f2 g2 r2 n2 d2 w2;obtain⟨u,rfl,ru⟩:=r2.one;exact hr (g1.trans g2) ru q
  .exact q.elim
def qj:∀(ys:N0),RelL T F B L H (ys.map .str) (ys.map V.str) []
 | []=>by exact⟨rfl,rfl⟩
 |y::ys=>by exact⟨_,_,[],[],rfl,nH,qj ys,rfl⟩
noncomputable def cB(z:Str):PV->N6
 |.str y=>if(y.length==0)=false/\z.length<=1000000 then .ok (.lst .own ((PySem.Txt.split z y).map .str))else .stuck
 |_=>.stuck
noncomputable def kZ:N5->Option (N0)
 | []=>some []
 |.str z::xs=>(kZ xs).map (z::·)
 |_::_=>none
def fK(z:Str):PV->N6
 | .lst _ xs=>(match kZ xs with
  |some ys=>if JoinOk z ys=true then .ok (.str (PySem.Txt.join z ys))else .stuck
  |none=>.stuck)
 |_=>.stuck
def vK:∀{xs:N5}{ys:N0}{vs:N3}{f:NZ},kZ xs=some ys->RelL T F B L H xs vs f->vs=ys.map V.str
 | [],ys,vs,f,h,r=>by cases h;exact r.1
 |x::xs,ys,vs,f,h,r=>by
  obtain⟨v,ws,f1,f2,rfl,r1,r2,_⟩:=r;cases x with
  |str z=>obtain⟨zs,hz,rfl⟩:=map_eq_some_iff.mp h;rw[r1.1,vK hz r2];rfl
  |_=>cases h
section
variable{o k:Expr}{mo mk:ME}{apos cpos:Pos}
def f7(ho:SE X T W o mo)(hk:SE X T W k mk)(hbase:attributeBase o "split" X.env (eval o X.env)=eval o X.env:=by rfl)
  (hst:starEach [k] X.env=[(false,eval k X.env)]:=by rfl)
  (hfew:Fwe X.env cpos [k]:=by rfl)
  (hline:(apos.endLine==cpos.line)=true:=by rfl):SE X T W (.Call (.Attribute o "split" apos) [k] [] cpos) (mMt cB mo mk):=
 ED PySem.F.slot_str_split PySem.F.type_str_split Am (λ{B F L F2 Y H H2 Q z v u f2} g ru q=>by
  cases v with
  |str y=>
   unfold cB at q;dsimp only at q;split at q
   .rename_i h
    exact⟨z,y,rfl,by rw[ru.1],h,GE.newL q g (qj _) (λ_ h=>nomatch h) .nil λ_ h=>nomatch h⟩
   .exact q.elim
  |_=>exact q.elim) ho hk hbase hst hfew hline
def iB(hK:X.K=T.K)(ho:SE X T W o mo)(hk:SE X T W k mk)(hbase:attributeBase o "join" X.env (eval o X.env)=eval o X.env:=by rfl)
  (hst:starEach [k] X.env=[(false,eval k X.env)]:=by rfl)
  (hfew:Fwe X.env cpos [k]:=by rfl)
  (hline:(apos.endLine==cpos.line)=true:=by rfl):SE X T W (.Call (.Attribute o "join" apos) [k] [] cpos) (mMt fK mo mk):=
 ED PySem.F.slot_str_join PySem.F.type_str_join Dx (λ{B F L F2 Y H H2 Q z v u f2} g ru q=>by
  cases v with
  |lst f xs=>
   obtain⟨a,ws,fp',rfl,hl,hr,_⟩:=ru;unfold fK at q;dsimp only at q;cases e:kZ xs with
   |none=>rw[e]at q;exact q.elim
   |some ys=>
    rw[e]at q;dsimp only at q;split at q
    .rename_i h
     have:=vK e hr;subst this;exact⟨z,a,ys,rfl,rfl,by rw[hK];exact hl.sq,h,GE.scal q g nH⟩
    .exact q.elim
  |_=>exact q.elim) ho hk hbase hst hfew hline
end
def Jc(K:PySem.W.Frag)(d:Addr)(xs:N0):Prop:=
 ∃(dd:Option Addr) (l:List (Str×Tok)) (n:Nat) (sl:Array (Option Value)),K.lookup d=some ⟨.type "tuple",dd,.seq (strValues l).toArray n,sl⟩/\l.map (·.1)=xs
theorem kf(hK:X.K=T.K)(hg:Gl X x)(hm:X.mg x=some (.ref d))(hT:Jc X.K d xs)(hn:xs.length<=1000)(hd:Ndq x:=by decide):SE X T W (.Name x pos) (mC (.tup (xs.map .str))):=
 jJ (ku (v:=.ref d) hg hm rfl hd) λ_ _ _ _=>by
  obtain⟨dd,l,n,sl,h1,rfl⟩:=hT;refine⟨d,_,rfl,.inr ⟨_,_,n,by rw[<- hK];exact h1,rfl,rfl,?_,qa l⟩,qj _⟩;rw[sizeLine_eq];simp at hn ⊢
  lia
variable{d:Addr}{kvs:List (Str×Int)}
def EF(d:Addr)(kvs:List (Str×Int)):R2:=λx y H Q=>∃k,x=.str k/\y=.ref d/\Q (.bl (look kvs k).isSome) H
def Dj(hD:my X.w X.K d kvs):OpR X (compareOp .In) (EF d kvs):=by
 intro NP s Y H x y v u Q I rx ry h;obtain⟨k,rfl,rfl,q⟩:=h;obtain⟨t,rfl⟩:=rx;cases ry;obtain⟨f,hm,hf⟩:=hD.map I.kIn;refine wpAny_in_of (by show(k==k)=true;simp) hD.ne hm ⟨.bl (look kvs k).isSome,H,I.tok _,?_,q⟩;have:=hf k;cases e:look kvs k with
 |none=>rw[e]at this;rw[show f k=none from this];rfl
 |some i=>rw[e]at this;obtain⟨u,hu⟩:=this;rw[hu];rfl
def sH(kvs:List (Str×Int)):PV->N6
 |.str k=>.ok (.bl (look kvs k).isSome)
 |_=>.stuck
def AB:Ew T W (sH kvs) (λx H Q=>EF d kvs x (.ref d) H Q):=by
 intro B F L Y H Q F' H' x v fx g rx nf nd new q;cases x with
 |str k=>exact⟨k,rx.1,rfl,q.scal g gW⟩
 |_=>exact q.elim
def Cn(hg:Gl X x)(hm:X.mg x=some (.ref d))(hD:my X.w X.K d kvs)(he:SE X T W e m)(hd:Ndq x:=by decide):ST X T W (.Compare e [.In] [.Name x px] pos) (aw (mUn (sH kvs) m)):=
 PT.wk (vZ (Dj hD) he (ku (v:=.ref d) hg hm rfl hd) rfl) λY H Q h=>by obtain⟨Z,F,env,fp,S,q⟩:=tT.test h;exact tE.mir1 AB ⟨Z,F,env,fp,S,q⟩
end
end
section
section
variable{X:Cx}{T:Tb}{W:Nat->St->N4}{Z:Zn}{F F1 B L:NV}{H H1:Hp}{Y:St}{env:En}{fp:Nat->NZ}{D:Ends}{ks:List Nat}
structure Orp(Z:Zn)(F:NV)(fp:Nat->NZ)(f:NZ):Prop where
 nd:f.Nodup
 nf:∀b∈f,¬F b
 new:∀b∈f,Z.H0 b=none\/Z.fp0 b
 dj:∀b∈f,∀j,b∉fp j
end
open AutoSeq1 (wpAny_loadPart')
section
variable{X:Cx}{T:Tb}{W:Nat->St->N4}{Z:Zn}{F F1 B L:NV}{H H1:Hp}{Y:St}{env:En}{fp:Nat->NZ}
def lC:ME:=λ_=>.stuck
def i6:SE X T W e lC:=λNP s Y H Q I h=>by obtain⟨_,_,_,_,_,z⟩:=h;exact z.elim
def mFz(m:ME):ME:=λenv=>(m env).bind λv=>.ok (v.Oe Fl.N9)
def J6(he:SE X T W e m):SE X T W e (mFz m):=PE.wk he λY H Q hz1=>by
 walk_at "b";unfold mFz at q;refine⟨Z,F,env,fp,S,?_⟩;cases em:m env with
 |stuck|exc c=>rw[em]at q;exact q
 |ok pv=>rw[em]at q;intro v H' F' f g r nf nd new;refine q v H' (λa=>F' a\/a∈f) [] ⟨g.ext,λa h=>.inl (g.mono a h),λa h=>h.elim (g.only a) λz=>.inr (new a z),λa h=>h.elim (g.dom a) λz=>r.there a z⟩ (Rel.N9 (λ_ h=>.inl h) (λa h=>.inr h) r) (λ_ h=>nomatch h) nodup_nil λ_ h=>nomatch h
end
section
variable{X:Cx}{T:Tb}{W:Nat->St->N4}{Z:Zn}{F F1 B L:NV}{H H1:Hp}{Y:St}{env:En}{fp:Nat->NZ}{D:Ends}
def aC.blind(S:aC T Z F H Y env fp)(h0:c≠0)(hc:env[c]?=some none)(v:V):aC T Z F H (Y.set c (some v)) env fp:=
 ⟨S.hp,by rw [length_set,S.len],λi pv e=>by
  have:i≠c:=by rintro rfl;rw[hc]at e;cases e
  rw[getElem?_set_ne (Ne.symm this)];exact S.rel i pv e,S.nd,S.dj,S.dis,S.new,S.ch,λw hw=>by
  rw[getElem?_set_ne h0];exact S.pn w hw⟩
def aC.bOut(S:aC T Z F H Y env fp)(h:Z.B a):(∃o,H a=some o)/\∀j,a∉fp j:=by
 obtain⟨⟨o,h1⟩,h2⟩:=S.hp.bo.1 a h;refine⟨⟨o,S.hp.keep a o h1 h2⟩,λj hj=>?_⟩;rcases S.new j a hj with z|z
 .rw[h1]at z;cases z
 .exact h2 z
end
open PySem.W (findIn fnOf keepIn nsIn codeIn isFn Frag)
structure FS where
 q:Str
 s:Stmt
 k:Nat
 N:N0
 c:Option Nat
def cz(s:Stmt):Str:=match s with
 |.FunctionDef n _ _ _ _ _ _ _ _ _=>n
 |_=>""
structure Clo(H:Hp)(fr:N0)(cl:List (Str×Addr))(cvs:N3):Prop where
 inj:∀x y c,cl.lookup x=some c->cl.lookup y=some c->x=y
 sub:∀x c,cl.lookup x=some c->x∈fr
 len:cvs.length=fr.length
 val:∀(i:Nat) x v,fr[i]?=some x->cvs[i]?=some v->∃c o u z,cl.lookup x=some c/\H c=some (.frz o u)/\o.data=.cell (some z)/\bB v z
def Clo.tr(C:Clo H fr cl cvs)(h:∀b o u,H b=some (.frz o u)->H' b=some (.frz o u)):Clo H' fr cl cvs:=
 ⟨C.inj,C.sub,C.len,λi x v h1 h2=>let⟨c,o,u,z,q1,q2,q3⟩:=C.val i x v h1 h2;⟨c,o,u,z,q1,h _ _ _ q2,q3⟩⟩
structure FI where
 name:Str
 qual:Str
 params:Arguments
 body:List Stmt
 scope:Scope
 fr:N0
def FI.bx(i:FI)(H:Hp)(f:Addr)(cvs:N3):Prop:=∃cl doc pm ctv c' oc u u' vs t,H f=some (.frz (PySem.W.fnMade i.name i.qual i.params i.body i.scope cl doc pm c' ctv) u)/\
 H c'=some (.frz oc u')/\oc.data=.fields vs/\vs[1]?=some (.str i.qual t)/\Clo H i.fr cl cvs
def FI.bxs{i:FI}(h:∀b o u,H b=some (.frz o u)->H' b=some (.frz o u))(q:i.bx H f cvs):i.bx H' f cvs:=by obtain⟨cl,doc,pm,ctv,c',oc,u,u',vs,t,h1,h2,h3,h4,C⟩:=q;exact⟨cl,doc,pm,ctv,c',oc,u,u',vs,t,h _ _ _ h1,h _ _ _ h2,h3,h4,C.tr h⟩
structure NFd where
 i:Nat
 j:Nat
 q:Str
 k:Nat
 fr:N0
 N:N0
structure PT where
 F:List FS
 C:N0
 X:N0
 A:N0
 M:List (Nat×Str×Nat)
 Mk:List (Nat×Nat)
 U:List (Nat×Nat)
 B:N0
 I:List (Str×Int)
 KT:List (Option Nat×String×List Bool)
 HT:List (Nat×List Bool)
 D:List (N0):=[]
 G:Option NFd:=none
def fs0:FS:=⟨"",.Pass ⟨0,0,0,0⟩,0,[],none⟩
noncomputable def pk{α:Type}(d:α)(l:List α)(i:Nat):α:=l.getD i (l.headD d)
def iG{α:Type}{d:α}{p:α->Prop}{l:List α}(hl:l≠[])(h:∀x∈l,p x)(i:Nat):p (pk d l i):=by
 unfold pk;rw[getD_eq_getElem?_getD];cases e:l[i]? with
 |some C=>exact h C (List.mem_of_getElem? e)
 |none=>
  cases l with
  |nil=>exact absurd rfl hl
  |cons a l=>exact h a mem_cons_self
section
variable(p:PT)(K:Frag)
noncomputable def gAt(x:Str):Addr:=match nsIn K mainGlobals x with
 |some (some (.ref a))=>a
 |_=>0
noncomputable def mAt(c:Addr)(x:Str):Addr:=match findIn K (.ref c) x with
 |some (some (.ref a))=>a
 |_=>0
noncomputable def dAt(f:Addr):FuncData:=match K.lookup f with
 |some ⟨_,_,.func d,_⟩=>d
 |_=>default
def PT.fs(i:Nat):FS:=pk fs0 p.F i
def PT.ps(i:Nat):N0:=(p.fs i).N.take (p.fs i).k
def PT.ca(c:Nat):Addr:=gAt K (pk "" p.C c)
def PT.xa(c:Nat):Addr:=gAt K (pk "" p.X c)
def PT.fx(x:FS):Addr:=match x.c with
 |none=>gAt K (cz x.s)
 |some c=>mAt K (p.ca K c) (cz x.s)
def PT.fa(i:Nat):Addr:=p.fx K (p.fs i)
def lit(x:FS):Obj->Obj
 |⟨oc,od,.func d,sl⟩=>⟨oc,od,.func (fnOf (cz x.s) x.q (fh x.s) (cA x.s) (aO x.s) .none d.kwdefaults d.doc d.pyModule d.annotations d.code d.closureTuple),sl⟩
 |o=>o
def K0:Option Obj->Bool
 |some ⟨_,_,.func _,_⟩=>true
 |_=>false
def scB(x:FS):Bool:=decide ((aO x.s).kind=.function)&&!(aO x.s).isCoroutine&&!(aO x.s).isGenerator&&decide x.N.Nodup&&decide (x.k<=x.N.length) &&
 (x.N.take x.k).all (λy=>decide ((aO x.s).names.lookup y=some .local \/(aO x.s).names.lookup y=some .cell))&&(aO x.s).names.all (λy=>decide (y.2≠.free))
def PT.chF(x:FS):Bool:=K0 (K.lookup (p.fx K x))&&codeIn K (dAt K (p.fx K x)).code x.q&&keepIn K (.ref (p.fx K x))&&(match x.c with|none=>decide (nsIn K mainGlobals (cz x.s)=some (some (.ref (p.fx K x))))|some _=>true)
def chC(A:N0)(x:Str):Bool:=plainGet K (gAt K x) Str.empty&&hasDictIn K (gAt K x)&&plainOver K (gAt K x)&&decide (findIn K (.ref (gAt K x)) "__setattr__"=some (some (.builtin "object.__setattr__"))) &&
 decide (nsIn K mainGlobals x=some (some (.ref (gAt K x))))&&A.all (λy=>decide (findIn K (.ref (gAt K x)) y=some none))
def PT.chM(x:Nat×Str×Nat):Bool:=decide (findIn K (.ref (p.ca K x.1)) x.2.1=some (some (.ref (p.fa K x.2.2))))&&isFn K (.ref (p.fa K x.2.2))&&keepIn K (.ref (p.fa K x.2.2))
def PT.chK(x:Nat×Nat):Bool:=makesIn K (p.ca K x.1)&&decide (findIn K (.ref (p.ca K x.1)) "__init__"=some (some (.ref (p.fa K x.2))))&&isFn K (.ref (p.fa K x.2))&&keepIn K (.ref (p.ca K x.1))
def EX(f:Addr):Option PySem.W.CFound->Bool
 |some (.val (.ref a))=>decide (a=f)
 |_=>false
def PT.chU(x:Nat×Nat):Bool:=decide (specialIn K (.ref (p.ca K x.1)) "__getattribute__"=some (some (.builtin "type.__getattribute__")))&&readsIn K (p.ca K x.1) (.type "type")&&EX (p.fa K x.2) (findCls K (.ref (p.ca K x.1)) (.type "type") "__init__")&&keepIn K (.ref (p.fa K x.2))
def tgV(y:Option Nat×String×List Bool):Value:=match y.1 with
 |some x=>.ref (p.xa K x)
 |none=>.type y.2.1
def chX(x:Str):Bool:=decide (nsIn K mainGlobals x=some (some (.ref (gAt K x))))&&BH K (gAt K x)
noncomputable def chI(x:Str×Int):Bool:=match nsIn K mainGlobals x.1 with
 |some (some (.int i _))=>decide (i=x.2)
 |_=>false
def PT.chT(y:Option Nat×String×List Bool):Bool:=decide (p.X.map (λx=>kitOne K (.ref (gAt K x)) (tgV p K y))=y.2.2.map some)
def PT.chH(y:Nat×List Bool):Bool:=decide (p.X.map (λx=>exmOne K (.ref (gAt K x)) (.ref (p.xa K y.1)))=y.2.map some)
def PT.ch1:Bool:=p.F.all (p.chF K)
def PT.ch2:Bool:=p.C.all (chC K p.A)&&p.Mk.all (p.chK K)&&p.U.all (p.chU K)&&p.X.all (chX K)&&p.B.all (λx=>decide (nsIn K mainGlobals x=some none))&&p.I.all (chI K)&&p.KT.all (p.chT K)&&p.HT.all (p.chH K)
def PT.ch3:Bool:=p.M.all (p.chM K)
def PT.ob:List (Option Obj):=p.F.map λx=>K.lookup (p.fx K x)
def PT.ol:List (Option Obj):=p.F.map λx=>(K.lookup (p.fx K x)).map (lit x)
end
structure Tx(p:PT)(K:Frag)(mg:NS):Prop where
 fn:∀i,Fun K (cz (p.fs i).s) (p.fs i).q (p.fs i).s (p.fa K i) (dAt K (p.fa K i))
 sc:∀i,fT (p.fs i).N (p.ps i) (aO (p.fs i).s)
 bn:∀i,gJ K (dAt K (p.fa K i)) (p.ps i) []
 gl:∀i,(p.fs i).c=none->mg (cz (p.fs i).s)=some (.ref (p.fa K i))
 cl:∀c,Cls K (p.ca K c)
 cg:∀c,mg (pk "" p.C c)=some (.ref (p.ca K c))
 cn:∀c,∀x∈p.A,gx K (p.ca K c) x
 me:∀x∈p.M,Ex K (p.ca K x.1) x.2.1 (p.fa K x.2.2)
 mm:∀x∈p.Mk,Mk K (p.ca K x.1) (p.fa K x.2)
 su:∀x∈p.U,Sup K (p.ca K x.1) (p.fa K x.2)
 xg:∀c,mg (pk "" p.X c)=some (.ref (p.xa K c))
 xe:∀c,BH K (p.xa K c)=true
 bi:∀x∈p.B,mg x=none
 ci:∀x∈p.I,∃tk,mg x.1=some (.int x.2 tk)
 kt:∀y∈p.KT,∀c,kitOne K (.ref (p.xa K c)) (tgV p K y)=some (sC y.2.2 c)
 ht:∀y∈p.HT,∀c,exmOne K (.ref (p.xa K c)) (.ref (p.xa K y.1))=some (sC y.2 c)
def Bnd(x:FS):Prop:=∀(kV doc pm:Value) (an:Option Addr) (cdv ct:Value) (us:NY),us.length=(x.N.take x.k).length->bindArgs (fnOf (cz x.s) x.q (fh x.s) (cA x.s) (aO x.s) .none kV doc pm an cdv ct) ⟨us,[]⟩=pure ((x.N.take x.k).zip us)
def B9:List FS->Prop
 | []=>True
 |x::l=>Bnd x/\B9 l
def B9.get:∀{l:List FS},B9 l->∀x∈l,Bnd x
 | [],_,_,h=>nomatch h
 |y::l,⟨h1,h2⟩,x,h=>by
  rcases mem_cons.mp h with rfl|h
  .exact h1
  .exact h2.get x h
section
variable{x:FS}
def lsS{us:NY}(h:us.length=n+1):∃a r,us=a::r/\r.length=n:=by
 cases us with
 |nil=>cases h
 |cons a r=>exact⟨a,r,rfl,Nat.succ.inj h⟩
def bn1(h:∀(kV doc pm:Value) (an:Option Addr) (cdv ct u1:Value),bindArgs (fnOf (cz x.s) x.q (fh x.s) (cA x.s) (aO x.s) .none kV doc pm an cdv ct) ⟨[u1],[]⟩=pure ((x.N.take x.k).zip [u1]):=by intros;rfl)(hk:(x.N.take x.k).length=1:=by rfl):Bnd x:=λkV doc pm an cdv ct us hl=>by rw[hk]at hl;obtain⟨_,_,rfl,l1⟩:=lsS hl;cases List.eq_nil_of_length_eq_zero l1;exact h ..
def bn2(h:∀(kV doc pm:Value) (an:Option Addr) (cdv ct u1 u2:Value),bindArgs (fnOf (cz x.s) x.q (fh x.s) (cA x.s) (aO x.s) .none kV doc pm an cdv ct) ⟨[u1,u2],[]⟩=pure ((x.N.take x.k).zip [u1,u2]):=by intros;rfl)(hk:(x.N.take x.k).length=2:=by rfl):Bnd x:=λkV doc pm an cdv ct us hl=>by rw[hk]at hl;obtain⟨_,_,rfl,l1⟩:=lsS hl;obtain⟨_,_,rfl,l2⟩:=lsS l1;cases List.eq_nil_of_length_eq_zero l2;exact h ..
def bn3(h:∀(kV doc pm:Value) (an:Option Addr) (cdv ct u1 u2 u3:Value),bindArgs (fnOf (cz x.s) x.q (fh x.s) (cA x.s) (aO x.s) .none kV doc pm an cdv ct) ⟨[u1,u2,u3],[]⟩=pure ((x.N.take x.k).zip [u1,u2,u3]):=by intros;rfl)(hk:(x.N.take x.k).length=3:=by rfl):Bnd x:=λkV doc pm an cdv ct us hl=>by rw[hk]at hl;obtain⟨_,_,rfl,l1⟩:=lsS hl;obtain⟨_,_,rfl,l2⟩:=lsS l1;obtain⟨_,_,rfl,l3⟩:=lsS l2;cases List.eq_nil_of_length_eq_zero l3;exact h ..
def bn4(h:∀(kV doc pm:Value) (an:Option Addr) (cdv ct u1 u2 u3 u4:Value),bindArgs (fnOf (cz x.s) x.q (fh x.s) (cA x.s) (aO x.s) .none kV doc pm an cdv ct) ⟨[u1,u2,u3,u4],[]⟩=pure ((x.N.take x.k).zip [u1,u2,u3,u4]):=by intros;rfl)(hk:(x.N.take x.k).length=4:=by rfl):Bnd x:=λkV doc pm an cdv ct us hl=>by rw[hk]at hl;obtain⟨_,_,rfl,l1⟩:=lsS hl;obtain⟨_,_,rfl,l2⟩:=lsS l1;obtain⟨_,_,rfl,l3⟩:=lsS l2;obtain⟨_,_,rfl,l4⟩:=lsS l3;cases List.eq_nil_of_length_eq_zero l4;exact h ..
def bn5(h:∀(kV doc pm:Value) (an:Option Addr) (cdv ct u1 u2 u3 u4 u5:Value),bindArgs (fnOf (cz x.s) x.q (fh x.s) (cA x.s) (aO x.s) .none kV doc pm an cdv ct) ⟨[u1,u2,u3,u4,u5],[]⟩=pure ((x.N.take x.k).zip [u1,u2,u3,u4,u5]):=by intros;rfl)(hk:(x.N.take x.k).length=5:=by rfl):Bnd x:=λkV doc pm an cdv ct us hl=>by rw[hk]at hl;obtain⟨_,_,rfl,l1⟩:=lsS hl;obtain⟨_,_,rfl,l2⟩:=lsS l1;obtain⟨_,_,rfl,l3⟩:=lsS l2;obtain⟨_,_,rfl,l4⟩:=lsS l3;obtain⟨_,_,rfl,l5⟩:=lsS l4;cases List.eq_nil_of_length_eq_zero l5;exact h ..
end
def y0{l:N0}{α:Type}{f:Addr->Option Bool}{bs:List Bool}(hl:l≠[])(h:l.map (λx=>f (gAt K x))=bs.map some)(c:Nat):f (gAt K (pk "" l c))=some (sC bs c):=by
 have e:gAt K (pk "" l c)=C_ (l.map (gAt K)) c:=by
  unfold pk C_;cases l with
  |nil=>exact absurd rfl hl
  |cons a l=>rw[getD_eq_getElem?_getD,getD_eq_getElem?_getD,getElem?_map];cases(a::l)[c]?<;>rfl
 rw[e];exact zJ (g:=id) (by simpa using hl) (by rw[map_map];exact h) c
theorem Tx.of{p:PT}{K:Frag}{h:Heap}{mg:NS}(X:K.In h)(N:h.Ns mainGlobals mg)(hb:B9 p.F)(hs:p.F.all scB=true)(hF:p.F≠[])(hC:p.C≠[])(hX:p.X≠[])
  (e:p.ob K=p.ol K) (h1:p.ch1 K=true) (h2:p.ch2 K=true) (h3:p.ch3 K=true):Tx p K mg:=by
 simp only[PT.ch2,and_eq_true,all_eq_true,decide_eq_true_eq]at h2;obtain⟨⟨⟨⟨⟨⟨⟨c1,c2⟩,c3⟩,c4⟩,c5⟩,c6⟩,c7⟩,c8⟩:=h2;simp only[PT.ch1,PT.ch3,all_eq_true]at h1 h3 hs;have fnx:∀x∈p.F,Fun K (cz x.s) x.q x.s (p.fx K x) (dAt K (p.fx K x)):=λx hx=>by
  have q:=h1 x hx;simp only[PT.chF,and_eq_true]at q;obtain⟨⟨⟨q1,q2⟩,q3⟩,_⟩:=q;have e1:K.lookup (p.fx K x)=(K.lookup (p.fx K x)).map (lit x):=List.map_inj_left.mp e x hx;cases eo:K.lookup (p.fx K x)with
  |none=>rw[eo]at q1;cases q1
  |some o=>
   rw[eo]at e1 q1;obtain⟨oc,od,dt,sl⟩:=o;cases dt with
   |func d=>
    have e2:(⟨oc,od,.func d,sl⟩:Obj)=lit x ⟨oc,od,.func d,sl⟩:=Option.some.inj e1;simp only[lit,Obj.mk.injEq,Data.func.injEq,true_and,and_true]at e2;have ed:dAt K (p.fx K x)=d:=by unfold dAt;rw[eo]
    rw[ed]at q2 ⊢;exact⟨⟨oc,od,d.kwdefaults,d.doc,d.pyModule,d.annotations,d.code,d.closureTuple,sl,e2,eo,q2⟩,q3⟩
   |_=>cases q1
 have scx:∀x∈p.F,fT x.N (x.N.take x.k) (aO x.s):=λx hx=>by have q:=hs x hx;simp only[scB,and_eq_true,decide_eq_true_eq,all_eq_true,Bool.not_eq_true']at q;obtain⟨⟨⟨⟨⟨⟨q1,q2⟩,q3⟩,q4⟩,q5⟩,q6⟩,q7⟩:=q;exact⟨q1,q2,q3,q4,by simp_all,q6,q7⟩
 have clx:∀x∈p.C,(Cls K (gAt K x)/\mg x=some (.ref (gAt K x)))/\∀y∈p.A,gx K (gAt K x) y:=λx hx=>by have q:=c1 x hx;simp only[chC,and_eq_true,decide_eq_true_eq,all_eq_true]at q;obtain⟨⟨⟨⟨⟨q1,q2⟩,q3⟩,q4⟩,q5⟩,q6⟩:=q;exact⟨⟨⟨q1,q2,q3,q4⟩,mg_of X N q5⟩,q6⟩
 have xx:∀x∈p.X,mg x=some (.ref (gAt K x))/\BH K (gAt K x)=true:=λx hx=>by have q:=c4 x hx;simp only[chX,and_eq_true,decide_eq_true_eq]at q;exact⟨mg_of X N q.1,q.2⟩
 refine ⟨iG hF fnx,iG hF scx,iG hF λx hx=>(fnx x hx).binds (hb.get x hx),
  iG (p:=λx=>x.c=none->mg (cz x.s)=some (.ref (p.fx K x))) hF λx hx hc=>?_,iG hC λx hx=>(clx x hx).1.1,iG hC λx hx=>(clx x hx).1.2,
  iG hC λx hx=>(clx x hx).2,λx hx=>?_,λx hx=>?_,λx hx=>?_,iG hX λx hx=>(xx x hx).1,iG hX λx hx=>(xx x hx).2,
  λx hx=>PySem.W.mg_none_of X N (c5 x hx),λx hx=>?_,λy hy c=>?_,λy hy c=>?_⟩
 .have q:=h1 x hx;simp only[PT.chF,and_eq_true]at q;have q:=q.2;rw[hc]at q;exact mg_of X N (of_decide_eq_true q)
 .have q:=h3 x hx;simp only[PT.chM,and_eq_true,decide_eq_true_eq]at q;exact⟨q.1.1,q.1.2,q.2⟩
 .have q:=c2 x hx;simp only[PT.chK,and_eq_true,decide_eq_true_eq]at q;exact⟨q.1.1.1,q.1.1.2,q.1.2,q.2⟩
 .have q:=c3 x hx;simp only[PT.chU,and_eq_true,decide_eq_true_eq]at q;refine⟨q.1.1.1,q.1.1.2,?_,q.2⟩;have q:=q.1.2;unfold EX at q;split at q
  .lia
  .cases q
 .have q:=c6 x hx;unfold chI at q;split at q
  .rename_i i tk e
   exact⟨tk,by rw[<- of_decide_eq_true q];exact mg_of X N e⟩
  .cases q
 .exact y0 (α:=Bool) (f:=λa=>kitOne K (.ref a) (tgV p K y)) hX (of_decide_eq_true (c7 y hy)) c
 .exact y0 (α:=Bool) (f:=λa=>exmOne K (.ref a) (.ref (p.xa K y.1))) hX (of_decide_eq_true (c8 y hy)) c
def PT.attOk(p:PT):Prop:=p.A.Nodup/\p.A.all lg=true
noncomputable def PT.gs(p:PT):NFd:=p.G.getD ⟨0,0,"",0,[],[]⟩
def PT.gst(p:PT):Stmt:=(cA (p.fs p.gs.i).s).getD p.gs.j (.Pass ⟨0,0,0,0⟩)
def PT.fi(p:PT):FI:=⟨cz p.gst,p.gs.q,fh p.gst,cA p.gst,aO p.gst,p.gs.fr⟩
def PT.gpos(p:PT):Pos:=match p.gst with
 |.FunctionDef _ _ _ _ _ _ _ _ _ pos=>pos
 |_=>⟨0,0,0,0⟩
def PT.gt(p:PT)(K:Frag):Addr×Addr:=(PySem.W.tabIn K (cz (p.fs p.gs.i).s)).getD (0,0)
@[reducible] def PT.T(p:PT)(h:p.attOk)(K:Frag):Tb where
 K:=K
 nc:=p.C.length
 cls:=p.ca K
 att:=kX p.A
 inj:=yM h.1 h.2
 xcl:=p.xa K
 dk:=λk=>p.D.getD k []
 bx:=λk H a vs=>if k=99 then p.fi.bx H a vs else if 1000<=k then a=k-1000/\∀v∈vs,v=.ref a else ∃o,H a=some (.frz o (.dK (((p.D.getD k []).map Sum.inr).zip vs)))/\(p.D.getD k []).length=vs.length
 bxs:=λk H H' a vs h q=>by
  split at q
  .rw[if_pos ‹_›];exact FI.bxs h q
  .rw[if_neg ‹_›];split at q
   .rw[if_pos ‹_›];exact q
   .rw[if_neg ‹_›];obtain⟨o,z,l⟩:=q;exact⟨o,h _ _ _ z,l⟩
 tb:=λa=>if p.G.isSome=true/\a=(p.gt K).2 then some #[rawInt p.gpos.line,rawInt p.gpos.col,.str p.gs.q 0]else none
section
variable{p:PT}{K:Frag}{mg:NS}
def Tx.cls(t:Tx p K mg)(n:Nat):∀c<n,Cls K (p.ca K c):=λc _=>t.cl c
def Tx.b(t:Tx p K mg)(j:Nat)(h:p.B[j]?=some x:=by rfl):mg x=none:=t.bi x (List.mem_of_getElem? h)
def Tx.c(t:Tx p K mg)(j:Nat)(h:p.I[j]?=some (x,i):=by rfl):∃tk,mg x=some (.int i tk):=t.ci (x,i) (List.mem_of_getElem? h)
end
open PySem.W (keepIn Frag)
section
variable{P:Program}{w:World}{K:Frag}{mg:NS}{base:Heap}{p:PT}{hA:p.attOk}
abbrev OkF(p:PT)(hA:p.attOk)(P:Program)(w:World)(K:Frag)(mg:NS)(base:Heap)(k i:Nat)(m:N5->N6):Prop:=dA P w K mg base (CXP P w) k (p.fa K i) (dAt K (p.fa K i)) (p.ps i) (spM (p.T hA K) (p.ps i).length m)
abbrev OkI(p:PT)(hA:p.attOk)(P:Program)(w:World)(K:Frag)(mg:NS)(base:Heap)(k i:Nat)(m:N5->N6):Prop:=dA P w K mg base (CXP P w) k (p.fa K i) (dAt K (p.fa K i)) (p.ps i) (spI (p.T hA K) (p.ps i).length m)
def okC(i:Nat)(t:Tx p K mg)(body:∀{cdv:Value}{A:Around}{outer:List Env}{s:Shared}{H:Hp}{E:XK}(_:Tx p K mg),Ctx (gA (CXP P w) P w K mg base (p.fs i).N (p.fs i).q (aO (p.fs i).s) (p.fa K i) cdv A outer s H E) (p.T hA K) (WD (p.T hA K) E) k->(p.fs i).N.Nodup ->
  SSs (gA (CXP P w) P w K mg base (p.fs i).N (p.fs i).q (aO (p.fs i).s) (p.fa K i) cdv A outer s H E) (p.T hA K) (WD (p.T hA K) E) (cA (p.fs i).s) m):OkF p hA P w K mg base (k+1) i (bf (p.fs i).N.length m):=
 Iq (T:=p.T hA K) (t.fn i) (t.sc i) λa b c d e f g=>@body a b c d e f t g (t.sc i).nd
def okI(i:Nat)(t:Tx p K mg)(body:∀{cdv:Value}{A:Around}{outer:List Env}{s:Shared}{H:Hp}{E:XK}(_:Tx p K mg),Ctx (gA (CXP P w) P w K mg base (p.fs i).N (p.fs i).q (aO (p.fs i).s) (p.fa K i) cdv A outer s H E) (p.T hA K) (WD (p.T hA K) E) k->(p.fs i).N.Nodup ->
  SSs (gA (CXP P w) P w K mg base (p.fs i).N (p.fs i).q (aO (p.fs i).s) (p.fa K i) cdv A outer s H E) (p.T hA K) (WD (p.T hA K) E) (cA (p.fs i).s) m):OkI p hA P w K mg base (k+1) i (jz (p.fs i).N.length m):=
 DX (T:=p.T hA K) (t.fn i) (t.sc i) λa b c d e f g=>@body a b c d e f t g (t.sc i).nd
def dm{X:Cx}{k k2 i c:Nat}{mn:Str}{m m':N5->N6}{ps:N0}(j:Nat)(t:Tx p X.K X.mg)(G:dA X.prog X.w X.K X.mg X.base (CXP X.prog X.w) k (p.fa X.K i) (dAt X.K (p.fa X.K i)) ps (spM (p.T hA X.K) ps.length m))(e:some m=some m')(hj:p.M[j]?=some (c,mn,i):=by rfl)(hp:p.ps i=ps:=by rfl)(hk:k<=k2:=by decide) :
  ∃f fd,Ex X.K (p.ca X.K c) mn f/\gJ X.K fd ps []/\dA X.prog X.w X.K X.mg X.base (CXP X.prog X.w) k2 f fd ps (spM (p.T hA X.K) ps.length m'):=by
 cases e;exact⟨_,_,t.me _ (List.mem_of_getElem? hj),hp▸t.bn i,G.mono hk⟩
end
def dno{n c:Nat}{q:Prop}(h:c<n)(hc:n<=c:=by exact Nat.le_add_left _ _):q:=absurd h (Nat.not_lt.mpr hc)
section
variable{X:Cx}{W:Nat->St->N4}{p:PT}{hA:p.attOk}
def aX(t:Tx p X.K X.mg)
  (G:dA X.prog X.w X.K X.mg X.base (CXP X.prog X.w) k (p.fa X.K i) (dAt X.K (p.fa X.K i)) (p.ps i) (spM (p.T hA X.K) (p.ps i).length m)) (cx:Ctx X (p.T hA X.K) W kk) (ha:SA X (p.T hA X.K) W (e::es) ms)
  (hk:k<=kk:=by decide) (hx:cz (p.fs i).s=x:=by rfl) (hc:(p.fs i).c=none:=by rfl) (hg:Gl X x:=by rfl) (hn:iZ ms n:=by repeat' first|exact gp|apply eW) (hps:n=(p.ps i).length:=by rfl)
  (hdb:Ndq x:=by decide) (he:starEach (e::es) X.env=(false,eval e X.env)::starEach es X.env:=by rfl) (hpl:(backTo pos (starEach es X.env)).any (·.1)=false:=by rfl) :
  SE X (p.T hA X.K) W (.Call (.Name x np) (e::es) [] pos) (ao (aG m) ms):=
 zm G cx hk hg (by subst hx;exact t.gl i hc) (t.fn i).kp (t.bn i) hn hps ha hdb he hpl
def cQ(t:Tx p X.K X.mg)
  (D:gB X (p.T hA X.K) k mn ps [] disp) (cx:Ctx X (p.T hA X.K) W kk) (ho:SE X (p.T hA X.K) W o mo) (ha:SA X (p.T hA X.K) W (e::es) ms)
  (hm:∀k,kX p.A k≠mn:=by exact B7 (by decide +kernel) (by decide +kernel)) (hk:k<=kk:=by decide) (hn:iZ ms n:=by repeat' first|exact gp|apply eW) (hps:n+1=ps.length:=by rfl)
  (hst:starEach (e::es) X.env=(false,eval e X.env)::starEach es X.env:=by rfl) (hpl:(backTo pos (starEach es X.env)).any (·.1)=false:=by rfl)
  (ht:eval (.Call (.Attribute o mn apos) (e::es) [] pos) X.env=(do
   let ov <- eval o X.env
   standAt apos.atName
   let(f,first) <- holding [ov] (getMethod ov mn pl)
   callWith pos f first (backTo pos (starEach (e::es) X.env)) (backToKw pos (keywordEach [] X.env))):=by rfl) :
  SE X (p.T hA X.K) W (.Call (.Attribute o mn apos) (e::es) [] pos) (b7 disp mo ms):=
 FY cx (t.cls _) hm D hk hn hps ho ha hst hpl ht
def rZ(c:Nat)(t:Tx p X.K X.mg)
  (G:dA X.prog X.w X.K X.mg X.base (CXP X.prog X.w) k (p.fa X.K i) (dAt X.K (p.fa X.K i)) (p.ps i) (spI (p.T hA X.K) (p.ps i).length m)) (cx:Ctx X (p.T hA X.K) W kk) (ha:SA X (p.T hA X.K) W (e::es) ms)
  (hM:(c,i)∈ p.Mk:=by decide) (hcn:c<p.C.length:=by decide) (hk:k+1<=kk:=by decide) (hx:pk ("":Str) p.C c=x:=by rfl) (hg:Gl X x:=by rfl) (hn:iZ ms n:=by repeat' first|exact gp|apply eW) (hps:n+1=(p.ps i).length:=by rfl)
  (hdb:Ndq x:=by decide) (he:starEach (e::es) X.env=(false,eval e X.env)::starEach es X.env:=by rfl) (hpl:(backTo pos (starEach es X.env)).any (·.1)=false:=by rfl) :
  SE X (p.T hA X.K) W (.Call (.Name x np) (e::es) [] pos) (mG c m ms):=
 FX (t.mm _ hM) hcn G cx hk hg (by subst hx;exact t.cg c) (t.bn i) hn hps ha hdb he hpl
def a5(k:Nat)(t:Tx p X.K X.mg)(cx:Ctx X (p.T hA X.K) W kk)(he:SE X (p.T hA X.K) W e m)(hf:kX p.A k=f:=by rfl)(hm:f∈p.A:=by decide)(hb:attributeBase e f X.env (eval e X.env)=eval e X.env:=by rfl) :
  SE X (p.T hA X.K) W (.Attribute e f pos) (mUn (aA k) m):=CL cx.hK hf (t.cls _) (λc _=>t.cn c f hm) he hb
def fE(ha:SA X T W es ms)(hn:iZ ms n:=by repeat' first|exact gp|apply eW)(hs:n<=1000:=by decide):SE X T W (.List es pos) (dI ms):=FZ ha hn hs
def iU{x1}(ha:SA X T W es ms)(hn:iZ ms n:=by repeat' first|exact gp|apply eW)(hs:n<=1000:=by decide):SE X T W (.Tuple es x1 pos) (gh ms):=FV ha hn hs
def aK(cx:Ctx X T W kk)(ha:SE X T W a ma)(hb:SE X T W b mb)(hs:kY b:=by exact λ_ _=>rfl):SE X T W (.Subscript a b pos) (mOp av ma mb):=F8 cx.hK ha hb hs
def zbA(cx:Ctx X T W kk)(ha:SE X T W a ma)(hb:SE X T W b mb):ST X T W (.Compare a [.Eq] [b] pos) (aw (mOp pEq ma mb)):=bA cx.hK cx.hu ha hb
def a_(he:SE X T W e m)(hN:X.N.Nodup:=by assumption)(hi:X.N[i]?=some x:=by rfl)(hx:Loc X.env.scope x:=by first|exact .inl rfl|exact .inr rfl)(hs:swapsWith e (some (.Name x pos')) pos.line X.env=pure false:=by rfl)
  (hf:Lce X.fn X.env x:=by first|exact .inl rfl|exact .inr rfl|assumption):SS X T W (.Assign [.Name x pos'] e pos) (aI i m):=FM hN hi hx he hs hf
def sgN(hN:X.N.Nodup:=by assumption)(hi:X.N[i]?=some x:=by rfl)(hx:Loc X.env.scope x:=by first|exact .inl rfl|exact .inr rfl)(hf:Lce X.fn X.env x:=by first|exact .inl rfl|exact .inr rfl|assumption):SG X T (.Name x pos) (tgN i):=Cy hN hi hx hf
def bY(h:k<=i:=by decide):iQ (tgN i) k:=yX h
def uG(cx:Ctx X T W kk)(he:SE X T W e m)(hN:X.N[i]?=some x:=by rfl)(hv:Vis X.env.scope x:=by first|exact Or.inl rfl|exact Or.inr (Or.inl rfl)|exact Or.inr (Or.inr rfl))
  (hs:swapsWith (.Call (.Attribute (.Name x px) "append" apos) [e] [] cpos) none pos.line X.env=pure false:=by rfl) (hst:starEach [e] X.env=[(false,eval e X.env)]:=by rfl)
  (hfew:Fwe X.env cpos [e]:=by rfl)
  (hline:(apos.endLine==cpos.line)=true:=by rfl) (hd:Ndq x:=by decide) (hcd:Ncq x:=by decide) :
  SS X T W (.Expr (.Call (.Attribute (.Name x px) "append" apos) [e] [] cpos) pos) (dz i m):=xl cx.hK hN hv he hs hst hfew hline hd hcd
def sFld(k:Nat)(t:Tx p X.K X.mg)(cx:Ctx X (p.T hA X.K) W kk)(he:SE X (p.T hA X.K) W e m)(hf:kX p.A k=f:=by rfl)(hm:f∈p.A:=by decide)(hN:X.N[i]?=some x:=by rfl)
  (hv:Vis X.env.scope x:=by first|exact Or.inl rfl|exact Or.inr (Or.inl rfl)|exact Or.inr (Or.inr rfl))
  (hs:swapsWith e (some (.Attribute (.Name x px) f pos')) pos.line X.env=pure false:=by rfl) (hd:Ndq x:=by decide) (hcd:Ncq x:=by decide) :
  SS X (p.T hA X.K) W (.Assign [.Attribute (.Name x px) f pos'] e pos) (ib i k m):=FN cx.hK hf (t.cls _) (λc _=>t.cn c f hm) hN hv he hs hd hcd
def bJ(c:Nat)(t:Tx p X.K X.mg)(cx:Ctx X (p.T hA X.K) W k)(hB:X.K.In X.base)(hx:XM X (p.T hA X.K) W)(ha:SA X (p.T hA X.K) W (e::es) ms)
  (hm:pk ("":Str) p.X c=x:=by rfl) (hg:Gl X x:=by rfl) (hn:iZ ms n:=by repeat' first|exact gp|apply eW) (hn2:n<=100:=by decide) (hd:Ndq x:=by decide)
  (he:starEach (e::es) X.env=(false,eval e X.env)::starEach es X.env:=by rfl) (hpl:(backTo cpos (starEach es X.env)).any (·.1)=false:=by rfl) :
  SS X (p.T hA X.K) W (.Raise (some (.Call (.Name x np) (e::es) [] cpos)) none pos) (ba c ms):=
 xk cx (by subst hm;exact t.xg c) hB (D8 (t.xe c)).2 hx hg hn hn2 ha hd he hpl
def rY(c:Nat)(t:Tx p X.K X.mg)
  (G:dA X.prog X.w X.K X.mg X.base (CXP X.prog X.w) k (p.fa X.K i) (dAt X.K (p.fa X.K i)) (p.ps i) (spI (p.T hA X.K) (p.ps i).length m)) (cx:Ctx X (p.T hA X.K) W kk) (ha:SA X (p.T hA X.K) W es ms)
  (hU:(c,i)∈ p.U:=by decide) (hk:k<=kk:=by decide) (hx:pk ("":Str) p.C c=x:=by rfl) (hg:Gl X x:=by rfl) (hN:X.N[0]?=some y:=by rfl) (hv:Vis X.env.scope y:=by first|exact Or.inl rfl|exact Or.inr (Or.inl rfl)|exact Or.inr (Or.inr rfl))
  (hn:iZ ms n:=by repeat' first|exact gp|apply eW) (hps:n+1=(p.ps i).length:=by rfl)
  (hdb:Ndq x:=by decide) (hdy:Ndq y:=by decide) (hcy:Ncq y:=by decide)
  (hst:starEach (.Name y px::es) X.env=(false,eval (.Name y px) X.env)::starEach es X.env:=by rfl) (hpl:(backTo pos (starEach es X.env)).any (·.1)=false:=by rfl)
  (ht:eval (.Call (.Attribute (.Name x q) "__init__" apos) (.Name y px::es) [] pos) X.env=(do
   let ov <- eval (.Name x q) X.env
   standAt apos.atName
   let(f,first) <- holding [ov] (getMethod ov "__init__" pl)
   callWith pos f first (backTo pos (starEach (.Name y px::es) X.env)) (backToKw pos (keywordEach [] X.env))):=by rfl)
  (hs:swapsWith (.Call (.Attribute (.Name x q) "__init__" apos) (.Name y px::es) [] pos) none pos'.line X.env=pure false:=by rfl) :
  SS X (p.T hA X.K) W (.Expr (.Call (.Attribute (.Name x q) "__init__" apos) (.Name y px::es) [] pos) pos') (iY m ms):=
 FL cx (t.su _ hU) G hk hg (by subst hx;exact t.cg c) (t.bn i) hN hv hn hps ha hdb hdy hcy hst hpl ht hs
end
section
variable{X:Cx}{W:Nat->St->N4}{T:Tb}
noncomputable abbrev nmC(X:Cx)(caps:List Nat)(tn:N0):N0:=caps.map (λi=>X.N.getD i "")++ tn
def cOf(h:oB X.env.scope scope X.N caps (nmC X caps tn) tn=true):eZ X scope caps (nmC X caps tn) tn:=Ek h rfl rfl
def dB(tn:N0)(cx:Ctx X T W kk)(hi:SIc X T W tg iter mi)(hk:iQ g caps.length)
  (hb:∀C s H ex,(nmC X caps tn).Nodup->SG (cxC X scope C (nmC X caps tn) s H ex) T tg g/\STs (cxC X scope C (nmC X caps tn) s H ex) T WF ifs mc/\SE (cxC X scope C (nmC X caps tn) s H ex) T WF elt me)
  (h:oB X.env.scope scope X.N caps (nmC X caps tn) tn=true:=by kernel_rfl) (hs:∀x,foldedSetIterable iter X.env x=pure x:=by intro _;rfl):SE X T W (.ListComp elt [⟨tg,iter,ifs,0⟩] scope pos) (aV caps tn.length mi g mc me):=
 CI (cOf h) cx.calm hi hk (λC s H ex=>hb C s H ex (cOf h).nd) hs
def c_(tn:N0)(cx:Ctx X T W kk)(hN:X.N.Nodup)(hi:SIc X T W tg iter mi)(hk:iQ g caps.length)
  (hb:∀C s H ex,(nmC X caps tn).Nodup->SG (cxC X scope C (nmC X caps tn) s H ex) T tg g/\STs (cxC X scope C (nmC X caps tn) s H ex) T WF ifs mc/\SE (cxC X scope C (nmC X caps tn) s H ex) T WF elt me)
  (h:oB X.env.scope scope X.N caps (nmC X caps tn) tn=true:=by kernel_rfl) (hy:X.N[i]?=some y:=by rfl) (hx:Loc X.env.scope y:=by first|exact .inl rfl|exact .inr rfl)
  (hsw:swapsWith (.ListComp elt [⟨tg,iter,ifs,0⟩] scope pos) (some (.Name y py)) spos.line X.env=pure true:=by rfl)
  (hs:∀x,foldedSetIterable iter X.env x=pure x:=by intro _;rfl)
  (hf:X.fn y=true\/X.env.scope.names.lookup y=some .local:=by first|exact .inl rfl|exact .inr rfl|assumption) :
  SS X T W (.Assign [.Name y py] (.ListComp elt [⟨tg,iter,ifs,0⟩] scope pos) spos) (aI i (aV caps tn.length mi g mc me)):=
 Cp (cOf h) cx.calm hN hy hx hi hk (λC s H ex=>hb C s H ex (cOf h).nd) hsw hs hf
end
end
section
open PySem.W (findIn fnOf keepIn nsIn codeIn isFn Frag)
structure PE where
 G:List (Str×List (Str×Int))
 S:List (Str×Str)
 P:List (Str×N0)
def PE.gk(q:PE)(j:Nat):Str×List (Str×Int):=q.G.getD j ("",[])
def PE.gk_mem(q:PE)(h:j<q.G.length):q.gk j∈q.G:=by unfold PE.gk;rw[getD_eq_getElem?_getD,getElem?_eq_getElem h];exact getElem_mem h
def PE.sk(q:PE)(j:Nat):Str×Str:=q.S.getD j ("","")
def PE.tk(q:PE)(j:Nat):Str×N0:=q.P.getD j ("",[])
def n4{α:Type}{l:List α}{d:α}{j:Nat}(h:j<l.length):l.getD j d∈l:=by rw[getD_eq_getElem?_getD,getElem?_eq_getElem h];exact getElem_mem h
noncomputable def y4:NY->Option (List (Str×Tok))
 | []=>some []
 |.str z t::l=>(y4 l).map ((z,t)::·)
 |_::_=>none
def rJ:∀{vs:NY}{l:List (Str×Tok)},y4 vs=some l->vs=strValues l
 | [],l,h=>by cases h;rfl
 |v::vs,l,h=>by
  cases v with
  |str z t=>obtain⟨m,hm,rfl⟩:=map_eq_some_iff.mp h;rw[rJ hm];rfl
  |_=>cases h
def chP(xs:N0):Option Obj->Bool
 | some ⟨.type "tuple", _,.seq a _,_⟩=>(match y4 a.toList with
  |some l=>decide (l.map (·.1)=xs)
  |none=>false)
 |_=>false
noncomputable def chS(K:Frag)(x:Str×Str):Bool:=match nsIn K mainGlobals x.1 with
 |some (some (.str z _))=>decide (z=x.2)
 |_=>false
noncomputable def vq(P:Params):List DictEntry->List (Str×Int)->List DictEntry
 |⟨_,.str _ t,.int _ u⟩::es,(k,v)::kvs=>⟨PyData.keyHash P k,.str k t,.int v u⟩::vq P es kvs
 |_,_=>[]
def D_:(vq P es kvs).length=kvs.length->tY P (vq P es kvs) kvs:=by
 fun_induction vq P es kvs with
 |case1=>rename_i ih;exact λe=>⟨⟨_,_,rfl⟩,ih (by simpa using e)⟩
 |case2=>intro e;have e:=List.eq_nil_of_length_eq_zero e.symm;subst e;trivial
def KR(P:Params)(kvs:List (Str×Int)):Obj->Obj
 |⟨_,_,.dict es ep,_⟩=>{cls:=.type "dict",dict:=none,data:=.dict (vq P es.toList kvs).toArray ep,slots:=#[]}
 |o=>o
def okG(P:Params)(kvs:List (Str×Int)):Option Obj->Bool
 |some ⟨_,_,.dict es _,_⟩=>decide ((vq P es.toList kvs).length=kvs.length)
 |_=>false
structure Ty(p:PT)(q:PE)(w:World)(K:Frag)(mg:NS):Prop where
 tx:Tx p K mg
 dc:∀y∈q.G,mg y.1=some (.ref (gAt K y.1))/\my w K (gAt K y.1) y.2
 st:∀y∈q.S,∃t,mg y.1=some (.str y.2 t)
 tp:∀y∈q.P,mg y.1=some (.ref (gAt K y.1))/\Jc K (gAt K y.1) y.2
section
variable{p:PT}{q:PE}{w:World}{K:Frag}{mg:NS}
def Ty.gm(t:Ty p q w K mg)(j:Nat)(h:j<q.G.length:=by decide):mg (q.gk j).1=some (.ref (gAt K (q.gk j).1)):=(t.dc _ (q.gk_mem h)).1
def Ty.gd(t:Ty p q w K mg)(j:Nat)(h:j<q.G.length:=by decide):my w K (gAt K (q.gk j).1) (q.gk j).2:=(t.dc _ (q.gk_mem h)).2
def Ty.ss(t:Ty p q w K mg)(j:Nat)(h:j<q.S.length:=by decide):∃tk,mg (q.sk j).1=some (.str (q.sk j).2 tk):=t.st _ (n4 h)
def Ty.pm(t:Ty p q w K mg)(j:Nat)(h:j<q.P.length:=by decide):mg (q.tk j).1=some (.ref (gAt K (q.tk j).1)):=(t.tp _ (n4 h)).1
def Ty.pd(t:Ty p q w K mg)(j:Nat)(h:j<q.P.length:=by decide):Jc K (gAt K (q.tk j).1) (q.tk j).2:=(t.tp _ (n4 h)).2
end
section
variable(p:PT)(q:PE)(P:Params)(K:Frag)
def PE.gb:List (Option Obj):=q.G.map λy=>K.lookup (gAt K y.1)
def PE.gl:List (Option Obj):=q.G.map λy=>(K.lookup (gAt K y.1)).map (KR P y.2)
def PE.cs:Bool:=q.S.all (chS K)&&q.P.all λy=>decide (nsIn K mainGlobals y.1=some (some (.ref (gAt K y.1))))&&chP y.2 (K.lookup (gAt K y.1))
def PE.cg:Bool:=q.G.all λy=>decide (nsIn K mainGlobals y.1=some (some (.ref (gAt K y.1))))&&!(gAt K y.1==sysModules)&&okG P y.2 (K.lookup (gAt K y.1))
end
theorem Ty.of(X:K.In h)(N:h.Ns mainGlobals mg)(t:Tx p K mg)
  (e2:q.gb K=q.gl w.params K) (h2:q.cg w.params K=true) (h3:q.cs K=true):Ty p q w K mg:=by
 simp only[PE.cg,PE.cs,and_eq_true,all_eq_true,decide_eq_true_eq]at h2 h3;refine⟨t,λy hy=>?_,λy hy=>?_,λy hy=>?_⟩
 .obtain⟨⟨a1,a2⟩,a3⟩:=h2 y hy;refine⟨mg_of X N a1,by lia,?_⟩;have e1:K.lookup (gAt K y.1)=(K.lookup (gAt K y.1)).map (KR w.params y.2):=List.map_inj_left.mp e2 y hy;unfold okG at a3;split at a3
  .rename_i a b es ep sl eo
   rw[eo]at e1;exact⟨vq w.params es.toList y.2,ep,by rw[eo];exact e1,D_ (of_decide_eq_true a3)⟩
  .cases a3
 .have a:=h3.1 y hy;unfold chS at a;split at a
  .rename_i z tk e
   rw[<- of_decide_eq_true a];exact⟨tk,mg_of X N e⟩
  .cases a
 .obtain⟨a1,a2⟩:=h3.2 y hy;refine⟨mg_of X N a1,?_⟩;unfold chP at a2;split at a2
  .rename_i dd a n sl eo
   split at a2
   .rename_i l el
    have e:=rJ el;refine⟨dd,l,n,sl,?_,of_decide_eq_true a2⟩;rw[eo,<- e]
   .cases a2
  .cases a2
section
variable{X:Cx}{T:Tb}{W:Nat->St->N4}{Z:Zn}{F F1 B L:NV}{H H1:Hp}{Y:St}{env:En}{fp:Nat->NZ}{D:Ends}
theorem aC.updO(S:aC T Z F H Y env fp)(hj:∀j,b∉fp j)(hF:¬F b)(hn:Z.H0 b=none\/Z.fp0 b)(hb:H b=some o)(hfx:¬ii o):aC T Z F (upd H b o') Y env fp:=by
 have nB:¬Z.B b:=λh=>by
  obtain⟨⟨u,e⟩,n⟩:=S.hp.bo.1 b h;rcases hn with z|z
  .rw[e]at z;cases z
  .exact n z
 have ne:∀a u,H a=some u->(F a\/Z.B a\/NoL a\/ii u)->a≠b:=λa u e h z=>by lia
 refine⟨⟨S.hp.bo,λa u e n=>?_,S.hp.f0,S.hp.fn,λa h=>?_⟩,S.len,λi pv e=>?_,S.nd,S.dj,λi a ha=>?_,S.new,λi a ha=>?_,S.pn⟩
 .have:a≠b:=λz=>by
   subst z;rcases hn with z|z
   .rw[e]at z;cases z
   .exact n z
  rw[aJ this];exact S.hp.keep a u e n
 .obtain⟨u,e⟩:=S.hp.ft a h;exact⟨u,by rw[aJ (show a≠b from λz=>hF ())];exact e⟩
 .obtain⟨v,h1,h2⟩:=S.rel i pv e;refine⟨v,h1,Rel.tr (λ_ h=>h) (λ_ h=>h) (λ_ h=>h) (λa u q h=>?_) (λa ha u q=>?_) h2⟩
  .rw[aJ (ne a u q h)];exact q
  .rw[aJ (show a≠b from λz=>hj i ())];exact q
 .obtain⟨n,u,e⟩:=S.dis i a ha;exact⟨n,u,by rw[aJ (show a≠b from λz=>hj i ())];exact e⟩
 .obtain⟨u,e,c⟩:=S.ch i a ha;exact⟨u,by rw[aJ (show a≠b from λz=>hj i ())];exact e,c⟩
end
open PySem.W (fnOf Frag)
section
variable{X:Cx}{T:Tb}{W:Nat->St->N4}{Z:Zn}{F:NV}{H:Hp}{Y:St}{env:En}{fp:Nat->NZ}
def pC:PV->N6
 |.str z=>.ok (.str z)
 |x=>da x
def yF:dN X (.type "str") (λxs H Q=>(∃i,xs=[.int i]/\i.natAbs.log2<1920/\Q (.str (toString i)) H)\/ ∃z,xs=[.str z]/\Q (.str z) H):=by
 intro NP s Y H xs us Q I r h;rcases h with h |⟨z,rfl,q⟩
 .exact kU NP s Y H xs us Q I r h
 .obtain⟨u,rfl,ru⟩:=aU.one r;obtain⟨t,rfl⟩:=ru;exact PySem.P.str_of_str ⟨.str z,H,I,⟨_,rfl⟩,q⟩
def Aw:Mir T W (p1 pC) (λxs H Q=>(∃i,xs=[.int i]/\i.natAbs.log2<1920/\Q (.str (toString i)) H)\/ ∃z,xs=[.str z]/\Q (.str z) H):=by
 intro B F L Y H Q F' H' xs vs fx gr r a b c q;cases xs with
 |nil=>exact q.elim
 |cons x xs=>
  cases xs with
  |cons _ _=>exact q.elim
  |nil=>
   cases x with
   |str z=>obtain⟨v,rfl,rv⟩:=r.one;obtain⟨rfl,_⟩:=rv;exact .inr ⟨z,rfl,GE.scal q gr nH⟩
   |int i=>exact .inl (sP B F L Y H Q F' H' _ vs fx gr r a b c q)
   |_=>exact q.elim
def CB(hg:Gl X "str")(hm:X.mg "str"=none)(ha:SE X T W e m)(he:starEach [e] X.env=[(false,eval e X.env)]:=by rfl):SE X T W (.Call (.Name "str" p) [e] [] pos) (ao (p1 pC) (ae m am)):=
 gT yF Aw hg hm wV (aa ha ah he) (he:=he)
end
noncomputable def dTr(T:Tb)(W:Nat->St->N4):N0->List ME->List (TE×TE)
 |k::ks,m::ms=>(tC (.str k),tE T W m)::dTr T W ks ms
 |_,_=>[]
def qw:List ME->MA
 | []=>am
 |m::ms=>ae m (qw ms)
abbrev dkv(ks:N0)(vs:N3):List (Key×V):=(ks.map Sum.inr).zip vs
theorem putK_new{kvs:List (Key×V)}{k:Key}{v:V}(h:∀p∈kvs,p.1≠k):i_ kvs k v=kvs++[(k,v)]:=by
 unfold i_
 grind
theorem nZ:∀{more kvs:List (Key×V)},((kvs++more).map (·.1)).Nodup->jg kvs more=kvs++more
 | [],kvs,_=>by simp[jg]
 |p::more,kvs,h=>by have e:i_ kvs p.1 p.2=kvs++[p]:=putK_new (by grind);show jg (i_ kvs p.1 p.2) more=_;rw[e,nZ (by simpa using h)];simp
def t6{ks:N0}{vs:N3}(h:ks.length=vs.length):(dkv ks vs).map (·.1)=ks.map Sum.inr:=by rw[List.map_fst_zip (by simp[h])]
def yq{ks:N0}(h:ks.Nodup):(ks.map (Sum.inr:Str->Key)).Nodup:=by rw[Nodup,List.pairwise_map];exact h.imp λz e=>z (Sum.inr.inj e)
theorem wM{ks:N0}{vs:N3}{k:Str}{v:V}(h:(ks++[k]).Nodup)(hl:ks.length=vs.length):i_ (dkv ks vs) (.inr k) v=dkv (ks++[k]) (vs++[v]):=by
 rw[putK_new]
 .unfold dkv;rw[map_append,List.zip_append (by simp[hl])];rfl
 .intro p hp e;have hm:p.1∈ks.map (Sum.inr:Str->Key):=by rw[<- t6 hl];exact mem_map_of_mem hp
  grind
def qP{ks:N0}{vs:N3}(hl:ks.length=vs.length):(dkv ks vs).length=ks.length:=by simp[hl]
theorem wL:∀{ks:N0}{vs:N3}{i:Nat}{k:Str}{v:V},ks.findIdx? (·==k)=some i->vs[i]?=some v->m9 (dkv ks vs) (Sum.inr k:Key)=some v
 | [],_,_,_,_,h,_|_::_,[],_,_,_,_,h=>by simp at h
 |q::ks,u::vs,i,k,v,h,e=>by
  rw[List.findIdx?_cons]at h;by_cases z:(q==k)=true
  .rw[if_pos z]at h;cases h;rw[<- e];exact m5 ()
  .rw[if_neg z]at h;obtain⟨j,hj,rfl⟩:=map_eq_some_iff.mp h;show m9 ((Sum.inr q,u)::dkv ks vs) _=_;rw[m8 (λe=>z ())];exact wL hj (by simpa using e)
end
end PR
namespace L2
open PySem PySem.Spec PyProof.Rows
def FJ(td ty:TE):TE:=λY H Q=>td Y H λx H1=>ty Y H1 λy H2=>∃a v kvs k,x=.ref a/\Rd H2 a (.dK kvs)/\y=kV k/\m9 kvs k=some v/\Q v H2
def Gb(td ty tv:TE):TS:=λD Y H=>tv Y H λv H1=>td Y H1 λx H2=>ty Y H2 λy H3=>∃a kvs k,x=.ref a/\H3 a=some (.dK kvs)/\y=kV k/\kvs.length<sizeLine/\D.nx Y (upd H3 a (.dK (i_ kvs k v)))
section
variable{X:Cx}{o i value:Expr}{pos pos':Pos}{td ty tv:TE}
def zR(ho:PE X o td)(hi:PE X i ty)(hs:Jf i):PE X (.Subscript o i pos) (FJ td ty):=by
 intro NP s Y H Q I h;refine Cl PySem.F.slot_dict_getitem.lookup hs (thn (ho NP s Y H _ I h) λu s1 ⟨x,H1,I1,rx,q1⟩=>thn (hi NP s1 Y H1 _ I1 q1) λiv s2 zz=>?_);obtain⟨y,H2,I2,ry,a,v,kvs,k,ex,e,ey,l,q2⟩:=zz;subst ex ey;obtain rfl:u=Value.ref a:=rx;obtain⟨z,hd,vs,rel,dd⟩:=(e.ok I2.hok:b_ _ _ _ _ a (.dK kvs))
 obtain⟨w',hw,rw'⟩:=mK.some_of (by rw[<- l];exact rel.val k);exact⟨dd.typeIs,wpAny_getItem_of (AV ry) dd.mapOf hw ⟨v,H2,I2.tok _,rw',q2⟩⟩
theorem sf(ho:PE X o td)(hi:PE X i ty)(hv:PE X value tv)(hs:swapsWith value (some (.Subscript o i pos')) pos.line X.env=pure false):PS X (.Assign [.Subscript o i pos'] value pos) (Gb td ty tv):=by
 intro NP s Y H D I h;refine wpAny_Assign_Subscript (thn (hv NP s Y H _ I h) λr s1 ⟨v,H1,I1,rv,q1⟩=>thn (ho NP s1 Y H1 _ I1 q1) λu s2 ⟨x,H2,I2,rx,q2⟩=>thn (hi NP s2 Y H2 _ I2 q2) λiv s3 zz=>?_) hs;obtain⟨y,H3,I3,ry,a,kvs,k,ex,e,ey,l,q3⟩:=zz;subst ex ey;obtain rfl:u=Value.ref a:=rx;obtain⟨z,hd,vs,rel,dd⟩:=(I3.hok a _ e:b_ _ _ _ _ a (.dK kvs))
 have hl:(i_ kvs k v).length<=sizeLine:=by have:=l8 kvs k v;lia
 refine wpAny_setItem_pairs (hsz:=by rw[<- rel.length];exact z) (AV ry) dd λh' dd' hs=>⟨Y,_,?_,q3⟩
 exact I3.write (by rw[e];exact True.intro) (.inl rfl) (λb q hb z=>(hs.2 b hb).trans z) (let⟨q,_,_,hq,_⟩:=dd';⟨q,hq⟩) ⟨hl,hd,_,rel.put k rv,dd'⟩
end
end L2
namespace PR
open PySem PySem.Spec L2
section
section
variable{X:Cx}{T:Tb}{W:Nat->St->N4}{Z:Zn}{F F1 B L:NV}{H H1:Hp}{Y:St}{env:En}{fp:Nat->NZ}{D:Ends}
theorem o4:∀{ks:N0}{ms:List ME}{xs:N5}{F:NV}{H:Hp}{Q:List (V×V)->N4},ks.length=ms.length->aC T Z F H Y env fp->qw ms env=.ok xs->hasL Fl.Oa xs=false ->
  (∀vs H' F',Gr F H F' H'->RelL T F' Z.B (Own fp) H' xs vs []->Q ((dkv ks vs).map λkv=>(kV kv.1,kv.2)) H')->p_ (dTr T W ks ms) Y H Q
 | [],[],xs,F,H,Q,_,S,e,_,h=>by cases e;exact h [] H F (Gr.refl S.hp.ft) (f_ _ _ _ _)
 |k::ks,m::ms,xs,F,H,Q,hl,S,e,ho,h=>by
  unfold qw ae at e;cases e1:m env with
  |exc c|stuck=>rw[e1]at e;cases e
  |ok x=>
   rw[e1,Res.Og]at e;cases e2:qw ms env with
   |exc c|stuck=>rw[e2]at e;cases e
   |ok ys=>rw[e2,Res.Og]at e;cases e;simp only[hasL,or_eq_false_iff]at ho;refine tE.bind S (λc z=>by lia) (λz=>by lia) λpv v H1 F1 f ez g r _ _ _=>?_;rw[e1]at ez;cases ez;obtain rfl:=Rel.Of ho.1 r;refine o4 (by simp_all) (S.grow g) e2 ho.2 λvs H2 F2 g2 r2=>?_;exact h (v::vs) H2 F2 (g.trans g2) (by exact⟨v,vs,[],[],rfl,r.ext g2.ext g2.mono,r2,rfl⟩)
def mf{p:Fl->Bool}:∀xs ys:N5,hasL p (xs++ys)=(hasL p xs||hasL p ys)
 | [],_=>by simp[hasL]
 |x::xs,ys=>by simp[hasL,mf xs ys,Bool.or_assoc]
def sW:∀{ms:List ME}{xs:N5},qw ms env=.ok xs->xs.length=ms.length
 | [],xs,e=>by cases e;rfl
 |m::ms,xs,e=>by
  unfold qw ae at e;cases e1:m env with
  |exc c|stuck=>rw[e1]at e;cases e
  |ok x=>
   rw[e1,Res.Og]at e;cases e2:qw ms env with
   |exc c|stuck=>rw[e2]at e;cases e
   |ok ys=>rw[e2,Res.Og]at e;cases e;simp[sW e2]
theorem RelL.skip(hF:¬F p)(hB:¬B p)(hL:¬L p)(hp:H p=some o)(hx:¬ii o)(h:RelL T F B L H xs vs []):RelL T F B L (upd H p o') xs vs []:=
 RelL.tr (λ_ h=>h) (λ_ h=>h) (λ_ h=>h) (λa u e z=>by
  rw[aJ]
  .exact e
  grind) (λ_ z=>(nomatch z)) h
def wg(k x:Nat)(ms:List ME)(m6 m7:ME):MS:=λenv=>match qw ms env,m6 env,m7 env,env[x]? with
 |.ok xs,.ok a,.ok b,some none=>if hasL Fl.Oa (xs++[a,b])||hasL Fl.Ob (xs++[a,b])then .stuck else .ret (.box k (xs++[a,b]))
 |_,_,_,_=>.stuck
def JR(i:Nat):TS:=λD Y H=>∃p kvs,Y[i]?=some (some (.ref p))/\H p=some (.dK kvs)/\∀o,D.rt (.ref p) (upd H p (.frz o (.dK kvs)))
def C2(hN:X.N[i]?=some x)(hv:Vis X.env.scope x)(hd:Ndq x:=by decide)(hcd:Ncq x:=by decide):PS X (.Return (some (.Name x pos')) pos) (JR i):=by intro NP s Y H D I ⟨p,kvs,e1,e2,h⟩;refine wpAny_Return_some (thn (eU hN hv hd hcd NP s Y H (λv H'=>v=.ref p/\H'=H) I ⟨_,e1,rfl,rfl⟩) λu s1 zz=>?_);obtain⟨v,H1,I1,r,ev,eh⟩:=zz;subst ev eh;obtain⟨o,ho⟩:=b_.there (I1.hok p _ e2);exact⟨_,Y,_,I1.write (o:=.frz o (.dK kvs)) (h':=s1.heap) (t':=s1.toks) (by rw[e2];exact True.intro) (.inl rfl) (λ_ _ _ q=>q) ⟨o,ho⟩ (show _/\_ from⟨ho,(I1.hok p _ e2:b_ _ _ _ _ _ (.dK kvs))⟩),r,h o⟩
theorem Cq{k x:Nat}{nx:Str}{ks:N0}{ms:List ME}{m6 m7:ME}(hN:X.N.Nodup)(hx:X.N[x]?=some nx)(hl:Loc X.env.scope nx)(hv:Vis X.env.scope nx)(x0:x≠0)(hu:X.A.units+64<cLine)
  (hdk:T.dk k=ks++[k6,k7]) (hbx:∀H a vs o,H a=some (.frz o (.dK (dkv (T.dk k) vs)))->(T.dk k).length=vs.length->T.bx k H a vs) (hnd:(ks++[k6,k7]).Nodup) (hkm:ks.length=ms.length) (hk9:ks.length<=9)
  (hp:PPs X dpos keys vals (dTr T W ks ms)) (h6:SE X T W e6 m6) (h7:SE X T W e7 m7) (hall:keys.all (·.isSome)=true:=by rfl) (hlen:keys.length=vals.length:=by rfl) (h0:keys≠[]:=by exact List.cons_ne_nil _ _) (h15:keys.length<=15:=by decide)
  (hs:swapsWith (.Dict keys vals dpos) (some (.Name nx pa)) pos1.line X.env=pure false:=by rfl) (hs6:swapsWith e6 (some (.Subscript (.Name nx q1) (.Constant (.str k6) j6 q2) q3)) pos2.line X.env=pure false:=by rfl)
  (hs7:swapsWith e7 (some (.Subscript (.Name nx r1) (.Constant (.str k7) j7 r2) r3)) pos3.line X.env=pure false:=by rfl)
  (hf:X.fn nx=true\/X.env.scope.names.lookup nx=some .local:=by first|exact .inl rfl|exact .inr rfl|assumption) (hd:Ndq nx:=by decide) (hcd:Ncq nx:=by decide) :
  SSs X T W [.Assign [.Name nx pa] (.Dict keys vals dpos) pos1,.Assign [.Subscript (.Name nx q1) (.Constant (.str k6) j6 q2) q3] e6 pos2,.Assign [.Subscript (.Name nx r1) (.Constant (.str k7) j7 r2) r3] e7 pos3,.Return (some (.Name nx p4)) pos4] (wg k x ms m6 m7):=
 PSs.wk (kq (zE hN hx hl (Dc hp hall hlen h0 h15) hs hf) (kq (sf (eU hx hv hd hcd) (iH) h6 hs6)
  (kq (sf (eU hx hv hd hcd) (iH) h7 hs7) (v3 (C2 (pos':=p4) hx hv hd hcd))))) λD Y H hz1=>by
  walk_at "b";unfold wg at q;split at q
  case h_2=>exact q.elim
  rename_i xs a b e5 e6' e7' ex
  split at q
  .exact q.elim
  rename_i hno
  simp at hno;obtain⟨no,nl⟩:=hno;have no':hasL Fl.Oa xs=false/\a.has Fl.Oa=false/\b.has Fl.Oa=false:=by rw[show hasL Fl.Oa (xs++[a,b])=(hasL Fl.Oa xs ||(a.has Fl.Oa ||(b.has Fl.Oa||false)))from mf xs [a,b]]at no;simpa using no
  intro p hp0;have nF:¬F p:=λz=>by obtain⟨o,e⟩:=S.hp.ft p z;rw[hp0]at e;cases e
  have nO:∀j,p∉fp j:=λj z=>by obtain⟨_,o,e⟩:=S.dis j p z;rw[hp0]at e;cases e
  have nB:¬Z.B p:=λz=>by obtain⟨⟨o,e⟩,n⟩:=S.hp.bo.1 p z;rw[S.hp.keep p o e n]at hp0;cases hp0
  have hn:Z.H0 p=none\/Z.fp0 p:=S.hp.newE (f:=[p]) (λc hc=>by simp_all) p ();have nL:¬Own fp p:=λ⟨j,hj⟩=>nO j hj;have grow:∀{F1 F2:NV}{H1 H2:Hp}{o:HO},¬F1 p->H1 p=some o->Gr F1 H1 F2 H2->¬F2 p:=(by grind[cD,aC,ce,Gr])
  have S1:=S.grow (Gr.same S.hp.ft (Ext.upd (o:=.dK []) hp0));refine o4 hkm S1 e5 no'.1 λvs H2 F2 g2 r2=>?_;have hlv:ks.length=vs.length:=by rw[<- r2.length,hkm];exact(sW e5).symm
  have e2:=g2.ext p _ bp;have nF2:=grow nF bp g2;have nd5:ks.Nodup:=(nodup_append.mp hnd).1;have nd6:(ks++[k6]).Nodup:=by
   have:ks++[k6,k7]=(ks++[k6])++ [k7]:=by simp
   rw[this]at hnd;exact(nodup_append.mp hnd).1
  refine⟨e2,dkv ks vs,rfl,by rw[qP hlv];lia,?_⟩;rw[nZ (by rw[List.nil_append,t6 hlv];exact yq nd5),List.nil_append];have S3:=((S1.grow g2).updO (o':=.dK (dkv ks vs)) nO nF2 hn e2 (λz=>z)).blind x0 ex (.ref p);have r3:=r2.skip (o':=.dK (dkv ks vs)) nF2 nB nL e2 (λz=>z);have hxl:x<Y.length:=by rw[S.len];exact(List.getElem?_eq_some_iff.mp ex).1
  have hσ:(Y.set x (some (.ref p)))[x]?=some (some (V.ref p)):=getElem?_set_self hxl;refine tE.bind S3 (λc z=>by lia) (λz=>by lia) λpv v6 H4 F4 f4 ez g4 r4 _ _ _=>?_;rw[e6']at ez;cases ez;obtain rfl:=Rel.Of no'.2.1 r4;have e4:=g4.ext p _ bp;have nF4:=grow nF2 bp g4;refine⟨_,hσ,p,_,.inr k6,rfl,e4,rfl,by rw[qP hlv,sizeLine_eq];lia,?_⟩;rw[wM nd6 hlv];have S5:=(S3.grow g4).updO (o':=.dK (dkv (ks++[k6]) (vs++[v6]))) nO nF4 hn e4 (λz=>z);have r5:=(RelL.append (r3.ext g4.ext g4.mono) (by exact⟨v6,[],[],[],rfl,r4,f_ _ _ _ _,rfl⟩:RelL T F4 Z.B (Own fp) H4 [a] [v6] [])).skip (o':=.dK (dkv (ks++[k6]) (vs++[v6]))) nF4 nB nL e4 (λz=>z);refine tE.bind S5 (λc z=>by lia) (λz=>by lia) λpv v7 H6 F6 f6 ez g6 r6 _ _ _=>?_;rw[e7']at ez;cases ez;obtain rfl:=Rel.Of no'.2.2 r6;have e8:=g6.ext p _ bp;have nF6:=grow nF4 bp g6;have hlv6:(ks++[k6]).length=(vs++[v6]).length:=by simp[hlv]
  have nd7:((ks++[k6])++ [k7]).Nodup:=by simpa using hnd
  refine⟨_,hσ,p,_,.inr k7,rfl,e8,rfl,by rw[qP hlv6,sizeLine_eq];simp;lia,?_⟩;rw[wM nd7 hlv6];refine⟨p,_,hσ,bp,λo=>?_⟩;rw[Cf];generalize hw:(vs++[v6])++ [v7]=ws;have S7:=(S5.grow g6).updO (o':=.frz o (.dK (dkv ((ks++[k6])++ [k7]) ws))) nO nF6 hn e8 (λz=>z);have r7:=(RelL.append (r5.ext g6.ext g6.mono) (by exact⟨v7,[],[],[],rfl,r6,f_ _ _ _ _,rfl⟩:RelL T F6 Z.B (Own fp) H6 [b] [v7] [])).skip (o':=.frz o (.dK (dkv ((ks++[k6])++ [k7]) ws))) nF6 nB nL e8 (λz=>z);refine q F6 _ (.ref p) [] S7.hp ?_ nodup_nil (λ_ z=>(nomatch z)) (λ_ z=>(nomatch z));have eks:T.dk k=(ks++[k6])++ [k7]:=by rw[hdk];simp
  refine⟨p,ws,rfl,hbx _ _ _ o (by rw[eks];exact bp) (by rw[eks,<- hw];simp[hlv]),?_⟩;rw[hw,show(xs++[a])++ [b]=xs++[a,b] by simp]at r7;exact RelL.noL nl r7
def fQ(k i:Nat):PV->N6
 | .box j xs=>if j=k then (match xs[i]? with
  |some x=>if x.has Fl.Oa then .stuck else .ok x
  |none=>.stuck)else .stuck
 |_=>.stuck
def gM(k i:Nat){key:Str}(hu:X.A.units+64<cLine)(hi:(T.dk k).findIdx? (·==key)=some i)(hbx:∀H a vs,T.bx k H a vs->∃o,H a=some (.frz o (.dK (dkv (T.dk k) vs)))/\(T.dk k).length=vs.length)(he:SE X T W e m)(hs:Jf (.Constant (.str key) j p):=by intro _ _;rfl) :
  SE X T W (.Subscript e (.Constant (.str key) j p) pos) (mUn (fQ k i) m):=
 PE.wk (zR he (iH) hs) λY H Q hz1=>by
  walk_at "b";unfold mUn at q;refine tE.bq S λx v H1 F1 f1 e1 g1 r1 n1 d1 w1=>?_;rw[e1,Res.Og]at q;cases x with
  |box j xs=>
   simp only[fQ]at q;split at q
   .rename_i hj
    subst hj;split at q
    .rename_i y ey
     split at q
     .exact q.elim
     .rename_i ho
      obtain⟨a,vs,rfl,hb,hr⟩:=r1;obtain⟨o,ha,hl⟩:=hbx _ _ _ hb;obtain⟨w,f,ew,rw',_⟩:=hr.get ey;obtain rfl:=Rel.Of () rw';exact⟨a,w,_,.inr key,rfl,.inr ⟨o,ha⟩,rfl,wL hi ew,q.scal g1 rw'⟩
    .exact q.elim
   .exact q.elim
  |_=>exact q.elim
end
def kF(i j:Nat)(k:ME):MS:=λenv=>match k env with
 | .ok (.int n)=>(match env[i]?,env[j]? with
  | some (some (.lst .own ys)),some (some (.lst .own xs))=>(match xs[n.toNat]? with
   |some x=>if i≠j/\0<=n/\gz xs=true/\gz ys=true/\xs.length<1000000/\ys.length<1000000 then .next ((env.set j (some (.lst .own (xs.eraseIdx n.toNat)))).set i (some (.lst .own (ys++[x]))))else .stuck
   |none=>.stuck)
  |_,_=>.stuck)
 |_=>.stuck
section
variable{X:Cx}{T:Tb}{W:Nat->St->N4}{Z:Zn}{F F1 B L:NV}{H H1:Hp}{Y:St}{env:En}{fp:Nat->NZ}{D:Ends}
theorem xm{i j:Nat}(hK:X.K=T.K)(hN:X.N[i]?=some y)(hv:Vis X.env.scope y)(hM:X.N[j]?=some x)(hw:Vis X.env.scope x)(hk:SE X T W k mk)
  (hs:swapsWith (.Call (.Attribute (.Name y py) "append" ay) [.Call (.Attribute (.Name x px) "pop" ax) [k] [] cx] [] cy) none pos.line X.env=pure false:=by rfl) (hst:starEach [k] X.env=[(false,eval k X.env)]:=by rfl)
  (hst2:starEach [.Call (.Attribute (.Name x px) "pop" ax) [k] [] cx] X.env=[(false,eval (.Call (.Attribute (.Name x px) "pop" ax) [k] [] cx) X.env)]:=by rfl)
  (hfew:Fwe X.env cx [k]:=by rfl)
  (hfew2:((backTo cy (starEach [.Call (.Attribute (.Name x px) "pop" ax) [k] [] cx] X.env)).all (λx=>!x.1)&&(backToKw cy (keywordEach [] X.env)).all (λx=>x.1.isSome)&&decide ([Expr.Call (.Attribute (.Name x px) "pop" ax) [k] [] cx].length+([]:List Keyword).length+(if([]:List Keyword).isEmpty then 0 else 1)<30))=true:=by rfl)
  (hline:(ax.endLine==cx.line)=true:=by rfl) (hline2:(ay.endLine==cy.line)=true:=by rfl) (hd:Ndq x:=by decide) (hcd:Ncq x:=by decide) (hd2:Ndq y:=by decide) (hcd2:Ncq y:=by decide) :
  SS X T W (.Expr (.Call (.Attribute (.Name y py) "append" ay) [.Call (.Attribute (.Name x px) "pop" ax) [k] [] cx] [] cy) pos) (kF i j mk):=
 PS.wk (mS (sE PySem.F.plainAttrs_list PySem.F.slot_list_append PySem.F.type_list_append lA (eU hN hv hd2 hcd2)
  (dO (sE PySem.F.plainAttrs_list PySem.F.slot_list_pop PySem.F.type_list_pop An (eU hM hw hd hcd) (aa hk ah hst) rfl hfew hline hst) iJ hst2) rfl hfew2 hline2 hst2) hs) λD Y H hz1=>by
  walk_at "b";unfold kF at q;split at q
  case h_2=>exact q.elim
  rename_i n ek
  split at q
  case h_2=>exact q.elim
  rename_i ys xs ei ej
  split at q
  case h_2=>exact q.elim
  rename_i z ez
  split at q
  case isFalse=>exact q.elim
  rename_i hc
  obtain⟨hij,h0,c1,c2,c3,c4⟩:=hc;obtain⟨a,ws,fpa,h1,hl,hr,hf⟩:=S.lst ei;obtain⟨b,us,fpb,h2,hlb,hrb,hfb⟩:=S.lst ej;refine⟨_,h1,.inl ⟨rfl,ws,by exact SqL.of hl⟩,_,h2,.inl ⟨rfl,us,by exact SqL.of hlb⟩,Z,F,env,fp,S,?_⟩;unfold ae am;rw[ek];intro vs H1 F1 f1 g r n1 d1 w1;obtain⟨u,rfl,ru⟩:=r.one;obtain⟨rfl,rfl⟩:=ru;have S1:=S.grow g;have hlb1:=g.ext b _ hlb;have hlnb:=hrb.length;obtain rfl:=(fq c1 hrb).1;have hn:n.toNat<xs.length:=(List.getElem?_eq_some_iff.mp ez).1;have hj:n.toNat<us.length:=by lia
  refine⟨b,us,n,n.toNat,us[n.toNat],rfl,rfl,hlb1,by lia,by lia,PySem.StrLaws.seqIndex_nonneg () (),getElem?_eq_getElem hj,?_⟩;have hrb1:=hrb.ext g.ext g.mono;have S2:=S1.mutL (v:=.non) ej h2 hfb (RelL.erase n.toNat hrb1) nodup_nil (λ_ z=>(nomatch z)) hlb1;have ei2:(env.set j (some (.lst .own (xs.eraseIdx n.toNat))))[i]?=some (some (.lst .own ys)):=by rw[getElem?_set_ne (Ne.symm hij)];exact ei
  obtain⟨a',ws',fpa',h1',hl2,hr2,hf2⟩:=S2.lst ei2;rw[h1]at h1';cases h1';obtain⟨w,f,ew,rw',sb⟩:=hrb1.get ez;obtain rfl:=sublist_nil.mp sb;rw[getElem?_eq_getElem hj]at ew;cases ew;have rz:Rel T F1 Z.B NoL (upd H1 b (.lst (us.eraseIdx n.toNat))) z us[n.toNat] []:=by
   have hb:b∈fp j:=by rw[hfb];exact mem_cons_self
   refine Rel.tr (λ_ h=>h) (λ_ h=>h) (λ_ h=>h) (λc o e q=>?_) (λ_ z=>(nomatch z)) rw';rw[aJ]
   .exact e
   .rintro rfl;rw[hlb1]at e;cases e;rcases q with q|q|q|q
    .exact(S1.dis j c hb).1 q
    .exact(S1.bOut q).2 j hb
    .exact q
    .exact q
  have hln2:=hr2.length;refine⟨a,ws',us[n.toNat],rfl,rfl,hl2,by rw[<- hln2,sizeLine_eq];lia,?_⟩;obtain rfl:=(fq c2 hr2).1;exact q F1 _ Y _ (S2.mutL (v:=.non) ei2 h1 hf2 (RelL.append hr2 (by exact⟨_,[],[],[],rfl,rz,f_ _ _ _ _,rfl⟩)) nodup_nil (λ_ z=>(nomatch z)) hl2)
end
end
section
open PySem.W (Frag findIn)
abbrev MV:=En->Option (PV×En)
section
variable{X:Cx}{T:Tb}{W:Nat->St->N4}{Z:Zn}{F F1 F3 B L:NV}{H H1 H3:Hp}{Y:St}{env:En}{fp:Nat->NZ}{D:Ends}
def GP(T:Tb)(Z:Zn)(Y:St)(Q:VK):Option (PV×En)->Prop
 |some r=>∀F H fp u f,aC T Z F H Y r.2 fp->Rel T F Z.B NoL H r.1 u f->Orp Z F fp f->Q u H
 |none=>False
def tP(T:Tb)(m:MV):TE:=λY H Q=>∃Z F env fp,aC T Z F H Y env fp/\GP T Z Y Q (m env)
end
end
section
open PySem.W (keepIn Frag)
open PySem.W (fnOf)
section
variable{X:Cx}{T:Tb}{W:Nat->St->N4}{Z:Zn}{F:NV}{H:Hp}{Y:St}{env:En}{fp:Nat->NZ}
def kA:PV->N6
 |.str z=>if z.length<=10000 then .ok (.str z)else .stuck
 |x=>da x
def qi(he:SE X T W e m):SE X T W (.FormattedValue e (-1) none pos) (mUn kA m):=by
 intro NP s Y H Q I ⟨Z,F,env,fp,S,q⟩;unfold mUn at q;have hh:tE T W m Y H λx H1=>(∃i:Int,x=.int i/\i.natAbs.log2<1920/\Q (.str (toString i)) H1)\/ ∃z,x=.str z/\z.length<=sizeLine/\Q (.str z) H1:=by
  walk_at "a";simp at q;cases x with
  |str z=>
   simp only[kA]at q;split at q
   .unfold Rel at r1;obtain⟨rfl,_⟩:=r1;exact .inr ⟨z,rfl,by rw[sizeLine_eq];lia,GE.scal q g1 nH⟩
   .exact q.elim
  |int i=>
   simp only[kA,da]at q;split at q
   .rename_i hi
    obtain⟨rfl,_⟩:=r1;refine .inl ⟨i,rfl,?_,GE.scal q g1 nH⟩;by_cases h0:i.natAbs=0
    .rw[h0];decide
    .exact Nat.lt_trans ((Nat.log2_lt h0).mpr hi) ()
   .exact q.elim
  |_=>exact q.elim
 refine PyProof.Rows.FormattedValue_plain (thn (he NP s Y H _ I hh) λv s1 zz=>?_);obtain⟨x,H1,I1,r1,q1⟩:=zz;rcases q1 with⟨i,rfl,hi,q1⟩ |⟨z,rfl,hz,q1⟩
 .obtain⟨t,rfl⟩:=r1;exact PyProof.Rows.formatField_int_small hi ⟨.str _,H1,I1.tok _,⟨_,rfl⟩,q1⟩
 .obtain⟨t,rfl⟩:=r1;exact PyProof.Rows.formatField_str (λt' tk=>⟨.str _,H1,I1.tok _,⟨_,rfl⟩,q1⟩) hz
def mJ:List ME->Str->ME
 | [],out=>λ_=>.ok (.str out)
 |m::ms,out=>λenv=>(m env).bind λx=>match x with
  |.str y=>if(out++y).length<=10000 then mJ ms (out++y) env else .stuck
  |_=>.stuck
inductive SJ(X:Cx)(T:Tb)(W:Nat->St->N4):List Expr->List ME->Prop
 |nil:SJ X T W [] []
 |cons:SE X T W e m->SJ X T W es ms->SJ X T W (e::es) (m::ms)
theorem SJ.run(h:SJ X T W es ms):∀(out:Str) (NP:NU) (s:Shared) (Y:St) (H:Hp) (Q:VK),out.length<=10000->Inv X NP Y H s->tE T W (mJ ms out) Y H Q->wpAny (model X.prog X.w) X.A (joinParts out (evalEach es X.env)) (EP X NP Y Q) X.xe s:=by
 induction h with
 |nil=>intro out NP s Y H Q ho I ⟨Z,F,env,fp,S,q⟩;exact PyProof.Rows.joinParts_nil ⟨.str _,H,I.tok _,⟨_,rfl⟩,GE.scal q (Gr.refl S.hp.ft) nH⟩ (by rw[sizeLine_eq];lia)
 | @cons e m es ms he _ ih=>
  intro out NP s Y H Q ho I ⟨Z,F,env,fp,S,q⟩;unfold mJ at q;have hh:tE T W m Y H λx H1=>∃y,x=.str y/\(out++y).length<=10000/\tE T W (mJ ms (out++y)) Y H1 Q:=by
   walk_at "a";simp at q;cases x with
   |str z=>
    dsimp only at q;split at q
    .rename_i hz
     refine⟨z,r1.1,hz,tE.bind (S.grow g1) (λc e H' x=>by rw[e]at q;exact q _ (g1.ext.trans x)) (λe=>by rw[e]at q;exact q) λy u H2 F2 f2 e2 g2 r2 n2 d2 w2=>?_⟩;rw[e2]at q;exact q _ _ _ _ (g1.trans g2) r2 n2 d2 λa ha=>by
      have:=w2 a ha;cases h0:H a with
      |none=>rfl
      |some o=>rw[g1.ext a o h0]at this;cases this
    .exact q.elim
   |_=>exact q.elim
  refine PyProof.Rows.joinParts_cons (thn (he NP s Y H _ I hh) λv s1 zz=>?_);obtain⟨x,H1,I1,r1,q1⟩:=zz;obtain⟨y,rfl,hz,q1⟩:=q1;obtain⟨t,rfl⟩:=r1;exact⟨by rw[sizeLine_eq];lia,ih _ NP s1 Y H1 Q hz I1 q1⟩
def uE(h:SJ X T W (a::b::es) ms):SE X T W (.JoinedStr (a::b::es) pos) (mJ ms Str.empty):=λNP s Y H Q I q=>PyProof.Rows.JoinedStr_many (h.run Str.empty NP s Y H Q () I q)
end
section
variable{env e e':En}{v:PV}{i:Nat}{r:Out}
@[simp] def lQ:mC v env=.ok v:=rfl
@[simp] def ck:am env=.ok []:=rfl
@[simp] def bG:ae a m env=(a env).bind λx=>(m env).bind λxs=>.ok (x::xs):=rfl
@[simp] def Le:mUn f a env=(a env).bind f:=rfl
@[simp] def eG:mOp f a b env=(a env).bind λx=>(b env).bind λy=>f x y:=rfl
@[simp] def cV:ao f m env=(m env).bind f:=rfl
@[simp] def lP:dI m env=(m env).bind λxs=>.ok (.lst .own xs):=rfl
@[simp] def ow:gh m env=(m env).bind λxs=>.ok (.tup xs):=rfl
@[simp] def D9:n9 a env=(a env).bind λb=>.ok (!b):=rfl
@[simp] def BI:di a env=(a env).bind qm:=rfl
@[simp] def M_:y2 a c env=(a env).bind (qp c):=rfl
@[simp] def il:cq env=.ok none:=rfl
@[simp] def Mj:bD env=.ok true:=rfl
def Ki:Option (Option PV)->N6
 |some (some v)=>.ok (v.Oe Fl.N7)
 |_=>.stuck
@[simp] def bj(v:PV):Ki (some (some v))=.ok (v.Oe Fl.N7):=rfl
@[simp] def bX:ac i env=Ki env[i]?:=by
 unfold ac;cases env[i]? with
 |none=>rfl
 |some w=>cases w<;>rfl
def pBl:PV->Res Bool
 |.bl b=>.ok b
 |_=>.stuck
@[simp] def MQ(b:Bool):pBl (.bl b)=.ok b:=rfl
@[simp] def kR:aw a env=(a env).bind pBl:=by rfl
def GK(r:N6):PV->N6
 |.bl b=>if b then r else .ok (.bl false)
 |_=>.stuck
@[simp] def L3(r:N6)(b:Bool):GK r (.bl b)=if b then r else .ok (.bl false):=rfl
@[simp] def qJ:jE a b env=(a env).bind (GK (b env)):=by
 unfold jE;congr 1;funext x;cases x with
 |bl b=>cases b<;>rfl
 |_=>rfl
def pOr(r:N6):PV->N6
 |.bl b=>if b then .ok (.bl true)else r
 |_=>.stuck
@[simp] def MP(r:N6)(b:Bool):pOr r (.bl b)=if b then .ok (.bl true)else r:=rfl
@[simp] def BJ:yc a b env=(a env).bind (pOr (b env)):=by
 unfold yc;congr 1;funext x;cases x with
 |bl b=>cases b<;>rfl
 |_=>rfl
@[simp] def Lf:lE f g a b c env=(a env).bind λx=>(b env).bind λy=>(f x y).bind (GK ((c env).bind λz=>g y z)):=by
 unfold lE;congr 1;funext x;congr 1;funext y;congr 1;funext z;cases z with
 |bl b=>cases b<;>rfl
 |_=>rfl
@[simp] def K3(g:Int->Int->PV)(i j:Int):eP g (.int i) (.int j)=.ok (g i j):=rfl
def EJ:PV->Res (N1)
 |.int i=>.ok (some i)
 |_=>.stuck
@[simp] def gZ(i:Int):EJ (.int i)=.ok (some i):=rfl
@[simp] def jy:dZ a env=(a env).bind EJ:=by rfl
def Kk(l h:N1):PV->N6
 |.lst _ xs=>.ok (.lst .own (im xs l h))
 |_=>.stuck
@[simp] def jc(l h:N1)(f:Fl)(xs:N5):Kk l h (.lst f xs)=.ok (.lst .own (im xs l h)):=rfl
@[simp] def ik:dl o lo hi env=(o env).bind λx=>(lo env).bind λl=>(hi env).bind λh=>Kk l h x:=by rfl
def aE(v:PV):N6:=if v.has Fl.Oc then .stuck else .ok v
@[simp] def dM:aG f xs=(f (mapL Fl.N8 xs)).bind aE:=by unfold aG;cases f (mapL Fl.N8 xs)<;>rfl
def jA(disp:Nat->Option (N5->N6))(r:Res (N5)):PV->N6
 |.obj fl c ks vs=>match disp c with
  |some m=>r.bind λxs=>aG m (.obj fl c ks vs::xs)
  |none=>.stuck
 |_=>.stuck
@[simp] def Kj(disp:Nat->Option (N5->N6))(r:Res (N5))(fl:Fl)(c:Nat)(ks:List Nat)(vs:N5):jA disp r (.obj fl c ks vs)=match disp c with
  |some m=>r.bind λxs=>aG m (.obj fl c ks vs::xs)
  |none=>.stuck:=rfl
@[simp] def IK:b7 disp o ms env=(o env).bind (jA disp (ms env)):=by unfold b7;congr 1;funext x;cases x<;>rfl
@[simp] def Ml:gj m env=(m env).bind λx=>match x with
 |.lst f xs=>if !f.Ob&&gz xs then .ok xs else .stuck
 |.tup xs=>if gz xs then .ok xs else .stuck
 |_=>.stuck:=rfl
def wa(x:PV):Res (N5):=match aY x with
 |some xs=>.ok xs
 |none=>.stuck
@[simp] def Js(f:Fl)(xs:N5):wa (.lst f xs)=.ok xs:=rfl
@[simp] def Jr(xs:N5):wa (.tup xs)=.ok xs:=rfl
@[simp] def wJ:bE m env=(m env).bind wa:=rfl
@[simp] def qI:ie a b env=(a env).bind λx=>if x then b env else .ok false:=rfl
@[simp] def M9:iM a b env=(a env).bind λx=>if x then .ok true else b env:=rfl
@[simp] def vp:lD c a b env=(c env).bind λx=>if x then a env else b env:=rfl
@[simp] def IJ:mG c f m env=(m env).bind λxs=>aG f (.obj .own c [] []::xs):=rfl
def af(h1:a env=.next e)(h2:b e=r):aq a b env=r:=by unfold aq;rw[h1];exact h2
def bL(h1:a env=.ret v):aq a b env=.ret v:=by unfold aq;rw[h1]
def d4(h:c env=.ok true)(h2:a env=r):mBr c a b env=r:=by unfold mBr;rw[h];exact h2
def bw(h:c env=.ok false)(h2:b env=r):mBr c a b env=r:=by unfold mBr;rw[h];exact h2
def E3(h:c env=.ok x):mBr c a b env=if x then a env else b env:=by unfold mBr;rw[h];cases x<;>rfl
def ar(h:m env=.ok v)(hl:v.Od=true:=by simp)(ho:aS i env=true:=by rfl):aI i m env=.next (env.set i (some v)):=by unfold aI;rw[h];simp[hl,ho]
def aM(h:m env=.ok v)(hl:v.Od=true:=by simp):aZ m env=.ret v:=by unfold aZ;rw[h];simp[hl]
def f9(h:env[i]?=some (some v)):fM i env=.ret v:=by unfold fM;rw[h]
def fg(h:m env=.ok v):gG m env=.next env:=by unfold gG;rw[h]
def aB:aH env=.next env:=rfl
def fI(h:m env=.ok v)(ho:env[i]?=some (some (.obj .own c ks vs)))(hl:v.Od=true)(hk:ks.contains k=false)(hn:ks.length<900) :
  ib i k m env=.next (env.set i (some (.obj .own c (ks++[k]) (vs++[v])))):=by
 unfold ib;rw[h,ho];simp only[hl,hk];simp[hn]
def eY(h:m env=.ok v)(ho:env[i]?=some (some (.lst .own xs)))(hl:v.Od=true)(hn:xs.length<10000000):dz i m env=.next (env.set i (some (.lst .own (xs++[v])))):=by unfold dz;rw[h,ho];simp[hl,hn]
def rX(h:m env=.ok v)(ho:env[i]?=some (some (.lst .own xs)))(hk:mk env=.ok (.int j))(hj:ixN xs.length j=some n)(hl:v.Od=true) :
  jP i mk m env=.next (env.set i (some (.lst .own (xs.set n v)))):=by
 unfold jP;rw[h,ho,hk];simp[hj,hl]
def cT(h:env[i]?=some (some v)):fv i env=.next (env.set i (some (v.Oe Fl.N9))):=by unfold fv;rw[h]
def az(h:m (args.map some++replicate (n-args.length) none)=.ret v):bf n m args=.ok v:=by unfold bf;rw[h]
def lb(h:m (args.map some++replicate (n-args.length) none)=.next e):bf n m args=.ok .non:=by unfold bf;rw[h]
def ff(h:m (args.map some++replicate (n-args.length) none)=.next e)(ho:e[0]?=some (some v)):jz n m args=.ok v:=by unfold jz;rw[h];simp[ho]
def kM(P:Nat->En->Prop)(h:it env=.ok xs)(h0:P 0 env)
  (step:∀(k:Nat) (x:PV) (e:En),xs[k]?=some x->P k e->∃e1 e2,g x e=some e1/\(body e1=.next e2\/body e1=.cont e2)/\P (k+1) e2):∃e2,dC it g body env=.next e2/\P xs.length e2:=by
 unfold dC;rw[h];have key:∀ (ys pre:N5) (e:En),pre ++ ys=xs->P pre.length e->∃ e2,oR (λx e=>match g x e with
  |some e'=>body e'
  |none=>.stuck) ys e=.next e2/\P xs.length e2:=by
  intro ys
  induction ys with
  |nil=>intro pre e hp hP;simp at hp;subst hp;exact⟨e,rfl,hP⟩
  |cons y ys ih=>
   intro pre e hp hP;obtain⟨e1,e2,h1,h2,h3⟩:=step pre.length y e (by rw[<- hp];simp) hP;obtain⟨e3,h4,h5⟩:=ih (pre++[y]) e2 (by rw[<- hp];simp) (by simpa using h3);refine⟨e3,?_,h5⟩;unfold oR;simp only[h1];rcases h2 with h2|h2<;>rw[h2]<;>exact h4
 exact key xs [] env rfl h0
def mW(P:Nat->En->Prop)(R:Out->Prop)(h:it env=.ok xs)(h0:P 0 env)
  (step:∀(k:Nat) (x:PV) (e:En),xs[k]?=some x->P k e->∃e1,g x e=some e1/\((∃e2,(body e1=.next e2\/body e1=.cont e2)/\P (k+1) e2)\/(∃e2,body e1=.brk e2/\R (.next e2))\/(∃v,body e1=.ret v/\R (.ret v))\/ ∃c e2,body e1=.exc c e2/\R (.exc c e2)))
  (fin:∀e,P xs.length e->R (.next e)):R (dC it g body env):=by
 unfold dC;rw[h];have key:∀ (ys pre:N5) (e:En),pre ++ ys=xs->P pre.length e->R (oR (λx e=>match g x e with
  |some e'=>body e'
  |none=>.stuck) ys e):=by
  intro ys
  induction ys with
  |nil=>intro pre e hp hP;simp at hp;subst hp;exact fin e hP
  |cons y ys ih=>
   intro pre e hp hP;obtain⟨e1,h1,h2⟩:=step pre.length y e (by rw[<- hp];simp) hP;unfold oR;simp only[h1];rcases h2 with⟨e2,h2,h3⟩ |⟨e2,h2,h3⟩ |⟨v,h2,h3⟩ |⟨c,e2,h2,h3⟩
   .have:=ih (pre++[y]) e2 (by rw[<- hp];simp) (by simpa using h3);rcases h2 with h2|h2<;>rw[h2]<;>exact this
   .rw[h2];exact h3
   .rw[h2];exact h3
   .rw[h2];exact h3
 exact key xs [] env rfl h0
def aQ(h:mi env=.ok xs)(hl:xs.length<=10000000)(hc:eQ g mc me (bU caps k env) xs=.ok ys):aV caps k mi g mc me env=.ok (.lst .own ys):=by unfold aV;rw[h];simp only[Res.Og,hl,if_true,hc]
def a6{α:Type}{a:α->PV}{f:α->PV}:∀(xs:List α),(∀x∈xs,∃e1,g (a x).N_ env=some e1/\me e1=.ok (f x)/\(f x).has Fl.Oc=false/\(f x).has Fl.Ob=false)->
  eQ g bD me env (xs.map a)=.ok (xs.map f)
 | [],_=>rfl
 |x::xs,h=>by obtain⟨e1,h1,h2,h3,h4⟩:=h x mem_cons_self;rw[map_cons,eQ,h1];simp only[Res.Og,h2,h3,h4,a6 xs λy hy=>h y (mem_cons_of_mem _ hy)];rfl
def bP{α:Type}{a:α->PV}{f:α->PV}{p:α->Bool}:∀(xs:List α),(∀x∈xs,∃e1,g (a x).N_ env=some e1/\mc e1=.ok (p x)/\(p x=true->me e1=.ok (f x)/\(f x).has Fl.Oc=false/\(f x).has Fl.Ob=false))->
  eQ g mc me env (xs.map a)=.ok ((xs.filter p).map f)
 | [],_=>rfl
 |x::xs,h=>by
  obtain⟨e1,h1,h2,h3⟩:=h x mem_cons_self;have ih:=bP xs λy hy=>h y (mem_cons_of_mem _ hy);rw[map_cons,eQ,h1];cases hp:p x with
  |true=>obtain⟨h4,h5,h6⟩:=h3 hp;simp only[h2,hp,Res.Og,h4,h5,h6,ih];rw[List.filter_cons_of_pos hp];rfl
  |false=>simp only[h2,hp,Res.Og,Bool.false_eq_true,if_false,ih];rw[List.filter_cons_of_neg (by simp[hp])]
end
noncomputable def iL(ns:NW):N5:=ns.map .int
def AZ(ns:NW):ns.map PV.int=iL ns:=rfl
section
variable(ns ms:NW)(g:Fl->Fl)(p:Fl->Bool)
@[simp] def K1:iL []=[]:=rfl
@[simp] def jx(n:Int):iL (n::ns)=.int n::iL ns:=rfl
@[simp] def bR:(iL ns).length=ns.length:=by simp[iL]
@[simp] def K2:iL ns++iL ms=iL (ns++ms):=by simp[iL]
@[simp] def yp(k:Nat):(iL ns).drop k=iL (ns.drop k):=by simp[iL]
@[simp] def JF(k:Nat):(iL ns).take k=iL (ns.take k):=by simp[iL]
@[simp] def AY(k:Nat):(iL ns)[k]?=(ns[k]?).map .int:=by simp[iL]
@[simp] def tq(k:Nat)(n:Int):(iL ns).set k (.int n)=iL (ns.set k n):=by simp[iL,List.map_set]
@[simp] def fV:mapL g (iL ns)=iL ns:=by
 induction ns with
 |nil=>rfl
 |cons n ns ih=>simp[mapL,PV.Oe,ih]
@[simp] def JG:hasL p (iL ns)=false:=by
 induction ns with
 |nil=>rfl
 |cons n ns ih=>simp[hasL,PV.has,ih]
@[simp] def JI:PyData.canLayAll0 (dataL (iL ns))=true:=by
 induction ns with
 |nil=>rfl
 |cons n ns ih=>simp only[jx,dataL,PV.data,PyData.canLayAll0,ih];rfl
@[simp] def JH:PyData.depthAll (dataL (iL ns))=0:=by
 induction ns with
 |nil=>rfl
 |cons n ns ih=>simp only[jx,dataL,PV.data,PyData.depthAll,ih];rfl
@[simp] def kb(i:Int):shp (.int i)=true:=rfl
@[simp] def MK(b:Bool):shp (.bl b)=true:=rfl
@[simp] def LY:shp .non=true:=rfl
@[simp] def J0(f:Fl):shp (.lst f (iL ns))=true:=by simp[shp,SeqAt.shaped,PV.data,PyData.canLay0,PyData.depth]
@[simp] def pj:(iL ns).all shp=true:=by
 induction ns with
 |nil=>rfl
 |cons n ns ih=>simp only[jx,all_cons,kb,ih];rfl
@[simp] def Na(i j:Int):pEq (.int i) (.int j)=.ok (.bl (decide (i=j))):=by unfold pEq;simp only[kb,Bool.and_self,if_true,PV.data,PyData.eqv];congr 2
@[simp] def M0(i j:Int):pNe (.int i) (.int j)=.ok (.bl (!decide (i=j))):=by unfold pNe;simp only[kb,Bool.and_self,if_true,PV.data,PyData.eqv];congr 2
@[simp] def NM(i j:Bool):pEq (.bl i) (.bl j)=.ok (.bl (decide (i=j))):=by cases i<;>cases j<;>rfl
@[simp] def NJ(i j:Bool):pNe (.bl i) (.bl j)=.ok (.bl (!decide (i=j))):=by cases i<;>cases j<;>rfl
@[simp] def lt_int(i j:Int):pLt (.int i) (.int j)=.ok (.bl (decide (i<j))):=rfl
@[simp] def le_int(i j:Int):pLe (.int i) (.int j)=.ok (.bl (decide (i<=j))):=rfl
@[simp] def gt_int(i j:Int):pGt (.int i) (.int j)=.ok (.bl (decide (j<i))):=rfl
@[simp] def ge_int(i j:Int):pGe (.int i) (.int j)=.ok (.bl (decide (j<=i))):=rfl
@[simp] def sA(i j:Int):aP (.int i) (.int j)=.ok (.int (i+j)):=rfl
@[simp] def sub_int(i j:Int):lq (.int i) (.int j)=.ok (.int (i-j)):=rfl
@[simp] def neg_int(i:Int):xU (.int i)=.ok (.int (-i)):=rfl
def cJ(h:0<j):fm (.int i) (.int j)=.ok (.int (i%j)):=by simp[fm,fF,h]
def jT(h:0<j)(h2:j<1073741824):iV (.int i) (.int j)=.ok (.int (i / j)):=by simp[iV,fF,h,h2]
def fH(h:(-(2 ^ 64)<i/\i<2 ^ 64)\/(-(2 ^ 64)<j/\j<2 ^ 64)):dG (.int i) (.int j)=.ok (.int (i*j)):=by unfold dG fF;dsimp only;rw[if_pos (by simpa using h)]
theorem zG(h0:0<=j)(h1:j<=1000000)(h2:i.natAbs<2 ^ 64):oO (.int i) (.int j)=.ok (.int (i ^ j.toNat)):=by unfold oO fF;dsimp only;rw[if_pos ()]
@[simp] def NH:oO (.int 10) (.int 60)=.ok (.int (10 ^ 60)):=zG () () ()
@[simp] def L8(f:Fl)(xs:N5):cG (.lst f xs)=.ok (.int xs.length):=rfl
@[simp] def L7(xs:N5):cG (.tup xs)=.ok (.int xs.length):=rfl
@[simp] def KS(f:Fl)(xs:N5):nS (.lst f xs)=.ok (.lst .own xs):=rfl
@[simp] def MR(f:PV->N6)(x:PV):p1 f [x]=f x:=by simp only[p1]
@[simp] def Mb(c:String)(i:Int):qp c (.int i)=.ok (.bl (oQ "int" c)):=rfl
@[simp] def M4(c:String)(i:Bool):qp c (.bl i)=.ok (.bl (oQ "bool" c)):=rfl
@[simp] def L_(c:String):qp c .non=.ok (.bl (oQ "NoneType" c)):=rfl
@[simp] def Ma(c:String)(f:Fl)(xs:N5):qp c (.lst f xs)=.ok (.bl (oQ "list" c)):=rfl
@[simp] def L9(c:String)(xs:N5):qp c (.tup xs)=.ok (.bl (oQ "tuple" c)):=rfl
@[simp] def JO(b:Bool):qm (.bl b)=.ok b:=rfl
@[simp] def Jo(i:Int):qm (.int i)=.ok (i != 0):=rfl
@[simp] def h_(i:Int):(PV.int i).Oe g=.int i:=by simp[PV.Oe]
@[simp] def L6(b:Bool):(PV.bl b).Oe g=.bl b:=by simp[PV.Oe]
@[simp] def KO:PV.non.Oe g=.non:=by simp[PV.Oe]
@[simp] def fu(x:Str):(PV.str x).Oe g=.str x:=by simp[PV.Oe]
@[simp] def KP(x:Nat):(PV.exc x).Oe g=.exc x:=by simp[PV.Oe]
@[simp] def bC(f:Fl)(xs:N5):(PV.lst f xs).Oe g=.lst (g f) (mapL g xs):=by simp[PV.Oe]
@[simp] def sU(xs:N5):(PV.tup xs).Oe g=.tup (mapL g xs):=by simp[PV.Oe]
@[simp] def KN(f:Fl)(c:Nat)(ks:List Nat)(xs:N5):(PV.obj f c ks xs).Oe g=.obj (g f) c ks (mapL g xs):=by simp[PV.Oe]
@[simp] def dh:mapL g []=[]:=by simp[mapL]
@[simp] def bM(x:PV)(xs:N5):mapL g (x::xs)=x.Oe g::mapL g xs:=by simp[mapL]
@[simp] def Mh(i:Int):(PV.int i).has p=false:=by simp[PV.has]
@[simp] def M5(b:Bool):(PV.bl b).has p=false:=by simp[PV.has]
@[simp] def Mg:PV.non.has p=false:=by simp[PV.has]
@[simp] def DV(x:Str):(PV.str x).has p=false:=by simp[PV.has]
@[simp] def Mi(x:Nat):(PV.exc x).has p=false:=by simp[PV.has]
@[simp] def wq(f:Fl)(xs:N5):(PV.lst f xs).has p=(p f||hasL p xs):=by simp[PV.has]
@[simp] def Me(xs:N5):(PV.tup xs).has p=hasL p xs:=by simp[PV.has]
@[simp] def Mf(f:Fl)(c:Nat)(ks:List Nat)(xs:N5):(PV.obj f c ks xs).has p=(p f||hasL p xs):=by simp[PV.has]
@[simp] def K8:hasL p []=false:=by simp[hasL]
@[simp] def pN(x:PV)(xs:N5):hasL p (x::xs)=(x.has p||hasL p xs):=by simp[hasL]
@[simp] def Ag(x:PV):x.Od=!x.has Fl.Ob:=rfl
@[simp] def JJ(x:PV):x.N_=x.Oe Fl.N_:=rfl
@[simp] def s_:Fl.own.N7=.lnt:=rfl
@[simp] def fw:Fl.frz.N7=.frz:=rfl
@[simp] def KW:Fl.bor.N7=.bor:=rfl
@[simp] def KU:Fl.lnt.N7=.lnt:=rfl
@[simp] def o3:Fl.own.N8=.own:=rfl
@[simp] def jv:Fl.frz.N8=.frz:=rfl
@[simp] def Jq:Fl.bor.N8=.bor:=rfl
@[simp] def Jp:Fl.lnt.N8=.bor:=rfl
@[simp] def E4:Fl.own.N_=.bor:=rfl
@[simp] def IV:Fl.frz.N_=.frz:=rfl
@[simp] def IW:Fl.bor.N_=.bor:=rfl
@[simp] def IU:Fl.lnt.N_=.bor:=rfl
@[simp] def Jt:Fl.own.Oa=true:=rfl
@[simp] def Jv:Fl.frz.Oa=false:=rfl
@[simp] def Jw:Fl.bor.Oa=false:=rfl
@[simp] def Ju:Fl.lnt.Oa=false:=rfl
@[simp] def Jx:Fl.own.Ob=false:=rfl
@[simp] def Jz:Fl.frz.Ob=false:=rfl
@[simp] def JA:Fl.bor.Ob=false:=rfl
@[simp] def Jy:Fl.lnt.Ob=true:=rfl
@[simp] def JB:Fl.own.Oc=false:=rfl
@[simp] def JD:Fl.frz.Oc=false:=rfl
@[simp] def JE:Fl.bor.Oc=true:=rfl
@[simp] def JC:Fl.lnt.Oc=false:=rfl
@[simp] def jS:Fl.own.N9=.frz:=rfl
@[simp] def Io:Fl.frz.N9=.frz:=rfl
@[simp] def Ip:Fl.bor.N9=.bor:=rfl
@[simp] def Im:Fl.lnt.N9=.lnt:=rfl
theorem kK(h0:0<=i)(h:ns[i.toNat]?=some n):av (.lst f (iL ns)) (.int i)=.ok (.int n):=by have hl:i.toNat<ns.length:=(List.getElem?_eq_some_iff.mp h).1;unfold av;simp only[aY,atI,ixN,bR,h0,if_true];rw[if_pos ()];simp[h]
end
section
variable{env:En}{r:Out}
def lW(o:Out)(Q:En->Prop):Prop:=∃e,(o=.next e\/o=.cont e)/\Q e
def bh(h1:a env=.next e)(h2:lW (b e) Q):lW (aq a b env) Q:=by obtain⟨e2,h3,h4⟩:=h2;refine⟨e2,?_,h4⟩;unfold aq;rw[h1];exact h3
def bN(h1:o=.next e)(h2:Q e):lW o Q:=⟨e,.inl h1,h2⟩
def lN(P:Nat->En->Prop)(h:it env=.ok xs)(h0:P 0 env)
  (step:∀(k:Nat) (x:PV) (e:En),xs[k]?=some x->P k e->∃e1,g x e=some e1/\lW (body e1) (P (k+1))) (fin:∀e,P xs.length e->Q e):lW (dC it g body env) Q:=by
 obtain⟨e2,h1,h2⟩:=kM P h h0 λk x e h1 h2=>by obtain⟨e1,h3,e2,h4,h5⟩:=step k x e h1 h2;exact⟨e1,e2,h3,h4,h5⟩
 exact⟨e2,.inl h1,fin e2 h2⟩
def iA{it:MI}{g:TgM}{body bF:MS}{xs:N5}(P:Nat->En->Prop)(h:it env=.ok xs)(h0:P 0 env)
  (step:∀(k:Nat) (x:PV) (e:En),xs[k]?=some x->P k e->∃e1,g x e=some e1/\lW (body e1) (P (k+1))) (fin:∀e,P xs.length e->bF e=r):aq (dC it g body) bF env=r:=by
 obtain⟨e2,h1,h2⟩:=kM P h h0 λk x e h1 h2=>by obtain⟨e1,h3,e2,h4,h5⟩:=step k x e h1 h2;exact⟨e1,e2,h3,h4,h5⟩
 exact af h1 (fin e2 h2)
theorem vh(h:-1000000<=i/\i<=1000000):inR i=true:=by
 have e:(2:Int) ^ 62=4611686018427387904:=by decide
 unfold inR
 lia
def CS(hi:inR n=true)(h:ms env=.ok [.int n]):b9 ms env=.ok (eT 0 n.toNat):=by unfold b9;rw[h,Res.Og];dsimp only;rw[if_pos hi]
def zo{n:Nat}(hi:inR (n:Int)=true)(h:ms env=.ok [.int n]):b9 ms env=.ok (eT 0 n):=by have:=CS hi h;exact this
theorem HN{n:Nat}(hn:n<=1000000):-1000000 <=(n:Int)/\(n:Int)<= 1000000:=by lia
def bV{n:Nat}(h:ms env=.ok [.int n])(hn:n<=1000000):b9 ms env=.ok (eT 0 n):=zo (vh (HN hn)) h
def CQ(hh:(inR lo&&inR hi)=true)(h:ms env=.ok [.int lo,.int hi]):pI ms env=.ok (eT lo (hi-lo).toNat):=by unfold pI;rw[h,Res.Og];dsimp only;rw[if_pos hh]
def CP(h:ms env=.ok [.int lo,.int hi])(hl:-1000000<=lo/\lo<=1000000)(hh:-1000000<=hi/\hi<=1000000):pI ms env=.ok (eT lo (hi-lo).toNat):=
 CQ (by rw[vh hl,vh hh];rfl) h
def bz(lo:Int)(n:Nat):(eT lo n).length=n:=by simp[eT]
def eA(h:(eT lo n)[k]?=some x):k<n/\x=.int (lo+k):=by
 have hk:k<n:=by
  have:=(List.getElem?_eq_some_iff.mp h).1
  rwa [bz]at this
 refine⟨hk,?_⟩;simp[eT,hk]at h;exact h.symm
def qE{ns:NW}{k:Nat}{x:PV}(h:(iL ns)[k]?=some x):∃n,ns[k]?=some n/\x=.int n:=by simp at h;obtain⟨n,h1,h2⟩:=h;exact⟨n,h1,h2.symm⟩
def cX(h:aS i e=true):tgN i v e=some (e.set i (some v)):=by simp[tgN,h]
end
theorem IR(ns:NW)(lo hi:Nat){l h:Int}(hl:l=lo)(hh:h=hi):im (iL ns) (some l) (some h)=iL ((ns.take hi).drop lo):=by
 subst hl hh;unfold im;rw[HT.sIx_nat,HT.sIx_nat];simp;congr 1;rw[List.drop_take];rcases Nat.le_total lo ns.length with h1|h1
 .rw[Nat.min_eq_left h1];rcases Nat.le_total hi ns.length with h2|h2
  .lia
  .rw[Nat.min_eq_right h2,take_of_length_le (),take_of_length_le (by simp;lia)]
 .simp_all
theorem gY(hf:f≠.mod)(hg:g≠.mod)(h:xs.length+ys.length<=10000000):aP (.lst f xs) (.lst g ys)=.ok (.lst .own (xs++ys)):=by
 unfold aP
 grind
theorem qB(h:k<n):ixN n (k:Int)=some k:=by unfold ixN;rw[if_pos (),if_pos (),Int.toNat_natCast]
@[simp] def lJ(ns:NW):bK (iL ns)=some ns:=by
 induction ns with
 |nil=>rfl
 |cons n ns ih=>simp[bK,ih]
def pK(h:ns.length<=1000):jw (.lst f (iL ns))=.ok (.int (pT ns)):=by unfold jw;simp only[lJ];rw[if_pos (by simpa using h)]
def wO:∀(l acc:NW),(acc++l).Nodup->l.foldl step_dedup acc=acc++l
 | [],acc,_=>by simp
 |x::l,acc,h=>by
  have h':((acc++[x])++ l).Nodup:=by simpa using h
  rw[List.foldl_cons];have hx:x∉acc:=λhm=>by rw[nodup_append]at h;exact h.2.2 x hm x mem_cons_self rfl
  have:step_dedup acc x=acc++[x]:=by unfold step_dedup;simpa using hx
  rw[this,wO l _ h'];simp
def Ef(ns:NW):(range ns.length).map (λi=>ns.getD i 0)=ns:=by
 apply List.ext_getElem?;intro i;by_cases h:i<ns.length
 .simp[h]
 .simp[h]
def t8(h:ns.Nodup):pT ns=ns.length:=by unfold pT firstMet;rw[Ef,wO ns [] (by simpa using h)];rfl
def wp(i:Int)(ns:NW):inL (.int i) (iL ns)=ns.contains i:=by
 induction ns with
 |nil=>rfl
 |cons n ns ih=>have e:inL (.int i) (iL (n::ns))=(PyData.eqv (PV.int n).data (PV.int i).data||inL (.int i) (iL ns)):=rfl;rw[e,ih,List.contains_cons];congr 1;exact Bool.beq_comm
@[simp] def NL(i:Int)(ns:NW)(f:Fl):pIn (.int i) (.lst f (iL ns))=.ok (.bl (ns.contains i)):=by unfold pIn;simp only[aY,kb,pj,Bool.and_self,if_true,wp]
@[simp] def KH(i:Int)(ns:NW)(f:Fl):eB (.int i) (.lst f (iL ns))=.ok (.bl (!ns.contains i)):=by unfold eB;simp only[aY,kb,pj,Bool.and_self,if_true,wp]
def Ends(o:Out):Prop:=∃e,o=.next e
section
variable{env e:En}
def fU(h:Ends (m (args.map some++replicate (n-args.length) none))):bf n m args=.ok .non:=by obtain⟨e,h⟩:=h;exact lb h
def dL(h1:a env=.next e)(h2:Ends (b e)):Ends (aq a b env):=by obtain⟨e2,h2⟩:=h2;exact⟨e2,af h1 h2⟩
def yA(h:o=.next e):Ends o:=⟨e,h⟩
def BM{it:MI}{g:TgM}{body bF:MS}{xs:N5}(P:Nat->En->Prop)(h:it env=.ok xs)(h0:P 0 env)
  (step:∀(k:Nat) (x:PV) (e:En),xs[k]?=some x->P k e->∃e1,g x e=some e1/\lW (body e1) (P (k+1))) (fin:∀e,P xs.length e->Ends (bF e)):Ends (aq (dC it g body) bF env):=by
 obtain⟨e2,h1,h2⟩:=kM P h h0 λk x e h1 h2=>by obtain⟨e1,h3,e2,h4,h5⟩:=step k x e h1 h2;exact⟨e1,e2,h3,h4,h5⟩
 exact dL h1 (fin e2 h2)
end
def et(h:m env=.ok (.lst f xs))(hf:f.Ob=false)(h1:hasL Fl.Oa xs=false)(h2:hasL Fl.Ob xs=false):gj m env=.ok xs:=by unfold gj;rw[h];simp[hf,gz,h1,h2]
end
end PR
namespace PR
section
variable{n r s k o:Nat}{adj:Nat->Nat->Prop}{far:NW}
noncomputable def gt(far:NW)(i:Nat):Int:=far.getD i 0
theorem eX(x:Int)(h:o<far.length)(i:Nat):gt (far.set o x) i=if i=o then x else gt far i:=by
 simp only[gt,getD_eq_getElem?_getD,List.getElem?_set];by_cases e:o=i
 .subst e;simp[h]
 .lia
structure Far(n r:Nat)(adj:Nat->Nat->Prop)(s k:Nat)(d:Nat->Prop)(far:NW):Prop where
 len:far.length=n
 rt:gt far r=0
 rng:∀i<n,0<=gt far i/\(gt far i<=s+1\/gt far i=n)
 top:∀i<n,gt far i<=n
 up:∀i<n,∀j<n,gt far i<s->adj i j->gt far j<=gt far i+1
 upk:∀i<k,∀j<n,gt far i=s->adj i j->gt far j<=s+1
 upd:∀j<n,d j->gt far j<=s+1
 dn:∀i<n,i≠r->gt far i<n->1<=gt far i/\∃j<n,adj i j/\gt far j=gt far i-1
theorem Far.start(hr:r<n)(h:∀i<n,gt far i=if i=r then 0 else(n:Int))(hl:far.length=n):Far n r adj 0 0 (λ_=>False) far where
 len:=hl
 rt:=by simp_all
 rng:=λi hi=>by rw[h i hi];split<;>lia
 top:=λi hi=>by rw[h i hi];split<;>lia
 up:=λi hi j _ hv _=>by have:=h i hi;split at this<;>lia
 upk:=λi hi=>absurd hi (Nat.not_lt_zero _)
 upd:=λ_ _ z=>z.elim
 dn:=λi hi hn hv=>by simp_all
theorem Far.skip(F:Far n r adj s k (λ_=>False) far)(hk:gt far k≠s):Far n r adj s (k+1) (λ_=>False) far where
 len:=F.len
 rt:=F.rt
 rng:=F.rng
 top:=F.top
 up:=F.up
 upk:=λi hi j hj e a=>by
  rcases Nat.lt_or_ge i k with h|h
  .exact F.upk i h j hj e a
  .have:i=k:=by lia
   subst this;exact absurd e hk
 upd:=F.upd
 dn:=F.dn
def Far.close(F:Far n r adj s k d far)(hd:∀j,j<n->adj k j->d j):Far n r adj s (k+1) (λ_=>False) far where
 len:=F.len
 rt:=F.rt
 rng:=F.rng
 top:=F.top
 up:=F.up
 upk:=λi hi j hj e a=>by
  rcases Nat.lt_or_ge i k with h|h
  .exact F.upk i h j hj e a
  .have:i=k:=by lia
   subst this;exact F.upd j hj (hd j hj a)
 upd:=λ_ _ z=>z.elim
 dn:=F.dn
def Far.none(F:Far n r adj s k (λ_=>False) far)(hd:∀j,¬d j):Far n r adj s k d far where
 len:=F.len
 rt:=F.rt
 rng:=F.rng
 top:=F.top
 up:=F.up
 upk:=F.upk
 upd:=λj _ z=>absurd z (hd j)
 dn:=F.dn
theorem Far.relax(F:Far n r adj s k d far)(hk:k<n)(ek:gt far k=s)(ho:o<n)(a:adj o k)(hs:s<n) :
  Far n r adj s k (λj=>d j\/j=o) (far.set o (min (gt far o) (s+1)))/\gt (far.set o (min (gt far o) (s+1))) k=s:=by
 have hol:o<far.length:=by rw[F.len];exact ho
 have g:=eX (min (gt far o) ((s:Int)+1)) hol;by_cases hw:gt far o<=s+1
 .have e:∀i,gt (far.set o (min (gt far o) ((s:Int)+1))) i=gt far i:=λi=>by
   rw[g i];split
   .lia
   .rfl
  refine⟨⟨by rw[length_set];exact F.len,by rw[e];exact F.rt,λi hi=>by rw[e];exact F.rng i hi,λi hi=>by rw[e];exact F.top i hi,λi hi j hj=>by rw[e,e];exact F.up i hi j hj,λi hi j hj=>by rw[e,e];exact F.upk i hi j hj,λj hj z=>?_,λi hi hn=>?_⟩,by rw[e];exact ek⟩
  .rw[e];rcases z with z|z
   .exact F.upd j hj z
   .subst z;exact hw
  .rw[e];intro hv;obtain⟨h1,j,hj,aj,ej⟩:=F.dn i hi hn hv;exact⟨h1,j,hj,aj,by rw[e];exact ej⟩
 .have hn:gt far o=n:=by have:=(F.rng o ho).2;lia
  have hm:min (gt far o) ((s:Int)+1)=s+1:=by lia
  rw[hm]at g ⊢;have ko:k≠o:=λz=>by lia
  have ro:r≠o:=λz=>by have:=F.rt;lia
  have le:∀i,gt (far.set o ((s:Int)+1)) i<=gt far i:=λi=>by
   rw[g i];split
   .lia
   .exact Int.le_refl _
  have ne:∀i,i≠o->gt (far.set o ((s:Int)+1)) i=gt far i:=λi z=>by simp_all
  have eo:gt (far.set o ((s:Int)+1)) o=s+1:=by simp_all
  refine⟨⟨by rw[length_set];exact F.len,by rw[ne r ro];exact F.rt,λi hi=>?_,λi hi=>Int.le_trans (le i) (F.top i hi),λi hi j hj hv aj=>?_,λi hi j hj hv aj=>?_,λj hj z=>?_,λi hi hn' hv=>?_⟩,by rw[ne k ko];exact ek⟩
  .by_cases z:i=o
   .subst z;rw[eo];lia
   .rw[ne i z];exact F.rng i hi
  .have z:i≠o:=λz=>by subst z;rw[eo]at hv;lia
   rw[ne i z]at hv ⊢;exact Int.le_trans (le j) (F.up i hi j hj hv aj)
  .have z:i≠o:=λz=>by subst z;rw[eo]at hv;lia
   rw[ne i z]at hv;exact Int.le_trans (le j) (F.upk i hi j hj hv aj)
  .rcases z with z|z
   .exact Int.le_trans (le j) (F.upd j hj z)
   .lia
  .by_cases z:i=o
   .subst z;exact⟨by lia,k,hk,a,by rw[ne k ko];lia⟩
   .rw[ne i z]at hv ⊢;obtain⟨h1,j,hj,aj,ej⟩:=F.dn i hi hn' hv;refine⟨h1,j,hj,aj,?_⟩;rw[ne j λq=>by lia];exact ej
theorem Far.next(F:Far n r adj s n (λ_=>False) far):Far n r adj (s+1) 0 (λ_=>False) far where
 len:=F.len
 rt:=F.rt
 rng:=λi hi=>by have:=F.rng i hi;lia
 top:=F.top
 up:=λi hi j hj hv a=>by
  by_cases h:gt far i<s
  .exact F.up i hi j hj h a
  .have e:gt far i=s:=by lia
   have:=F.upk i hi j hj e a
   lia
 upk:=λi hi=>absurd hi (Nat.not_lt_zero _)
 upd:=λ_ _ z=>z.elim
 dn:=F.dn
structure vB(n r:Nat)(adj:Nat->Nat->Prop)(far:NW):Prop where
 len:far.length=n
 rt:gt far r=0
 rng:∀i<n,0<=gt far i/\gt far i<=n
 up:∀i<n,∀j<n,adj i j->gt far j<=gt far i+1
 dn:∀i<n,i≠r->gt far i<n->1<=gt far i/\∃j<n,adj i j/\gt far j=gt far i-1
theorem Far.dist(F:Far n r adj n 0 (λ_=>False) far):vB n r adj far where
 len:=F.len
 rt:=F.rt
 rng:=λi hi=>⟨(F.rng i hi).1,F.top i hi⟩
 up:=λi hi j hj a=>by
  by_cases h:gt far i<n
  .exact F.up i hi j hj h a
  .have:=F.top j hj;lia
 dn:=F.dn
theorem sK:∀{l l':NW},l.Nodup->(∀x∈l,x∈l')->l.length<=l'.length
 | [],_,_,_=>zero_le _
 |x::l,l',nd,sub=>by
  obtain⟨h1,h2⟩:=nodup_cons.mp nd;have hx:=sub x mem_cons_self;have:=sK (l':=l'.erase x) h2 (by grind);rw[List.length_erase_of_mem hx]at this;have:=List.length_pos_of_mem hx;rw[length_cons]
  lia
theorem vB.below(D:vB n r adj far)(hr:r<n):∀(m:Nat),(∃i<n,gt far i=m)->m<n->∀v,v<=m->∃i<n,gt far i=v
 |0,h,_,v,hv=>by simp_all
 |m+1,⟨i,hi,e⟩,hm,v,hv=>by
  rcases Nat.lt_or_ge v (m+1)with h|h
  .have hir:i≠r:=λz=>by subst z;have:=D.rt;lia
   obtain⟨_,j,hj,_,ej⟩:=D.dn i hi hir ();exact D.below hr m ⟨j,hj,by lia⟩ () v ()
  .have:v=m+1:=by lia
   subst this;exact⟨i,hi,e⟩
def dw(h:i<far.length):gt far i∈far:=by simp[gt,h]
theorem vB.all(D:vB n r adj far)(hr:r<n)(conn:∀S:Nat->Prop,S r->(∀i<n,∀j<n,adj i j->S i->S j)->∀i<n,S i):∀i<n,gt far i<n:=by
 refine conn (λi=>gt far i<n) (by rw[D.rt];lia) λi hi j hj a hv=>?_;rcases Int.lt_or_le (gt far j) n with h|h
 .exact h
 exfalso;have h1:=D.up i hi j hj a;have e:gt far i=((n-1:Nat):Int):=by lia
 have all:∀v:Nat,v<n+1->(v:Int)∈ far:=λv hv=>by
  rcases Nat.lt_or_ge v n with h|h
  .obtain⟨x,hx,ex⟩:=D.below hr (n-1) ⟨i,hi,e⟩ () v ();rw[<- ex];exact dw (by rw[D.len];exact hx)
  .have:(v:Int)=gt far j:=by lia
   rw[this];exact dw (by rw[D.len];exact hj)
 have:=sK (l:=(range (n+1)).map λk:Nat=>(k:Int)) (l':=far) (Pairwise.map _ (λa b h z=>h ()) nodup_range) (by grind);rw[length_map,List.length_range,D.len]at this
 lia
end
end PR
namespace PR
open PySem PySem.Spec L2
def prL(ps:NT):N5:=ps.map prV
section
variable{ps qs:NT}{x:Int×Int}{f:Fl}{g:Fl->Fl}{p:Fl->Bool}
@[simp] def L1:prL []=[]:=rfl
@[simp] def zF:prL (x::ps)=prV x::prL ps:=rfl
@[simp] def kr:(prL ps).length=ps.length:=by simp[prL]
@[simp] def C4:prL ps++prL qs=prL (ps++qs):=by simp[prL]
@[simp] def C3(k:Nat):(prL ps)[k]?=(ps[k]?).map prV:=by simp[prL]
@[simp] def LZ:PV.Oe g (prV x)=prV x:=rfl
@[simp] def L0:(prV x).has p=false:=rfl
@[simp] def KM:mapL g (prL ps)=prL ps:=by
 induction ps with
 |nil=>rfl
 |cons n ns ih=>simp[mapL,ih]
@[simp] def K7:hasL p (prL ps)=false:=by
 induction ps with
 |nil=>rfl
 |cons n ns ih=>simp[hasL,ih]
@[simp] def uC:shp (prV x)=true:=rfl
@[simp] def rV:(prL ps).all shp=true:=by
 induction ps with
 |nil=>rfl
 |cons n ns ih=>simp only[zF,all_cons,uC,ih];rfl
def IN(x y:Int×Int):PyData.eqv (prV x).data (prV y).data=decide (x=y):=by obtain⟨a,b⟩:=x;obtain⟨c,d⟩:=y;simp only[prV,PV.data,dataL,PyData.eqv,PyData.eqvAll];by_cases h1:a=c<;>by_cases h2:b=d<;>simp[h1,h2]
theorem A3:inL (prV x) (prL ps)=ps.contains x:=by
 induction ps with
 |nil=>rfl
 |cons n ns ih=>
  have e:inL (prV x) (prL (n::ns))=(PyData.eqv (prV n).data (prV x).data||inL (prV x) (prL ns)):=rfl;rw[e,ih,List.contains_cons,IN];congr 1;by_cases h:n=x
  .subst h;simp
  .lia
@[simp] def NK:pIn (prV x) (.lst f (prL ps))=.ok (.bl (ps.contains x)):=by unfold pIn;simp only[aY,uC,rV,Bool.and_self,if_true,A3]
@[simp] def KG:eB (prV x) (.lst f (prL ps))=.ok (.bl (!ps.contains x)):=by unfold eB;simp only[aY,uC,rV,Bool.and_self,if_true,A3]
@[simp] def Md:av (prV x) (.int 0)=.ok (.int x.1):=rfl
@[simp] def Mc:av (prV x) (.int 1)=.ok (.int x.2):=rfl
def yV(a b:Int):PV.tup [.int a,.int b]=prV (a,b):=rfl
@[simp] def M1:g7 hV (prV x)=.ok (.int (min x.1 x.2)):=rfl
@[simp] def M2:g7 jO (prV x)=.ok (.int (max x.1 x.2)):=rfl
@[simp] def uP:jb (prL ps)=some ps:=by
 induction ps with
 |nil=>rfl
 |cons n ns ih=>have:nR (prV n)=some n:=rfl;simp[jb,ih,this]
def xp(ns:NW)(h:ns.length<64):fP (.lst f (iL ns))=.ok (.lst .own (iL (ka ns))):=by simp[fP,h];rfl
def uw(h:ps.length<64)(hd:ps.Nodup):fP (.lst f (prL ps))=.ok (.lst .own (prL (cU ps))):=by
 cases ps with
 |nil=>rfl
 |cons n ns=>have e:bK (prL (n::ns))=none:=rfl;simp only[fP,e,uP,kr];rw[if_pos (decide_eq_true h),if_pos (decide_eq_true hd)];rfl
def kn{α:Type}{n:Nat}{y z:α}{l:List α}:z∈jC n y l↔z=y\/z∈l:=by
 unfold jC;rw[mem_append,mem_cons];constructor
 .rintro(h|h|h)
  .exact .inr (List.mem_of_mem_take h)
  .exact .inl h
  .exact .inr (List.mem_of_mem_drop h)
 .rintro(h|h)
  .exact .inr (.inl h)
  .rw[<- List.take_append_drop n l]at h;rcases mem_append.mp h with h|h
   .exact .inl h
   .exact .inr (.inr h)
def km{α:Type}(n:Nat)(y:α)(l:List α):(jC n y l).Perm (y::l):=by refine List.perm_middle.trans ?_;rw[List.take_append_drop]
end
def cC{x:PV}{xs:N5}{k:Nat}{y:PV}(hs:aY x=some xs)(h:xs[k]?=some y)(ho:y.has Fl.Oa=false):av x (.int k)=.ok y:=by have hl:k<xs.length:=(List.getElem?_eq_some_iff.mp h).1;unfold av;simp only[hs,atI];rw[qB hl];simp[h,ho]
def nbL(ps:NT)(at_:Int):NW:=ka ((ps.filter λx=>decide (x.2=at_)).map (·.1)++(ps.filter λx=>decide (x.1=at_)).map (·.2))
theorem qv{ps:NT}{a o:Int}:o∈nbL ps a ↔(o,a)∈ ps \/(a,o)∈ ps:=by
 unfold nbL;rw[(fY _).mem_iff,mem_append];simp only[mem_map,mem_filter,decide_eq_true_eq];constructor
 .lia
 .simp
noncomputable def mm(w:Int×Int):Int×Int:=(min w.1 w.2,max w.1 w.2)
structure Jk(n:Nat)(ws:NT):Prop where
 rg:∀w∈ws,0<=w.1/\w.1<n/\0<=w.2/\w.2<n/\w.1≠w.2
 nd:(ws.map mm).Nodup
 sz:ws.length<64
end PR
namespace PR
theorem EV{w u:Int×Int}(h:mm w=mm u):w=u\/w=(u.2,u.1):=by
 obtain⟨a,b⟩:=w;obtain⟨c,d⟩:=u;simp only[mm]at h ⊢
 lia
theorem we{w u:Int×Int}(h:mm w=mm u):(w.1=u.1/\w.2=u.2)\/(w.1=u.2/\w.2=u.1):=by
 rcases EV h with rfl|rfl
 .lia
 .lia
structure Tree(n:Nat)(od:NW)(k:Nat)(ws:NT):Prop where
 rg:∀w∈ws,w.1∈od.take k/\w.2∈od.take k/\w.1≠w.2
 nd:(ws.map mm).Nodup
 ln:ws.length+1=k
 cn:∀S:Int->Prop,(∀w∈ws,(S w.1↔S w.2))->∀a∈od.take k,(S a↔S (od.getD 0 0))
theorem Tree.start{n:Nat}{od:NW}(h:od.length=n)(hn:1<=n):Tree n od 1 [] where
 rg:=λw hw=>by cases hw
 nd:=.nil
 ln:=rfl
 cn:=λS _ a ha=>by
  cases od with
  |nil=>simp at h;lia
  |cons x l=>
   have:a=x:=by simpa using ha
   subst this;simp
theorem Tree.more{n:Nat}{od:NW}{k j:Nat}{ws:NT}{w:Int×Int}{p:Nat}(T:Tree n od k ws)(hod:od.Nodup)(hk:k<od.length)(hj:j<k)(hw:w=(od.getD k 0,od.getD j 0)\/ w=(od.getD j 0,od.getD k 0)):Tree n od (k+1) (jC p w ws):=by
 have hjl:j<od.length:=by lia
 have e1:od.getD k 0=od[k]:=by simp[hk]
 have e2:od.getD j 0=od[j]:=by simp[hjl]
 rw[e1,e2]at hw;have tk:od.take (k+1)=od.take k++[od[k]]:=by simp
 have mj:od[j]∈ od.take k:=List.mem_take_iff_getElem.mpr ⟨j,by lia,rfl⟩;have nk:od[k]∉ od.take k:=λz=>by
  obtain⟨i,hi,e⟩:=List.mem_take_iff_getElem.mp z;have:=(getElem_inj hod).mp e
  lia
 have mem:∀u∈jC p w ws,u=w\/u∈ws:=λu hu=>kn.mp hu;refine⟨λu hu=>?_,?_,?_,λS hS a ha=>?_⟩
 .rcases mem u hu with rfl|hu
  .grind
  .obtain⟨h1,h2,h3⟩:=T.rg u hu;rw[tk];exact⟨mem_append_left _ h1,mem_append_left _ h2,h3⟩
 .have:((jC p w ws).map mm).Perm (mm w::ws.map mm):=(km p w ws).map mm;refine this.symm.nodup (nodup_cons.mpr ⟨λz=>?_,T.nd⟩);obtain⟨u,hu,e⟩:=mem_map.mp z;obtain⟨h1,h2,_⟩:=T.rg u hu;rcases hw with rfl|rfl
  .rcases we e with⟨q1,q2⟩ |⟨q1,q2⟩
   .lia
   .lia
  .rcases we e with⟨q1,q2⟩ |⟨q1,q2⟩
   .lia
   .lia
 .rw[(km p w ws).length_eq,length_cons,T.ln]
 .have hw':=hS w (kn.mpr (.inl rfl));have cn:=T.cn S λu hu=>hS u (kn.mpr (.inr hu))
  grind
structure gw(n m:Nat)(ws:NT):Prop where
 rg:∀w∈ws,0<=w.1/\w.1<n/\0<=w.2/\w.2<n/\w.1≠w.2
 nd:(ws.map mm).Nodup
 ln:ws.length<=m
 cn:∀S:Int->Prop,(∀w∈ws,(S w.1↔S w.2))->∀i j:Nat,i<n->j<n->S i->S j
theorem Tree.whole{n:Nat}{od:NW}{ws:NT}(T:Tree n od n ws)(hp:od.Perm ((range n).map λk:Nat=>(k:Int))):gw n n ws:=by
 have hl:od.length=n:=by simpa using hp.length_eq
 have ht:od.take n=od:=by rw[<- hl,List.take_length]
 have hm:∀a,a∈od↔∃k:Nat,k<n/\(k:Int)=a:=λa=>by rw[hp.mem_iff];simp
 refine⟨λw hw=>?_,T.nd,by have:=T.ln;lia,λS hS i j hi hj hs=>?_⟩
 .obtain⟨h1,h2,h3⟩:=T.rg w hw;rw[ht]at h1 h2;obtain⟨a,ha,ea⟩:=(hm _).mp h1;obtain⟨b,hb,eb⟩:=(hm _).mp h2
  lia
 .have cn:=T.cn S hS;rw[ht]at cn;exact(cn j ((hm _).mpr ⟨j,hj,rfl⟩)).mpr ((cn i ((hm _).mpr ⟨i,hi,rfl⟩)).mp hs)
theorem gw.more{n m p:Nat}{ws:NT}{a b:Int}(h:gw n m ws)(ha:0<=a/\a<n)(hb:0<=b/\b<n)(hne:a≠b)(h1:(a,b)∉ ws)(h2:(b,a)∉ ws):gw n (m+1) (jC p (a,b) ws):=by
 refine⟨λu hu=>?_,?_,?_,λS hS=>h.cn S λu hu=>hS u (kn.mpr (.inr hu))⟩
 .rcases kn.mp hu with rfl|hu
  .lia
  .exact h.rg u hu
 .have:((jC p (a,b) ws).map mm).Perm (mm (a,b)::ws.map mm):=(km p (a,b) ws).map mm;refine this.symm.nodup (nodup_cons.mpr ⟨λz=>?_,h.nd⟩);obtain⟨u,hu,e⟩:=mem_map.mp z;rcases EV e with rfl|rfl
  .exact h1 hu
  .exact h2 hu
 .rw[(km p (a,b) ws).length_eq,length_cons];have:=h.ln;lia
def gw.keep{n m:Nat}{ws:NT}(h:gw n m ws):gw n (m+1) ws:=⟨h.rg,h.nd,Nat.le_succ_of_le h.ln,h.cn⟩
theorem gw.good{n m:Nat}{ws:NT}(h:gw n m ws)(hm:m<64):Jk n ws:=⟨h.rg,h.nd,by have:=h.ln;lia⟩
open PySem L2 in
def lV(o:Out)(Q:PV->Prop):Prop:=∃v,o=.ret v/\Q v
section
open PySem L2
variable{env e:En}{Q:PV->Prop}
def fk{a b:MS}(h1:a env=.next e)(h2:lV (b e) Q):lV (aq a b env) Q:=by obtain⟨v,h,q⟩:=h2;exact⟨v,af h1 h,q⟩
def zq{c:MT}{a b bF:MS}(hc:c env=.ok true)(h:lV (a env) Q):lV (aq (mBr c a b) bF env) Q:=by obtain⟨v,h1,h2⟩:=h;exact⟨v,bL (d4 hc h1),h2⟩
def gU{o:Out}{v:PV}(h:o=.ret v)(q:Q v):lV o Q:=⟨v,h,q⟩
def nG{it:MI}{g:TgM}{body bF:MS}{xs:N5}(P:Nat->En->Prop)(h:it env=.ok xs)(h0:P 0 env)
  (step:∀(k:Nat) (x:PV) (e:En),xs[k]?=some x->P k e->∃e1,g x e=some e1/\lW (body e1) (P (k+1))) (fin:∀e,P xs.length e->lV (bF e) Q):lV (aq (dC it g body) bF env) Q:=by
 obtain⟨e2,h1,h2⟩:=kM P h h0 λk x e h1 h2=>by obtain⟨e1,h3,e2,h4,h5⟩:=step k x e h1 h2;exact⟨e1,e2,h3,h4,h5⟩
 exact fk h1 (fin e2 h2)
end
end PR
namespace PR
open PySem L2
section
variable{env:En}
def iy(ho:env[0]?=some (some (.obj .own c ks vs)))(ha:ms env=.ok xs)(hl:hasL Fl.Ob xs=false)
  (hm:m (.obj .own c ks vs::mapL Fl.N8 xs)=.ok (.obj fl c' ks' vs')) (hb:(PV.obj fl c' ks' vs').has Fl.Oc=false):iY m ms env=.next (env.set 0 (some (.obj fl c' ks' vs'))):=by
 unfold iY;rw[ho];rw[ha];dsimp only;rw[hl,if_neg (),hm];dsimp only;rw[hb,if_neg ()]
end
def yv(h:c env=.ok true)(h2:lW (a env) Q):lW (mBr c a b env) Q:=by rw[E3 h];exact h2
def yw(h:c env=.ok false)(h2:lW (b env) Q):lW (mBr c a b env) Q:=by rw[E3 h];exact h2
@[simp] def NI:oO (.int 10) (.int 59)=.ok (.int (10 ^ 59)):=zG () () ()
section
variable{env:En}{g:TgM}{me:ME}
def gu(f:Int->Int)(row:NW)(h:∀x∈row,∃e1,g (.int x) env=some e1/\me e1=.ok (.int (f x))):eQ g bD me env (iL row)=.ok (iL (row.map f)):=by rw[show iL (row.map f)=row.map λx=>PV.int (f x) by simp[iL]];exact a6 row λx hx=>let⟨e1,h1,h2⟩:=h x hx;⟨e1,h1,h2,rfl,rfl⟩
def lU(lo:Int)(f:Nat->Int)(n:Nat)(h:∀k<n,∃e1,g (.int (lo+(k:Int))) env=some e1/\me e1=.ok (.int (f k))):eQ g bD me env (eT lo n)=.ok (iL ((range n).map f)):=by rw[show iL ((range n).map f)=(range n).map λk=>PV.int (f k) by simp[iL]];exact a6 (range n) λk hk=>let⟨e1,h1,h2⟩:=h k (mem_range.mp hk);⟨e1,h1,h2,rfl,rfl⟩
def jU(p:Nat->Bool)(f:Nat->Int)(n:Nat)(h:∀k<n,∃e1,g (.int (0+(k:Int))) env=some e1/\mc e1=.ok (p k)/\(p k=true->me e1=.ok (.int (f k)))):eQ g mc me env (eT 0 n)=.ok (iL (((range n).filter p).map f)):=by rw[show iL (((range n).filter p).map f)=((range n).filter p).map λk=>PV.int (f k) by simp[iL]];exact bP (range n) λk hk=>let⟨e1,h1,h2,h3⟩:=h k (mem_range.mp hk);⟨e1,h1,h2,λz=>⟨h3 z,rfl,rfl⟩⟩
end
theorem dD(h0:0<=i)(h:i<cs.length):av (.lst f (iL cs)) (.int i)=.ok (.int (gt cs i.toNat)):=by
 have:i.toNat<cs.length:=by lia
 exact kK _ h0 (by simp[gt,this])
def cut_to(xs:N5)(k:Nat)(h:k<=xs.length):im xs none (some (k:Int))=xs.take k:=by unfold im;rw[HT.sIx_nat,HT.sIx_none];simp[Nat.min_eq_left h]
def jr(xs:N5)(k:Nat)(h:k<=xs.length):im xs (some (k:Int)) none=xs.drop k:=by unfold im;rw[HT.sIx_nat,HT.sIx_none];rw[Nat.min_eq_left h,take_of_length_le ()]
def gH(p:Int->Bool)(f:Int->Int)(row:NW)(h:∀x∈row,∃e1,g (.int x) env=some e1/\mc e1=.ok (p x)/\(p x=true->me e1=.ok (.int (f x)))):eQ g mc me env (iL row)=.ok (iL ((row.filter p).map f)):=by rw[show iL ((row.filter p).map f)=(row.filter p).map λx=>PV.int (f x) by simp[iL]];exact bP row λx hx=>let⟨e1,h1,h2,h3⟩:=h x hx;⟨e1,h1,h2,λz=>⟨h3 z,rfl,rfl⟩⟩
theorem p9{Fin:En->Prop}(P:Nat->En->Prop)(step:∀m e,P m e->(c e=.ok false/\Fin e)\/(c e=.ok true/\∃m' e',m'<m/\(b e=.next e'\/b e=.cont e')/\P m' e')) :
  ∀(k m:Nat) (env:En),m<k->P m env->∃e',whL c b k env=.next e'/\Fin e'
 |0,m,_,h,_=>absurd h (Nat.not_lt_zero m)
 |k+1,m,env,h,hP=>by
  unfold whL;rcases step m env hP with⟨h1,h2⟩ |⟨h1,m',e',h2,h3,h4⟩
  .simp_all
  .obtain⟨e2,h5,h6⟩:=p9 P step k m' e' () h4;rw[h1];rcases h3 with h3|h3<;>rw[h3]<;>exact⟨e2,h5,h6⟩
section
variable{env:En}{r:Out}
def xr{c:MT}{b bF:MS}{Fin:En->Prop}(P:Nat->En->Prop)(m:Nat)(hm:m<100000)(h0:P m env)(step:∀m e,P m e->(c e=.ok false/\Fin e)\/(c e=.ok true/\∃m' e',m'<m/\(b e=.next e'\/b e=.cont e')/\P m' e'))(fin:∀e,Fin e->bF e=r):aq (lB c b) bF env=r:=by obtain⟨e',h1,h2⟩:=p9 P step 100000 m env hm h0;exact af h1 (fin e' h2)
def nE{Q:PV->Prop}{c:MT}{b bF:MS}{Fin:En->Prop}(P:Nat->En->Prop)(m:Nat)(hm:m<100000)(h0:P m env)(step:∀m e,P m e->(c e=.ok false/\Fin e)\/(c e=.ok true/\∃m' e',m'<m/\(b e=.next e'\/b e=.cont e')/\P m' e'))(fin:∀e,Fin e->lV (bF e) Q):lV (aq (lB c b) bF env) Q:=by obtain⟨e',h1,h2⟩:=p9 P step 100000 m env hm h0;exact fk h1 (fin e' h2)
def Ja(ha:env[i]?=some (some (.int a)))(h:m env=.ok (.int b))(ho:aS i env=true):AN i m env=.next (env.set i (some (.int (a+b)))):=by unfold AN;rw[ha,h];simp[ho]
end
def pU(cs:NW)(k:Nat)(h:k<=cs.length):im (iL cs) (some (k:Int)) none=iL (cs.drop k):=by rw[jr _ k (by rw[bR];exact h),yp]
theorem db:v∈cs.drop k↔∃i,k<=i/\i<cs.length/\gt cs i=v:=by
 constructor
 .intro h;obtain⟨i,hi,e⟩:=getElem_of_mem h;rw[length_drop]at hi;exact⟨k+i,by lia,by lia,by rw[<- e];simp[gt,show k+i<cs.length by lia]⟩
 .rintro⟨i,h1,h2,e⟩;rw[List.mem_iff_getElem];refine⟨i-k,by rw[length_drop];lia,?_⟩;rw[List.getElem_drop,<- e];simp[gt,h2,show k+(i-k)=i by lia]
def mP(hl:l.length<=1000)(hb:∀x∈l,-1000000<=x/\x<=1000000):ky (.lst f (iL l))=.ok (.int l.sum):=by
 have:ef l=true:=by simp only[ef,all_eq_true,decide_eq_true_eq];exact hb
 simp[ky,aY,hl,this]
@[simp] def pY(bs:List Bool):fD (bs.map .bl)=some bs:=by
 induction bs with
 |nil=>rfl
 |cons b bs ih=>simp[fD,ih]
end PR
namespace PR
def s0_{α:Type}{a b:α}{l:List α}:(a::l).set 0 b=b::l:=rfl
def s1_{α:Type}{a b:α}{l:List α}{n:Nat}:(a::l).set (n+1) b=a::l.set n b:=rfl
end PR
namespace G
open PySem L2 PR
section
def Fj:MS:=
 (aq (mBr (aw (mOp pLt (ac 1) (ao (p1 cG) (ae (ac 0) am))))
  (aZ (mOp av (ac 0) (ac 1)))
  aH)
 (aZ (Oh 0)))
def iS:=bf 2 Fj
def B1:MS:=
 (aq (aI 3 (dI am))
 (aq (dC (pI (ae (Oh 1) (ae (ac 0) am))) (tgN 4)
  (aq (dz 3 (gh (ae (mOp fm (ac 1) (ac 4)) (ae (ac 4) am))))
 (aI 1 (mOp iV (ac 1) (ac 4)))))
 (aq (dC (b9 (ae (ac 0) am)) (tgN 4)
  (dC (b9 (ae (ac 4) am)) (tgN 5)
  (aq (mBr ((ie (aw (mOp pEq (mOp fm (ac 2) (Oh 3)) (Oh 0))) (aw (mOp eB (gh (ae (ac 5) (ae (ac 4) am))) (ac 3)))))
  (dz 3 (gh (ae (ac 4) (ae (ac 5) am))))
  aH)
 (aI 2 (mOp iV (ac 2) (Oh 3))))))
 (fM 3))))
def Bf:=bf 6 B1
def Fe:MS:=
 (aq (aI 2 (ao qo (ae (Oh 10) am)))
 (aq (aI 3 (dI am))
 (aq (dC (b9 (ae (ac 0) am)) (tgN 4)
  (aq (kF 3 2 (mOp fm (ac 1) (ao (p1 cG) (ae (ac 2) am))))
 (aI 1 (mOp iV (ac 1) (mOp lq (Oh 10) (ac 4))))))
 (fM 3))))
def Bo:=bf 5 Fe
def Ly:MS:=
 (aq (aI 1 (ao (aG iS) (ae (ac 0) (ae (Oh 0) am))))
 (aq (aI 2 (ao (aG iS) (ae (ac 0) (ae (Oh 3) am))))
 (aq (aI 3 (mOp av (dI (ae (mC (.str "pass")) (ae (mC (.str "paint")) (ae (mC (.str "count")) (ae (mC (.str "far")) (ae (mC (.str "lead")) (ae (mC (.str "grow")) am))))))) (mOp fm (ac 1) (Oh 6))))
 (aq (aI 4 (mOp aP (Oh 1) (mOp fm (mOp iV (ac 1) (Oh 6)) (Oh 6))))
 (aq (mBr (aw (mOp pEq (ac 3) (mC (.str "pass"))))
  (aI 4 (mOp aP (Oh 2) (mOp fm (mOp iV (ac 1) (Oh 6)) (Oh 11))))
  aH)
 (aq (aI 5 (ao (aG Bf) (ae (ac 4) (ae (ao (aG iS) (ae (ac 0) (ae (Oh 1) am))) (ae (ao (aG iS) (ae (ac 0) (ae (Oh 2) am))) am)))))
 (aq (aI 6 (mOp aP (ac 4) (mOp fm (mOp iV (ac 2) (Oh 2)) (Oh 7))))
 (aq (mBr (aw (mOp pEq (mOp fm (ac 2) (Oh 2)) (Oh 1)))
  (aI 6 (mOp aP (ac 4) (mOp fm (mOp iV (ac 2) (Oh 2)) (mOp oO (Oh 10) (Oh 59)))))
  aH)
 (aq (aI 7 (aV [] 1 (bE (dl (ac 5) cq (dZ (mOp lq (ac 4) (Oh 1))))) (tgN 0) bD (mOp av (ac 0) (Oh 0))))
 (aq (aI 8 (ao (aG Bo) (ae (ao (gc min) (ae (ac 4) (ae (Oh 10) am))) (ae (ac 2) am))))
 (aq (fv 5) (aq (fv 7) (aq (fv 8) (wg 0 9 [(ac 3),(ac 4),(ac 5),(ac 7),(ac 8)] (mOp fm (ac 2) (ac 4)) (ac 6)))))))))))))))
def Bg:=bf 10 Ly
def LC:MS:=
 (aZ (mMt fK (mC (.str " ")) (aV [] 1 (bE (ac 0)) (tgN 0) bD (ao (p1 da) (ae (ac 0) am)))))
def wA:=bf 1 LC
def B0:MS:=
 (aq (aI 1 (mUn (fQ 0 0) (ac 0)))
 (aq (aI 2 (mUn (fQ 0 1) (ac 0)))
 (aq (mBr (aw (mOp pEq (ac 1) (mC (.str "pass"))))
  (aZ (gh (ae (mUn (fQ 0 6) (ac 0)) (ae (mOp dH (mJ [(mC (.str "pass ")),(mUn kA (ac 2)),(mC (.str " "))] PySem.Str.empty) (ao (p1 da) (ae (mUn (fQ 0 6) (ac 0)) am))) am))))
  aH)
 (aq (mBr (aw (mOp pEq (ac 1) (mC (.str "count"))))
  (aZ (gh (ae (mOp aP (ac 2) (Oh 1)) (ae (mMt fK (mC (.str " ")) (mOp aP (dI (ae (mC (.str "count")) am)) (aV [] 1 (bE (mUn (fQ 0 3) (ac 0))) (tgN 0) bD (ao (p1 da) (ae (ac 0) am))))) am))))
  aH)
 (aq (aI 3 (mOp dH (mMt fK (mC (.str " ")) (mOp aP (dI (ae (mJ [(mC (.str "net ")),(mUn kA (ac 2))] PySem.Str.empty) am)) (aV [] 1 (bE (mUn (fQ 0 2) (ac 0))) (tgN 0) bD (mOp dH (mOp dH (ao (p1 da) (ae (mOp av (ac 0) (Oh 0)) am)) (mC (.str "-"))) (ao (p1 da) (ae (mOp av (ac 0) (Oh 1)) am)))))) (mC (.str "\n"))))
 (aq (mBr (aw (mOp pEq (ac 1) (mC (.str "paint"))))
  (aZ (gh (ae (ac 2) (ae (mOp dH (ac 3) (mC (.str "paint"))) am))))
  aH)
 (aq (mBr (aw (mOp pEq (ac 1) (mC (.str "lead"))))
  (aZ (gh (ae (mOp aP (mOp dG (Oh 10) (ac 2)) (Oh 1)) (ae (mOp dH (mOp dH (ac 3) (mC (.str "lead "))) (ao (aG wA) (ae (mUn (fQ 0 4) (ac 0)) am))) am))))
  aH)
 (aq (aI 4 (mUn (fQ 0 5) (ac 0)))
 (aq (aI 5 (mOp aP (ac 2) (Oh 1)))
 (aq (mBr (aw (mOp pEq (ac 1) (mC (.str "grow"))))
  (aI 5 (mOp dG (ac 5) (ac 5)))
  aH)
 (aZ (gh (ae (ac 5) (ae (mOp dH (ac 3) (mJ [(mUn kA (ac 1)),(mC (.str " ")),(mUn kA (ac 4))] PySem.Str.empty)) am))))))))))))))
def Be:=bf 6 B0
def LL:MS:=
 (mBr (aw (mOp pNe (ao (p1 cG) (ae (ac 0) am)) (ac 1)))
  (ba 5 (ae (mC (.str "there are too few or too many words or numbers")) am))
  aH)
def pS:=bf 2 LL
def Lr:MS:=
 (aZ ((jE (mOp pGt (ao (p1 (gD (λz=>decide (z.length<=10000)) λz=>.int z.length)) (ae (ac 0) am)) (Oh 0)) (jE (mOp pLe (ao (p1 (gD (λz=>decide (z.length<=10000)) λz=>.int z.length)) (ae (ac 0) am)) (ac 1)) (ao (p1 (qq mI)) (ae (aV [] 1 (sV (ac 0)) (tgN 0) bD (mOp Dh (ac 0) (mC (.str "0123456789")))) am))))))
def D6:=bf 2 Lr
def LE:MS:=
 (aq (aI 1 (lD (di (gE (ac 0) (mC (.str "-")))) (kE (ac 0) (dZ (Oh 1)) cq) (ac 0)))
 (aq (mBr (n9 (di (ao (aG D6) (ae (ac 1) (ae (Oh 60) am)))))
  (ba 5 (ae (mC (.str "a number is not written by 1 to 60 figures")) am))
  aH)
 (aq (mBr ((ie (di (gE (ac 1) (mC (.str "0")))) (aw (mOp pNe (ac 0) (mC (.str "0"))))))
  (ba 5 (ae (mC (.str "a number has a nought ahead, or is -0")) am))
  aH)
 (aZ (ao (p1 (gD (λz=>decide (z.length<=640)&&(PySem.intText? z).isSome) λz=>.int ((PySem.intText? z).getD 0))) (ae (ac 0) am))))))
def ou:=bf 2 LE
def Fm:MS:=
 (aZ (aV [] 1 (bE (ac 0)) (tgN 0) bD (ao (aG ou) (ae (ac 0) am))))
def wF:=bf 1 Fm
def E9:MS:=
 (aq (aI 1 (mMt cB (ac 0) (mC (.str "-"))))
 (aq (gG (ao (aG pS) (ae (ac 1) (ae (Oh 2) am))))
 (aZ (gh (ae (ao (aG ou) (ae (mOp av (ac 1) (Oh 0)) am)) (ae (ao (aG ou) (ae (mOp av (ac 1) (Oh 1)) am)) am))))))
def wx:=bf 2 E9
def B2:MS:=
 (aq (mBr (aw (mOp pEq (ao (p1 cG) (ae (ac 0) am)) (Oh 0)))
  (ba 5 (ae (mC (.str "a net has no size")) am))
  aH)
 (aZ (gh (ae (mC (.str "net")) (ae (ao (aG ou) (ae (mOp av (ac 0) (Oh 0)) am)) (ae (aV [] 1 (bE (dl (ac 0) (dZ (Oh 1)) cq)) (tgN 0) bD (ao (aG wx) (ae (ac 0) am))) am))))))
def Bj:=bf 1 B2
def E_:MS:=
 (aq (aI 1 (mMt cB (ac 0) (mC (.str " "))))
 (aq (aI 2 (mOp av (ac 1) (Oh 0)))
 (aq (aI 3 (dl (ac 1) (dZ (Oh 1)) cq))
 (aq (mBr (aw (mUn (sH [("pass", (2)),("paint", (0)),("far", (1)),("grow", (1)),("spoil", (2)),("may", (0)),("measure", (0))]) (ac 2)))
  (aq (gG (ao (aG pS) (ae (ac 3) (ae (mUn (pF [("pass", (2)),("paint", (0)),("far", (1)),("grow", (1)),("spoil", (2)),("may", (0)),("measure", (0))]) (ac 2)) am))))
 (aZ (ao (p1 dR) (ae (mOp aP (dI (ae (ac 2) am)) (ao (aG wF) (ae (ac 3) am))) am))))
  aH)
 (aq (mBr (aw (mOp pIn (ac 2) (mC (.tup [.str "count", .str "lead", .str "state", .str "turn"]))))
  (aZ (gh (ae (ac 2) (ae (ao (aG wF) (ae (ac 3) am)) am))))
  aH)
 (aq (mBr (aw (mOp pEq (ac 2) (mC (.str "net"))))
  (aZ (ao (aG Bj) (ae (ac 3) am)))
  aH)
 (aq (mBr (aw (mOp pEq (ac 2) (mC (.str "table"))))
  (aZ (lC))
  aH)
 (aq (mBr (aw (mOp pEq (ac 2) (mC (.str "look"))))
  (aZ (lC))
  aH)
 (ba 5 (ae (mC (.str "a line begins with no known word")) am))))))))))
def Bk:=bf 4 E_
def Fb:MS:=
 (aZ (aV [] 1 (bE (mMt cB (ac 0) (mC (.str "\n")))) (tgN 0) bD (ao (aG Bk) (ae (ac 0) am))))
def Bm:=bf 1 Fb
def E8:MS:=
 (aZ (lD (aw (mOp pEq (mOp av (mOp av (ac 0) (Oh 0)) (Oh 0)) (mC (.str "net")))) (Oh 2) (Oh 1)))
def wv:=bf 1 E8
def Fn:MS:=
 (aq (aI 1 (aV [] 1 (bE (ac 0)) (tgN 0) bD (mOp av (ac 0) (Oh 0))))
 (aq (aI 2 (ao (aG wv) (ae (ac 0) am)))
 (aq (aI 3 (lD (aw (mOp pEq (mOp av (ac 1) (Oh 0)) (mC (.str "net")))) (mC (.tup [.str "paint", .str "far", .str "lead", .str "grow"])) (mC (.tup [.str "pass", .str "count", .str "table"]))))
 (aq (mBr ((iM (aw (mOp pLe (ao (p1 cG) (ae (ac 1) am)) (ac 2))) (aw (mOp pNe (mOp av (ac 1) (ac 2)) (mC (.str "state"))))))
  (ba 5 (ae (mC (.str "no state stands behind the rule")) am))
  aH)
 (aq (mBr (aw (mOp eB (mOp av (ac 1) (mOp lq (ac 2) (Oh 1))) (ac 3)))
  (ba 5 (ae (mC (.str "no rule stands where one must, or its net is missing or too much")) am))
  aH)
 (dC (gj (dl (ac 1) (dZ (mOp aP (ac 2) (Oh 1))) cq)) (tgN 4)
  (mBr (aw (mOp eB (ac 4) (mC (.tup [.str "turn", .str "spoil", .str "may", .str "measure", .str "look"]))))
  (ba 5 (ae (mC (.str "a net, a rule or a state stands behind the state")) am))
  aH)))))))
def Bu:=bf 5 Fn
def LI:MS:=
 (mBr ((iM (aw (mOp pLt (ac 0) (ac 1))) (aw (mOp pGt (ac 0) (Oh 10)))))
  (ba 1 (ae (mC (.str "the number of machines is out of bounds")) am))
  aH)
def Br:=bf 2 LI
def LO:MS:=
 (aq (aI 2 (dI am))
 (aq (dC (gj (ac 1)) (tgN 3)
  (aq (aI 4 (gh (ae (ao (p1 (g7 hV)) (ae (ac 3) am)) (ae (ao (p1 (g7 jO)) (ae (ac 3) am)) am))))
 (aq (mBr ((iM (aw (mOp pLt (mOp av (ac 4) (Oh 0)) (Oh 0))) (aw (mOp pGe (mOp av (ac 4) (Oh 1)) (ac 0)))))
  (ba 1 (ae (mC (.str "a way has a number that is no machine")) am))
  aH)
 (aq (mBr (aw (mOp pEq (mOp av (ac 4) (Oh 0)) (mOp av (ac 4) (Oh 1))))
  (ba 1 (ae (mC (.str "a way has twice the same machine")) am))
  aH)
 (aq (mBr (aw (mOp pIn (ac 4) (ac 2)))
  (ba 1 (ae (mC (.str "a way is told twice")) am))
  aH)
 (dz 2 (ac 4)))))))
 (aZ (ao (p1 fP) (ae (ac 2) am)))))
def Bx:=bf 5 LO
def Ff:MS:=
 (aq (aI 2 (aV [1] 1 (bE (ac 0)) (tgN 1) (aw (mOp pEq (mOp av (ac 1) (Oh 1)) (ac 0))) (mOp av (ac 1) (Oh 0))))
 (aq (aI 3 (aV [1] 1 (bE (ac 0)) (tgN 1) (aw (mOp pEq (mOp av (ac 1) (Oh 0)) (ac 0))) (mOp av (ac 1) (Oh 1))))
 (aZ (ao (p1 fP) (ae (mOp aP (ac 2) (ac 3)) am)))))
def wC:=bf 4 Ff
def LD:MS:=
 (aZ (ao (p1 nS) (ae (mOp av (mUn (aA 2) (ac 0)) (ac 1)) am)))
def wB:=bf 2 LD
def bO:Nat->Option (N5->N6)
 |8=>some wB
 |_=>none
def Lx:MS:=
 (aq (aI 2 (aV [0] 1 (b9 (ae (mUn (aA 0) (ac 0)) am)) (tgN 1) bD (mUn (aA 0) (ac 0))))
 (aq (jP 2 (ac 1) (Oh 0))
 (aq (dC (b9 (ae (mUn (aA 0) (ac 0)) am)) (tgN 3)
  (dC (b9 (ae (mUn (aA 0) (ac 0)) am)) (tgN 4)
  (mBr (aw (mOp pEq (mOp av (ac 2) (ac 4)) (ac 3)))
  (dC (gj (b7 bO (ac 0) (ae (ac 4) am))) (tgN 5)
  (jP 2 (ac 5) (ao (gc min) (ae (mOp av (ac 2) (ac 5)) (ae (mOp aP (ac 3) (Oh 1)) am)))))
  aH)))
 (fM 2))))
def ww:=bf 6 Lx
def Lw:MS:=
 (aq (gG (ao (aG Br) (ae (ac 1) (ae (Oh 1) am))))
 (aq (ib 0 0 (ac 1))
 (aq (ib 0 1 (ao (p1 dR) (ae (ao (aG Bx) (ae (ac 1) (ae (ac 2) am))) am)))
 (aq (ib 0 2 (ao (p1 dR) (ae (aV [0] 1 (b9 (ae (ac 1) am)) (tgN 1) bD (ao (p1 dR) (ae (ao (aG wC) (ae (mUn (aA 1) (ac 0)) (ae (ac 1) am))) am))) am)))
 (mBr (aw (mOp pEq (ao (p1 (g7 jO)) (ae (ao (aG ww) (ae (ac 0) (ae (Oh 0) am))) am)) (ac 1)))
  (ba 1 (ae (mC (.str "not every machine can be come to from machine 0")) am))
  aH)))))
def Bd:=jz 3 Lw
def LB:MS:=
 (aq (ib 0 0 (ac 1))
 (aq (ib 0 7 (ac 2))
 (ib 0 8 (ac 3))))
def kO:=jz 4 LB
def LR:MS:=
 (iY kO (ae (ac 1) (ae (ac 2) (ae (mC (.bl false)) am))))
def tU:=jz 3 LR
def Nb:MS:=
 (aq (fv 1) (aq (ib 0 4 (ac 1))
 (iY tU (ae (mUn (aA 0) (ac 1)) (ae (mUn (aA 0) (ac 1)) am)))))
def Iw:=jz 2 Nb
def LF:MS:=
 (mBr ((iM (aw (mOp pLt (ac 0) (Oh 1))) (aw (mOp pGt (ac 0) (Oh 10)))))
  (ba 2 (ae (mC (.str "the stretch or the number of blocks is out of bounds")) am))
  aH)
def wE:=bf 1 LF
def LS:MS:=
 (aq (mBr (aw (mOp pNe (ao (p1 cG) (ae (ac 1) am)) (mUn (aA 0) (ac 0))))
  (ba 2 (ae (mC (.str "there are not as many starts as machines")) am))
  aH)
 (dC (gj (ac 1)) (tgN 3)
  (mBr ((ie (aw (mOp jD (ac 3) (mC .non))) ((iM (aw (mOp pLt (ac 3) (Oh 0))) (aw (mOp pGe (ac 3) (ac 2)))))))
  (ba 2 (ae (mC (.str "a start is out of bounds")) am))
  aH)))
def BE:=bf 4 LS
def Ng:MS:=
 (aq (gG (ao (aG wE) (ae (ac 3) am)))
 (aq (gG (ao (aG wE) (ae (ac 4) am)))
 (aq (ib 0 3 (mOp dG (ac 3) (ac 4)))
 (aq (gG (ao (aG BE) (ae (ac 1) (ae (ac 2) (ae (mUn (aA 3) (ac 0)) am)))))
 (aq (fv 1) (aq (ib 0 4 (ac 1))
 (aq (ib 0 5 (ao (p1 dR) (ae (ac 2) am)))
 (aq (ib 0 6 (ac 3))
 (iY kO (ae (mUn (aA 0) (ac 1)) (ae (mOp aP (mUn (aA 3) (ac 0)) (Oh 1)) (ae (mC (.bl true)) am))))))))))))
def D3:=jz 5 Ng
def Fp:MS:=
 (aq (mBr ((iM (aw (mOp pLt (ac 2) (Oh 0))) (aw (mOp pGe (ac 2) (mUn (aA 0) (ac 1))))))
  (ba 2 (ae (mC (.str "the root is no machine")) am))
  aH)
 (aq (aI 3 (aV [2] 1 (b9 (ae (mUn (aA 0) (ac 1)) am)) (tgN 1) bD (lD (aw (mOp pEq (ac 1) (ac 0))) (Oh 0) (mC .non))))
 (aq (fv 3) (aq (fv 1) (iY D3 (ae (ac 1) (ae (ac 3) (ae (mUn (aA 0) (ac 1)) (ae (Oh 1) am)))))))))
def wG:=jz 4 Fp
def LM:MS:=
 (aq (mBr (aw (mOp pNe (ao (p1 cG) (ae (ac 1) am)) (mUn (aA 0) (ac 0))))
  (ba 2 (ae (mC (.str "there are not as many names as machines")) am))
  aH)
 (aq (mBr (aw (mOp pNe (mUn jw (ac 1)) (ao (p1 cG) (ae (ac 1) am))))
  (ba 2 (ae (mC (.str "two machines have the same name")) am))
  aH)
 (dC (gj (ac 1)) (tgN 2)
  (mBr ((iM (aw (mOp pLt (ac 2) (Oh 0))) (aw (mOp pGt (ac 2) (Oh 9)))))
  (ba 2 (ae (mC (.str "a name is out of bounds")) am))
  aH))))
def Bw:=bf 3 LM
def Ft:MS:=
 (aq (fv 1) (aq (gG (ao (aG Bw) (ae (ac 1) (ae (ac 2) am))))
 (aq (aI 3 (aV [1] 1 (bE (ac 2)) (tgN 1) bD (mOp dG (mOp lq (Oh 9) (ac 1)) (mUn (aA 0) (ac 0)))))
 (aq (fv 3) (iY D3 (ae (ac 1) (ae (ac 3) (ae (mUn (aA 0) (ac 1)) (ae (Oh 10) am)))))))))
def BB:=jz 4 Ft
def LQ:MS:=
 (aq (fv 1) (aq (ib 0 9 (mG 5 wG (ae (ac 1) (ae (ac 2) am))))
 (aq (ib 0 4 (ac 1))
 (aq (ib 0 10 (ac 2))
 (iY kO (ae (mUn (aA 0) (ac 1)) (ae (mOp dG (mOp aP (mUn (aA 0) (ac 1)) (Oh 1)) (mOp aP (mUn (aA 0) (ac 1)) (Oh 1))) (ae (mC (.bl true)) am))))))))
def BA:=jz 3 LQ
def Fh:MS:=
 (aq (fv 0) (aq (mBr (aw (mOp pEq (mOp av (ac 1) (Oh 0)) (mC (.str "paint"))))
  (aZ (mG 2 Iw (ae (ac 0) am)))
  aH)
 (aq (mBr (aw (mOp pEq (mOp av (ac 1) (Oh 0)) (mC (.str "far"))))
  (aZ (mG 5 wG (ae (ac 0) (ae (mOp av (ac 1) (Oh 1)) am))))
  aH)
 (aq (mBr (aw (mOp pEq (mOp av (ac 1) (Oh 0)) (mC (.str "lead"))))
  (aZ (mG 6 BB (ae (ac 0) (ae (mOp av (ac 1) (Oh 1)) am))))
  aH)
 (aZ (mG 7 BA (ae (ac 0) (ae (mOp av (ac 1) (Oh 1)) am))))))))
def wD:=bf 2 Fh
def LN:MS:=
 (aq (mBr ((iM (aw (mOp pLt (ac 1) (Oh 2))) (aw (mOp pGt (ac 1) (Oh 20)))))
  (ba 2 (ae (mC (.str "the number of machines is out of bounds")) am))
  aH)
 (aq (mBr (aw (mOp pLt (ac 2) (ac 1)))
  (ba 2 (ae (mC (.str "the span is less than the size")) am))
  aH)
 (iY kO (ae (ac 1) (ae (ac 2) (ae (mC (.bl false)) am))))))
def wH:=jz 3 LN
def Lo:MS:=
 (aq (mBr (aw (mOp pGt (ao (p1 cG) (ae (ac 0) am)) (Oh 9)))
  (ba 2 (ae (mC (.str "there are more than nine parents")) am))
  aH)
 (dC (yd (ac 0)) (tgT 2 (cF (tgN 1) (cF (tgN 2) j8)))
  (mBr ((iM (aw (mOp pLt (ac 2) (Oh 0))) (aw (mOp pGe (ac 2) (ac 1)))))
  (ba 2 (ae (mC (.str "a parent is no machine of a lower number than its kid")) am))
  aH)))
def IC:=bf 3 Lo
def Ni:MS:=
 (aq (gG (ao (aG IC) (ae (ac 1) am)))
 (aq (ib 0 11 (ao (p1 dR) (ae (ac 1) am)))
 (iY tU (ae (mOp aP (ao (p1 cG) (ae (ac 1) am)) (Oh 1)) (ae (mOp aP (ao (p1 cG) (ae (ac 1) am)) (Oh 2)) am)))))
def D4:=jz 2 Ni
def wY:MS:=
 (aq (aI 1 (mOp av (ac 0) (mUn xU (Oh 1))))
 (aq (mBr (aw (mOp pEq (mOp av (mOp av (ac 0) (Oh 0)) (Oh 0)) (mC (.str "net"))))
  (aZ (ao (aG wD) (ae (mG 8 Bd (ae (mOp av (mOp av (ac 0) (Oh 0)) (Oh 1)) (ae (mOp av (mOp av (ac 0) (Oh 0)) (Oh 2)) am))) (ae (ac 1) am))))
  aH)
 (aq (mBr (aw (mOp pEq (mOp av (ac 1) (Oh 0)) (mC (.str "pass"))))
  (aZ (mG 9 wH (ae (mOp av (ac 1) (Oh 1)) (ae (mOp av (ac 1) (Oh 2)) am))))
  aH)
 (aq (mBr (aw (mOp pEq (mOp av (ac 1) (Oh 0)) (mC (.str "count"))))
  (aZ (mG 3 D4 (ae (mOp av (ac 1) (Oh 1)) am)))
  aH)
 (aZ (lC))))))
def pR:=bf 2 wY
def LA:MS:=
 (aq (mBr (aw (mOp pNe (ao (p1 cG) (ae (ac 1) am)) (mUn (aA 0) (ac 0))))
  (ba 3 (ae (mC (.str "there are not as many registers as machines")) am))
  aH)
 (aZ (aV [0] 1 (bE (ac 1)) (tgN 1) bD (mOp fm (ac 1) (mUn (aA 7) (ac 0))))))
def kN:=bf 2 LA
def bu:Nat->Option (N5->N6)
 |2|3|5|6|7|9=>some kN
 |_=>none
def Np:MS:=
 (aZ (aV [1] 1 (bE (b7 bO (mUn (aA 4) (ac 0)) (ae (ac 1) am))) (tgN 1) (aw (mOp pLt (ac 1) (ac 0))) (ac 1)))
def IH:=bf 2 Np
def No:MS:=
 (aZ (aV [1] 2 (DL (mUn (aA 11) (ac 0))) (tgT 2 (cF (tgN 1) (cF (tgN 2) j8))) (aw (mOp pEq (ac 2) (ac 0))) (ac 1)))
def IG:=bf 2 No
def b5:Nat->Option (N5->N6)
 |2=>some IH
 |3=>some IG
 |_=>none
def B4:MS:=
 (aq (aI 3 (aV [1] 1 (bE (b7 b5 (ac 0) (ae (ac 2) am))) (tgN 1) bD (mOp av (ac 0) (ac 1))))
 (aq (aI 4 (Oh 0))
 (aq (lB (aw (mOp pIn (ac 4) (ac 3)))
  (aI 4 (mOp aP (ac 4) (Oh 1))))
 (fM 4))))
def BC:=bf 5 B4
def B5:MS:=
 (aZ (ao (gc min) (ae (mUn (aA 0) (ac 0)) (ae (mOp aP (Oh 1) (ao (p1 ky) (ae (aV [1] 1 (bE (b7 b5 (ac 0) (ae (ac 2) am))) (tgN 1) bD (mOp av (ac 0) (ac 1))) am))) am))))
def BD:=bf 3 B5
def LT:MS:=
 (aZ ((jE (mOp pNe (ac 1) (mUn (aA 3) (ac 0))) (mOp pNe (mOp fm (mOp aP (ac 1) (Oh 1)) (mUn (aA 6) (ac 0))) (Oh 0)))))
def BF:=bf 2 LT
def eJ:Nat->Option (N5->N6)
 |5|6=>some BF
 |_=>none
def Fq:MS:=
 (aq (aI 3 (aV [1] 1 (bE (b7 bO (mUn (aA 4) (ac 0)) (ae (ac 2) am))) (tgN 1) bD (mOp av (ac 0) (ac 1))))
 (aq (aI 4 (aV [0] 1 (bE (ac 3)) (tgN 1) (di (b7 eJ (ac 0) (ae (ac 1) am))) (mOp aP (ac 1) (Oh 1))))
 (aq (mBr (aw (mOp jD (mOp av (mUn (aA 5) (ac 0)) (ac 2)) (mC .non)))
  (dz 4 (mOp av (mUn (aA 5) (ac 0)) (ac 2)))
  aH)
 (aZ (ao (p1 (g7 hV)) (ae (mOp aP (ac 4) (dI (ae (mUn (aA 3) (ac 0)) am))) am))))))
def tR:=bf 5 Fq
def Nh:MS:=
 (aZ (aV [0] 1 (bE (ac 1)) (tgN 1) bD (gh (ae (mOp iV (ac 1) (mOp aP (mUn (aA 0) (ac 0)) (Oh 1))) (ae (mOp fm (ac 1) (mOp aP (mUn (aA 0) (ac 0)) (Oh 1))) am)))))
def Iz:=bf 2 Nh
def fB:Nat->Option (N5->N6)
 |7=>some Iz
 |_=>none
def LP:MS:=
 (aZ (aV [] 1 (bE (b7 fB (ac 0) (ae (ac 1) am))) (tgN 0) bD (mOp av (ac 0) (Oh 0))))
def By:=bf 2 LP
def dU:Nat->Option (N5->N6)
 |7=>some By
 |_=>none
def lS:Nat->Option (N5->N6)
 |5=>some tR
 |_=>none
def Nj:MS:=
 (aZ (aV [] 1 (bE (b7 fB (ac 0) (ae (ac 1) am))) (tgN 0) bD (mOp av (ac 0) (Oh 1))))
def ID:=bf 2 Nj
def cM:Nat->Option (N5->N6)
 |7=>some ID
 |_=>none
def I_:MS:=
 (aq (mBr (aw (mOp pEq (ac 2) (mUn (aA 10) (ac 0))))
  (aZ (mC .non))
  aH)
 (aq (aI 3 (aV [1,2] 1 (bE (b7 bO (mUn (aA 4) (ac 0)) (ae (ac 2) am))) (tgN 2) (aw (mOp pEq (mOp av (ac 0) (ac 2)) (mOp lq (mOp av (ac 0) (ac 1)) (Oh 1)))) (ac 2)))
 (aZ (mUn pE (ac 3)))))
def IB:=bf 4 I_
def jq:Nat->Option (N5->N6)
 |7=>some IB
 |_=>none
def Nk:MS:=
 (aq (aI 2 (b7 dU (ac 0) (ae (ac 1) am)))
 (aZ (aV [0,2] 1 (b9 (ae (mUn (aA 0) (ac 0)) am)) (tgN 2) bD (b7 jq (ac 0) (ae (ac 1) (ae (ac 2) am))))))
def IE:=bf 3 Nk
def iP:Nat->Option (N5->N6)
 |7=>some IE
 |_=>none
def Nq:MS:=
 (aq (aI 3 (aV [2] 2 (kD (ae (b7 cM (ac 0) (ae (ac 1) am)) (ae (b7 iP (ac 0) (ae (ac 1) am)) am))) (tgT 2 (cF (tgN 1) (cF (tgN 2) j8))) (aw (mOp pEq (ac 2) (ac 0))) (ac 1)))
 (aZ (ao (gc min) (ae (mUn (aA 0) (ac 0)) (ae (mOp aP (Oh 1) (ao (p1 ky) (ae (ac 3) am))) am)))))
def II:=bf 4 Nq
def cN:Nat->Option (N5->N6)
 |7=>some II
 |_=>none
def Fk:MS:=
 (aq (aI 3 (b7 dU (ac 0) (ae (ac 1) am)))
 (aq (aI 4 (b7 lS (mUn (aA 9) (ac 0)) (ae (ac 3) (ae (ac 2) am))))
 (aq (aI 5 (mOp av (b7 cM (ac 0) (ae (ac 1) am)) (ac 2)))
 (aq (mBr (aw (mOp pEq (ac 4) (mOp av (ac 3) (ac 2))))
  (aI 5 (b7 cN (ac 0) (ae (ac 1) (ae (ac 2) am))))
  aH)
 (aZ (mOp aP (mOp dG (ac 4) (mOp aP (mUn (aA 0) (ac 0)) (Oh 1))) (ac 5)))))))
def Bt:=bf 6 Fk
def Fo:MS:=
 (aq (mBr (aw (mOp pNe (ac 2) (Oh 0)))
  (aZ (mOp av (ac 1) (mOp lq (ac 2) (Oh 1))))
  aH)
 (aq (mBr (aw (mOp pEq (mOp av (ac 1) (Oh 0)) (mOp av (ac 1) (mOp lq (mUn (aA 0) (ac 0)) (Oh 1)))))
  (aZ (mOp fm (mOp aP (mOp av (ac 1) (Oh 0)) (Oh 1)) (mUn (aA 7) (ac 0))))
  aH)
 (aZ (mOp av (ac 1) (Oh 0)))))
def Bv:=bf 3 Fo
def aR:Nat->Option (N5->N6)
 |2=>some BC
 |3=>some BD
 |5|6=>some tR
 |7=>some Bt
 |9=>some Bv
 |_=>none
def LH:MS:=
 (aZ (aV [0,1] 1 (b9 (ae (mUn (aA 0) (ac 0)) am)) (tgN 2) (aw (mOp pNe (b7 aR (ac 0) (ae (ac 1) (ae (ac 2) am))) (mOp av (ac 1) (ac 2)))) (ac 2)))
def kP:=bf 2 LH
def aT:Nat->Option (N5->N6)
 |2|3|5|6|7|9=>some kP
 |_=>none
def Fd:MS:=
 (aZ (mOp pEq (ao (p1 cG) (ae (b7 aT (ac 0) (ae (ac 1) am)) am)) (Oh 0)))
def mq:=bf 2 Fd
def Fs:MS:=
 (aZ (mOp pEq (ao (p1 cG) (ae (b7 aT (ac 0) (ae (ac 1) am)) am)) (Oh 1)))
def wI:=bf 2 Fs
def bv:Nat->Option (N5->N6)
 |2|3|5|6|7=>some mq
 |9=>some wI
 |_=>none
def Lu:MS:=
 (aZ (mMt fK (mC (.str " ")) (aV [] 1 (bE (ac 0)) (tgN 0) bD (ao (p1 pC) (ae (ac 0) am)))))
def pQ:=bf 1 Lu
def E7:MS:=
 (aZ (ao (aG pQ) (ae (mOp aP (ac 1) (dI (ae (lD (di (b7 bv (ac 0) (ae (ac 1) am))) (mC (.str "calm")) (mC (.str "wild"))) am))) am)))
def pP:=bf 2 E7
def LJ:MS:=
 (aq (mBr ((ie (di (mUn (aA 8) (ac 0))) (aw (mOp pGt (ao (p1 cG) (ae (ac 1) am)) (Oh 1)))))
  (ba 4 (ae (mC (.str "a rule that is alone gets one machine at a turn")) am))
  aH)
 (aq (dC (gj (ac 1)) (tgN 2)
  (mBr ((iM (aw (mOp pLt (ac 2) (Oh 0))) (aw (mOp pGe (ac 2) (mUn (aA 0) (ac 0))))))
  (ba 4 (ae (mC (.str "a name is no machine")) am))
  aH))
 (mBr (aw (mOp pNe (mUn jw (ac 1)) (ao (p1 cG) (ae (ac 1) am))))
  (ba 4 (ae (mC (.str "a machine is named twice")) am))
  aH)))
def Bs:=bf 3 LJ
def LK:MS:=
 (aq (gG (ao (aG Bs) (ae (ac 0) (ae (ac 2) am))))
 (aZ (aV [2,0,1] 1 (b9 (ae (mUn (aA 0) (ac 0)) am)) (tgN 3) bD (lD (aw (mOp pIn (ac 3) (ac 0))) (b7 aR (ac 1) (ae (ac 2) (ae (ac 3) am))) (mOp av (ac 2) (ac 3))))))
def kQ:=bf 3 LK
def b0:Nat->Option (N5->N6)
 |2|3|5|6|7|9=>some kQ
 |_=>none
def Lv:MS:=
 (aq (aI 3 (b7 b0 (ac 0) (ae (ac 1) (ae (ac 2) am))))
 (aq (aI 4 (aV [2] 1 (bE (b7 aT (ac 0) (ae (ac 1) am))) (tgN 1) (aw (mOp pIn (ac 1) (ac 0))) (ac 1)))
 (u_ 4 3)))
def Bc:=bf 5 Lv
def LU:MS:=
 (aq (aI 3 (b7 bu (ac 0) (ae (ac 1) am)))
 (aq (aI 4 (dI am))
 (aq (fv 2) (aq (dC (gj (ac 2)) (tgN 5)
  (aq (dz 4 (mFz (ao (aG Bc) (ae (ac 0) (ae (ac 3) (ae (ac 5) am))))))
 (aI 3 (mOp av (mOp av (ac 4) (mUn xU (Oh 1))) (Oh 1)))))
 (fM 4)))))
def BG:=bf 6 LU
def Fg:MS:=
 (aq (mBr (aw (mOp pEq (mOp av (ac 2) (Oh 0)) (mC (.str "turn"))))
  (aZ (mOp av (ao (aG BG) (ae (ac 0) (ae (ac 1) (ae (dI (ae (mOp av (ac 2) (Oh 1)) am)) am)))) (Oh 0)))
  aH)
 (aq (mBr (aw (mOp pEq (mOp av (ac 2) (Oh 0)) (mC (.str "spoil"))))
  (aZ (gh (ae (dI am) (ae (b7 bu (ac 0) (ae (lC) am)) am))))
  aH)
 (aZ (gh (ae (dI am) (ae (ac 1) am))))))
def tQ:=bf 3 Fg
def Lm:MS:=
 (aZ (lD (aw (mOp pGt (ao (p1 cG) (ae (ac 0) am)) (Oh 0))) (ao (aG pQ) (ae (ac 0) am)) (mC (.str "-"))))
def D2:=bf 1 Lm
def Nf:MS:=
 (aZ (mOp lq (mOp lq (mUn (aA 0) (ac 0)) (Oh 1)) (ac 1)))
def Iy:=bf 2 Nf
def Nd:MS:=
 (fM 1)
def Ix:=bf 2 Nd
def eH:Nat->Option (N5->N6)
 |2=>some Iy
 |3=>some Ix
 |_=>none
def E6:MS:=
 (aq (aI 2 (Oh 1))
 (aq (dC (b9 (ae (ac 1) am)) (tgN 3)
  (aI 2 (mOp dG (ac 2) (ac 0))))
 (fM 2)))
def tL:=bf 4 E6
def Nn:MS:=
 (aZ (ao (p1 ky) (ae (aV [0] 1 (bE (b7 aT (ac 0) (ae (ac 1) am))) (tgN 1) bD (ao (aG tL) (ae (Oh 2) (ae (b7 eH (ac 0) (ae (ac 1) am)) am)))) am)))
def D5:=bf 2 Nn
def Ls:MS:=
 (aq (aI 2 (aV [0,1] 1 (b9 (ae (mUn (aA 0) (ac 0)) am)) (tgN 2) bD (b7 aR (ac 0) (ae (ac 1) (ae (ac 2) am)))))
 (aq (aI 3 (mOp aP (mUn (aA 0) (ac 0)) (Oh 1)))
 (aq (aI 4 (Oh 0))
 (aq (dC (b9 (ae (mUn (aA 3) (ac 0)) am)) (tgN 5)
  (aq (aI 6 (aV [5] 2 (kD (ae (ac 1) (ae (ac 2) am))) (tgT 2 (cF (tgN 1) (cF (tgN 2) j8))) ((ie (aw (mOp pEq (ac 1) (ac 0))) (aw (mOp pGt (ac 2) (ac 0))))) (ac 1)))
 (aq (aI 7 (aV [5] 2 (kD (ae (ac 1) (ae (ac 2) am))) (tgT 2 (cF (tgN 1) (cF (tgN 2) j8))) ((ie (aw (mOp pGt (ac 1) (ac 0))) (aw (mOp pEq (ac 2) (ac 0))))) (ac 1)))
 (aI 4 (mOp aP (mOp dG (mOp aP (mOp dG (ac 4) (ac 3)) (ao (p1 cG) (ae (ac 6) am))) (ac 3)) (ao (p1 cG) (ae (ac 7) am)))))))
 (fM 4)))))
def yz:=bf 8 Ls
def LG:MS:=
 (aq (aI 2 (aV [0,1] 1 (b9 (ae (ao (p1 cG) (ae (ac 0) am)) am)) (tgN 2) (aw (mOp zT (gh (ae (mOp av (ac 0) (ac 2)) (ae (ac 2) am))) (gh (ae (mOp av (ac 0) (ac 1)) (ae (ac 1) am))))) (ac 2)))
 (aZ (ao (p1 cG) (ae (ac 2) am))))
def Bq:=bf 3 LG
def gQ:Nat->Option (N5->N6)
 |5=>some yz
 |_=>none
def Lq:MS:=
 (aq (aI 2 (b7 dU (ac 0) (ae (ac 1) am)))
 (aq (aI 3 (b7 cM (ac 0) (ae (ac 1) am)))
 (aq (aI 4 (aV [3,0,1] 1 (b9 (ae (mUn (aA 0) (ac 0)) am)) (tgN 3) (aw (mOp pNe (mOp av (ac 0) (ac 3)) (b7 cN (ac 1) (ae (ac 2) (ae (ac 3) am))))) (ac 3)))
 (aq (aI 5 (aV [2] 1 (bE (ac 4)) (tgN 1) bD (ao (aG tL) (ae (Oh 2) (ae (ao (aG Bq) (ae (ac 0) (ae (ac 1) am))) am)))))
 (aZ (mOp aP (mOp dG (b7 gQ (mUn (aA 9) (ac 0)) (ae (ac 2) am)) (ao (aG tL) (ae (Oh 2) (ae (mUn (aA 0) (ac 0)) am)))) (ao (p1 ky) (ae (ac 5) am))))))))
def IF:=bf 6 Lq
def Fa:MS:=
 (aq (aI 1 (Oh 1))
 (aq (lB ((ie (aw (mOp pLt (ac 1) (ao (p1 cG) (ae (ac 0) am)))) (aw (mOp pEq (mOp av (ac 0) (ac 1)) (mOp av (ac 0) (Oh 0))))))
  (aI 1 (mOp aP (ac 1) (Oh 1))))
 (fM 1)))
def Bl:=bf 2 Fa
def Ln:MS:=
 (aq (mBr (aw (mOp eB (mOp av (ac 0) (Oh 0)) (dl (ac 0) (dZ (ao (aG Bl) (ae (ac 0) am))) cq)))
  (aZ (Oh 0))
  aH)
 (aq (aI 2 (Oh 1))
 (aq (lB (aw (mOp pIn (mOp fm (mOp aP (mOp av (ac 0) (Oh 0)) (ac 2)) (ac 1)) (dl (ac 0) (dZ (Oh 1)) cq)))
  (aI 2 (mOp aP (ac 2) (Oh 1))))
 (fM 2))))
def IA:=bf 3 Ln
def Lp:MS:=
 (aq (aI 2 (aV [0] 1 (bE (b7 aT (ac 0) (ae (ac 1) am))) (tgN 1) (aw (mOp pNe (ac 1) (Oh 0))) (mOp lq (mUn (aA 0) (ac 0)) (ac 1))))
 (aZ (mOp aP (mOp dG (mUn (aA 0) (ac 0)) (ao (aG IA) (ae (ac 1) (ae (mUn (aA 7) (ac 0)) am)))) (ao (p1 ky) (ae (ac 2) am)))))
def Ba:=bf 3 Lp
def aN:Nat->Option (N5->N6)
 |2|3=>some D5
 |5|6=>some yz
 |7=>some IF
 |9=>some Ba
 |_=>none
def wX:MS:=
 (aq (aI 3 (mOp av (ac 1) (Oh 1)))
 (aq (mBr (aw (mOp pEq (mOp av (ac 2) (Oh 0)) (mC (.str "turn"))))
  (aZ (ao (aG pQ) (ae (dI (ae (ao (aG D2) (ae (mOp av (ac 1) (Oh 0)) am)) (ae (mC (.str ":")) (ae (ao (aG pP) (ae (ac 0) (ae (ac 3) am))) am)))) am)))
  aH)
 (aq (mBr (aw (mOp pEq (mOp av (ac 2) (Oh 0)) (mC (.str "spoil"))))
  (aZ (ao (aG pP) (ae (ac 0) (ae (ac 3) am))))
  aH)
 (aq (mBr (aw (mOp pEq (mOp av (ac 2) (Oh 0)) (mC (.str "may"))))
  (aZ (ao (aG D2) (ae (b7 aT (ac 0) (ae (ac 3) am)) am)))
  aH)
 (aq (mBr (aw (mOp pEq (mOp av (ac 2) (Oh 0)) (mC (.str "measure"))))
  (aZ (ao (p1 da) (ae (b7 aN (ac 0) (ae (ac 3) am)) am)))
  aH)
 (aZ (lC)))))))
def wu:=bf 4 wX
def E5:MS:=
 (aq (aI 1 (ao (aG Bm) (ae (ac 0) am)))
 (aq (fv 1) (aq (gG (ao (aG Bu) (ae (ac 1) am)))
 (aq (aI 2 (ao (aG wv) (ae (ac 1) am)))
 (aq (aI 3 (ao (aG pR) (ae (dl (ac 1) cq (dZ (ac 2))) am)))
 (aq (aI 4 (b7 bu (ac 3) (ae (mOp av (mOp av (ac 1) (ac 2)) (Oh 1)) am)))
 (aq (fv 4) (aq (aI 5 (dI (ae (ao (aG pP) (ae (ac 3) (ae (ac 4) am))) am)))
 (aq (dC (gj (dl (ac 1) (dZ (mOp aP (ac 2) (Oh 1))) cq)) (tgN 6)
  (aq (aI 7 (ao (aG tQ) (ae (ac 3) (ae (ac 4) (ae (ac 6) am)))))
 (aq (fv 7) (aq (aI 4 (mOp av (ac 7) (Oh 1)))
 (dz 5 (ao (aG wu) (ae (ac 3) (ae (ac 7) (ae (ac 6) am)))))))))
 (fM 5))))))))))
def Bb:=bf 8 E5
def Lz:MS:=
 (aq (aI 2 (mMt cB (ac 0) (mC (.str " "))))
 (aq (mBr ((iM (aw (mOp pNe (ao (p1 cG) (ae (ac 2) am)) (mOp aP (ac 1) (Oh 1)))) (aw (mOp eB (mOp av (ac 2) (ac 1)) (dI (ae (mC (.str "calm")) (ae (mC (.str "wild")) am)))))))
  (aZ (mC .non))
  aH)
 (aZ (gh (ae (dl (ac 2) cq (dZ (ac 1))) (ae (mOp av (ac 2) (ac 1)) am))))))
def tN:=bf 3 Lz
def Fr:MS:=
 (aq (mBr ((ie (aw (mOp pNe (ac 2) (mC (.str "-")))) (n9 (di (ao (p1 (qq mI)) (ae (aV [1] 1 (bE (mMt cB (ac 2) (mC (.str " ")))) (tgN 1) bD (mOp pIn (ac 1) (ac 0))) am))))))
  (aZ (mC (.bl false)))
  aH)
 (aq (aI 4 (aV [0,3] 1 (b9 (ae (ao (p1 cG) (ae (ac 0) am)) am)) (tgN 2) (aw (mOp pNe (mOp av (ac 0) (ac 2)) (mOp av (ac 1) (ac 2)))) (ao (p1 da) (ae (ac 2) am))))
 (aZ ((yc ((jE (mOp pEq (ac 2) (mC (.str "-"))) (mOp pEq (ac 4) (dI am)))) ((jE (mOp pNe (ac 4) (dI am)) (mOp pEq (ac 2) (mMt fK (mC (.str " ")) (ac 4))))))))))
def Bz:=bf 5 Fr
def B3:MS:=
 (aq (aI 3 (ao (aG tN) (ae (mOp av (ac 0) (Oh 0)) (ae (ac 2) am))))
 (aq (fv 3) (aq (mBr (aw (mOp uQ (ac 3) (mC .non)))
  (aZ (mC (.bl false)))
  aH)
 (aq (aI 4 (ao (p1 (gD (λz=>decide (z.length <= 640) && (PySem.intText? z).isSome) λz=>.int ((PySem.intText? z).getD 0))) (ae (mOp av (ac 0) (Oh 1)) am)))
 (aq (aI 5 (ac 4))
 (aq (aI 6 (Oh 0))
 (aq (dC (b9 (ae (ao (p1 cG) (ae (ac 1) am)) am)) (tgN 7)
  (aq (aI 8 (mMt cB (mOp av (ac 0) (mOp aP (Oh 2) (mOp dG (Oh 2) (ac 7)))) (mC (.str " : "))))
 (aq (aI 9 (ao (aG tN) (ae (mOp av (ac 8) (mUn xU (Oh 1))) (ae (ac 2) am))))
 (aq (fv 9) (aq (mBr ((iM (aw (mOp pNe (ao (p1 cG) (ae (ac 8) am)) (Oh 2))) (iM (aw (mOp uQ (ac 9) (mC .non))) (n9 (di (ao (aG Bz) (ae (mOp av (ac 3) (Oh 0)) (ae (mOp av (ac 1) (ac 7)) (ae (mOp av (ac 8) (Oh 0)) (ae (mOp av (ac 9) (Oh 0)) am))))))))))
  (aZ (mC (.bl false)))
  aH)
 (aq (aI 10 (ao (p1 (gD (λz=>decide (z.length <= 640) && (PySem.intText? z).isSome) λz=>.int ((PySem.intText? z).getD 0))) (ae (mOp av (ac 0) (mOp aP (Oh 3) (mOp dG (Oh 2) (ac 7)))) am)))
 (aq (mBr ((iM ((ie (aw (mOp pEq (mOp av (ac 3) (Oh 1)) (mC (.str "calm")))) (aw (mOp pNe (mOp av (ac 9) (Oh 1)) (mC (.str "calm")))))) (aw (mOp pLt (ac 10) (Oh 0)))))
  (aZ (mC (.bl false)))
  aH)
 (aq (mBr ((ie (aw (mOp pEq (mOp av (ac 3) (Oh 1)) (mC (.str "wild")))) (aw (mOp pNe (mOp av (ac 8) (Oh 0)) (mC (.str "-"))))))
  (aq (AN 6 (Oh 1))
 (mBr (aw (mOp pGe (ac 10) (ac 5)))
  (aZ (mC (.bl false)))
  aH))
  aH)
 (aq (aI 3 (ac 9))
 (aI 5 (ac 10)))))))))))
 (aZ ((jE (lE (eP λi j=>.bl (decide (i<=j))) (eP λi j=>.bl (decide (i<=j))) (Oh 0) (ac 6) (ac 4)) ((yc (mOp pEq (mOp av (ac 3) (Oh 1)) (mC (.str "calm"))) (mOp pNe (mOp av (ac 0) (mUn xU (Oh 1))) (mC (.str "-")))))))))))))))
def Bp:=bf 11 B3
def B6:MS:=
 (aq (aI 1 (ao (aG Bg) (ae (ac 0) am)))
 (aq (aI 2 (mUn (fQ 0 1) (ac 1)))
 (aq (aI 3 (ao (aG Be) (ae (ac 1) am)))
 (aq (aI 4 (aV [0] 1 (b9 (ae (ac 2) am)) (tgN 1) bD (mOp lq (mOp fm (ao (aG iS) (ae (ac 0) (ae (mOp aP (Oh 4) (ac 1)) am))) (mOp dG (Oh 2) (mOp oO (Oh 10) (Oh 59)))) (mOp oO (Oh 10) (Oh 59)))))
 (aq (aI 5 (dI (ae (mOp av (ac 3) (Oh 1)) (ae (mOp dH (mC (.str "state ")) (ao (aG wA) (ae (ac 4) am))) (ae (mC (.str "measure")) am)))))
 (aq (aI 6 (dI am))
 (aq (dC (gj (dl (ac 0) (dZ (Oh 4)) (dZ (Oh 44)))) (tgN 7)
  (aq (aI 8 (dI (ae (ao (p1 da) (ae (mOp fm (mOp iV (ac 7) (Oh 5)) (ac 2)) am)) am)))
 (aq (mBr (aw (mOp pIn (mUn (fQ 0 0) (ac 1)) (dI (ae (mC (.str "pass")) (ae (mC (.str "paint")) (ae (mC (.str "count")) am))))))
  (aI 8 (aV [7] 1 (b9 (ae (ac 2) am)) (tgN 1) (aw (mOp pEq (mOp zU (mOp GJ (ac 0) (ac 1)) (Oh 1)) (Oh 1))) (ao (p1 da) (ae (ac 1) am))))
  aH)
 (aq (fv 8) (aq (dz 6 (ac 8))
 (aI 5 (mOp aP (ac 5) (dI (ae (mMt fK (mC (.str " ")) (mOp aP (dI (ae (mC (.str "turn")) am)) (ac 8))) (ae (mC (.str "measure")) am))))))))))
 (aq (aI 9 (ao (aG Bb) (ae (mMt fK (mC (.str "\n")) (mOp aP (ac 5) (dI (ae (mC (.str "may")) am)))) am)))
 (aq (mBr ((iM (n9 (di (y2 (ac 9) "list"))) (aw (mOp pNe (ao (p1 cG) (ae (ac 9) am)) (mOp aP (mOp dG (ao (p1 cG) (ae (ac 6) am)) (Oh 2)) (Oh 3))))))
  (aZ (mC (.bl false)))
  aH)
 (aq (mBr (aw (mOp pNe (dl (mMt cB (mOp av (ac 9) (Oh 0)) (mC (.str " "))) cq (dZ (ac 2))) (aV [3] 1 (bE (ac 4)) (tgN 1) bD (ao (p1 da) (ae (mOp fm (ac 1) (mOp av (ac 0) (Oh 0))) am)))))
  (aZ (mC (.bl false)))
  aH)
 (aZ (ao (aG Bp) (ae (ac 9) (ae (ac 6) (ae (ac 2) am)))))))))))))))
def E1:=bf 10 B6
end
section
noncomputable def top(i:Nat):Stmt:=PySem.Challenge.pw_calmring_k54_whole_from_text_to_rest.main.body.getD i (.Pass ⟨0,0,0,0⟩)
def tF(q:Str)(i k:Nat)(N:N0):FS:=⟨q,top i,k,N,none⟩
def tM(c:Nat)(q:Str)(i j k:Nat)(N:N0):FS:=⟨q,DT (top i) j,k,N,some c⟩
def mE(c:Nat)(n:Str)(i:Nat):Nat×Str×Nat:=(c,n,i)
noncomputable def pt:PT:={
 F:=[tF "_law_cell_at" 111 2 ["_law_script", "_law_k"],
  tF "_law_ways" 112 3 ["_law_size","_law_ties","_law_more","_law_ways_here","_law_at","_law_other"],
  tF "_law_names" 113 2 ["_law_size","_law_cell","_law_pool","_law_names_here","_law_k"],
  tF "_law_told" 114 1 ["_law_script","_law_first","_law_third","_law_kind","_law_size","_law_ways_here","_law_span","_law_parents","_law_names_here","_law_told_here"],
  tF "_law_joined" 115 1 ["_law_numbers"],
  tF "_law_head" 116 1 ["_law_told_here","_law_kind","_law_size","_law_net","_law_root","_law_span"],
  tF "refuse_count" 94 2 ["words","count"],
  tF "has_figures_alone" 93 2 ["word","most"],
  tF "read_number" 84 1 ["word","figures"],
  tF "read_numbers" 87 1 ["words"],
  tF "read_way" 89 1 ["word","ends"],
  tF "read_net" 88 1 ["words"],
  tF "read_line" 86 1 ["line","words","first","rest"],
  tF "read_text" 85 1 ["text"],
  tF "state_at" 100 1 ["lines"],
  tF "refuse_order" 101 1 ["lines","kinds","first","rules","kind"],
  tF "refuse_size" 60 2 ["size","least"],
  tF "ordered_pairs" 61 2 ["size","ways","pairs","way","pair"],
  tF "neighbours" 62 2 ["pairs","at","lower","higher"],
  tM 8 "Net.beside" 58 1 2 ["self","at"],
  tF "far_from" 59 2 ["net","root","far","steps","at","other"],
  tM 8 "Net.__init__" 58 0 3 ["self","size","ways"],
  tM 0 "Rule.__init__" 13 0 4 ["self","size","span","alone"],
  tM 1 "DownRule.__init__" 17 0 3 ["self","size","span"],
  tM 2 "PaintRule.__init__" 18 0 2 ["self","net"],
  tF "refuse_part" 33 1 ["part"],
  tF "refuse_starts" 34 3 ["net","starts","top","start"],
  tM 4 "LeastRule.__init__" 30 0 5 ["self","net","starts","stretch","blocks"],
  tM 5 "FarRule.__init__" 31 0 3 ["self","net","root","starts"],
  tF "refuse_names" 35 2 ["net","names","name"],
  tM 6 "LeadRule.__init__" 32 0 3 ["self","net","names","starts"],
  tM 7 "GrowRule.__init__" 37 0 3 ["self","net","root"],
  tF "rule_on_net" 103 2 ["net","line"],
  tM 9 "PassRule.__init__" 66 0 3 ["self","size","span"],
  tF "refuse_parents" 20 1 ["parents","kid","parent"],
  tM 3 "CountRule.__init__" 19 0 2 ["self","parents"],
  tF "rule_of" 102 1 ["lines","line"],
  tM 0 "Rule.read" 13 1 2 ["self","registers"],
  tM 2 "PaintRule.hangs_on" 18 1 2 ["self","at"],
  tM 3 "CountRule.hangs_on" 19 1 2 ["self","at"],
  tM 2 "PaintRule.due" 18 3 3 ["self","cells","at","taken","colour"],
  tM 3 "CountRule.due" 19 3 3 ["self","cells","at"],
  tM 4 "LeastRule.has_offer" 30 2 2 ["self","cell"],
  tM 4 "LeastRule.due" 30 1 3 ["self","cells","at","near","offers"],
  tM 7 "GrowRule.parts" 37 1 2 ["self","cells"],
  tM 7 "GrowRule.fars" 37 6 2 ["self","cells"],
  tM 7 "GrowRule.counts" 37 7 2 ["self","cells"],
  tM 7 "GrowRule.elder" 37 8 3 ["self","fars","at","nearer"],
  tM 7 "GrowRule.elders" 37 2 2 ["self","cells","fars"],
  tM 7 "GrowRule.due_count" 37 9 3 ["self","cells","at","kids"],
  tM 7 "GrowRule.due" 37 3 3 ["self","cells","at","fars","due_far","count"],
  tM 9 "PassRule.due" 66 1 3 ["self","cells","at"],
  tM 0 "Rule.movers" 13 3 2 ["self","cells"],
  tM 0 "Rule.calm" 13 4 2 ["self","cells"],
  tM 9 "PassRule.calm" 66 2 2 ["self","cells"],
  tF "joined" 109 1 ["things"],
  tF "shown" 106 2 ["rule","cells"],
  tF "refuse_turn" 14 2 ["rule","named","at"],
  tM 0 "Rule.turned" 13 5 3 ["self","cells","named"],
  tF "row_of" 23 3 ["rule","cells","named","behind","done"],
  tF "run" 22 3 ["rule","registers","turns","cells","rows","named"],
  tF "row_behind" 104 3 ["rule","cells","line"],
  tF "machines_shown" 107 1 ["machines"],
  tM 2 "PaintRule.rank" 18 2 2 ["self","at"],
  tM 3 "CountRule.rank" 19 2 2 ["self","at"],
  tF "power" 11 2 ["base","exponent","product","step"],
  tM 1 "DownRule.measure" 17 3 2 ["self","cells"],
  tM 4 "LeastRule.measure" 30 3 2 ["self","cells","dues","base","number","mark","rising","falling"],
  tF "rank_by_far" 38 2 ["fars","at","lower"],
  tM 7 "GrowRule.measure" 37 4 2 ["self","cells","fars","counts","wrong","weights"],
  tF "beginning" 68 1 ["cells","length"],
  tF "steps_to_fresh" 67 2 ["cells","span","steps"],
  tM 9 "PassRule.measure" 66 3 2 ["self","cells","weights"],
  tF "answer" 105 3 ["rule","row","line","cells"],
  tF "play" 99 1 ["text","lines","first","rule","cells","answers","line","row"],
  tF "_law_state" 117 2 ["_law_text","_law_size","_law_words"],
  tF "_law_turn_well" 118 4 ["_law_cells","_law_named","_law_done","_law_behind","_law_moved"],
  tF "_law_walked" 119 3 ["_law_answers","_law_turns","_law_size","_law_state_here","_law_first","_law_measure","_law_deeds","_law_k","_law_parts","_law_behind","_law_after"],
  tF "law" 120 1 ["_law_script","_law_told_here","_law_size","_law_head_here","_law_registers","_law_lines","_law_turns","_law_cell","_law_named","_law_answers"]]
 C:=["Rule","DownRule","PaintRule","CountRule","LeastRule","FarRule","LeadRule","GrowRule","Net","PassRule"]
 X:=["CalmError","BadNet","BadRule","BadState","BadTurn","BadText","TooGreat","NoMeasure"]
 A:=["size","pairs","near","top","net","starts","stretch","span","alone","far_rule","root","parents"]
 M:=[mE 8 "beside" 19,mE 2 "read" 37,mE 3 "read" 37,mE 5 "read" 37,mE 6 "read" 37,mE 7 "read" 37,mE 9 "read" 37,mE 2 "hangs_on" 38,mE 3 "hangs_on" 39,mE 5 "has_offer" 42,mE 6 "has_offer" 42,mE 7 "parts" 44,mE 7 "fars" 45,mE 5 "due" 43,mE 7 "counts" 46,mE 7 "elder" 47,mE 7 "elders" 48,mE 7 "due_count" 49,mE 2 "due" 40,mE 3 "due" 41,mE 6 "due" 43,mE 7 "due" 50,mE 9 "due" 51,mE 2 "movers" 52,mE 3 "movers" 52,mE 5 "movers" 52,mE 6 "movers" 52,mE 7 "movers" 52,mE 9 "movers" 52,mE 2 "calm" 53,mE 3 "calm" 53,mE 5 "calm" 53,mE 6 "calm" 53,mE 7 "calm" 53,mE 9 "calm" 54,mE 2 "turned" 58,mE 3 "turned" 58,mE 5 "turned" 58,mE 6 "turned" 58,mE 7 "turned" 58,mE 9 "turned" 58,mE 2 "rank" 63,mE 3 "rank" 64,mE 5 "measure" 67,mE 2 "measure" 66,mE 3 "measure" 66,mE 6 "measure" 67,mE 7 "measure" 69,mE 9 "measure" 72]
 Mk:=[(3,35),(5,28),(7,31),(6,30),(8,21),(2,24),(9,33)]
 U:=[(1,23),(4,27),(0,22)]
 B:=["len","range","min","list","str","all","int","tuple","max","sorted","set","enumerate","sum","zip","isinstance"]
 I:=[("MOST_FIGURES",60),("GREATEST_NET",10),("LEAST_NET",1),("GREATEST_PART",10),("GREATEST_NAME",9),("LEAD_BLOCKS",10),("LEAST_RING_passing",2),("GREATEST_RING_passing",20),("MOST_PARENTS",9)]
 KT:=[]
 HT:=[]
 D:=[["kind","size","ways","parents","names","root","span"]]}
noncomputable def pe:PE:=⟨[("NUMBERS",[("pass",(2)),("paint",(0)),("far",(1)),("grow",(1)),("spoil",(2)),("may",(0)),("measure",(0))])],[("FIGURES","0123456789")],[("ROWS",["count","lead","state","turn"]),("NET_RULES",["paint","far","lead","grow"]),("BARE_RULES",["pass","count","table"]),("DOINGS",["turn","spoil","may","measure","look"])]⟩
theorem hA:pt.attOk:=⟨by decide +kernel,by decide +kernel⟩
abbrev T(K:PySem.W.Frag):Tb:=pt.T hA K
section
variable{P:Program}{w:World}{K:PySem.W.Frag}{mg:NS}{base:Heap}
abbrev Zq(P:Program)(_:Ty pt pe w K mg)(_:K.In base)(k i:Nat)(f:List PV->Res PV):Prop:=OkF pt hA P w K mg base k i f
variable(t:Ty pt pe w K mg:=by assumption)(hB:K.In base:=by assumption)
include t hB
theorem nV:Zq P t hB 1 0 iS:=okC 0 t.tx λu cx nd=>
 (ag (aL (gC sv (bI cx.hK rfl (u.b 0) sv)) (ak (aD (aK cx sv sv))) aF)
 (ak (aD ai)))
theorem G6:Zq P t hB 1 1 Bf:=okC 1 t.tx λu cx nd=>
 (ag (a_ (fE ah))
 (ag (cK cx.po cx.calm (xq rfl (u.b 1) (aa ai (aa sv ah))) sgN (ag (uG cx (iU (aa (cP sv sv) (aa sv ah))))
 (ak (a_ (iC sv sv)))))
 (ag (cK cx.po cx.calm (dY rfl (u.b 1) (aa sv ah)) sgN (ak (cK cx.po cx.calm (dY rfl (u.b 1) (aa sv ah)) sgN (ag (aL (SW.st (gK (zbA cx (cP sv ai) ai) (e9 (i4 cx.hK cx.hu2 (iU (aa sv (aa sv ah))) sv)))) (ak (uG cx (iU (aa sv (aa sv ah))))) aF)
 (ak (a_ (iC sv ai)))))))
 (ak (d9 rfl (Or.inl rfl))))))
theorem Hd:Zq P t hB 1 2 Bo:=okC 2 t.tx λu cx nd=>
 (ag (a_ (xu cx.calm rfl (u.b 3) rh rfl (u.b 1) (aa ai ah)))
 (ag (a_ (fE ah))
 (ag (cK cx.po cx.calm (dY rfl (u.b 1) (aa sv ah)) sgN (ag (xm cx.hK rfl (Or.inl rfl) rfl (Or.inl rfl) (cP sv (bI cx.hK rfl (u.b 0) sv)))
 (ak (a_ (iC sv (fZ ai sv))))))
 (ak (d9 rfl (Or.inl rfl))))))
theorem G8:Zq P t hB 2 3 Bg:=okC 3 t.tx λu cx nd=>
 (ag (a_ (aX u nV cx (aa sv (aa ai ah))))
 (ag (a_ (aX u nV cx (aa sv (aa ai ah))))
 (ag (a_ (aK cx (fE (aa au (aa au (aa au (aa au (aa au (aa au ah))))))) (cP sv ai)))
 (ag (a_ (aW ai (cP (iC sv ai) ai)))
 (ag (aL (zbA cx sv au) (ak (a_ (aW ai (cP (iC sv ai) ai)))) aF)
 (ag (a_ (aX u G6 cx (aa sv (aa (aX u nV cx (aa sv (aa ai ah))) (aa (aX u nV cx (aa sv (aa ai ah))) ah)))))
 (ag (a_ (aW sv (cP (iC sv ai) ai)))
 (ag (aL (zbA cx (cP sv ai) ai) (ak (a_ (aW sv (cP (iC sv ai) (uF ai ai))))) aF)
 (ag (c_ ["_law_way"] cx nd (bt cx.hK (c9 cx.hK sv d_ (dy (fZ sv ai)))) bY (λ_ _ _ _ nd=>⟨sgN,br,aK cx.comp sv ai⟩))
 (ag (a_ (aX u Hd cx (aa (mQ cx.calm rfl (u.b 2) (aa sv (aa ai ah))) (aa sv ah))))
 (cO (i:=5) (cO (i:=7) (cO (i:=8) (Cq (k:=0) (x:=9) (ks:=["kind","size","ways","parents","names"]) (ms:=[(ac 3),ac 4,ac 5,ac 7,(ac 8)]) nd rfl (Or.inl rfl) (Or.inl rfl) () cx.hu rfl (λ_ _ _ o a b=>⟨o,a,b⟩) (by decide +kernel) rfl () (ja iH sv (ja iH sv (ja iH sv (ja iH sv (ja iH sv C5))))) (cP sv sv) sv))))))))))))))
theorem z7:Zq P t hB 1 4 wA:=okC 4 t.tx λu cx nd=>
 (ak (aD (iB cx.hK au (dB ["_law_number"] cx (bt cx.hK sv) bY (λ_ _ _ _ nd=>⟨sgN,br,fe rfl (u.b 4) sv⟩)))))
theorem G5:Zq P t hB 2 5 Be:=okC 5 t.tx λu cx nd=>
 (ag (a_ (gM 0 0 cx.hu rfl (λ_ _ _ h=>h) sv))
 (ag (a_ (gM 0 1 cx.hu rfl (λ_ _ _ h=>h) sv))
 (ag (aL (zbA cx sv au) (ak (aD (iU (aa (gM 0 6 cx.hu rfl (λ_ _ _ h=>h) sv) (aa (fN (uE (.cons au (.cons (qi sv) (.cons au .nil)))) (fe rfl (u.b 4) (gM 0 6 cx.hu rfl (λ_ _ _ h=>h) sv))) ah))))) aF)
 (ag (aL (zbA cx sv au) (ak (aD (iU (aa (aW sv ai) (aa (iB cx.hK au (aW (fE (aa au ah)) (dB ["_law_parent"] cx (bt cx.hK (gM 0 3 cx.hu rfl (λ_ _ _ h=>h) sv)) bY (λ_ _ _ _ nd=>⟨sgN,br,fe rfl (u.b 4) sv⟩)))) ah))))) aF)
 (ag (a_ (fN (iB cx.hK au (aW (fE (aa (uE (.cons au (.cons (qi sv) .nil))) ah)) (dB ["_law_way"] cx (bt cx.hK (gM 0 2 cx.hu rfl (λ_ _ _ h=>h) sv)) bY (λ_ _ _ _ nd=>⟨sgN,br,fN (fN (fe rfl (u.b 4) (aK cx.comp sv ai)) au) (fe rfl (u.b 4) (aK cx.comp sv ai))⟩)))) au))
 (ag (aL (zbA cx sv au) (ak (aD (iU (aa sv (aa (fN sv au) ah))))) aF)
 (ag (aL (zbA cx sv au) (ak (aD (iU (aa (aW (dQ ai sv) ai) (aa (fN (fN sv au) (aX u z7 cx (aa (gM 0 4 cx.hu rfl (λ_ _ _ h=>h) sv) ah))) ah))))) aF)
 (ag (a_ (gM 0 5 cx.hu rfl (λ_ _ _ h=>h) sv))
 (ag (a_ (aW sv ai))
 (ag (aL (zbA cx sv au) (ak (a_ (dQ sv sv))) aF)
 (ak (aD (iU (aa sv (aa (fN sv (uE (.cons (qi sv) (.cons au (.cons (qi sv) .nil))))) ah)))))))))))))))
theorem z_:Zq P t hB 1 6 pS:=okC 6 t.tx λu cx nd=>
 (ak (aL (dX cx.hK cx.hu (bI cx.hK rfl (u.b 0) sv) sv) (ak (bJ 5 u cx hB bH (aa au ah))) aF))
theorem KC:Zq P t hB 1 7 D6:=okC 7 t.tx λu cx nd=>
 (ak (aD (k_ (J5 (vS rfl (u.b 0) sv) ai) (k_ (J2 (vS rfl (u.b 0) sv) sv) (jK (zn cx.hK cx.calm rfl (u.b 5) (dB ["sign"] cx (Cv sv) bY (λ_ _ _ _ nd=>⟨sgN,br,F7 sv (zi rfl (t.ss 0))⟩))))))))
theorem qt:Zq P t hB 2 8 ou:=okC 8 t.tx λu cx nd=>
 (ag (a_ (f8 (d8 cx.hK (pp sv au)) (xt sv (dy ai) d_) sv))
 (ag (aL (qb (d8 cx.hK (aX u KC cx (aa sv (aa (dF rfl (u.c 0)) ah))))) (ak (bJ 5 u cx hB bH (aa au ah))) aF)
 (ag (aL (SW.st (gK (d8 cx.hK (pp sv au)) (e9 (dX cx.hK cx.hu sv au)))) (ak (bJ 5 u cx hB bH (aa au ah))) aF)
 (ak (aD (qh rfl (u.b 6) sv))))))
theorem z9:Zq P t hB 3 9 wF:=okC 9 t.tx λu cx nd=>
 (ak (aD (dB ["word"] cx (bt cx.hK sv) bY (λ_ _ _ _ nd=>⟨sgN,br,aX u qt cx.comp (aa sv ah)⟩))))
theorem G9:Zq P t hB 3 10 wx:=okC 10 t.tx λu cx nd=>
 (ag (a_ (f7 sv au))
 (ag (e_ (aX u z_ cx (aa sv (aa ai ah))))
 (ak (aD (iU (aa (aX u qt cx (aa (aK cx sv ai) ah)) (aa (aX u qt cx (aa (aK cx sv ai) ah)) ah)))))))
theorem G_:Zq P t hB 4 11 Bj:=okC 11 t.tx λu cx nd=>
 (ag (aL (zbA cx (bI cx.hK rfl (u.b 0) sv) ai) (ak (bJ 5 u cx hB bH (aa au ah))) aF)
 (ak (aD (iU (aa au (aa (aX u qt cx (aa (aK cx sv ai) ah)) (aa (dB ["word"] cx (bt cx.hK (c9 cx.hK sv (dy ai) d_)) bY (λ_ _ _ _ nd=>⟨sgN,br,aX u G9 cx.comp (aa sv ah)⟩)) ah)))))))
theorem Ha:Zq P t hB 5 12 Bk:=okC 12 t.tx λu cx nd=>
 (ag (a_ (f7 sv au))
 (ag (a_ (aK cx sv ai))
 (ag (a_ (c9 cx.hK sv (dy ai) d_))
 (ag (aL (Cn rfl (t.gm 0) (t.gd 0) sv) (ag (e_ (aX u z_ cx (aa sv (aa (CH rfl (t.gm 0) (t.gd 0) sv (λ_ _=>rfl)) ah))))
 (ak (aD (gS cx.hK rfl (u.b 7) iu (aW (fE (aa sv ah)) (aX u z9 cx (aa sv ah))))))) aF)
 (ag (aL (nq cx.hK cx.hu2 sv (kf (xs:=["count", "lead", "state", "turn"]) cx.hK rfl (t.pm 0) (t.pd 0) ())) (ak (aD (iU (aa sv (aa (aX u z9 cx (aa sv ah)) ah))))) aF)
 (ag (aL (zbA cx sv au) (ak (aD (aX u G_ cx (aa sv ah)))) aF)
 (ag (aL (zbA cx sv au) (ak (aD i6)) aF)
 (ag (aL (zbA cx sv au) (ak (aD i6)) aF)
 (ak (bJ 5 u cx hB bH (aa au ah)))))))))))
theorem Hc:Zq P t hB 6 13 Bm:=okC 13 t.tx λu cx nd=>
 (ak (aD (dB ["line"] cx (bt cx.hK (f7 sv au)) bY (λ_ _ _ _ nd=>⟨sgN,br,aX u Ha cx.comp (aa sv ah)⟩))))
theorem z5:Zq P t hB 1 14 wv:=okC 14 t.tx λu cx nd=>
 (ak (aD (f8 (zbA cx (aK cx (aK cx sv ai) ai) au) ai ai)))
theorem Ho:Zq P t hB 2 15 Bu:=okC 15 t.tx λu cx nd=>
 (ag (c_ ["line"] cx nd (bt cx.hK sv) bY (λ_ _ _ _ nd=>⟨sgN,br,aK cx.comp sv ai⟩))
 (ag (a_ (aX u z5 cx (aa sv ah)))
 (ag (a_ (f8 (zbA cx (aK cx sv ai) au) (kf (xs:=["paint", "far", "lead", "grow"]) cx.hK rfl (t.pm 1) (t.pd 1) ()) (kf (xs:=["pass", "count", "table"]) cx.hK rfl (t.pm 2) (t.pd 2) ())))
 (ag (aL (SW.st (fW (JZ (bI cx.hK rfl (u.b 0) sv) sv) (d7 (dX cx.hK cx.hu (aK cx sv sv) au)))) (ak (bJ 5 u cx hB bH (aa au ah))) aF)
 (ag (aL (i4 cx.hK cx.hu2 (aK cx sv (fZ sv ai)) sv) (ak (bJ 5 u cx hB bH (aa au ah))) aF)
 (ak (cK cx.po cx.calm (iz cx.hK (c9 cx.hK sv (dy (aW sv ai)) d_)) sgN (ak (aL (i4 cx.hK cx.hu2 sv (kf (xs:=["turn","spoil","may","measure","look"]) cx.hK rfl (t.pm 3) (t.pd 3) ())) (ak (bJ 5 u cx hB bH (aa au ah))) aF)))))))))
theorem Hk:Zq P t hB 1 16 Br:=okC 16 t.tx λu cx nd=>
 (ak (aL (SW.st (fW (gC sv sv) (d7 (j9 sv (dF rfl (u.c 1)))))) (ak (bJ 1 u cx hB bH (aa au ah))) aF))
theorem Ht:Zq P t hB 1 17 Bx:=okC 17 t.tx λu cx nd=>
 (ag (a_ (fE ah))
 (ag (cK cx.po cx.calm (iz cx.hK sv) sgN (ag (a_ (iU (aa (vQ cx.hK cx.calm rfl (u.b 2) sv) (aa (vR cx.hK cx.calm rfl (u.b 8) sv) ah))))
 (ag (aL (SW.st (fW (gC (aK cx sv ai) ai) (d7 (o_ (aK cx sv ai) sv)))) (ak (bJ 1 u cx hB bH (aa au ah))) aF)
 (ag (aL (zbA cx (aK cx sv ai) (aK cx sv ai)) (ak (bJ 1 u cx hB bH (aa au ah))) aF)
 (ag (aL (nq cx.hK cx.hu2 sv sv) (ak (bJ 1 u cx hB bH (aa au ah))) aF)
 (ak (uG cx sv)))))))
 (ak (aD (pq cx.hK rfl (u.b 9) sv)))))
theorem Hf:Zq P t hB 1 18 wC:=okC 18 t.tx λu cx nd=>
 (ag (c_ ["pair"] cx nd (bt cx.hK sv) bY (λ_ _ _ _ nd=>⟨sgN,cE (bA cx.comp.hK cx.comp.hu (aK cx.comp sv ai) sv),aK cx.comp sv ai⟩))
 (ag (c_ ["pair"] cx nd (bt cx.hK sv) bY (λ_ _ _ _ nd=>⟨sgN,cE (bA cx.comp.hK cx.comp.hu (aK cx.comp sv ai) sv),aK cx.comp sv ai⟩))
 (ak (aD (pq cx.hK rfl (u.b 9) (aW sv sv))))))
theorem He:Zq P t hB 1 19 wB:=okC 19 t.tx λu cx nd=>
 (ak (aD (CG cx.hK rfl (u.b 3) rh (aK cx (a5 2 u cx sv) sv))))
omit t hB in
abbrev DTy(X:Cx)(k:Nat)(n:Str)(p:List Str)(d:Nat->Option (List PV->Res PV)):Prop:=∀(t:Ty pt pe X.w X.K X.mg)(hB:X.K.In X.base),gB X (T X.K) k n p [] d
omit t hB in
theorem dP:DTy X 1 "beside" ["self","at"] bO:=λt hB _ _ _ e=>by unfold bO at e;split at e<;>first|exact dm 0 t.tx He e|cases e
theorem G7:Zq P t hB 2 20 ww:=okC 20 t.tx λu cx nd=>
 (ag (c_ ["at"] cx nd (bW rfl (u.b 1) (aa (a5 0 u cx sv) ah)) bY (λ_ _ _ _ nd=>⟨sgN,br,a5 0 u cx.comp sv⟩))
 (ag (rM rfl (Or.inl rfl) sv ai)
 (ag (cK cx.po cx.calm (dY rfl (u.b 1) (aa (a5 0 u cx sv) ah)) sgN (ak (cK cx.po cx.calm (dY rfl (u.b 1) (aa (a5 0 u cx sv) ah)) sgN (ak (aL (zbA cx (aK cx sv sv) sv) (ak (cK cx.po cx.calm (iz cx.hK (cQ u (dP t hB) cx sv (aa sv ah))) sgN (ak (rM rfl (Or.inl rfl) sv (mQ cx.calm rfl (u.b 2) (aa (aK cx sv sv) (aa (aW sv ai) ah))))))) aF)))))
 (ak (d9 rfl (Or.inl rfl))))))
theorem G4:OkI pt hA P w K mg base 3 21 Bd:=okI 21 t.tx λu cx nd=>
 (ag (e_ (aX u Hk cx (aa sv (aa (dF rfl (u.c 2)) ah))))
 (ag (sFld 0 u cx sv)
 (ag (sFld 1 u cx (gS cx.hK rfl (u.b 7) iu (aX u Ht cx (aa sv (aa sv ah)))))
 (ag (sFld 2 u cx (gS cx.hK rfl (u.b 7) iu (dB ["at"] cx (bW rfl (u.b 1) (aa sv ah)) bY (λ_ _ _ _ nd=>⟨sgN,br,gS cx.comp.hK rfl (u.b 7) iu (aX u Hf cx.comp (aa (a5 1 u cx.comp sv) (aa sv ah)))⟩))))
 (ak (aL (zbA cx (vR cx.hK cx.calm rfl (u.b 8) (aX u G7 cx (aa sv (aa ai ah)))) sv) (ak (bJ 1 u cx hB bH (aa au ah))) aF))))))
theorem qr:OkI pt hA P w K mg base 1 22 kO:=okI 22 t.tx λu cx nd=>
 (ag (sFld 0 u cx sv)
 (ag (sFld 7 u cx sv)
 (ak (sFld 8 u cx sv))))
theorem Ab:OkI pt hA P w K mg base 3 23 tU:=okI 23 t.tx λu cx nd=>
 (ak (rY 0 u (qr t hB) cx (aa sv (aa sv (aa i8 ah)))))
theorem Kq:OkI pt hA P w K mg base 5 24 Iw:=okI 24 t.tx λu cx nd=>
 (cO (i:=1) (ag (sFld 4 u cx sv)
 (ak (rY 1 u (Ab t hB) cx (aa (a5 0 u cx sv) (aa (a5 0 u cx sv) ah))))))
theorem z8:Zq P t hB 1 25 wE:=okC 25 t.tx λu cx nd=>
 (ak (aL (SW.st (fW (gC sv ai) (d7 (j9 sv (dF rfl (u.c 3)))))) (ak (bJ 2 u cx hB bH (aa au ah))) aF))
theorem HB:Zq P t hB 1 26 BE:=okC 26 t.tx λu cx nd=>
 (ag (aL (dX cx.hK cx.hu (bI cx.hK rfl (u.b 0) sv) (a5 0 u cx sv)) (ak (bJ 2 u cx hB bH (aa au ah))) aF)
 (ak (cK cx.po cx.calm (iz cx.hK sv) sgN (ak (aL (SW.st (gK (vN sv jL) (e9 (SW.st (fW (gC sv ai) (d7 (o_ sv sv))))))) (ak (bJ 2 u cx hB bH (aa au ah))) aF)))))
theorem EM:OkI pt hA P w K mg base 3 27 D3:=okI 27 t.tx λu cx nd=>
 (ag (e_ (aX u z8 cx (aa sv ah)))
 (ag (e_ (aX u z8 cx (aa sv ah)))
 (ag (sFld 3 u cx (dQ sv sv))
 (ag (e_ (aX u HB cx (aa sv (aa sv (aa (a5 3 u cx sv) ah)))))
 (cO (i:=1) (ag (sFld 4 u cx sv)
 (ag (sFld 5 u cx (gS cx.hK rfl (u.b 7) iu sv))
 (ag (sFld 6 u cx sv)
 (ak (rY 0 u (qr t hB) cx (aa (a5 0 u cx sv) (aa (aW (a5 3 u cx sv) ai) (aa i8 ah)))))))))))))
theorem Aa:OkI pt hA P w K mg base 5 28 wG:=okI 28 t.tx λu cx nd=>
 (ag (aL (SW.st (fW (gC sv ai) (d7 (o_ sv (a5 0 u cx sv))))) (ak (bJ 2 u cx hB bH (aa au ah))) aF)
 (ag (c_ ["at"] cx nd (bW rfl (u.b 1) (aa (a5 0 u cx sv) ah)) bY (λ_ _ _ _ nd=>⟨sgN,br,f8 (bA cx.comp.hK cx.comp.hu sv sv) ai jL⟩))
 (cO (i:=3) (cO (i:=1) (ak (rY 4 u (EM t hB) cx (aa sv (aa sv (aa (a5 0 u cx sv) (aa ai ah))))))))))
theorem Hr:Zq P t hB 1 29 Bw:=okC 29 t.tx λu cx nd=>
 (ag (aL (dX cx.hK cx.hu (bI cx.hK rfl (u.b 0) sv) (a5 0 u cx sv)) (ak (bJ 2 u cx hB bH (aa au ah))) aF)
 (ag (aL (dX cx.hK cx.hu (pz cx.hK cx.calm rfl (u.b 0) rfl (u.b 10) sv) (bI cx.hK rfl (u.b 0) sv)) (ak (bJ 2 u cx hB bH (aa au ah))) aF)
 (ak (cK cx.po cx.calm (iz cx.hK sv) sgN (ak (aL (SW.st (fW (gC sv ai) (d7 (j9 sv (dF rfl (u.c 4)))))) (ak (bJ 2 u cx hB bH (aa au ah))) aF))))))
theorem Hy:OkI pt hA P w K mg base 5 30 BB:=okI 30 t.tx λu cx nd=>
 (cO (i:=1) (ag (e_ (aX u Hr cx (aa sv (aa sv ah))))
 (ag (c_ ["name"] cx nd (bt cx.hK sv) bY (λ_ _ _ _ nd=>⟨sgN,br,dQ (fZ (dF rfl (u.c 4)) sv) (a5 0 u cx.comp sv)⟩))
 (cO (i:=3) (ak (rY 4 u (EM t hB) cx (aa sv (aa sv (aa (a5 0 u cx sv) (aa (dF rfl (u.c 5)) ah))))))))))
theorem Hx:OkI pt hA P w K mg base 7 31 BA:=okI 31 t.tx λu cx nd=>
 (cO (i:=1) (ag (sFld 9 u cx (rZ 5 u (Aa t hB) cx (aa sv (aa sv ah))))
 (ag (sFld 4 u cx sv)
 (ag (sFld 10 u cx sv)
 (ak (rY 0 u (qr t hB) cx (aa (a5 0 u cx sv) (aa (dQ (aW (a5 0 u cx sv) ai) (aW (a5 0 u cx sv) ai)) (aa i8 ah)))))))))
theorem Hi:Zq P t hB 9 32 wD:=okC 32 t.tx λu cx nd=>
 (cO (i:=0) (ag (aL (zbA cx (aK cx sv ai) au) (ak (aD (rZ 2 u (Kq t hB) cx (aa sv ah)))) aF)
 (ag (aL (zbA cx (aK cx sv ai) au) (ak (aD (rZ 5 u (Aa t hB) cx (aa sv (aa (aK cx sv ai) ah))))) aF)
 (ag (aL (zbA cx (aK cx sv ai) au) (ak (aD (rZ 6 u (Hy t hB) cx (aa sv (aa (aK cx sv ai) ah))))) aF)
 (ak (aD (rZ 7 u (Hx t hB) cx (aa sv (aa (aK cx sv ai) ah)))))))))
theorem Hs:OkI pt hA P w K mg base 3 33 wH:=okI 33 t.tx λu cx nd=>
 (ag (aL (SW.st (fW (gC sv (dF rfl (u.c 6))) (d7 (j9 sv (dF rfl (u.c 7)))))) (ak (bJ 2 u cx hB bH (aa au ah))) aF)
 (ag (aL (gC sv sv) (ak (bJ 2 u cx hB bH (aa au ah))) aF)
 (ak (rY 0 u (qr t hB) cx (aa sv (aa sv (aa i8 ah)))))))
theorem Kx:Zq P t hB 1 34 IC:=okC 34 t.tx λu cx nd=>
 (ag (aL (j9 (bI cx.hK rfl (u.b 0) sv) (dF rfl (u.c 8))) (ak (bJ 2 u cx hB bH (aa au ah))) aF)
 (ak (cK cx.po cx.calm (Cw cx.hK rfl (u.b 11) sv) (nC cx.hK cx.calm (dE nd rfl (Or.inl rfl) (dE nd rfl (Or.inl rfl) kc))) (ak (aL (SW.st (fW (gC sv ai) (d7 (o_ sv sv)))) (ak (bJ 2 u cx hB bH (aa au ah))) aF)))))
theorem Kv:OkI pt hA P w K mg base 5 35 D4:=okI 35 t.tx λu cx nd=>
 (ag (e_ (aX u Kx cx (aa sv ah)))
 (ag (sFld 11 u cx (gS cx.hK rfl (u.b 7) iu sv))
 (ak (rY 1 u (Ab t hB) cx (aa (aW (bI cx.hK rfl (u.b 0) sv) ai) (aa (aW (bI cx.hK rfl (u.b 0) sv) ai) ah))))))
theorem G3:Zq P t hB 10 36 pR:=okC 36 t.tx λu cx nd=>
 (ag (a_ (aK cx sv (qg ai)))
 (ag (aL (zbA cx (aK cx (aK cx sv ai) ai) au) (ak (aD (aX u Hi cx (aa (rZ 8 u (G4 t hB) cx (aa (aK cx (aK cx sv ai) ai) (aa (aK cx (aK cx sv ai) ai) ah))) (aa sv ah))))) aF)
 (ag (aL (zbA cx (aK cx sv ai) au) (ak (aD (rZ 9 u (Hs t hB) cx (aa (aK cx sv ai) (aa (aK cx sv ai) ah))))) aF)
 (ag (aL (zbA cx (aK cx sv ai) au) (ak (aD (rZ 3 u (Kv t hB) cx (aa (aK cx sv ai) ah)))) aF)
 (ak (aD i6))))))
theorem lr:Zq P t hB 1 37 kN:=okC 37 t.tx λu cx nd=>
 (ag (aL (dX cx.hK cx.hu (bI cx.hK rfl (u.b 0) sv) (a5 0 u cx sv)) (ak (bJ 3 u cx hB bH (aa au ah))) aF)
 (ak (aD (dB ["number"] cx (bt cx.hK sv) bY (λ_ _ _ _ nd=>⟨sgN,br,cP sv (a5 7 u cx.comp sv)⟩)))))
omit t hB in
theorem cH:DTy X 1 "read" ["self","registers"] bu:=λt hB _ _ _ e=>by unfold bu at e;split at e<;>first|exact dm 1 t.tx lr e|exact dm 2 t.tx lr e|exact dm 3 t.tx lr e|exact dm 4 t.tx lr e|exact dm 5 t.tx lr e|exact dm 6 t.tx lr e|cases e
theorem KE:Zq P t hB 2 38 IH:=okC 38 t.tx λu cx nd=>
 (ak (aD (dB ["other"] cx (bt cx.hK (cQ u (dP t hB) cx (a5 4 u cx sv) (aa sv ah))) bY (λ_ _ _ _ nd=>⟨sgN,cE (gC sv sv),sv⟩))))
theorem KD:Zq P t hB 1 39 IG:=okC 39 t.tx λu cx nd=>
 (ak (aD (dB ["kid","parent"] cx (zd cx.hK rfl (u.b 11) (a5 11 u cx sv)) (mM (dW bY (dW bY j5))) (λ_ _ _ _ nd=>⟨nC cx.comp.hK cx.comp.calm (dE nd rfl (Or.inl rfl) (dE nd rfl (Or.inl rfl) kc)),cE (bA cx.comp.hK cx.comp.hu sv sv),sv⟩))))
omit t hB in
theorem fL:DTy X 2 "hangs_on" ["self","at"] b5:=λt hB _ _ _ e=>by unfold b5 at e;split at e<;>first|exact dm 7 t.tx KE e|exact dm 8 t.tx KD e|cases e
theorem Hz:Zq P t hB 3 40 BC:=okC 40 t.tx λu cx nd=>
 (ag (c_ ["other"] cx nd (bt cx.hK (cQ u (fL t hB) cx sv (aa sv ah))) bY (λ_ _ _ _ nd=>⟨sgN,br,aK cx.comp sv sv⟩))
 (ag (a_ ai)
 (ag (ny cx.po (nq cx.hK cx.hu2 sv sv) (ak (a_ (aW sv ai))))
 (ak (d9 rfl (Or.inl rfl))))))
theorem HA:Zq P t hB 3 41 BD:=okC 41 t.tx λu cx nd=>
 (ak (aD (mQ cx.calm rfl (u.b 2) (aa (a5 0 u cx sv) (aa (aW ai (nD cx.hK cx.calm rfl (u.b 12) (dB ["kid"] cx (bt cx.hK (cQ u (fL t hB) cx sv (aa sv ah))) bY (λ_ _ _ _ nd=>⟨sgN,br,aK cx.comp sv sv⟩)))) ah)))))
theorem EO:Zq P t hB 1 42 BF:=okC 42 t.tx λu cx nd=>
 (ak (aD (k_ (vP cx.hK cx.hu sv (a5 3 u cx sv)) (jK (vP cx.hK cx.hu (cP (aW sv ai) (a5 6 u cx sv)) ai)))))
omit t hB in
theorem je:DTy X 1 "has_offer" ["self","cell"] eJ:=λt hB _ _ _ e=>by unfold eJ at e;split at e<;>first|exact dm 9 t.tx EO e|exact dm 10 t.tx EO e|cases e
theorem uW:Zq P t hB 2 43 tR:=okC 43 t.tx λu cx nd=>
 (ag (c_ ["other"] cx nd (bt cx.hK (cQ u (dP t hB) cx (a5 4 u cx sv) (aa sv ah))) bY (λ_ _ _ _ nd=>⟨sgN,br,aK cx.comp sv sv⟩))
 (ag (c_ ["cell"] cx nd (bt cx.hK sv) bY (λ_ _ _ _ nd=>⟨sgN,cE (d8 cx.comp.hK (cQ u (je t hB) cx.comp sv (aa sv ah))),aW sv ai⟩))
 (ag (aL (vN (aK cx (a5 5 u cx sv) sv) jL) (ak (uG cx (aK cx (a5 5 u cx sv) sv))) aF)
 (ak (aD (vQ cx.hK cx.calm rfl (u.b 2) (aW sv (fE (aa (a5 3 u cx sv) ah)))))))))
theorem Kt:Zq P t hB 1 44 Iz:=okC 44 t.tx λu cx nd=>
 (ak (aD (dB ["cell"] cx (bt cx.hK sv) bY (λ_ _ _ _ nd=>⟨sgN,br,iU (aa (iC sv (aW (a5 0 u cx.comp sv) ai)) (aa (cP sv (aW (a5 0 u cx.comp sv) ai)) ah))⟩))))
omit t hB in
theorem jd:DTy X 1 "parts" ["self","cells"] fB:=λt hB _ _ _ e=>by unfold fB at e;split at e<;>first|exact dm 11 t.tx Kt e|cases e
theorem Hu:Zq P t hB 2 45 By:=okC 45 t.tx λu cx nd=>
 (ak (aD (dB ["part"] cx (bt cx.hK (cQ u (jd t hB) cx sv (aa sv ah))) bY (λ_ _ _ _ nd=>⟨sgN,br,aK cx.comp sv ai⟩))))
omit t hB in
theorem gN:DTy X 2 "fars" ["self","cells"] dU:=λt hB _ _ _ e=>by unfold dU at e;split at e<;>first|exact dm 12 t.tx Hu e|cases e
omit t hB in
theorem qu:DTy X 2 "due" ["self","cells","at"] lS:=λt hB _ _ _ e=>by unfold lS at e;split at e<;>first|exact dm 13 t.tx uW e|cases e
theorem Ky:Zq P t hB 2 46 ID:=okC 46 t.tx λu cx nd=>
 (ak (aD (dB ["part"] cx (bt cx.hK (cQ u (jd t hB) cx sv (aa sv ah))) bY (λ_ _ _ _ nd=>⟨sgN,br,aK cx.comp sv ai⟩))))
omit t hB in
theorem fG:DTy X 2 "counts" ["self","cells"] cM:=λt hB _ _ _ e=>by unfold cM at e;split at e<;>first|exact dm 14 t.tx Ky e|cases e
theorem Kw:Zq P t hB 2 47 IB:=okC 47 t.tx λu cx nd=>
 (ag (aL (zbA cx sv (a5 10 u cx sv)) (ak (aD jL)) aF)
 (ag (c_ ["other"] cx nd (bt cx.hK (cQ u (dP t hB) cx (a5 4 u cx sv) (aa sv ah))) bY (λ_ _ _ _ nd=>⟨sgN,cE (bA cx.comp.hK cx.comp.hu (aK cx.comp sv sv) (fZ (aK cx.comp sv sv) ai)),sv⟩))
 (ak (aD (CC cx.hK cx.calm rfl (u.b 2) sv)))))
omit t hB in
theorem nW:DTy X 2 "elder" ["self","fars","at"] jq:=λt hB _ _ _ e=>by unfold jq at e;split at e<;>first|exact dm 15 t.tx Kw e|cases e
theorem Kz:Zq P t hB 3 48 IE:=okC 48 t.tx λu cx nd=>
 (ag (a_ (cQ u (gN t hB) cx sv (aa sv ah)))
 (ak (aD (dB ["at"] cx (bW rfl (u.b 1) (aa (a5 0 u cx sv) ah)) bY (λ_ _ _ _ nd=>⟨sgN,br,cQ u (nW t hB) cx.comp sv (aa sv (aa sv ah))⟩)))))
omit t hB in
theorem mD:DTy X 3 "elders" ["self","cells"] iP:=λt hB _ _ _ e=>by unfold iP at e;split at e<;>first|exact dm 16 t.tx Kz e|cases e
theorem KF:Zq P t hB 4 49 II:=okC 49 t.tx λu cx nd=>
 (ag (c_ ["count", "elder"] cx nd (qe cx.hK rfl (u.b 13) (aa (cQ u (fG t hB) cx sv (aa sv ah)) (aa (cQ u (mD t hB) cx sv (aa sv ah)) ah))) (mM (dW bY (dW bY j5))) (λ_ _ _ _ nd=>⟨nC cx.comp.hK cx.comp.calm (dE nd rfl (Or.inl rfl) (dE nd rfl (Or.inl rfl) kc)),cE (bA cx.comp.hK cx.comp.hu sv sv),sv⟩))
 (ak (aD (mQ cx.calm rfl (u.b 2) (aa (a5 0 u cx sv) (aa (aW ai (nD cx.hK cx.calm rfl (u.b 12) sv)) ah))))))
omit t hB in
theorem gg:DTy X 4 "due_count" ["self","cells","at"] cN:=λt hB _ _ _ e=>by unfold cN at e;split at e<;>first|exact dm 17 t.tx KF e|cases e
theorem Hn:Zq P t hB 5 50 Bt:=okC 50 t.tx λu cx nd=>
 (ag (a_ (cQ u (gN t hB) cx sv (aa sv ah)))
 (ag (a_ (cQ u (qu t hB) cx (a5 9 u cx sv) (aa sv (aa sv ah))))
 (ag (a_ (aK cx (cQ u (fG t hB) cx sv (aa sv ah)) sv))
 (ag (aL (zbA cx sv (aK cx sv sv)) (ak (a_ (cQ u (gg t hB) cx sv (aa sv (aa sv ah))))) aF)
 (ak (aD (aW (dQ sv (aW (a5 0 u cx sv) ai)) sv)))))))
theorem Hq:Zq P t hB 1 51 Bv:=okC 51 t.tx λu cx nd=>
 (ag (aL (dX cx.hK cx.hu sv ai) (ak (aD (aK cx sv (fZ sv ai)))) aF)
 (ag (aL (zbA cx (aK cx sv ai) (aK cx sv (fZ (a5 0 u cx sv) ai))) (ak (aD (cP (aW (aK cx sv ai) ai) (a5 7 u cx sv)))) aF)
 (ak (aD (aK cx sv ai)))))
omit t hB in
theorem cL:DTy X 5 "due" ["self","cells","at"] aR:=λt hB _ _ _ e=>by unfold aR at e;split at e<;>first|exact dm 18 t.tx Hz e|exact dm 19 t.tx HA e|exact dm 13 t.tx uW e|exact dm 20 t.tx uW e|exact dm 21 t.tx Hn e|exact dm 22 t.tx Hq e|cases e
theorem lv:Zq P t hB 6 52 kP:=okC 52 t.tx λu cx nd=>
 (ak (aD (dB ["at"] cx (bW rfl (u.b 1) (aa (a5 0 u cx sv) ah)) bY (λ_ _ _ _ nd=>⟨sgN,cE (dX cx.comp.hK cx.comp.hu (cQ u (cL t hB) cx.comp sv (aa sv (aa sv ah))) (aK cx.comp sv sv)),sv⟩))))
omit t hB in
theorem a9:DTy X 6 "movers" ["self","cells"] aT:=λt hB _ _ _ e=>by unfold aT at e;split at e<;>first|exact dm 23 t.tx lv e|exact dm 24 t.tx lv e|exact dm 25 t.tx lv e|exact dm 26 t.tx lv e|exact dm 27 t.tx lv e|exact dm 28 t.tx lv e|cases e
theorem nU:Zq P t hB 7 53 mq:=okC 53 t.tx λu cx nd=>
 (ak (aD (pA cx.hK cx.hu (bI cx.hK rfl (u.b 0) (cQ u (a9 t hB) cx sv (aa sv ah))) ai)))
theorem Hw:Zq P t hB 7 54 wI:=okC 54 t.tx λu cx nd=>
 (ak (aD (pA cx.hK cx.hu (bI cx.hK rfl (u.b 0) (cQ u (a9 t hB) cx sv (aa sv ah))) ai)))
omit t hB in
theorem g8:DTy X 7 "calm" ["self","cells"] bv:=λt hB _ _ _ e=>by unfold bv at e;split at e<;>first|exact dm 29 t.tx nU e|exact dm 30 t.tx nU e|exact dm 31 t.tx nU e|exact dm 32 t.tx nU e|exact dm 33 t.tx nU e|exact dm 34 t.tx Hw e|cases e
theorem uV:Zq P t hB 1 55 pQ:=okC 55 t.tx λu cx nd=>
 (ak (aD (iB cx.hK au (dB ["thing"] cx (bt cx.hK sv) bY (λ_ _ _ _ nd=>⟨sgN,br,CB rfl (u.b 4) sv⟩)))))
theorem uU:Zq P t hB 8 56 pP:=okC 56 t.tx λu cx nd=>
 (ak (aD (aX u uV cx (aa (aW sv (fE (aa (f8 (d8 cx.hK (cQ u (g8 t hB) cx sv (aa sv ah))) au au) ah))) ah))))
theorem Hm:Zq P t hB 1 57 Bs:=okC 57 t.tx λu cx nd=>
 (ag (aL (SW.st (gK (d8 cx.hK (a5 8 u cx sv)) (e9 (j9 (bI cx.hK rfl (u.b 0) sv) ai)))) (ak (bJ 4 u cx hB bH (aa au ah))) aF)
 (ag (cK cx.po cx.calm (iz cx.hK sv) sgN (ak (aL (SW.st (fW (gC sv ai) (d7 (o_ sv (a5 0 u cx sv))))) (ak (bJ 4 u cx hB bH (aa au ah))) aF)))
 (ak (aL (dX cx.hK cx.hu (pz cx.hK cx.calm rfl (u.b 0) rfl (u.b 10) sv) (bI cx.hK rfl (u.b 0) sv)) (ak (bJ 4 u cx hB bH (aa au ah))) aF))))
theorem lw:Zq P t hB 6 58 kQ:=okC 58 t.tx λu cx nd=>
 (ag (e_ (aX u Hm cx (aa sv (aa sv ah))))
 (ak (aD (dB ["at"] cx (bW rfl (u.b 1) (aa (a5 0 u cx sv) ah)) bY (λ_ _ _ _ nd=>⟨sgN,br,f8 (nq cx.comp.hK cx.comp.hu2 sv sv) (cQ u (cL t hB) cx.comp sv (aa sv (aa sv ah))) (aK cx.comp sv sv)⟩)))))
omit t hB in
theorem gy:DTy X 6 "turned" ["self","cells","named"] b0:=λt hB _ _ _ e=>by unfold b0 at e;split at e<;>first|exact dm 35 t.tx lw e|exact dm 36 t.tx lw e|exact dm 37 t.tx lw e|exact dm 38 t.tx lw e|exact dm 39 t.tx lw e|exact dm 40 t.tx lw e|cases e
theorem GZ:Zq P t hB 7 59 Bc:=okC 59 t.tx λu cx nd=>
 (ag (a_ (cQ u (gy t hB) cx sv (aa sv (aa sv ah))))
 (ag (c_ ["at"] cx nd (bt cx.hK (cQ u (a9 t hB) cx sv (aa sv ah))) bY (λ_ _ _ _ nd=>⟨sgN,cE (nq cx.comp.hK cx.comp.hu2 sv sv),sv⟩))
 (ak (y9 rfl (Or.inl rfl) rfl (Or.inl rfl)))))
theorem HC:Zq P t hB 8 60 BG:=okC 60 t.tx λu cx nd=>
 (ag (a_ (cQ u (cH t hB) cx sv (aa sv ah)))
 (ag (a_ (fE ah))
 (cO (i:=2) (ag (cK cx.po cx.calm (iz cx.hK sv) sgN (ag (uG cx (J6 (aX u GZ cx (aa sv (aa sv (aa sv ah))))))
 (ak (a_ (aK cx (aK cx sv (qg ai)) ai)))))
 (ak (d9 rfl (Or.inl rfl)))))))
theorem Hg:Zq P t hB 9 61 tQ:=okC 61 t.tx λu cx nd=>
 (ag (aL (zbA cx (aK cx sv ai) au) (ak (aD (aK cx (aX u HC cx (aa sv (aa sv (aa (fE (aa (aK cx sv ai) ah)) ah)))) ai))) aF)
 (ag (aL (zbA cx (aK cx sv ai) au) (ak (aD (iU (aa (fE ah) (aa (cQ u (cH t hB) cx sv (aa i6 ah)) ah))))) aF)
 (ak (aD (iU (aa (fE ah) (aa sv ah)))))))
theorem EL:Zq P t hB 2 62 D2:=okC 62 t.tx λu cx nd=>
 (ak (aD (f8 (j9 (bI cx.hK rfl (u.b 0) sv) ai) (aX u uV cx (aa sv ah)) au)))
theorem Ks:Zq P t hB 1 63 Iy:=okC 63 t.tx λu cx nd=>
 (ak (aD (fZ (fZ (a5 0 u cx sv) ai) sv)))
theorem Kr:Zq P t hB 1 64 Ix:=okC 64 t.tx λu cx nd=>
 (ak (d9 rfl (Or.inl rfl)))
omit t hB in
theorem mB:DTy X 1 "rank" ["self","at"] eH:=λt hB _ _ _ e=>by unfold eH at e;split at e<;>first|exact dm 41 t.tx Ks e|exact dm 42 t.tx Kr e|cases e
theorem uT:Zq P t hB 1 65 tL:=okC 65 t.tx λu cx nd=>
 (ag (a_ ai)
 (ag (cK cx.po cx.calm (dY rfl (u.b 1) (aa sv ah)) sgN (ak (a_ (dQ sv sv))))
 (ak (d9 rfl (Or.inl rfl)))))
theorem EN:Zq P t hB 7 66 D5:=okC 66 t.tx λu cx nd=>
 (ak (aD (nD cx.hK cx.calm rfl (u.b 12) (dB ["at"] cx (bt cx.hK (cQ u (a9 t hB) cx sv (aa sv ah))) bY (λ_ _ _ _ nd=>⟨sgN,br,aX u uT cx.comp (aa ai (aa (cQ u (mB t hB) cx.comp sv (aa sv ah)) ah))⟩)))))
theorem zZ:Zq P t hB 6 67 yz:=okC 67 t.tx λu cx nd=>
 (ag (c_ ["at"] cx nd (bW rfl (u.b 1) (aa (a5 0 u cx sv) ah)) bY (λ_ _ _ _ nd=>⟨sgN,br,cQ u (cL t hB) cx.comp sv (aa sv (aa sv ah))⟩))
 (ag (a_ (aW (a5 0 u cx sv) ai))
 (ag (a_ ai)
 (ag (cK cx.po cx.calm (dY rfl (u.b 1) (aa (a5 3 u cx sv) ah)) sgN (ag (c_ ["cell", "due"] cx nd (qe cx.hK rfl (u.b 13) (aa sv (aa sv ah))) (mM (dW bY (dW bY j5))) (λ_ _ _ _ nd=>⟨nC cx.comp.hK cx.comp.calm (dE nd rfl (Or.inl rfl) (dE nd rfl (Or.inl rfl) kc)),cE (SW.st (gK (bA cx.comp.hK cx.comp.hu sv sv) (e9 (j9 sv sv)))),sv⟩))
 (ag (c_ ["cell", "due"] cx nd (qe cx.hK rfl (u.b 13) (aa sv (aa sv ah))) (mM (dW bY (dW bY j5))) (λ_ _ _ _ nd=>⟨nC cx.comp.hK cx.comp.calm (dE nd rfl (Or.inl rfl) (dE nd rfl (Or.inl rfl) kc)),cE (SW.st (gK (j9 sv sv) (e9 (bA cx.comp.hK cx.comp.hu sv sv)))),sv⟩))
 (ak (a_ (aW (dQ (aW (dQ sv sv) (bI cx.hK rfl (u.b 0) sv)) sv) (bI cx.hK rfl (u.b 0) sv)))))))
 (ak (d9 rfl (Or.inl rfl)))))))
theorem Hj:Zq P t hB 1 68 Bq:=okC 68 t.tx λu cx nd=>
 (ag (c_ ["other"] cx nd (bW rfl (u.b 1) (aa (bI cx.hK rfl (u.b 0) sv) ah)) bY (λ_ _ _ _ nd=>⟨sgN,cE (FK cx.comp.hK cx.comp.hu (iU (aa (aK cx.comp sv sv) (aa sv ah))) (iU (aa (aK cx.comp sv sv) (aa sv ah)))),sv⟩))
 (ak (aD (bI cx.hK rfl (u.b 0) sv))))
omit t hB in
theorem lz:DTy X 6 "measure" ["self","cells"] gQ:=λt hB _ _ _ e=>by unfold gQ at e;split at e<;>first|exact dm 43 t.tx zZ e|cases e
theorem KB:Zq P t hB 7 69 IF:=okC 69 t.tx λu cx nd=>
 (ag (a_ (cQ u (gN t hB) cx sv (aa sv ah)))
 (ag (a_ (cQ u (fG t hB) cx sv (aa sv ah)))
 (ag (c_ ["at"] cx nd (bW rfl (u.b 1) (aa (a5 0 u cx sv) ah)) bY (λ_ _ _ _ nd=>⟨sgN,cE (dX cx.comp.hK cx.comp.hu (aK cx.comp sv sv) (cQ u (gg t hB) cx.comp sv (aa sv (aa sv ah)))),sv⟩))
 (ag (c_ ["at"] cx nd (bt cx.hK sv) bY (λ_ _ _ _ nd=>⟨sgN,br,aX u uT cx.comp (aa ai (aa (aX u Hj cx.comp (aa sv (aa sv ah))) ah))⟩))
 (ak (aD (aW (dQ (cQ u (lz t hB) cx (a5 9 u cx sv) (aa sv ah)) (aX u uT cx (aa ai (aa (a5 0 u cx sv) ah)))) (nD cx.hK cx.calm rfl (u.b 12) sv))))))))
theorem Hb:Zq P t hB 1 70 Bl:=okC 70 t.tx λu cx nd=>
 (ag (a_ ai)
 (ag (ny cx.po (SW.st (gK (gC sv (bI cx.hK rfl (u.b 0) sv)) (e9 (zbA cx (aK cx sv sv) (aK cx sv ai))))) (ak (a_ (aW sv ai))))
 (ak (d9 rfl (Or.inl rfl)))))
theorem Ku:Zq P t hB 2 71 IA:=okC 71 t.tx λu cx nd=>
 (ag (aL (i4 cx.hK cx.hu2 (aK cx sv ai) (c9 cx.hK sv (dy (aX u Hb cx (aa sv ah))) d_)) (ak (aD ai)) aF)
 (ag (a_ ai)
 (ag (ny cx.po (nq cx.hK cx.hu2 (cP (aW (aK cx sv ai) sv) sv) (c9 cx.hK sv (dy ai) d_)) (ak (a_ (aW sv ai))))
 (ak (d9 rfl (Or.inl rfl))))))
theorem KA:Zq P t hB 7 72 Ba:=okC 72 t.tx λu cx nd=>
 (ag (c_ ["at"] cx nd (bt cx.hK (cQ u (a9 t hB) cx sv (aa sv ah))) bY (λ_ _ _ _ nd=>⟨sgN,cE (dX cx.comp.hK cx.comp.hu sv ai),fZ (a5 0 u cx.comp sv) sv⟩))
 (ak (aD (aW (dQ (a5 0 u cx sv) (aX u Ku cx (aa sv (aa (a5 7 u cx sv) ah)))) (nD cx.hK cx.calm rfl (u.b 12) sv)))))
omit t hB in
theorem ge:DTy X 7 "measure" ["self","cells"] aN:=λt hB _ _ _ e=>by unfold aN at e;split at e<;>first|exact dm 44 t.tx EN e|exact dm 45 t.tx EN e|exact dm 43 t.tx zZ e|exact dm 46 t.tx zZ e|exact dm 47 t.tx KB e|exact dm 48 t.tx KA e|cases e
theorem G0:Zq P t hB 9 73 wu:=okC 73 t.tx λu cx nd=>
 (ag (a_ (aK cx sv ai))
 (ag (aL (zbA cx (aK cx sv ai) au) (ak (aD (aX u uV cx (aa (fE (aa (aX u EL cx (aa (aK cx sv ai) ah)) (aa au (aa (aX u uU cx (aa sv (aa sv ah))) ah)))) ah)))) aF)
 (ag (aL (zbA cx (aK cx sv ai) au) (ak (aD (aX u uU cx (aa sv (aa sv ah))))) aF)
 (ag (aL (zbA cx (aK cx sv ai) au) (ak (aD (aX u EL cx (aa (cQ u (a9 t hB) cx sv (aa sv ah)) ah)))) aF)
 (ag (aL (zbA cx (aK cx sv ai) au) (ak (aD (fe rfl (u.b 4) (cQ u (ge t hB) cx sv (aa sv ah))))) aF)
 (ak (aD i6)))))))
theorem GY:Zq P t hB 11 74 Bb:=okC 74 t.tx λu cx nd=>
 (ag (a_ (aX u Hc cx (aa sv ah)))
 (cO (i:=1) (ag (e_ (aX u Ho cx (aa sv ah)))
 (ag (a_ (aX u z5 cx (aa sv ah)))
 (ag (a_ (aX u G3 cx (aa (c9 cx.hK sv d_ (dy sv)) ah)))
 (ag (a_ (cQ u (cH t hB) cx sv (aa (aK cx (aK cx sv sv) ai) ah)))
 (cO (i:=4) (ag (a_ (fE (aa (aX u uU cx (aa sv (aa sv ah))) ah)))
 (ag (cK cx.po cx.calm (iz cx.hK (c9 cx.hK sv (dy (aW sv ai)) d_)) sgN (ag (a_ (aX u Hg cx (aa sv (aa sv (aa sv ah)))))
 (cO (i:=7) (ag (a_ (aK cx sv ai))
 (ak (uG cx (aX u G0 cx (aa sv (aa sv (aa sv ah))))))))))
 (ak (d9 rfl (Or.inl rfl))))))))))))
theorem z6:Zq P t hB 1 75 tN:=okC 75 t.tx λu cx nd=>
 (ag (a_ (f7 sv au))
 (ag (aL (SW.st (fW (dX cx.hK cx.hu (bI cx.hK rfl (u.b 0) sv) (aW sv ai)) (d7 (i4 cx.hK cx.hu2 (aK cx sv sv) (fE (aa au (aa au ah))))))) (ak (aD jL)) aF)
 (ak (aD (iU (aa (c9 cx.hK sv d_ (dy sv)) (aa (aK cx sv sv) ah)))))))
theorem Hv:Zq P t hB 1 76 Bz:=okC 76 t.tx λu cx nd=>
 (ag (aL (SW.st (gK (dX cx.hK cx.hu sv au) (e9 (qb (d8 cx.hK (zn cx.hK cx.calm rfl (u.b 5) (dB ["_law_word"] cx (bt cx.hK (f7 sv au)) bY (λ_ _ _ _ nd=>⟨sgN,br,J4 cx.comp.hK cx.comp.hu2 sv sv⟩)))))))) (ak (aD i8)) aF)
 (ag (c_ ["_law_at"] cx nd (bW rfl (u.b 1) (aa (bI cx.hK rfl (u.b 0) sv) ah)) bY (λ_ _ _ _ nd=>⟨sgN,cE (dX cx.comp.hK cx.comp.hu (aK cx.comp sv sv) (aK cx.comp sv sv)),fe rfl (u.b 4) sv⟩))
 (ak (aD (EC (k_ (pA cx.hK cx.hu sv au) (jK (pA cx.hK cx.hu sv (fE ah)))) (jK (k_ (vP cx.hK cx.hu sv (fE ah)) (jK (pA cx.hK cx.hu sv (iB cx.hK au sv))))))))))
theorem Hh:Zq P t hB 2 77 Bp:=okC 77 t.tx λu cx nd=>
 (ag (a_ (aX u z6 cx (aa (aK cx sv ai) (aa sv ah))))
 (cO (i:=3) (ag (aL (y7 sv jL) (ak (aD i8)) aF)
 (ag (a_ (qh rfl (u.b 6) (aK cx sv ai)))
 (ag (a_ sv)
 (ag (a_ ai)
 (ag (cK cx.po cx.calm (dY rfl (u.b 1) (aa (bI cx.hK rfl (u.b 0) sv) ah)) sgN (ag (a_ (f7 (aK cx sv (aW ai (dQ ai sv))) au))
 (ag (a_ (aX u z6 cx (aa (aK cx sv (qg ai)) (aa sv ah))))
 (cO (i:=9) (ag (aL (SW.st (fW (dX cx.hK cx.hu (bI cx.hK rfl (u.b 0) sv) ai) (fW (y7 sv jL) (d7 (qb (d8 cx.hK (aX u Hv cx (aa (aK cx sv ai) (aa (aK cx sv sv) (aa (aK cx sv ai) (aa (aK cx sv ai) ah))))))))))) (ak (aD i8)) aF)
 (ag (a_ (qh rfl (u.b 6) (aK cx sv (aW ai (dQ ai sv)))))
 (ag (aL (SW.st (fW (SW.st (gK (zbA cx (aK cx sv ai) au) (e9 (dX cx.hK cx.hu (aK cx sv ai) au)))) (d7 (gC sv ai)))) (ak (aD i8)) aF)
 (ag (aL (SW.st (gK (zbA cx (aK cx sv ai) au) (e9 (dX cx.hK cx.hu (aK cx sv ai) au)))) (ag (FO nd rfl (Or.inl rfl) ai)
 (ak (aL (o_ sv sv) (ak (aD i8)) aF))) aF)
 (ag (a_ sv)
 (ak (a_ sv)))))))))))
 (ak (aD (k_ (zk wb wb ai sv sv) (jK (EC (pA cx.hK cx.hu (aK cx sv ai) au) (jK (vP cx.hK cx.hu (aK cx sv (qg ai)) au))))))))))))))
theorem HD:Zq P t hB 12 78 E1:=okC 78 t.tx λu cx nd=>
 (ag (a_ (aX u G8 cx (aa sv ah)))
 (ag (a_ (gM 0 1 cx.hu rfl (λ_ _ _ h=>h) sv))
 (ag (a_ (aX u G5 cx (aa sv ah)))
 (ag (c_ ["_law_at"] cx nd (bW rfl (u.b 1) (aa sv ah)) bY (λ_ _ _ _ nd=>⟨sgN,br,fZ (cP (aX u nV cx.comp (aa sv (aa (aW ai sv) ah))) (dQ ai (uF ai ai))) (uF ai ai)⟩))
 (ag (a_ (fE (aa (aK cx sv ai) (aa (fN au (aX u z7 cx (aa sv ah))) (aa au ah)))))
 (ag (a_ (fE ah))
 (ag (cK cx.po cx.calm (iz cx.hK (c9 cx.hK sv (dy ai) (dy ai))) sgN (ag (a_ (fE (aa (fe rfl (u.b 4) (cP (iC sv ai) sv)) ah)))
 (ag (aL (nq cx.hK cx.hu2 (gM 0 0 cx.hu rfl (λ_ _ _ h=>h) sv) (fE (aa au (aa au (aa au ah))))) (ak (c_ ["_law_at"] cx nd (bW rfl (u.b 1) (aa sv ah)) bY (λ_ _ _ _ nd=>⟨sgN,cE (bA cx.comp.hK cx.comp.hu (CK (FW sv sv) ai) ai),fe rfl (u.b 4) sv⟩))) aF)
 (cO (i:=8) (ag (uG cx sv)
 (ak (a_ (aW sv (fE (aa (iB cx.hK au (aW (fE (aa au ah)) sv)) (aa au ah)))))))))))
 (ag (a_ (aX u GY cx (aa (iB cx.hK au (aW sv (fE (aa au ah)))) ah)))
 (ag (aL (SW.st (fW (qb (d8 cx.hK (F5 cx.hK AS rfl (u.b 14) oY rfl (u.b 3) rh sv))) (d7 (dX cx.hK cx.hu (bI cx.hK rfl (u.b 0) sv) (aW (dQ (bI cx.hK rfl (u.b 0) sv) ai) ai))))) (ak (aD i8)) aF)
 (ag (aL (dX cx.hK cx.hu (c9 cx.hK (f7 (aK cx sv ai) au) d_ (dy sv)) (dB ["_law_number"] cx (bt cx.hK sv) bY (λ_ _ _ _ nd=>⟨sgN,br,fe rfl (u.b 4) (cP sv (aK cx.comp sv ai))⟩))) (ak (aD i8)) aF)
 (ak (aD (aX u Hh cx (aa sv (aa sv (aa sv ah))))))))))))))))
end
end
section
variable{n i r cc c T k J J':Nat}{ps ws:NT}{cs l hs cs' ms:NW}{f fc fl:Fl}{z y:Str}{os:List (N1)}{env:En}{a b sp st tp x at_ M:Int}{m:ME}{zs:N0}{s:Sd}{g:Fl->Fl}{p:Fl->Bool}{v R:PV}{xs:N5}
abbrev Oi(l:List Int):=PV.lst .own (iL l)
abbrev Oj(f:Fl)(l:List Int):=PV.lst f (iL l)
abbrev Ol(n:Int):=some (PV.int n)
abbrev Om(l:List Int):=some (PV.lst .own (iL l))
abbrev On(f:Fl)(l:List Int):=some (PV.lst f (iL l))
def sg(z:Str):List Nat:=z.cps.toList
noncomputable abbrev jo(k:Nat)(l:N0):Str:=PySem.Txt.join ⟨#[k]⟩ l
def bQ(z:Str):z.length=(sg z).length:=by rfl
def J1(l:List Nat):sg ⟨l.toArray⟩=l:=by simp[sg]
def cZ(x y:Str):sg (x++y)=sg x++sg y:=by show(x.cps++y.cps).toList=_;unfold sg;simp
def i5{x:Str}(h:sg x=sg y):x=y:=by cases x;cases y;congr 1;exact Array.toList_inj.mp h
def mZ(x y:Str):(x++y).length=x.length+y.length:=by rw[bQ,cZ,length_append,<- bQ,<- bQ]
noncomputable def pos(c:Nat):List Nat->Nat->List Nat
 | [],_=>[]
 |a::r,k=>if a=c then k::pos c r (k+1)else pos c r (k+1)
noncomputable def spl(c:Nat):List Nat->List Nat->List (List Nat)
 |acc,[]=>[acc]
 |acc,d::r=>if d=c then acc::spl c [] r else spl c (acc++[d]) r
theorem xj(z:Str)(c k:Nat):Builtin.Str.subAt z ⟨#[c]⟩ k=decide (((sg z).drop k).take 1=[c]):=by
 have e:(z.cps.extract k (k+1)).toList=((sg z).drop k).take 1:=by have:=StrLaws.strSub_toList z k (k+1);rw[show k+1-k=1 by lia]at this;exact this
 show(z.cps.extract k (k+1)== #[c])=_;rw[Bool.eq_iff_iff,decide_eq_true_iff,beq_iff_eq];constructor
 .intro h;rw[<- e,h]
 .grind
theorem mU(z:Str)(c:Nat):∀(n k:Nat) (st:Array Nat×Nat),k+n=z.length+1->st.fst.size<=k->st.snd<=k ->
  (forIn (List.range' k n) st (StrLaws.occBody z ⟨#[c]⟩ z.length (z.length+1))).run.fst.toList=st.fst.toList++pos c ((sg z).drop k) k
 |0,k,st,h,_,_=>by have:(sg z).drop k=[]:=List.drop_eq_nil_iff.mpr (by rw[<- bQ];lia);rw[this];simp[pos]
 |n+1,k,st,h,h1,h2=>by
  rw[List.range'_succ,List.forIn_cons];unfold StrLaws.occBody;have hs:=xj z c k;by_cases hk:k<z.length
  .have hk':k <(sg z).length:=by rw[<- bQ];exact hk
   have hd:(sg z).drop k=(sg z)[k]::(sg z).drop (k+1):=drop_eq_getElem_cons hk';have ht:((sg z).drop k).take 1=[(sg z)[k]]:=by rw[hd];rfl
   rw[ht]at hs;by_cases e:(sg z)[k]=c
   .rw[if_pos ⟨⟨⟨by lia,h2⟩,by show k+1<=_;lia⟩,by lia⟩];refine(mU z c n (k+1) (st.fst.push k,k+1) () (by simp;lia) (Nat.le_refl _)).trans ?_;rw[hd];simp[pos,e]
   .rw[if_neg ()];refine(mU z c n (k+1) (st.fst,st.snd) () () ()).trans ?_;rw[hd];simp[pos,e]
  .rw[if_neg (λq=>by have:k+1<=z.length:=q.1.2;lia)];refine(mU z c n (k+1) (st.fst,st.snd) () () ()).trans ?_;have e1:(sg z).drop k=[]:=List.drop_eq_nil_iff.mpr (by rw[<- bQ];lia);have e2:(sg z).drop (k+1)=[]:=List.drop_eq_nil_iff.mpr (by rw[<- bQ];lia);rw[e1,e2];simp[pos]
theorem lm(z:Str)(c:Nat):∀(r:List Nat) (a k:Nat),a<=k->r=(sg z).drop k->(StrLaws.partsFrom z 1 a (pos c r k)).map sg=spl c (((sg z).drop a).take (k-a)) r
 | [],a,k,h,e=>by have hk:(sg z).length<=k:=List.drop_eq_nil_iff.mp e.symm;have e1:sg (Builtin.Str.strSub z a z.length)=((sg z).drop a).take (z.length-a):=StrLaws.strSub_toList z a z.length;show [sg (Builtin.Str.strSub z a z.length)]=[_];rw[e1,take_of_length_le (by rw[length_drop,<- bQ];lia),take_of_length_le (by grind)]
 |d::r,a,k,h,e=>by
  have hr:r=(sg z).drop (k+1):=by rw[<- List.tail_drop,<- e];rfl
  by_cases q:d=c
  .have e1:sg (Builtin.Str.strSub z a k)=((sg z).drop a).take (k-a):=StrLaws.strSub_toList z a k;simp only[pos,spl,if_pos q];show sg (Builtin.Str.strSub z a k)::(StrLaws.partsFrom z 1 (k+1) (pos c r (k+1))).map sg=_;rw[lm z c r (k+1) (k+1) (Nat.le_refl _) hr,Nat.sub_self,List.take_zero,e1]
  .simp only[pos,spl,if_neg q];rw[lm z c r a (k+1) () hr];have hg:((sg z).drop a)[k-a]?=some d:=by rw[List.getElem?_drop,show a+(k-a)=k by lia];have:=congrArg List.head? e;rw[List.head?_drop]at this;exact this.symm
   rw[show k+1-a=(k-a)+1 by lia,take_add_one,hg];rfl
theorem xo(z:Str)(c:Nat)(hc:c<256):(PySem.Txt.split z ⟨#[c]⟩).map sg=spl c [] (sg z):=by
 have ho:Builtin.Str.occurrences z ⟨#[c]⟩ 0 z.length (z.length+1)=pos c (sg z) 0:=by rw[StrLaws.occ_eq];have:=mU z c (z.length+1) 0 (#[],0) () (Nat.le_refl _) (Nat.le_refl _);simpa using this
 have kz:¬Builtin.Str.strKind z<Builtin.Str.strKind ⟨#[c]⟩:=by
  have:Builtin.Str.strKind ⟨#[c]⟩=1:=by simp[Builtin.Str.strKind,hc]
  rw[this];unfold Builtin.Str.strKind;split
  .decide
  .split<;>decide
 have p:=lm z c (sg z) 0 0 (Nat.le_refl _) rfl;have l1:(⟨#[c]⟩:Str).length=1:=rfl;unfold PySem.Txt.split;rw[l1];by_cases h0:z.length<1
 .rw[if_pos (by simp[h0])];have:sg z=[]:=List.length_eq_zero_iff.mp (by rw[<- bQ];lia);simp[this,spl]
 .rw[if_neg (),ho];by_cases he:pos c (sg z) 0=[]
  .rw[if_pos (by simp[he])];rw[he]at p;have w:=StrLaws.sub_whole z;have p':[sg (Builtin.Str.strSub z 0 z.length)]=spl c [] (sg z):=p;rw[w]at p';exact p'
  .rw[if_neg (by simp[he]),StrLaws.partsBetween_eq];exact p
def rQ:∀(m acc:List Nat),(∀d∈m,d≠c)->spl c acc m=[acc++m]
 | [],acc,_=>by simp[spl]
 |d::m,acc,h=>by rw[spl,if_neg (h d ()),rQ m _ λx hx=>h x (by simp[hx])];simp
def rP:∀(m acc bF:List Nat),(∀d∈m,d≠c)->spl c acc (m++c::bF)=(acc++m)::spl c [] bF
 | [],acc,bF,_=>by simp[spl]
 |d::m,acc,bF,h=>by rw[List.cons_append,spl,if_neg (h d ()),rP m _ bF λx hx=>h x (by simp[hx])];simp
theorem rR(c:Nat):∀(ls:N0),ls≠[]->(∀z∈ls,∀d∈sg z,d≠c)->spl c [] (sg (Str.join ⟨#[c]⟩ ls))=ls.map sg
 | [],h,_=>absurd rfl h
 | [z],_,h=>by show spl c [] (sg z)=[sg z];rw[rQ _ _ (h z ())];rfl
 |z::y::r,_,h=>by have ih:=rR c (y::r) () λx hx=>h x (by grind);show spl c [] (sg (z ++⟨#[c]⟩++ Str.join ⟨#[c]⟩ (y::r)))=_;rw[cZ,cZ,append_assoc,show sg (⟨#[c]⟩:Str)++ sg (Str.join ⟨#[c]⟩ (y::r))=c::sg (Str.join ⟨#[c]⟩ (y::r))from rfl,rP _ _ _ (h z ()),ih];rfl
def uv(c:Nat)(hc:c<256)(ls:N0)(h0:ls≠[])(h:∀z∈ls,∀d∈sg z,d≠c):PySem.Txt.split (jo c ls) ⟨#[c]⟩=ls:=by have e:jo c ls=Str.join ⟨#[c]⟩ ls:=StrLaws.glued_eq_join _ _;have:=xo (jo c ls) c hc;rw[e,rR c ls h0 h]at this;rw[e];exact(List.map_inj_right λ_ _ q=>i5 q).mp this
theorem ig(c:Nat)(n:Nat):∀(ls:N0),(∀z∈ls,z.length<=n)->(Str.join ⟨#[c]⟩ ls).length<=ls.length*(n+1)
 | [],_=>by simp[Str.join,Str.length,Str.empty]
 | [z],h=>by
  show z.length<=1*(n+1);have:=h z ()
  lia
 |z::y::r,h=>by
  have ih:=ig c n (y::r) λx hx=>h x (by grind);show(z ++⟨#[c]⟩++ Str.join ⟨#[c]⟩ (y::r)).length <=(r.length+1+1)*(n+1);have l1:(⟨#[c]⟩:Str).length=1:=rfl;rw[mZ,mZ,l1];have:=h z ();have e:(y::r).length=r.length+1:=rfl;rw[e]at ih;have e2:(r.length+1+1)*(n+1)=(r.length+1)*(n+1)+(n+1):=Nat.succ_mul _ _
  lia
def sL(zs:N0):N5:=zs.map .str
@[simp] def F_(zs:N0):(sL zs).length=zs.length:=by simp[sL]
@[simp] def jM(g:Fl->Fl):∀zs:N0,mapL g (sL zs)=sL zs
 | []=>by simp[sL]
 |z::zs=>by show mapL g (.str z::sL zs)=.str z::sL zs;rw[bM,jM g zs,fu]
@[simp] def Ga(p:Fl->Bool):∀zs:N0,hasL p (sL zs)=false
 | []=>by simp[sL]
 |z::zs=>by show hasL p (.str z::sL zs)=false;rw[pN,Ga p zs,DV];rfl
def vT:∀zs:N0,kZ (sL zs)=some zs
 | []=>rfl
 |z::zs=>by show(kZ (sL zs)).map (z::·)=_;rw[vT zs];rfl
theorem dJ{i:Int}(h0:0<=i)(h:zs[i.toNat]?=some z):av (.lst f (sL zs)) (.int i)=.ok (.str z):=by have hl:i.toNat<zs.length:=(List.getElem?_eq_some_iff.mp h).1;unfold av;simp only[aY,atI,ixN,F_,h0,if_true];rw[if_pos ()];simp[sL,h]
noncomputable def isD(c:Nat):Bool:=decide (48<=c/\c<=57)
theorem Ij:∀c,c<128->inS ⟨#[c]⟩ "0123456789"=isD c:=by decide +kernel
def nh(z:Str)(k:Nat)(y:Str)(hy:sg y=[k]):PySem.Txt.startswith z y=decide ((sg z).head?=some k):=by
 have ey:y=⟨#[k]⟩:=i5 hy;subst ey;unfold PySem.Txt.startswith Builtin.Str.subAt;cases e:sg z with
 |nil=>
  have h0:z.cps.size=0:=by
   have:z.length=0:=by rw[bQ,e];rfl
   exact this
  simp[Str.length,h0]
 |cons c r=>have hz:z=⟨(c::r).toArray⟩:=i5 (by exact e);subst hz;simp[Str.length];rw[Bool.eq_iff_iff];simp
theorem Ct{r:List Nat}(h:sg z=c::r):sg (PySem.Txt.slice z (some 1) none)=r:=by
 have hl:z.length=r.length+1:=by rw[bQ,h];rfl
 rw[PyProof.Rows.slice_from_eq () () rfl,J1];have:z.cps.toList=c::r:=h;rw[this,hl];simp
def fig(l:List Nat):List Nat:=if l.head?=some 45 then l.tail else l
def okF(M:Nat)(l:List Nat):Bool:=decide (0<l.length)&&(decide (l.length<=M)&&l.all isD)
def bad(l:List Nat):Bool:=!okF 60 (fig l) ||(decide ((fig l).head?=some 48)&&decide (l≠[48]))
def Jb(h:∀c∈sg z,c<128):asc z=true:=by unfold asc;rw[<- all_toList,all_eq_true];intro c hc;exact decide_eq_true (h c hc)
theorem Ik(M:Nat)(hl:z.length<=10000)(ha:∀c∈sg z,c<128):D6 [.str z,.int M]=.ok (.bl (okF M (sg z))):=by
 refine az ?_;show Lr [some (.str z),Ol M]=_;have hc:aV [] 1 (sV (ac 0)) (tgN 0) bD (mOp Dh (ac 0) (mC (.str "0123456789"))) [some (.str z),Ol M]=.ok (.lst .own ((sg z).map λc=>.bl (isD c))):=by
  refine aQ (xs:=PR.rT z) ?_ (by
   have:=bQ z;show(z.cps.toList.map _).length<=_;rw[length_map];unfold sg at this
   lia) ?_
  .unfold sV;simp[Jb ha]
  .refine a6 (sg z) λc hc=>⟨[some (.str ⟨#[c]⟩)],?_,?_,by simp,by simp⟩
   .rfl
   .have:=Ij c (ha c hc);simp[Dh,pD,this]
 have hz:gD (λz=>decide (z.length<=10000)) (λz=>.int z.length) (.str z)=.ok (.int (sg z).length):=by rw[<- bQ];simp[gD,hl]
 refine aM ?_ ();unfold okF;by_cases h1:0 <(sg z).length
 .by_cases h2:(sg z).length<=M
  .have e:((sg z).map λc=>PV.bl (isD c))=((sg z).map isD).map .bl:=by simp
   have hb:qq mI (.lst .own ((sg z).map λc=>PV.bl (isD c)))=.ok (.bl ((sg z).all isD)):=by rw[e];unfold qq;dsimp only;rw[pY];simp[mI]
   simp only[qJ,cV,bG,hc];simp[hz,h1,h2,hb]
  .simp[hz,h2]
 .simp[hz,h1]
def o9(h:env[i]?=some (some (.str z))):gE (ac i) (mC (.str y)) env=.ok (.bl (PySem.Txt.startswith z y)):=by unfold gE;simp only[bX,h];simp
def HK(z w:Str)(hz:∀c∈sg z,c<128)(hw:PyData.strOk w=true):pNe (.str z) (.str w)=.ok (.bl (decide (sg z≠sg w))):=by
 have e:PyData.eqv (PV.str z).data (PV.str w).data=decide (sg z=sg w):=by
  rw[Bool.eq_iff_iff,decide_eq_true_iff];constructor
  .intro h;have:z=w:=by simpa[PV.data,PyData.eqv]using h
   rw[this]
  .intro h;rw[i5 h];simp[PV.data,PyData.eqv]
 have ok:PyData.strOk z=true:=by unfold PyData.strOk;rw[<- all_toList,all_eq_true];intro c hc;exact decide_eq_true (Nat.lt_trans (hz c hc) ())
 unfold pNe;rw[e];simp[shp,SeqAt.shaped,PV.data,PyData.canLay0,PyData.depth,ok,hw]
def D0{l:List Nat}(h:c∈fig l):c∈l:=by
 unfold fig at h;split at h
 .exact List.mem_of_mem_tail h
 .exact h
def D1(l:List Nat):(fig l).length<=l.length:=by unfold fig;split<;>simp
def DZ(hl:z.length<=10000):∃y:Str,sg y=fig (sg z)/\lD (di (gE (ac 0) (mC (.str "-")))) (kE (ac 0) (dZ (Oh 1)) cq) (ac 0) [some (.str z),none]=.ok (.str y):=by
 have hs:=o9 (env:=[some (.str z),none]) (i:=0) (y:="-") rfl;rw[nh z 45 "-" ()]at hs;by_cases h:(sg z).head?=some 45
 .obtain⟨r,hr⟩:∃r,sg z=45::r:=by
   cases e:sg z with
   |nil=>rw[e]at h;cases h
   |cons c r=>rw[e]at h;simp at h;exact⟨r,by rw[h]⟩
  refine⟨PySem.Txt.slice z (some 1) none,by rw[Ct hr];unfold fig;rw[if_pos h,hr];rfl,?_⟩;unfold lD di kE;simp[hs,h,hl]
 .refine⟨z,by unfold fig;rw[if_neg h],?_⟩;simp[hs,h]
theorem xJ{n:Int}(hl:z.length<=640)(ha:∀c∈sg z,c<128)(hb:bad (sg z)=false)(hi:PySem.intText? z=some n):ou [.str z]=.ok (.int n):=by
 obtain⟨y,hy,hf⟩:=DZ (z:=z) ();have yl:y.length<=640:=by
  have:=D1 (sg z);rw[bQ,hy];rw[bQ]at hl
  lia
 have ho:=Ik (z:=y) 60 () λc hc=>ha c (D0 ());rw[hy]at ho;have h0:∀e:En,e[1]?=some (some (.str y))->gE (ac 1) (mC (.str "0")) e=.ok (.bl (decide ((fig (sg z)).head?=some 48))):=λe he=>by rw[o9 he,nh y 48 "0" (),hy]
 have hne:pNe (.str z) (.str "0")=.ok (.bl (decide (sg z≠[48]))):=by rw[HK z "0" ha (by decide +kernel)];rfl
 have h1:okF 60 (fig (sg z))=true:=by
  unfold bad at hb;cases q:okF 60 (fig (sg z))with
  |true=>rfl
  |false=>rw[q]at hb;simp at hb
 have h2:¬((fig (sg z)).head?=some 48/\sg z≠[48]):=λq=>by
  have:bad (sg z)=true:=by simp[bad,q]
  rw[this]at hb;cases hb
 rw[h1]at ho;have ho':D6 [.str y,.int 60]=.ok (.bl true):=ho;refine az ?_;refine af (ar hf) ?_;refine af (bw (by simp[ho',aE]) aB) ?_;refine af (bw ?_ aB) ?_
 .simp only[qI];unfold di;rw[h0 _ rfl];by_cases q:(fig (sg z)).head?=some 48
  .have:sg z=[48]:=Classical.byContradiction λw=>h2 ⟨q,w⟩;simp[hne,this]
  .simp[q]
 .exact aM (by simp[gD,hl,hi]) ()
def dg(m:Nat):List Nat:=(toDigits 10 m).map Char.toNat
def oA:∀m,m<10->dg m=[48+m]:=by decide
theorem wN{m:Nat}(h:¬m<10):dg m=dg (m / 10)++ [48+m%10]:=by have hm:m%10<10:=Nat.mod_lt m ();have t:toDigits 10 (m / 10)++ toDigits 10 (m%10)=toDigits 10 (10*(m / 10)+m%10):=Nat.toDigits_append_toDigits () () hm;rw[Nat.div_add_mod]at t;unfold dg;rw[<- t,map_append];have:=oA (m%10) hm;unfold dg at this;rw[this]
structure NC(m:Nat):Prop where
 ne:dg m≠[]
 all:∀c∈dg m,48<=c/\c<=57
 hd:(dg m).head?=some 48->m=0
theorem t7(m:Nat):NC m:=by
 induction m using Nat.strongRecOn with
 |_ m ih=>
  by_cases h:m<10
  .refine⟨?_,?_,?_⟩<;>rw[oA m h]
   .simp
   .grind
   .simp
  .obtain⟨h1,h2,h3⟩:=ih (m / 10) ();refine⟨?_,?_,?_⟩<;>rw[wN h]
   .simp
   .grind
   .intro e;cases q:dg (m / 10)with
    |nil=>exact absurd q h1
    |cons a r=>
     have:=h3 (by simp_all)
     lia
theorem vt:∀(k m:Nat),1<=k->m<10 ^ k->(dg m).length<=k
 |0,_,h,_=>absurd h ()
 |k+1,m,_,h=>by
  by_cases q:m<10
  .rw[oA m q];simp
  .rw[wN q,length_append];have:m / 10<10 ^ k:=by lia
   by_cases k0:k=0
   .lia
   .have:=vt k (m / 10) () this;simp
    lia
def WdN(l:List Nat):Prop:=∃d:List Nat,d≠[]/\(∀c∈d,48<=c/\c<=57)/\d.length<=60/\(d.head?=some 48->d=[48])/\(l=d \/(l=45::d/\d≠[48]))
def qf(m:Nat):sg (PySem.Str.ofString (toString ((m:Nat):Int)))=dg m:=PySem.W.KIN.signs_num m
theorem FT{m:Nat}(h:0<m):sg (PySem.Str.ofString (toString (-(m:Int))))=45::dg m:=by
 obtain⟨k,rfl⟩:∃k,m=k+1:=⟨m-1,by lia⟩
 unfold sg;rw[PyProof.Rows.signs_ofString];show("-"++Nat.repr (k+1)).toList.map Char.toNat=_;rw[String.toList_append,Nat.toList_repr,map_append];rfl
def Lj{m:Nat}(h:m<10 ^ 60):dg m≠[]/\(∀c∈dg m,48<=c/\c<=57)/\(dg m).length<=60/\((dg m).head?=some 48->dg m=[48]):=by have o:=t7 m;exact⟨o.ne,o.all,vt 60 m () h,λe=>by rw[o.hd e];rfl⟩
theorem nY{n:Int}(h:n.natAbs<10 ^ 60):WdN (sg (PySem.Str.ofString (toString n)))/\PySem.intText? (PySem.Str.ofString (toString n))=some n:=by
 obtain⟨w1,w2,w3,w4⟩:=Lj h;by_cases q:0<=n
 .obtain⟨m,rfl⟩:=Int.eq_ofNat_of_zero_le q;have e:=qf m;have e0:(m:Int).natAbs=m:=rfl;rw[e0]at w1 w2 w3 w4;refine⟨⟨dg m,w1,w2,w3,w4,.inl e⟩,?_⟩;have:=PySem.intText_digits (by show PySem.NumText.AllDigits (sg _);rw[e];exact w2) (by show sg _≠[];rw[e];exact w1) (by rw[bQ,e];lia);rw[this];have v:PySem.NumText.digitsVal (sg (PySem.Str.ofString (toString ((m:Nat):Int))))=m:=by rw[e];exact PySem.W.KIN.val_back m
  unfold sg at v;rw[v]
 .obtain⟨m,rfl,m0⟩:∃m:Nat,n=-(m:Int)/\0<m:=⟨n.natAbs,by lia,by lia⟩
  have e:=FT m0;have e0:(-(m:Int)).natAbs=m:=by lia
  rw[e0]at w1 w2 w3 w4;have n0:dg m≠[48]:=λz=>by
   have:=(t7 m).hd (by rw[z];rfl)
   lia
  refine⟨⟨dg m,w1,w2,w3,w4,.inr ⟨e,n0⟩⟩,?_⟩;have:=PySem.intText_neg e w2 w1 (by rw[bQ,e];simp;lia);rw[this];have v:PySem.NumText.digitsVal (dg m)=m:=PySem.W.KIN.val_back m;rw[v]
def Ih(h:48<=c/\c<=57):isD c=true:=decide_eq_true h
theorem Il{l:List Nat}(h:WdN l):bad l=false:=by
 obtain⟨d,h1,h2,h3,h4,h5⟩:=h;have hd:d.head?≠some 45:=λe=>by
  cases d with
  |nil=>cases e
  |cons a r=>simp at e;have:=h2 a ();lia
 have ok:okF 60 d=true:=by have:0<d.length:=List.length_pos_iff.mpr h1;have al:d.all isD=true:=all_eq_true.mpr λc hc=>Ih (h2 c hc);simp[okF,this,h3,al]
 rcases h5 with rfl |⟨rfl,h6⟩
 .have e:fig l=l:=by unfold fig;rw[if_neg hd]
  unfold bad;rw[e,ok];by_cases q:l.head?=some 48
  .simp[h4 q]
  .simp[q]
 .have e:fig (45::d)=d:=by unfold fig;simp
  unfold bad;rw[e,ok];by_cases q:d.head?=some 48
  .exact absurd (h4 q) h6
  .simp[q]
noncomputable def tn(n:Int):Str:=PySem.Str.ofString (toString n)
def Nm(n:Int):Prop:=n.natAbs<10 ^ 60
structure Nt(n:Int):Prop where
 len:(tn n).length<=61
 sgs:∀c∈sg (tn n),c=45 \/(48<=c/\c<=57)
 rd:ou [.str (tn n)]=.ok (.int n)
 st:da (.int n)=.ok (.str (tn n))
theorem nt{n:Int}(h:Nm n):Nt n:=by
 obtain⟨w,i⟩:=nY h;have b:=Il w;obtain⟨d,h1,h2,h3,h4,h5⟩:=w;have sgs:∀c∈sg (tn n),c=45 \/(48<=c/\c<=57):=λc hc=>by
  unfold tn at hc;rcases h5 with e |⟨e,_⟩<;>rw[e]at hc
  .exact .inr (h2 c hc)
  .grind
 have len:(tn n).length<=61:=by
  rw[bQ];unfold tn;rcases h5 with e |⟨e,_⟩<;>rw[e]
  .lia
  .simp;lia
 refine⟨len,sgs,xJ () (λc hc=>by grind) b i,?_⟩;have big:n.natAbs<2 ^ 1000:=Nat.lt_trans h ();unfold da;dsimp only;rw[if_pos big];rfl
def uX{n:Int}(h:Nm n)(h0:0<=n):(∀c∈sg (tn n),48<=c/\c<=57):=by obtain⟨m,rfl⟩:=Int.eq_ofNat_of_zero_le h0;have e:sg (tn ((m:Nat):Int))=dg m:=qf m;rw[e];exact(t7 m).all
def wy(p:Int×Int):Str:=tn p.1++"-"++tn p.2
theorem pb:(" ":Str)=⟨#[32]⟩:=by rfl
def EQ:("\n":Str)=⟨#[10]⟩:=by rfl
theorem KJ:("-":Str)=⟨#[45]⟩:=by decide +kernel
def Ao{g:Str->PV->N6}(h:env[i]?=some (some (.str z))):mMt g (ac i) (mC v) env=g z v:=by unfold mMt;rw[bX,h];simp
theorem j_(hc:c<256){ls:N0}(h0:ls≠[])(hl:ls.length<=150)(hn:∀z∈ls,(∀d∈sg z,d≠c)/\z.length<=6000):cB (jo c ls) (.str ⟨#[c]⟩)=.ok (.lst .own (sL ls)):=by have hb:=ig c 6000 ls λz hz=>(hn z hz).2;have e:jo c ls=Str.join ⟨#[c]⟩ ls:=StrLaws.glued_eq_join _ _;have hs:=uv c hc ls h0 λz hz=>(hn z hz).1;unfold cB;dsimp only;rw[if_pos ⟨rfl,by rw[e];lia⟩,hs];rfl
def vW{k:Int}(h:(xs.length:Int)=k):pS [.lst f xs,.int k]=.ok .non:=by
 refine lb (e:=[some (.lst f xs),Ol k]) ?_;refine bw ?_ aB;have:(mapL Fl.N7 xs).length=xs.length:=by
  clear h
  induction xs with
  |nil=>simp
  |cons x l ih=>simp[ih]
 simp[this,h]
theorem Fx{p:Int×Int}(h1:Nm p.1)(h2:Nm p.2)(p1':0<=p.1)(p2':0<=p.2):wx [.str (wy p)]=.ok (prV p):=by
 have n1:=nt h1;have n2:=nt h2;have ej:wy p=jo 45 [tn p.1,tn p.2]:=by have:jo 45 [tn p.1,tn p.2]=Str.join ⟨#[45]⟩ [tn p.1,tn p.2]:=StrLaws.glued_eq_join _ _;unfold wy;rfl
 have hs:cB (wy p) (.str "-")=.ok (.lst .own (sL [tn p.1,tn p.2])):=by
  rw[ej,KJ];refine j_ () () () λz hz=>?_;rcases mem_cons.mp hz with rfl|hz
  .exact⟨λd hd=>by have:=uX h1 p1' d hd;lia,by have:=n1.len;lia⟩
  .rw[mem_singleton.mp hz];exact⟨λd hd=>by have:=uX h2 p2' d hd;lia,by have:=n2.len;lia⟩
 refine az ?_;show E9 [some (.str (wy p)),none]=_;refine af (ar (by exact hs)) ?_;have rc:pS [.lst .bor (sL [tn p.1,tn p.2]),.int 2]=.ok .non:=vW rfl;refine af (fg (v:=.non) (by simp[rc,aE])) ?_;have i0:av (.lst .lnt (sL [tn p.1,tn p.2])) (.int 0)=.ok (.str (tn p.1)):=rfl;have i1:av (.lst .lnt (sL [tn p.1,tn p.2])) (.int 1)=.ok (.str (tn p.2)):=rfl;exact aM (by simp[i0,i1,n1.rd,n2.rd];rfl) ()
inductive Sd
 |row (h:Str) (ns:NW)
 |net (n:Int) (ps:NT)
 |num (h:Str) (ns:NW)
def lY:N0:=["count","lead","state","turn"]
noncomputable def iR:List (Str×Nat):=[("pass",2),("paint",0),("far",1),("grow",1),("spoil",2),("may",0),("measure",0)]
def SOk:Sd->Prop
 |.row h ns=>h∈lY/\ns.length<=20/\∀n∈ns,Nm n
 |.net n ps=>Nm n/\ps.length<=20/\∀p∈ps,(Nm p.1/\0<=p.1)/\Nm p.2/\0<=p.2
 |.num h ns=>(h,ns.length)∈ iR/\∀n∈ns,Nm n
def pvS(g:Fl):Sd->PV
 |.row h ns=>.tup [.str h,.lst g (iL ns)]
 |.net n ps=>.tup [.str "net",.int n,.lst g (prL ps)]
 |.num h ns=>.tup (.str h::iL ns)
def fJ:Sd->N0
 |.row h ns=>h::ns.map tn
 |.net n ps=>"net" :: tn n::ps.map wy
 |.num h ns=>h::ns.map tn
def line(s:Sd):Str:=jo 32 (fJ s)
def Wc(z:Str):Prop:=(∀c∈sg z,c≠32/\c≠10)/\z.length<=130
def wcB(z:Str):Bool:=(sg z).all (λc=>decide (c≠32)&&decide (c≠10))&&decide (z.length<=130)
def vE(h:wcB z=true):Wc z:=by simp only[wcB,and_eq_true,all_eq_true,decide_eq_true_eq]at h;exact h
theorem rD{n:Int}(h:Nm n):Wc (tn n):=by have t:=nt h;exact⟨λc hc=>by have:=t.sgs c hc;lia,by have:=t.len;lia⟩
theorem EA{p:Int×Int}(h1:Nm p.1)(h2:Nm p.2):Wc (wy p):=by
 have t1:=nt h1;have t2:=nt h2;have l1:("-":Str).length=1:=by decide +kernel
 have s1:sg ("-":Str)=[45]:=by decide +kernel
 refine⟨λc hc=>?_,?_⟩
 .unfold wy at hc;rw[cZ,cZ,s1]at hc;simp only[mem_append,mem_singleton]at hc;rcases hc with(hc|hc)|hc
  .have:=t1.sgs c hc;lia
  .lia
  .have:=t2.sgs c hc;lia
 .unfold wy;rw[mZ,mZ,l1];have:=t1.len;have:=t2.len
  lia
def Ca:lY.all wcB=true:=by rfl
theorem Cb:(iR.map (·.1)).all wcB=true:=by decide +kernel
theorem gR(h:SOk s):(fJ s≠[]/\(fJ s).length<=22)/\∀z∈fJ s,Wc z:=by
 cases s with
 |row hd ns=>
  obtain⟨h1,h2,h3⟩:=h;refine⟨⟨by simp[fJ],by simp[fJ];lia⟩,λz hz=>?_⟩;rcases mem_cons.mp hz with rfl|hz
  .exact vE (all_eq_true.mp Ca _ h1)
  .obtain⟨n,hn,rfl⟩:=mem_map.mp hz;exact rD (h3 n hn)
 |net n ps=>
  obtain⟨h1,h2,h3⟩:=h;refine⟨⟨by simp[fJ],by simp[fJ];lia⟩,λz hz=>?_⟩;rcases mem_cons.mp hz with rfl|hz
  .exact vE (by rfl)
  .rcases mem_cons.mp hz with rfl|hz
   .exact rD h1
   .obtain⟨p,hp,rfl⟩:=mem_map.mp hz;exact EA (h3 p hp).1.1 (h3 p hp).2.1
 |num hd ns=>
  obtain⟨h1,h3⟩:=h;have l2:ns.length<=2:=by
   have:(iR.all λq=>decide (q.2<=2))=true:=by rfl
   exact of_decide_eq_true (all_eq_true.mp this _ h1)
  refine⟨⟨by simp[fJ],by simp[fJ];lia⟩,λz hz=>?_⟩;rcases mem_cons.mp hz with rfl|hz
  .exact vE (all_eq_true.mp Cb _ (mem_map.mpr ⟨_,h1,rfl⟩))
  .obtain⟨n,hn,rfl⟩:=mem_map.mp hz;exact rD (h3 n hn)
theorem oj(k:Nat):∀(ls:N0) (c:Nat),c∈sg (Str.join ⟨#[k]⟩ ls)->c=k\/∃z∈ls,c∈sg z
 | [],c,h=>by cases h
 | [z],c,h=>.inr ⟨z,by simp,h⟩
 |z::y::r,c,h=>by
  have e:sg (Str.join ⟨#[k]⟩ (z::y::r))=sg z ++([k]++ sg (Str.join ⟨#[k]⟩ (y::r))):=by show sg (z ++⟨#[k]⟩++ Str.join ⟨#[k]⟩ (y::r))=_;rw[cZ,cZ,append_assoc];rfl
  rw[e]at h;rcases mem_append.mp h with h|h
  .grind
  .rcases mem_append.mp h with h|h
   .grind
   .rcases oj k (y::r) c h with q |⟨x,hx,q⟩
    .exact .inl q
    .grind
theorem qA(h:SOk s):(∀c∈sg (line s),c≠10)/\(line s).length<=6000:=by
 obtain⟨⟨w0,w6⟩,wz⟩:=gR h;have e:line s=Str.join ⟨#[32]⟩ (fJ s):=StrLaws.glued_eq_join _ _;refine⟨λc hc=>?_,?_⟩
 .rw[e]at hc;rcases oj 32 _ c hc with q |⟨z,hz,q⟩
  .lia
  .exact((wz z hz).1 c q).2
 .rw[e];have:=ig 32 130 (fJ s) λz hz=>(wz z hz).2
  lia
theorem va(h:SOk s):cB (line s) (.str " ")=.ok (.lst .own (sL (fJ s))):=by obtain⟨⟨w0,w6⟩,wz⟩:=gR h;exact j_ () w0 () λz hz=>⟨λd hd=>((wz z hz).1 d hd).1,by have:=(wz z hz).2;lia⟩
def isB(x:N6)(r:Bool):Bool:=match x with
 |.ok (.bl b)=>b==r
 |_=>false
def bZ{x:N6}{r:Bool}(h:isB x r=true):x=.ok (.bl r):=by
 unfold isB at h;split at h
 .rw[eq_of_beq h]
 .cases h
def isS(x:N6)(z:Str):Bool:=match x with
 |.ok (.str y)=>y==z
 |_=>false
theorem iO{sep:Str}{ls:N0}(hs:sep.length<=10)(hl:ls.length<=100)(hn:∀z∈ls,z.length<=6000)(hm:m env=.ok (.lst f (sL ls))):mMt fK (mC (.str sep)) m env=.ok (.str (PySem.Txt.join sep ls)):=by
 unfold mMt;rw[lQ,hm];simp;unfold fK;dsimp only;rw[vT];dsimp only;unfold JoinOk;rw [StrLaws.joinFits hn (by
  have:ls.length*sep.length<=100*10:=Nat.mul_le_mul hl hs
  lia)]
 rfl
theorem o7{ns:NW}(hN:∀n∈ns,Nm n)(hl:ns.length<=1000)(hm:(m env).bind wa=.ok (iL ns)):aV [] 1 (bE m) (tgN 0) bD (ao (p1 da) (ae (ac 0) am)) env=.ok (.lst .own (sL (ns.map tn))):=by
 refine aQ (by exact hm) (by simp;lia) ?_;have e:sL (ns.map tn)=ns.map λn=>PV.str (tn n):=by simp[sL]
 rw[e];refine a6 ns λn hn=>⟨[Ol n],by simp[tgN,aS,bU,cR],?_,by simp,by simp⟩
 have t:=(nt (hN n hn)).st;simp[t]
theorem gX{g:Fl}{ys:N0}(hf:f≠.mod)(hg:g≠.mod)(h:zs.length+ys.length<=1000):aP (.lst f (sL zs)) (.lst g (sL ys))=.ok (.lst .own (sL (zs++ys))):=by rw[gY hf hg (by simp;lia)];simp[sL]
def nX{ns:NW}(hN:∀n∈ns,Nm n)(hl:ns.length<=1000):wF [.lst f (sL (ns.map tn))]=.ok (Oi ns):=by
 refine az ?_;show Fm [some (.lst f (sL (ns.map tn)))]=_;refine aM ?_ ();unfold aV;have e:sL (ns.map tn)=ns.map λn=>PV.str (tn n):=by simp[sL]
 have i:bE (ac 0) [some (.lst f (sL (ns.map tn)))]=.ok (ns.map λn=>PV.str (tn n)):=by rw[<- e];simp
 rw[i];simp;rw[if_pos (),a6 (f:=λn=>PV.int n) ns λn hn=>⟨[some (.str (tn n))],by simp[tgN,aS,bU,cR],?_,by simp,by simp⟩]
 .rfl
 .have t:=(nt (hN n hn)).rd;simp[t,aE]
theorem HG{n:Int}(h:SOk (.net n ps)):Bj [.lst f (sL (tn n::ps.map wy))]=.ok (pvS .own (.net n ps)):=by
 obtain⟨h1,h2,h3⟩:=h;refine az ?_;show B2 [some (.lst f (sL (tn n::ps.map wy)))]=_;unfold B2;refine af (bw (by simp;lia) aB) (aM ?_ (by simp[pvS]));have i0:av (.lst f.N7 (sL (tn n::ps.map wy))) (.int 0)=.ok (.str (tn n)):=dJ () rfl;have t:=(nt h1).rd;have c:im (sL (tn n::ps.map wy)) (some 1) none=sL (ps.map wy):=jr _ 1 ();have e:sL (ps.map wy)=ps.map λp=>PV.str (wy p):=by simp[sL]
 have w:aV [] 1 (bE (dl (ac 0) (dZ (Oh 1)) cq)) (tgN 0) (bD) (ao (aG wx) (ae (ac 0) am)) [some (.lst f (sL (tn n::ps.map wy)))]=.ok (.lst .own (prL ps)):=by
  unfold aV;have i:bE (dl (ac 0) (dZ (Oh 1)) cq) [some (.lst f (sL (tn n::ps.map wy)))]=.ok (ps.map λp=>PV.str (wy p)):=by rw[<- e,<- c];simp
  rw[i];simp only[Res.Og,length_map];rw[if_pos (),a6 (f:=prV) ps λp hp=>⟨[some (.str (wy p))],by simp[tgN,aS,bU,PV.N_,cR],?_,by simp,by simp⟩]
  .rfl
  .have t:=Fx (h3 p hp).1.1 (h3 p hp).2.1 (h3 p hp).1.2 (h3 p hp).2.2;simp[t,aE]
 simp only[ow,bG,ck,w];simp[i0,t,aE,pvS]
noncomputable abbrev KV:List (Str×Int):=[("pass",(2)),("paint",(0)),("far",(1)),("grow",(1)),("spoil",(2)),("may",(0)),("measure",(0))]
def HY:iR.all (λq=>PR.look KV q.1==some (q.2:Int))=true:=by rfl
theorem HX:lY.all (λh=>(PR.look KV h).isNone&&isB (pIn (.str h) (.tup [.str "count",.str "lead",.str "state",.str "turn"])) true)=true:=by decide +kernel
theorem yg(h:SOk s):Bk [.str (line s)]=.ok (pvS .own s):=by
 have hs:=va h;obtain⟨⟨w0,w6⟩,wz⟩:=gR h;obtain⟨hd,tl,hw⟩:∃hd tl,fJ s=hd::tl:=by
  cases e:fJ s with
  |nil=>exact absurd e w0
  |cons a b=>exact⟨a,b,rfl⟩
 rw[hw]at hs;have tl5:tl.length+1<=22:=by grind
 have i0:av (.lst .lnt (sL (hd::tl))) (.int 0)=.ok (.str hd):=dJ () rfl;have c:im (sL (hd::tl)) (some 1) none=sL tl:=jr _ 1 ();refine az ?_;show E_ [some (.str (line s)),none,none,none]=_;refine af (ar (by exact hs)) ?_;refine af (ar (v:=.str hd) (by simp[i0])) ?_;refine af (ar (v:=.lst .own (sL tl)) (by simp[c])) ?_;have kin:∀{r:Bool}{env:En},env[2]?=some (some (.str hd))->(PR.look KV hd).isSome=r->aw (mUn (sH KV) (ac 2)) env=.ok r:=λ{r env} he hr=>by simp only[kR,Le,bX,he,bj,fu,Res.Og];unfold sH;dsimp only;rw[hr];rfl
 cases s with
 |num h' ns=>
  obtain⟨rfl,rfl⟩:h'=hd/\ns.map tn=tl:=by have:h'::ns.map tn=hd::tl:=hw;exact⟨List.cons.inj this |>.1,List.cons.inj this |>.2⟩
  obtain⟨h1,h3⟩:=h;have kv:=eq_of_beq (all_eq_true.mp HY _ h1);have kv':PR.look KV h'=some (ns.length:Int):=kv;refine bL (d4 (kin rfl (by rw[kv'];rfl)) ?_);have gd:pF KV (.str h')=.ok (.int ns.length):=by unfold pF;dsimp only;rw[kv']
  have rc:pS [.lst .bor (sL (ns.map tn)),.int ns.length]=.ok .non:=vW ();have rn:=nX (f:=.bor) h3 (by grind);refine af (fg (v:=.non) (by simp[gd,rc,aE])) (aM ?_ (by simp[pvS]));have pl:aP (.lst .own [.str h']) (Oi ns)=.ok (.lst .own (.str h'::iL ns)):=by rw[gY () () (by simp at tl5 ⊢;lia)];rfl
  simp[rn,aE,pl,dR,aY,pvS]
 |row h' ns=>
  obtain⟨rfl,rfl⟩:h'=hd/\ns.map tn=tl:=by have:h'::ns.map tn=hd::tl:=hw;exact⟨List.cons.inj this |>.1,List.cons.inj this |>.2⟩
  obtain⟨h1,h2,h3⟩:=h;have kv:=all_eq_true.mp HX _ h1;simp at kv;have q:=bZ kv.2;refine af (bw (kin rfl (by grind)) aB) ?_;have rn:=nX (f:=.bor) h3 ();refine bL (d4 (by simp[q]) (aM ?_ (by simp[pvS])));simp[rn,aE,pvS]
 |net n ps=>
  obtain⟨rfl,rfl⟩:(("net":Str))=hd/\tn n::ps.map wy=tl:=by have:("net":Str)::tn n::ps.map wy=hd::tl:=hw;exact⟨List.cons.inj this |>.1,List.cons.inj this |>.2⟩
  have q2:pIn (.str "net") (.tup [.str "count",.str "lead",.str "state",.str "turn"])=.ok (.bl false):=bZ (by decide +kernel);have q3:pEq (.str "net") (.str "net")=.ok (.bl true):=bZ (by decide +kernel);have rn:=HG (f:=.bor) h;have nb:(pvS .own (.net n ps)).has Fl.Oc=false:=by simp[pvS]
  refine af (bw (kin rfl (by rfl)) aB) (af (bw (by simp[q2]) aB) (bL (d4 (by simp[q3]) (aM ?_ (by simp[pvS])))));simp[rn,aE,nb]
def iD(g:Fl->Fl)(f:Fl)(s:Sd):(pvS f s).Oe g=pvS (g f) s:=by cases s<;>simp[pvS]
def n8{α:Type}{a b:α->PV}:∀(l:List α),(∀x∈l,(a x).Oe g=b x)->mapL g (l.map a)=l.map b
 | [],_=>by simp
 |x::l,h=>by rw[map_cons,bM,h x (),n8 l λy hy=>h y (by simp[hy])];rfl
def tH:∀(l:N5),(∀x∈l,x.has p=false)->hasL p l=false
 | [],_=>by simp
 |x::l,h=>by rw[pN,h x (),tH l λy hy=>h y (by simp[hy])];rfl
def t3(g:Fl->Fl)(f:Fl)(ss:List Sd):mapL g (ss.map (pvS f))=ss.map (pvS (g f)):=n8 ss λs _=>iD g f s
def iE(p:Fl->Bool)(f:Fl)(hp:p f=false)(s:Sd):(pvS f s).has p=false:=by cases s<;>simp[pvS,hp]
def jp(p:Fl->Bool)(f:Fl)(hp:p f=false)(ss:List Sd):hasL p (ss.map (pvS f))=false:=tH _ λx hx=>by obtain⟨s,_,rfl⟩:=mem_map.mp hx;exact iE p f hp s
theorem zt{ss:List Sd}(h0:ss≠[])(hl:ss.length<=100)(h:∀s∈ss,SOk s):Bm [.str (jo 10 (ss.map line))]=.ok (.lst .own (ss.map (pvS .own))):=by
 refine az ?_;show Fb [some (.str (jo 10 (ss.map line)))]=_;have nl:=jp Fl.Ob .own rfl ss;refine aM ?_ (by simp[nl]);unfold aV;have hs:cB (jo 10 (ss.map line)) (.str "\n")=.ok (.lst .own (sL (ss.map line))):=by refine j_ () (by simp[h0]) (by simp;lia) λz hz=>?_;obtain⟨s,hs,rfl⟩:=mem_map.mp hz;exact qA (h s hs)
 have i:bE (mMt cB (ac 0) (mC (.str "\n"))) [some (.str (jo 10 (ss.map line)))]=.ok (ss.map λs=>PV.str (line s)):=by rw[wJ,Ao rfl,hs];simp[sL]
 rw[i];simp;rw[if_pos (),a6 (f:=pvS .own) ss λs hs=>⟨[some (.str (line s))],by simp[tgN,aS,bU,cR],?_,iE _ _ rfl s,iE _ _ rfl s⟩]
 .have t:=yg (h s hs);have nb:=iE Fl.Oc .own rfl s;simp[t,aE,nb]
def cn(z:Str):Nat:=(sg z).count 58
def qT(x y:Str):cn (x++y)=cn x+cn y:=by unfold cn;rw[cZ,List.count_append]
theorem wR(y:Str):∀ps:N0,ps≠[]->cn (Str.join y ps)=(ps.map cn).sum+(ps.length-1)*cn y
 | [],h=>absurd rfl h
 | [p],_=>by show cn p=_;simp
 |p::q::r,_=>by
  have ih:=wR y (q::r) ();show cn (p++y++Str.join y (q::r))=_;rw[qT,qT,ih];simp[Nat.add_mul]
  lia
def qS:cn z=0↔∀c∈sg z,c≠58:=by unfold cn;rw[List.count_eq_zero];exact⟨λh c hc e=>h (e▸hc),λh m=>h 58 m rfl⟩
def w8{a b c d:List Nat}(ha:58∉a)(hc:58∉c)(h:a++58::b=c++58::d):a=c/\b=d:=by
 induction a generalizing c with
 |nil=>
  cases c with
  |nil=>exact⟨rfl,(List.cons.inj h).2⟩
  |cons x c=>exact absurd (List.cons.inj h).1 (λe=>hc (by simp[<- e]))
 |cons x a ih=>
  cases c with
  |nil=>exact absurd (List.cons.inj h).1 (λe=>ha (by simp[e]))
  |cons y c=>obtain⟨e1,e2⟩:=List.cons.inj h;obtain⟨h1,h2⟩:=ih (λm=>ha (mem_cons_of_mem _ m)) (λm=>hc (mem_cons_of_mem _ m)) e2;exact⟨by rw[e1,h1],h2⟩
theorem rO{A B:Str}(hA:∀c∈sg A,c≠58)(hB:∀c∈sg B,c≠58)(h256:∀c∈sg A++sg B,c<256):PySem.Txt.split (A++" : "++B) " : "=[A,B]:=by
 have sy:sg (" : ":Str)=[32,58,32]:=by decide +kernel
 have ly:(" : ":Str).length=3:=by decide +kernel
 have y1:cn " : "=1:=by decide +kernel
 obtain⟨x,hx⟩:∃x,A++" : "++B=x:=⟨_,rfl⟩
 have sx:sg x=sg A ++([32,58,32]++ sg B):=by rw[<- hx,cZ,cZ,sy,append_assoc]
 have lx:x.length=A.length+3+B.length:=by rw[bQ,sx,bQ,bQ];simp;lia
 have cx:cn x=1:=by rw[<- hx,qT,qT,y1,qS.mpr hA,qS.mpr hB]
 rw[hx];have ne:(Builtin.Str.occurrences x " : " 0 x.length (x.length+1)).isEmpty=false:=by obtain⟨f,hc,ht⟩:=StrLaws.occ_tight x " : " ();rw[eq_false_iff];intro e;rw[List.isEmpty_iff]at e;rw[e]at hc;cases hc;refine ht A.length (zero_le _) ?_;refine⟨by lia,?_⟩;rw[StrLaws.subAt_eq,ly];have e1:x.cps.toList=sg A ++([32,58,32]++ sg B):=sx;have e2:(" : ":Str).cps.toList=[32,58,32]:=sy;rw[e1,e2,List.drop_left' (by rw[bQ])];rfl
 have kx:Builtin.Str.strKind x=1/\Builtin.Str.strKind " : "=1:=by
  refine⟨?_,by decide +kernel⟩;unfold Builtin.Str.strKind;rw[if_pos];rw[<- all_toList,all_eq_true];intro c hc;have hc':c∈sg x:=hc;rw[sx]at hc';refine decide_eq_true ?_;simp only[mem_append,mem_cons,List.not_mem_nil,or_false]at hc';rcases hc' with h |(h|h|h)|h
  .simp_all
  all_goals first|lia|exact h256 c (by simp[h])
 have js:=StrLaws.join_split x " : ";obtain⟨ps,hps⟩:∃ps,PySem.Txt.split x " : "=ps:=⟨_,rfl⟩
 have l2:2<=ps.length:=by
  rw[<- hps];unfold PySem.Txt.split;rw[if_neg,if_neg]
  .rw[StrLaws.partsBetween_eq,PR.nP];have:(Builtin.Str.occurrences x " : " 0 x.length (x.length+1))≠ []:=λe=>by simp_all
   have:=List.length_pos_iff.mpr this
   lia
  .rw[ne];decide
  .lia
 rw[hps]at js ⊢;have cj:=wR " : " ps (λe=>by simp_all);rw[js,cx,y1]at cj;cases ps with
 |nil=>simp at l2
 |cons p r=>
  cases r with
  |nil=>simp at l2
  |cons q r=>
   have r0:r=[]:=by
    cases r with
    |nil=>rfl
    |cons _ _=>simp at cj;lia
   subst r0;have p0:cn p=0/\cn q=0:=by simp at cj;lia
   have e:sg (p++" : "++q)=sg x:=congrArg sg js;rw[cZ,cZ,sy,sx,append_assoc]at e;have e':(sg p++[32])++ 58::(32::sg q)=(sg A++[32])++ 58::(32::sg B):=by simpa using e
   obtain ⟨h1,h2⟩:=w8 (λm=>by
    rcases mem_append.mp m with m|m
    .exact qS.mp p0.1 58 m rfl
    .simp at m) (λm=>by
    rcases mem_append.mp m with m|m
    .exact hA 58 m rfl
    .simp at m) e'
   have h1':=List.append_cancel_right h1;have h2':=(List.cons.inj h2).2;rw[i5 h1',i5 h2']
def kd:Sd->Str
 |.row h _=>h
 |.net _ _=>"net"
 |.num h _=>h
theorem zf:lY.all (λz=>shp (.str z))=true:=by decide +kernel
theorem zg:iR.all (λq=>shp (.str q.1))=true:=by decide +kernel
theorem FR:shp (.str "table")=true/\shp (.str "look")=true/\shp (.str "net")=true:=by decide +kernel
def vd(h:SOk s):shp (.str (kd s))=true:=by
 cases s with
 |row hd ns=>exact all_eq_true.mp zf _ h.1
 |num hd ns=>exact all_eq_true.mp zg _ h.1
 |net _ _=>exact FR.2.2
def zy(g:Fl)(s:Sd):av (pvS g s) (.int 0)=.ok (.str (kd s)):=by cases s<;>exact cC rfl rfl rfl
def xy{a b:Str}(ha:shp (.str a)=true)(hb:shp (.str b)=true):pEq (.str a) (.str b)=.ok (.bl (decide (a=b)))/\pNe (.str a) (.str b)=.ok (.bl (!decide (a=b))):=by
 have:PyData.eqv (PV.str a).data (PV.str b).data=decide (a=b):=by rfl
 constructor
 .unfold pEq;rw[ha,hb,this];rfl
 .unfold pNe;rw[ha,hb,this];rfl
def EY{a:Str}(ha:shp (.str a)=true)(h:∀z∈zs,shp (.str z)=true)(hm:a∈zs):eB (.str a) (.tup (sL zs))=.ok (.bl false):=by
 unfold eB;simp only[aY];have h1:(sL zs).all shp=true:=all_eq_true.mpr λv hv=>by obtain⟨z,hz,rfl⟩:=mem_map.mp hv;exact h z hz
 have h2:inL (.str a) (sL zs)=true:=by unfold inL sL;rw[List.any_map,List.any_eq_true];exact⟨a,hm,by simp[PV.data,PyData.eqv]⟩
 rw[ha,h1,h2];rfl
noncomputable def HJ:N0:=["paint","far","lead","grow"]
def I9:N0:=["pass","count","table"]
noncomputable def doi:N0:=["turn","spoil","may","measure","look"]
theorem HL:(HJ++I9++doi ++(["net","state"]:N0)).all (λz=>shp (.str z))=true:=by decide +kernel
def pH(h:z∈HJ++I9++doi ++(["net","state"]:N0)):shp (.str z)=true:=all_eq_true.mp HL z h
def rsN(k:Str):N0:=if k="net" then HJ else I9
structure Tx(A:List Sd)(s:Sd)(r:List Sd):Prop where
 ok:∀y∈A++s::r,SOk y
 len:(A++s::r).length<=100
 fst:∃a A' A2 b,A=a::A'/\A.length=(if kd a="net" then 2 else 1)/\A=A2++[b]/\kd b∈rsN (kd a)
 st:kd s="state"
 dos:∀y∈r,kd y∈doi
def bo(R:PV):PV:=(R.Oe Fl.N7).Oe Fl.N8
def Nw(f:Fl):Prop:=f.N9=.frz/\f.Ob=false/\f.Oc=false
def Stp(R:PV)(cs:NW)(y:Sd)(cs':NW)(z:Str):Prop:=∃(f g:Fl) (dn:NW),Nw f/\Nw g/\tQ [bo R,Oj .frz cs,pvS .frz y]=.ok (.tup [Oj f dn,Oj g cs'])/\wu [bo R,.tup [Oj .frz dn,Oj .frz cs'],pvS .frz y]=.ok (.str z)
inductive p8(R:PV):NW->List Sd->N0->Prop
 |nil {a:NW}:p8 R a [] []
 |cons {a b:NW}{l:List Sd}{y:Sd}{z:Str}{t:N0}:Stp R a y b z->p8 R b l t->p8 R a (y::l) (z::t)
section
variable{A r:List Sd}{s:Sd}
abbrev ftx(A r:List Sd)(s:Sd):N5:=(A++s::r).map (pvS .frz)
def lO(h:g .frz=.frz)(ss:List Sd):mapL g (ss.map (pvS .frz))=ss.map (pvS .frz):=by rw[t3,h]
def zA{ss:List Sd}{z:Sd}(hz:ss[i]?=some z)(f:Fl):av (.lst f (ss.map (pvS .frz))) (.int i)=.ok (pvS .frz z):=
 cC rfl (by simp[hz]) (iE _ _ rfl z)
theorem rL(X:Tx A s r):wv [.lst .frz (ftx A r s)]=.ok (.int A.length):=by
 obtain⟨a,A',_,_,e,hn,_⟩:=X.fst;have hz:=X.ok a (by simp[e]);refine az ?_;show E8 [some (.lst .frz (ftx A r s))]=_;refine aM ?_ ();have i0:=zA (ss:=A++s::r) (i:=0) (z:=a) (by simp[e]) .frz;have e1:=(xy (vd hz) (pH (z:="net") (by grind))).1;have m1:mapL Fl.N7 (ftx A r s)=ftx A r s:=lO rfl _;have ee:(mOp pEq (mOp av (mOp av (ac 0) (Oh 0)) (Oh 0)) (mC (.str "net"))) [some (.lst .frz (ftx A r s))]=.ok (.bl (decide (kd a="net"))):=by simp only[eG,bX,lQ,getElem?_cons_zero,bj,bC,fw,m1,Res.Og];rw[show(0:Int)=((0:Nat):Int)from rfl,i0];simp only[Res.Og];rw[show((0:Nat):Int)=0 from rfl,zy];simp only[Res.Og,e1]
 simp only[vp,kR,ee];rw[hn];by_cases q:kd a="net"
 .simp[q]
 .simp[q]
theorem zV(X:Tx A s r):Bu [.lst .frz (ftx A r s)]=.ok .non:=by
 have sa:=rL X;obtain⟨a,A',A2,b,ea,hn,eb,hb⟩:=X.fst;obtain⟨rs,hrs⟩:∃rs,rs=rsN (kd a):=⟨_,rfl⟩
 rw[<- hrs]at hb;have rsh:∀ k ∈ rs,shp (.str k)=true:=λk hk=>pH (by
  rw[hrs]at hk;unfold rsN at hk;split at hk<;>simp[hk])
 have hl:=X.len;obtain⟨ss,hss⟩:∃ss,A++s::r=ss:=⟨_,rfl⟩
 have ok:=X.ok;have m1:mapL Fl.N7 (ss.map (pvS .frz))=ss.map (pvS .frz):=lO rfl ss;have m2:mapL Fl.N8 (ss.map (pvS .frz))=ss.map (pvS .frz):=lO rfl ss;unfold ftx at sa ⊢;rw[hss]at sa hl ok ⊢;obtain⟨K,hK⟩:∃K,ss.map kd=K:=⟨_,rfl⟩
 have n0:1<=A.length:=by rw[eb];simp
 have hKl:K.length=ss.length:=by rw[<- hK];simp
 have kL:A.length<K.length:=by rw[hKl,<- hss];simp
 have k0:K[0]?=some (kd a):=by rw[<- hK,<- hss,ea];rfl
 have k1:K[A.length]?=some ("state":Str):=by rw[<- hK,<- hss,<- X.st];simp
 have k2:K[A.length-1]?=some (kd b):=by
  rw[<- hK,<- hss];have:A.length=A2.length+1:=by rw[eb];simp
  rw[this,eb];simp
 have kd':∀y∈K.drop (A.length+1),y∈doi:=λy hy=>by rw[<- hK,<- hss,map_append,map_cons,show A.map kd++kd s::r.map kd=(A.map kd++[kd s])++ r.map kd by simp,List.drop_left' ()]at hy;obtain⟨z,hz,rfl⟩:=mem_map.mp hy;exact X.dos z hz
 have ks:shp (.str "state")=true:=pH (by decide +kernel);refine fU ?_;show Ends (Fn [some (.lst .frz (ss.map (pvS .frz))),none,none,none,none]);have c1:aV [] 1 (bE (ac 0)) (tgN 0) bD (mOp av (ac 0) (Oh 0)) [some (.lst .frz (ss.map (pvS .frz))),none,none,none,none]=.ok (.lst .own (sL K)):=by
  refine aQ (xs:=ss.map (pvS .frz)) (by simp[m1]) (by simp;lia) ?_;rw[show sL K=ss.map λy=>PV.str (kd y) by rw[<- hK];simp[sL]];refine a6 ss λy hy=>⟨[some (pvS .frz y)],?_,?_,by simp,by simp⟩
  .have:(pvS .frz y).N_=pvS .frz y:=iD Fl.N_ .frz y;rw[this];cases y<;>rfl
  .simp;rw[iD,fw,zy]
 refine dL (ar c1) ?_;refine dL (ar (v:=.int A.length) (by simp[m1,m2,sa,aE])) ?_;have i0:∀f,av (.lst f (sL K)) (.int 0)=.ok (.str (kd a)):=λf=>dJ () k0;have i1:∀f,av (.lst f (sL K)) (.int A.length)=.ok (.str "state"):=λf=>dJ () (by simpa using k1);have i2:∀f,av (.lst f (sL K)) (.int ((A.length:Int)-1))=.ok (.str (kd b)):=λf=>dJ () (by rw[show((A.length:Int)-1).toNat=A.length-1 by lia];exact k2);have e1:=(xy (vd (ok a (by rw[<- hss,ea];simp))) (pH (z:="net") (by decide +kernel))).1;have e2:=(xy ks ks).2;have e3:=EY (vd (ok b (by rw[<- hss,eb];simp))) rsh hb;refine dL (ar (v:=.tup (sL rs)) ?_) ?_
 .rw[hrs];unfold rsN;by_cases q:kd a="net"
  .rw[decide_eq_true q]at e1;rw[if_pos q];simp[i0,e1];rfl
  .rw[decide_eq_false q]at e1;rw[if_neg q];simp[i0,e1];rfl
 simp;refine dL (bw (by simp[i1,e2];lia) aB) ?_;refine dL (bw (by simp[i2,e3]) aB) ?_;have cu:im (sL K) (some ((A.length:Int)+1)) none=sL (K.drop (A.length+1)):=by have:=jr (sL K) (A.length+1) (by simp;lia);rw[show((A.length+1:Nat):Int)=(A.length:Int)+1 by lia]at this;rw[this];simp[sL]
 refine mW (λ_ e=>∃x4,e=[some (.lst .frz (ss.map (pvS .frz))),some (.lst .own (sL K)),Ol A.length,some (.tup (sL rs)),x4]) (λo=>∃e,o=.next e) (xs:=sL (K.drop (A.length+1))) ?_ ⟨none,rfl⟩ (λk x e hx hP=>?_) (λe hP=>⟨e,rfl⟩)
 .refine et (f:=.own) ?_ rfl () ();simp only[ik,eG,jy,il,bX,lQ,getElem?_cons_zero,getElem?_cons_succ,bj,bC,jM,h_,Res.Og,gZ,jc,sA,cu]
 .obtain⟨x4,rfl⟩:=hP;unfold sL at hx;rw[getElem?_map]at hx;obtain⟨y,hy,rfl⟩:=map_eq_some_iff.mp hx;have hm:=kd' y (List.mem_of_getElem? hy);have e4:eB (.str y) (.tup [.str "turn",.str "spoil",.str "may",.str "measure",.str "look"])=.ok (.bl false):=EY (pH (by simp[hm])) (λk hk=>pH (by simp[hk])) hm;exact⟨_,cX rfl,.inl ⟨_,.inl (bw (by simp[e4]) aB),_,rfl⟩⟩
def cut_to(xs:N5)(k:Nat)(h:k<=xs.length):im xs none (some (k:Int))=xs.take k:=by unfold im;rw[HT.sIx_nat,HT.sIx_none];simp
def lpB:MS:=(aq (aI 7 (ao (aG tQ) (ae (ac 3) (ae (ac 4) (ae (ac 6) am)))))
 (aq (fv 7) (aq (aI 4 (mOp av (ac 7) (Oh 1)))
 (dz 5 (ao (aG wu) (ae (ac 3) (ae (ac 7) (ae (ac 6) am))))))))
theorem KQ{x0:Option PV}{L:PV}{n:Int}{y:Sd}{an:N0}{x7:Option PV}(h:Stp R cs y cs' z)(hl:an.length<=200):∃v,lpB [x0,some L,Ol n,some R,On .frz cs,some (.lst .own (sL an)),some (pvS .frz y),x7]=.next [x0,some L,Ol n,some R,On .frz cs',some (.lst .own (sL (an++[z]))),some (pvS .frz y),some v]:=by
 obtain⟨f,g,dn,⟨f1,f2,f3⟩,⟨g1,g2,g3⟩,e1,e2⟩:=h;refine⟨.tup [Oj .frz dn,Oj .frz cs'],?_⟩;have i1:av (.tup [Oj .frz dn,Oj .frz cs']) (.int 1)=.ok (Oj .frz cs'):=cC rfl rfl ();refine af (ar (v:=.tup [Oj f dn,Oj g cs']) ?_ (by simp[f2,g2]) rfl) ?_
 .simp only[cV,bG,ck,bX,getElem?_cons_zero,getElem?_cons_succ,bj,Res.Og,dM,bM,dh,iD,bC,fV,fw,jv];rw[show(R.Oe Fl.N7).Oe Fl.N8=bo R from rfl,e1];simp[aE,f3,g3]
 refine af (cT rfl) ?_;simp only[sU,bM,dh,bC,fV,f1,g1];refine af (ar (v:=Oj .frz cs') (by simp[i1]) () (by simp[aS])) ?_;simp;refine(eY (v:=.str z) ?_ rfl () (by simp;lia)).trans (by simp[sL]);simp only[cV,bG,ck,bX,getElem?_cons_zero,getElem?_cons_succ,bj,Res.Og,dM,bM,dh,sU,bC,fw,jv,iD,fV];rw[show(R.Oe Fl.N7).Oe Fl.N8=bo R from rfl,e2];simp[aE]
theorem C9{regs:NW}{z0:Str}(X:Tx A s r)(hs:s=.row "state" regs)(hR:pR [.lst .own (A.map (pvS .frz))]=.ok R)(rb:R.has Fl.Oc=false)(rl:R.has Fl.Ob=false)
  (hC:jA bu (.ok [Oj .frz regs]) (R.Oe Fl.N7)=.ok (Oi cs)) (h0:pP [bo R,Oj .frz cs]=.ok (.str z0)) (hP:p8 R cs r zs):Bb [.str (jo 10 ((A++s::r).map line))]=.ok (.lst .own (sL (z0::zs))):=by
 have hl:=X.len;have rt:=zt () hl X.ok;have oo:=zV X;have so:=rL X;have m1:mapL Fl.N7 ((A++s::r).map (pvS .frz))=(A++s::r).map (pvS .frz):=lO rfl _;have m2:mapL Fl.N8 ((A++s::r).map (pvS .frz))=(A++s::r).map (pvS .frz):=lO rfl _;refine az ?_;show E5 [some (.str (jo 10 ((A++s::r).map line))),none,none,none,none,none,none,none]=_;refine af (ar (v:=.lst .own ((A++s::r).map (pvS .own))) ?_ (by simp only[Ag,wq];rw[jp _ _ rfl];rfl) rfl) ?_
 .simp only[cV,bG,ck,bX,getElem?_cons_zero,bj,fu,Res.Og,dM,bM,dh,rt];unfold aE;rw[wq,jp _ _ rfl];rfl
 refine af (cT rfl) ?_;simp only[s0_,s1_,bC,t3,jS];refine af (fg (v:=.non) (by simp only[cV,bG,ck,bX,getElem?_cons_zero,getElem?_cons_succ,bj,bC,fw,jv,m1,m2,Res.Og,dM,bM,dh,oo];simp[aE])) ?_;refine af (ar (v:=.int A.length) (by simp only[cV,bG,ck,bX,getElem?_cons_zero,getElem?_cons_succ,bj,bC,fw,jv,m1,m2,Res.Og,dM,bM,dh,so];simp[aE])) ?_;simp only[s0_,s1_];have cu:=cut_to ((A++s::r).map (pvS .frz)) A.length ();rw[map_append,List.take_left' ()]at cu;rw[<- map_append]at cu;have mA:mapL Fl.N8 (A.map (pvS .frz))=A.map (pvS .frz):=lO rfl A;refine af (ar (v:=R) ?_ (by simp[rl]) rfl) ?_
 .simp only[cV,bG,ck,ik,il,jy,bX,getElem?_cons_zero,getElem?_cons_succ,bj,bC,h_,m1,Res.Og,gZ,jc,cu,dM,bM,dh,o3,mA,hR];simp[aE,rb]
 simp only[s0_,s1_];have ix:av (.lst .frz ((A++s::r).map (pvS .frz))) (.int A.length)=.ok (pvS .frz s):=zA () .frz;have ix1:av (pvS .frz s) (.int 1)=.ok (Oj .frz regs):=by rw[hs];exact cC rfl rfl ()
 refine af (ar (v:=Oi cs) ?_ () (by simp[aS])) ?_
 .rw[<- hC,IK];simp only[bX,bG,eG,lQ,ck,getElem?_cons_zero,getElem?_cons_succ,bj,bC,fw,m1,h_,Res.Og,ix,ix1]
 refine af (cT rfl) ?_;simp only[s0_,s1_,bC,fV,jS];refine af (ar (v:=.lst .own (sL [z0])) ?_ () (by simp[aS])) ?_
 .simp;rw[show(R.Oe Fl.N7).Oe Fl.N8=bo R from rfl,h0];rfl
 simp only[s1_];have cf:=jr ((A++s::r).map (pvS .frz)) (A.length+1) ();rw[show(A++s::r).map (pvS .frz)=((A++[s]).map (pvS .frz))++ r.map (pvS .frz) by simp,List.drop_left' (),show((A.length+1:Nat):Int)=(A.length:Int)+1 by lia]at cf;rw[show((A++[s]).map (pvS .frz))++ r.map (pvS .frz)=(A++s::r).map (pvS .frz) by simp]at cf;refine iA (xs:=r.map (pvS .frz)) (λk e=>∃cs an zs' x6 x7,e=[some (.str (jo 10 ((A++s::r).map line))),some (.lst .frz ((A++s::r).map (pvS .frz))),Ol A.length,some R,On .frz cs,some (.lst .own (sL an)),x6,x7]/\p8 R cs (r.drop k) zs'/\an++zs'=z0::zs/\an.length=k+1) ?_ ⟨cs,[z0],zs,none,none,rfl,hP,rfl,rfl⟩ (λk x e hx hP=>?_) (λe hP=>?_)
 .refine et (f:=.own) ?_ rfl (jp _ _ rfl r) (jp _ _ rfl r);simp only[ik,eG,jy,il,bX,lQ,getElem?_cons_zero,getElem?_cons_succ,bj,bC,m1,h_,Res.Og,gZ,jc,sA,cf]
 .obtain⟨cs,an,zs',x6,x7,rfl,hP,ez,el⟩:=hP;rw[getElem?_map]at hx;obtain⟨y,hy,rfl⟩:=map_eq_some_iff.mp hx;have kl:=(List.getElem?_eq_some_iff.mp hy).1;rw[drop_eq_getElem_cons kl]at hP;have ey:r[k]=y:=by simp_all
  rw[ey]at hP;cases hP with
  |cons h1 h2=>simp at hl;obtain⟨v,e⟩:=KQ (an:=an) h1 ();refine⟨_,by cases y<;>rfl,bN e ⟨_,_,_,_,_,rfl,h2,by simpa using ez,by simp[el]⟩⟩
 .obtain⟨cs,an,zs',x6,x7,rfl,hP,ez,el⟩:=hP;rw[length_map,drop_length]at hP;cases hP;rw[append_nil]at ez;subst ez;exact f9 rfl
end
def sj(ls:N0):Str:=jo 32 ls
def tx:PV->Str
 |.int n=>tn n
 |.str z=>z
 |_=>""
def Th(x:PV):Prop:=(∃n,x=.int n/\Nm n)\/ ∃z:Str,x=.str z/\z.length<=6000
def yW(g:Fl->Fl):∀{xs:N5},(∀x∈xs,Th x)->mapL g xs=xs
 | [],_=>by simp
 |x::xs,h=>by rw[bM,yW g λy hy=>h y (mem_cons_of_mem _ hy)];rcases h x mem_cons_self with⟨n,rfl,_⟩ |⟨z,rfl,_⟩<;>simp
theorem lI(h:∀x∈xs,Th x)(hl:xs.length<=100):pQ [.lst f xs]=.ok (.str (sj (xs.map tx))):=by
 refine az ?_;refine aM ?_ ();refine iO (f:=.own) (by decide +kernel) (by grind) (λz hz=>?_) ?_
 .obtain⟨x,hx,rfl⟩:=mem_map.mp hz;rcases h x hx with⟨n,rfl,hn⟩ |⟨z,rfl,hz'⟩
  .have:=(nt hn).len;show(tn n).length<=6000
   lia
  .exact hz'
 .refine aQ (xs:=xs) (by simp[yW _ h]) () ?_;rw[show sL (xs.map tx)=xs.map λx=>PV.str (tx x) by simp[sL]];have:=a6 (g:=tgN 0) (me:=ao (p1 pC) (ae (ac 0) am)) (env:=[none]) (a:=λx:PV=>x) (f:=λx=>PV.str (tx x)) xs λx hx=>⟨[some x],by rcases h x hx with ⟨n,rfl,hn⟩ | ⟨z,rfl,hz⟩ <;> simp [tgN,aS,cR],by
   rcases h x hx with⟨n,rfl,hn⟩ |⟨z,rfl,hz⟩
   .simp[pC,(nt hn).st,tx]
   .simp[pC,tx],by simp,by simp⟩
  simpa[bU]using this
def vH(l:NW):(iL l).map tx=l.map tn:=by simp[iL,tx]
theorem cI(h0:0<=a)(h:a<1000):Nm a:=by
 have:a.natAbs<1000:=by lia
 exact Nat.lt_trans this ()
def md(l:NW):Str:=if l=[]then "-" else sj (l.map tn)
def Sml(l:NW):Prop:=l.length<=90/\∀a∈l,0<=a/\a<1000
def Sml.th(h:Sml l):∀x∈iL l,Th x:=λx hx=>by obtain⟨a,ha,rfl⟩:=mem_map.mp hx;exact .inl ⟨a,rfl,cI (h.2 a ha).1 (h.2 a ha).2⟩
def l0(h:Sml l):D2 [Oj f l]=.ok (.str (md l)):=by
 refine az ?_;show Lm [On f l]=_;have j:=lI (f:=f.N7.N8) h.th (by simpa using Nat.le_trans h.1 ());rw[vH]at j;refine aM ?_ ();unfold md;cases l with
 |nil=>simp
 |cons a l=>rw[vp];simp only[cV,bG,ck,bX,getElem?_cons_zero,bj,bC,fV,Res.Og,dM,bM,dh,j];simp[aE]
def cw(b:Bool):Str:=if b then "calm" else "wild"
theorem BS(b:Bool):(cw b).length=4:=by cases b<;>decide +kernel
theorem uJ(n k:Int)(h1:k<=n)(h2:n<=10):Br [.int n,.int k]=.ok .non:=by refine lb (e:=[Ol n,Ol k]) ?_;exact bw (by simp;rw[if_neg (),decide_eq_false ()]) aB
theorem uR(g:Jk n ws)(hf:fl.N7=fl)(hl:fl.Ob=false):Bx [.int n,.lst fl (prL ws)]=.ok (.lst .own (prL (cU (ws.map mm)))):=by
 refine az ?_;refine af (ar (v:=.lst .own []) ()) ?_;refine iA (λk e=>∃c d,e=[Ol n,some (.lst fl (prL ws)),some (.lst .own (prL ((ws.take k).map mm))),c,d]) (xs:=prL ws) (et (by simp[hf]) hl () ()) ⟨_,_,rfl⟩ (λk x e hx hP=>?_) (λe hP=>?_)
 .obtain⟨c,d,rfl⟩:=hP;rw[C3]at hx;obtain⟨w,hw,rfl⟩:∃w,ws[k]?=some w/\x=prV w:=by grind
  have hk:k<ws.length:=(List.getElem?_eq_some_iff.mp hw).1;obtain⟨r1,r2,r3,r4,r5⟩:=g.rg w (List.mem_of_getElem? hw);have hn:((ws.take k).map mm).contains (mm w)=false:=by
   rw[eq_false_iff];intro z;have z':mm w ∈(ws.take k).map mm:=by simpa using z
   have nd:=g.nd;rw[<- List.take_append_drop k ws,map_append,nodup_append]at nd;refine nd.2.2 _ z' (mm w) (mem_map_of_mem ?_) rfl;rw[drop_eq_getElem_cons hk];obtain⟨_,e⟩:=List.getElem?_eq_some_iff.mp hw;rw[e];exact mem_cons_self
  have hn':mm w ∉(ws.map mm).take k:=by simp_all
  have ht:(ws.take (k+1)).map mm=(ws.take k).map mm++[mm w]:=by rw[take_add_one,hw];simp
  have hz:=g.sz;refine⟨_,cX rfl,bh (ar (v:=prV (mm w)) (by rfl)) ?_⟩;refine bh (bw (by simp[mm];rw[if_neg (),decide_eq_false ()]) aB) ?_;refine bh (bw (by simp[mm];lia) aB) ?_;refine bh (bw (by simp[hn']) aB) ?_;refine bN (eY (v:=prV (mm w)) () rfl () (by simp;lia)) ⟨some (prV w),some (prV (mm w)),?_⟩;rw[ht,<- C4];rfl
 .obtain⟨c,d,rfl⟩:=hP;refine aM ?_ ();simp[uw (by simpa using g.sz) g.nd]
theorem lX(a:Int):∀(ps:NT),(∀x∈ps,x.1≠x.2)->(ps.filter λx=>decide (x.2=a)).length+(ps.filter λx=>decide (x.1=a)).length<=ps.length
 | [],_=>Nat.le_refl _
 |x::ps,h=>by
  have:=lX a ps λy hy=>h y (mem_cons_of_mem _ hy);have hx:=h x mem_cons_self;by_cases h1:x.2=a
  .grind
  .grind
theorem Ah(ps:NT)(a:Int)(h:ps.length<64)(hne:∀x∈ps,x.1≠x.2):wC [.tup (prL ps),.int a]=.ok (Oi (nbL ps a)):=by
 refine az ?_;show Ff [some (.tup (prL ps)),Ol a,none,none]=_;refine af (ar (v:=Oi ((ps.filter λx=>decide (x.2=a)).map (·.1))) ?_) ?_
 .refine aQ (xs:=prL ps) () (by simp;lia) ?_;unfold iL prL;rw[map_map];exact bP ps λx _=>⟨[Ol a,some (prV x)],by simp[tgN,aS,bU],by simp,λ_=>⟨by simp,rfl,rfl⟩⟩
 refine af (ar (v:=.lst .own (iL ((ps.filter λx=>decide (x.1=a)).map (·.2)))) ?_) ?_
 .refine aQ (xs:=prL ps) () (by simp;lia) ?_;rw[show iL ((ps.filter λx=>decide (x.1=a)).map (·.2))=(ps.filter λx=>decide (x.1=a)).map (PV.int ∘ Prod.snd)from map_map ..];exact bP ps λx _=>⟨[Ol a,some (prV x)],by simp[tgN,aS,bU],by simp,λ_=>⟨by simp,rfl,rfl⟩⟩
 refine aM ?_ ();have h1:=lX a ps hne;simp;rw[gY () () (by simp;lia)];simp;rw[xp _ (by simp;lia)];rfl
abbrev net(fl:Fl)(n:Nat)(ps:NT):PV:=.obj fl 8 [0,1,2] [.int n,.tup (prL ps),.tup ((range n).map λk:Nat=>.tup (iL (nbL ps k)))]
@[simp] def L5:hasL p ((range n).map λk:Nat=>PV.tup (iL (nbL ps k)))=false:=by
 induction range n with
 |nil=>rfl
 |cons a l ih=>simp[ih]
@[simp] def L4:mapL g ((range n).map λk:Nat=>PV.tup (iL (nbL ps k)))=(range n).map λk:Nat=>PV.tup (iL (nbL ps k)):=by
 induction range n with
 |nil=>rfl
 |cons a l ih=>simp[mapL,ih]
def yK(hk:k<n):wB [net .bor n ps,.int k]=.ok (Oi (nbL ps k)):=by
 refine az ?_;refine aM ?_ ();have e:av (.tup ((range n).map λk:Nat=>PV.tup (iL (nbL ps k)))) (.int k)=.ok (.tup (iL (nbL ps k))):=by
  have hk':((range n).map λk:Nat=>PV.tup (iL (nbL ps k)))[k]?=some (.tup (iL (nbL ps k))):=by simp[hk]
  exact cC rfl hk' ()
 simp[aA,bT,nS,e,aY]
def oI(ps:NT)(i j:Nat):Prop:=((i:Int),(j:Int))∈ ps \/((j:Int),(i:Int))∈ ps
theorem Iv(hr:r<n)(hn:n<=10)(g:∀x∈ps,0<=x.1/\x.1<n/\0<=x.2/\x.2<n) :
  ∃far,ww [net .bor n ps,.int r]=.ok (Oi far)/\vB n r (oI ps) far:=by
 have a0:aA 0 (net .bor n ps)=.ok (.int n):=by rfl
 have end_:∀e:En,(∃far a b c,e=[some (net .bor n ps),Ol r,Om far,a,b,c]/\Far n r (oI ps) n 0 (λ_=>False) far)->∃far,fM 2 e=.ret (Oi far)/\vB n r (oI ps) far:=λe ⟨far,a,b,c,he,F⟩=>⟨far,by subst he;exact f9 rfl,F.dist⟩
 let P:Nat->En->Prop:=λs e=>∃far a b c,e=[some (net .bor n ps),Ol r,Om far,a,b,c]/\Far n r (oI ps) s 0 (λ_=>False) far
 have loop:∃e2,dC (b9 (ae (mUn (aA 0) (ac 0)) am)) (tgN 3)
   (dC (b9 (ae (mUn (aA 0) (ac 0)) am)) (tgN 4)
   (mBr (aw (mOp pEq (mOp av (ac 2) (ac 4)) (ac 3)))
   (dC (gj (b7 bO (ac 0) (ae (ac 4) am))) (tgN 5)
   (jP 2 (ac 5) (ao (gc min) (ae (mOp av (ac 2) (ac 5)) (ae (mOp aP (ac 3) (Oh 1)) am)))))
   aH)) [some (net .bor n ps),Ol r,Om (((range n).map λ_=>(n:Int)).set r 0),none,none,none]=.next e2/\P (eT 0 n).length e2:=by
  refine kM P (bV (by simp[a0]) ()) ⟨_,_,_,_,rfl,Far.start hr (λi hi=>?_) ()⟩ (λs x e hx hP=>?_)
  .rw[eX _ (by grind)];simp[gt,hi]
  .obtain⟨far,a,b,c,rfl,F⟩:=hP;obtain⟨hs,rfl⟩:=eA hx
   suffices lW _ _ by obtain⟨e2,h1,h2⟩:=this;exact⟨_,e2,cX rfl,h1,h2⟩
   refine lN (λk e=>∃far b c,e=[some (net .bor n ps),Ol r,Om far,Ol (0+(s:Int)),b,c]/\Far n r (oI ps) s k (λ_=>False) far) (bV (n:=n) (by simp[a0]) ()) ⟨_,_,_,rfl,F⟩ (λk x e hx hP=>?_) (λe hP=>?_)
   .obtain⟨far,b,c,rfl,F⟩:=hP;obtain⟨hk,rfl⟩:=eA hx;have ix:∀ (f:Fl) (i:Nat),i < n->av (Oj f far) (.int i)=.ok (.int (gt far i)):=λf i hi=>kK _ () (by
     have:i<far.length:=by rw[F.len];exact hi
     simp[gt,this])
    refine⟨_,cX rfl,?_⟩;by_cases hv:gt far k=s
    .refine yv (by simp[ix _ k hk,hv]) ?_;have nbs:∀o∈nbL ps k,∃j:Nat,o=j/\j<n/\oI ps j k:=λo ho=>by
      rcases qv.mp ho with q|q
      .have:=g _ q;exact⟨o.toNat,by lia,by lia,.inl (by grind)⟩
      .have:=g _ q;exact⟨o.toNat,by lia,by lia,.inr (by grind)⟩
     refine lN (λq e=>∃far c,e=[some (net .bor n ps),Ol r,Om far,Ol (0+(s:Int)),Ol (0+(k:Int)),c]/\Far n r (oI ps) s k (λj=>(j:Int)∈(nbL ps k).take q) far/\gt far k=s) (xs:=iL (nbL ps k)) ?_ ⟨far,_,rfl,F.none (),hv⟩ (λq x e hx hP=>?_) (λe hP=>?_)
     .have bk:=yK (ps:=ps) hk;refine et (f:=.own) ?_ rfl () ();simp[bO,bk,aE]
     .obtain⟨far,c,rfl,F,hv⟩:=hP;rw[AY]at hx;obtain⟨o,ho,rfl⟩:∃o,(nbL ps k)[q]?=some o/\x=.int o:=by grind
      obtain⟨j,rfl,hj,aj⟩:=nbs o (List.mem_of_getElem? ho);have ix:∀ (f:Fl) (i:Nat),i < n->av (Oj f far) (.int i)=.ok (.int (gt far i)):=λf i hi=>kK _ () (by
       have:i<far.length:=by rw[F.len];exact hi
       simp[gt,this])
      obtain⟨F',hv'⟩:=F.relax hk hv hj aj hs;refine⟨_,cX rfl,bN (rX (v:=.int (min (gt far j) ((s:Int)+1))) (n:=j) (by simp[ix _ j hj,gc]) rfl () (qB (by rw[bR,F.len];exact hj)) ()) ⟨_,Ol j,?_,?_,hv'⟩⟩
      .rw[tq];rfl
      .have e:∀i:Nat,((i:Int)∈(nbL ps k).take (q+1))=((i:Int)∈(nbL ps k).take q\/i=j):=λi=>by rw[take_add_one,ho];simp;exact or_congr_right ⟨λh=>by lia,λh=>by lia⟩
       simp only[e];exact F'
     .obtain⟨far,c,rfl,F,hv⟩:=hP;refine⟨far,_,_,rfl,F.close λj hj a=>?_⟩;rw[bR,List.take_length];exact qv.mpr (a.elim .inr .inl)
    .refine yw (by simp[ix _ k hk,hv]) (bN aB ⟨far,_,_,rfl,F.skip hv⟩)
   .obtain⟨far,b,c,rfl,F⟩:=hP;rw[bz]at F;exact⟨far,_,_,_,rfl,F.next⟩
 obtain⟨e2,h1,h2⟩:=loop;rw[bz]at h2;obtain⟨far,h3,h4⟩:=end_ e2 h2;refine⟨far,az ?_,h4⟩;refine af (ar (v:=.lst .own (iL ((range n).map λ_=>(n:Int)))) ?_) ?_
 .refine aQ (bV (n:=n) (by simp[a0]) ()) (by rw[bz];lia) ?_;rw[show iL ((range n).map λ_=>(n:Int))=(range n).map (λ_=>PV.int n)from by simp[iL]];exact a6 (range n) λk _=>⟨[some (net .bor n ps),Ol (0+k)],by simp[tgN,aS,bU],by simp[a0],rfl,rfl⟩
 refine af (rX (v:=.int 0) (n:=r) () rfl () (qB (by simpa using hr)) ()) ?_;rw[tq];exact af h1 h3
def HV{far:NW}(h:far≠[])(hb:∀x∈far,x<b):jO far<b:=hb _ (n5 h).1
theorem DS(g:Jk n ws)(h1:1<=n)(hn:n<=10)(hf:fl.N7.N8=.bor\/fl.N7.N8=.frz)(conn:∀S:Nat->Prop,S 0->(∀i<n,∀j<n,oI (cU (ws.map mm)) i j->S i->S j)->∀i<n,S i) :
  Bd [.obj .own 8 [] [],.int n,.lst fl (prL ws)]=.ok (net .own n (cU (ws.map mm))):=by
 have hfl:fl.N7.N8.N7=fl.N7.N8:=by rcases hf with e|e<;>rw[e]<;>rfl
 have hfi:fl.N7.N8.Ob=false:=by rcases hf with e|e<;>rw[e]<;>rfl
 have o1:=uR g hfl hfi;have rg:∀x∈cU (ws.map mm),0<=x.1/\x.1<n/\0<=x.2/\x.2<n/\x.1≠x.2:=λx hx=>by
  obtain⟨w,hw,rfl⟩:=mem_map.mp ((cY _).mem_iff.mp hx);have:=g.rg w hw;simp only[mm]
  lia
 have sz:(cU (ws.map mm)).length<64:=by rw[(cY _).length_eq,length_map];exact g.sz
 generalize hps:cU (ws.map mm)=ps at *;have nb:∀k:Nat,wC [.tup (prL ps),.int k]=.ok (Oi (nbL ps k)):=λk=>Ah ps k sz λx hx=>(rg x hx).2.2.2.2;obtain⟨far,e1,D⟩:=Iv (r:=0) () hn λx hx=>⟨(rg x hx).1,(rg x hx).2.1,(rg x hx).2.2.1,(rg x hx).2.2.2.1⟩
 have hall:=D.all () conn;have hne:far≠[]:=λz=>by have:=D.len;rw[z]at this;simp at this;lia
 have hmx:jO far<n:=HV hne λx hx=>by obtain⟨i,hi,rfl⟩:=getElem_of_mem hx;have:=hall i (by rw[<- D.len];exact hi);simpa[gt,hi]using this
 refine ff (e:=[some (net .own n ps),Ol n,some (.lst fl (prL ws))]) ?_ rfl;have rf:=uJ n 1 () ();refine af (fg (v:=.non) (by simp[rf,aE])) ?_;refine af (fI (v:=.int n) () rfl () rfl ()) ?_;refine af (fI (v:=.tup (prL ps)) ?_ rfl () rfl ()) ?_
 .simp[o1,aE,dR,aY]
 refine af (fI (v:=.tup ((range n).map λk:Nat=>.tup (iL (nbL ps k)))) ?_ rfl () rfl ()) ?_
 .simp;rw [aQ (bV () ()) (by rw [bz];lia)
   (a6 (f:=λk:Nat=>.tup (iL (nbL ps k))) (range n) λk _=>⟨[some (.obj .bor 8 [0,1] [.int n,.tup (prL ps)]),Ol (0+k)],by simp[tgN,aS,bU],by simp[aA,bT,nb,aE,dR,aY],by simp,by simp⟩)]
  simp[dR,aY]
 refine bw ?_ aB;have hi:far.isEmpty=false:=by grind
 have e2:ww [net .bor n ps,.int 0]=.ok (Oi far):=e1;simp[e2,aE,g7,aY,hi]
 lia
def cell(ns:NW)(k:Nat):Int:=ns.getD k 0
def wS(ns:NW)(k:Nat)(h:Scr fl):iS [Oj fl ns,.int k]=.ok (.int (cell ns k)):=by
 refine az ?_;unfold Fj cell;by_cases hk:k<ns.length
 .refine bL (d4 (by simp[h.N7,hk]) (aM ?_));simp;rw[kK ns () (n:=ns.getD k 0) (by simp[hk])];simp
 .refine af (bw (by simp[h.N7,hk]) aB) (aM (by simp[List.getElem?_eq_none (Nat.le_of_not_lt hk)]))
theorem Ej{m:Nat}(Wh:gw n m ws)(hr:r<n)(S:Nat->Prop)(h0:S r)(hc:∀i<n,∀j<n,oI (cU (ws.map mm)) i j->S i->S j):∀i<n,S i:=λi hi=>by
 have:=Wh.cn (λx=>S x.toNat) (λw hw=>?_) r i hr hi (by simpa using h0)
 .simpa using this
 .have rg:=Wh.rg w hw;have hm:mm w∈cU (ws.map mm):=(cY _).mem_iff.mpr (mem_map_of_mem hw);have e1:((w.1.toNat:Nat):Int)=w.1:=by lia
  have e2:((w.2.toNat:Nat):Int)=w.2:=by lia
  have ad:oI (cU (ws.map mm)) w.1.toNat w.2.toNat:=by
   unfold oI;rw[e1,e2];rcases Int.le_total w.1 w.2 with h|h
   .left;rw[show(w.1,w.2)=mm w by simp only[mm,Prod.mk.injEq];lia];exact hm
   .right;rw[show(w.2,w.1)=mm w by simp only[mm,Prod.mk.injEq];lia];exact hm
  exact⟨hc _ () _ () ad,hc _ () _ () (ad.elim .inr .inl)⟩
def fnd(ws:NT)(a:Int):NW:=ws.flatMap λw=>(if w.1=a then [w.2]else [])++(if w.2=a then [w.1]else [])
def oV:N1->PV
 |none=>.non
 |some s=>.int s
def oL(os:List (N1)):N5:=os.map oV
@[simp] def MW(os:List (N1)):(oL os).length=os.length:=by simp[oL]
@[simp] def MX:hasL p (oL os)=false:=by
 induction os with
 |nil=>rfl
 |cons o os ih=>cases o<;>simpa[oL,oV]using ih
@[simp] def MU:mapL g (oL os)=oL os:=by
 induction os with
 |nil=>rfl
 |cons o os ih=>cases o<;>simpa[oL,oV]using ih
@[simp] def MZ:PyData.canLayAll0 (dataL (oL os))=true:=by
 induction os with
 |nil=>rfl
 |cons o os ih=>cases o <;>(simp only[oL,map_cons,dataL,PyData.canLayAll0]at ih ⊢;rw[ih];rfl)
@[simp] def MY:PyData.depthAll (dataL (oL os))=0:=by
 induction os with
 |nil=>rfl
 |cons o os ih=>cases o <;>(simp only[oL,map_cons,dataL,PyData.depthAll]at ih ⊢;rw[ih];rfl)
def OkS(tp:Int)(os:List (N1)):Prop:=∀s,some s∈os->0<=s/\s<tp
abbrev Rgs(ps:NT)(n:Nat):Prop:=∀x∈ps,0<=x.1/\x.1<n/\0<=x.2/\x.2<n/\x.1≠x.2
abbrev Hnb(ps:NT)(n:Nat):Prop:=∀i:Nat,∀x∈nbL ps i,0<=x/\x<n
def Fc(f:Fl):Prop:=f=.bor\/f=.frz
def Fc.le(h:Fc f):f.N7=f:=by rcases h with rfl|rfl<;>rfl
def Fc.tb(h:Fc f):f.N8=f:=by rcases h with rfl|rfl<;>rfl
def Fc.bo(h:Fc f):f.N_=f:=by rcases h with rfl|rfl<;>rfl
def Fc.nl(h:Fc f):f.Ob=false:=by rcases h with rfl|rfl<;>rfl
def Fc.of(h:Fc f\/f=.own):Fc f.N_:=by
 rcases h with(rfl|rfl)|rfl
 .exact .inl rfl
 .exact .inr rfl
 .exact .inl rfl
def jX(hk:k<n):wB [net .frz n ps,.int k]=.ok (Oi (nbL ps k)):=by
 refine az ?_;refine aM ?_ ();have e:av (.tup ((range n).map λk:Nat=>PV.tup (iL (nbL ps k)))) (.int k)=.ok (.tup (iL (nbL ps k))):=by
  have hk':((range n).map λk:Nat=>PV.tup (iL (nbL ps k)))[k]?=some (.tup (iL (nbL ps k))):=by simp[hk]
  exact cC rfl hk' ()
 simp[aA,bT,nS,e,aY]
abbrev pnt(fl:Fl)(n:Nat)(ps:NT):PV:=.obj fl 2 [4,0,7,8] [net .frz n ps,.int n,.int n,.bl false]
def xE:kO [.obj .own 2 [4] [net .frz n ps],.int n,.int n,.bl false]=.ok (pnt .own n ps):=by rfl
def yC:tU [.obj .own 2 [4] [net .frz n ps],.int n,.int n]=.ok (pnt .own n ps):=by refine ff (e:=[some (pnt .own n ps),Ol n,Ol n]) ?_ rfl;exact iy (xs:=[.int n,.int n,.bl false]) rfl () () (by simpa using xE) (by simp[PV.has])
def xO:Iw [.obj .own 2 [] [],net .frz n ps]=.ok (pnt .own n ps):=by refine ff (e:=[some (pnt .own n ps),some (net .frz n ps)]) ?_ rfl;refine af (cT rfl) ?_;refine af (fI (v:=net .frz n ps) () rfl () rfl ()) ?_;have:=iy (env:=[some (.obj .own 2 [4] [net .frz n ps]),some (net .frz n ps)]) (ms:=ae (mUn (aA 0) (ac 1)) (ae (mUn (aA 0) (ac 1)) am)) (xs:=[.int n,.int n]) rfl (by rfl) () (by simpa using yC) ();simpa using this
def qy(ps:NT)(i:Nat):NW:=(nbL ps i).filter λx=>decide (x <(i:Int))
theorem A5(hi:i<n)(hl:(nbL ps i).length<=1000):IH [pnt .bor n ps,.int i]=.ok (Oi (qy ps i)):=by
 refine az ?_;have be:=jX (ps:=ps) hi;refine aM ?_ ();have:=gH (env:=bU [1] 1 [some (pnt .bor n ps),Ol i]) (g:=tgN 1) (mc:=aw (mOp pLt (ac 1) (ac 0))) (me:=ac 1) (λx=>decide (x <(i:Int))) (λx=>x) (nbL ps i) λx hx=>⟨[Ol i,Ol x],by simp[tgN,aS,bU],by simp,λ_=>by simp⟩
 rw[List.map_id']at this;exact aQ (by simp[aA,bT,bO,be,aE]) (by rw[bR];lia) this
def mF(l:NW):Nat:=((range (l.length+1)).find? λj:Nat=>!l.contains (j:Int)).getD 0
theorem sS(l:NW):((mF l:Nat):Int)∉ l/\∀j,j<mF l->(j:Int)∈ l:=by
 have ex:∃j,j<l.length+1/\(j:Int)∉ l:=by
  apply Classical.byContradiction;intro no;have h:=sK (l':=l) (Pairwise.map _ (λa b h e=>h ()) nodup_range) λx hx=>by obtain⟨k,hk,rfl⟩:=mem_map.mp hx;exact Classical.byContradiction λz=>no ⟨k,mem_range.mp hk,z⟩
  simp at h
  lia
 unfold mF;cases e:(range (l.length+1)).find? λj:Nat=>!l.contains (j:Int)with
 |none=>exfalso;obtain⟨j,h1,h2⟩:=ex;have:=List.find?_eq_none.mp e j (mem_range.mpr h1);simp at this;exact h2 this
 |some m=>have h1:=List.find?_some e;refine⟨by grind,λj hj=>?_⟩;have h2:=(List.find?_range_eq_some.mp e).2.2 j hj;simpa using h2
def AF{L':NW}(h:∀x∈l,x∈L'):mF l<=L'.length:=by
 have:=sK (l':=L') (Pairwise.map _ (λa b h e=>h ()) nodup_range) λx hx=>by obtain⟨k,hk,rfl⟩:=mem_map.mp hx;exact h _ ((sS l).2 k (mem_range.mp hk))
 simpa using this
def lR(ps:NT)(cs:NW)(i:Nat):Int:=mF ((qy ps i).map λo=>gt cs o.toNat)
def qx(rg:Rgs ps n){o:Int}(h:o∈qy ps i):0<=o/\o<n/\o<i/\((o,(i:Int))∈ ps \/((i:Int),o)∈ ps):=by
 obtain⟨h1,h2⟩:=mem_filter.mp h;have h3:=qv.mp h1;simp at h2;rcases h3 with z|z
 .have:=rg _ z;exact⟨this.1,this.2.1,h2,.inl z⟩
 .have:=rg _ z;exact⟨this.2.2.1,this.2.2.2.1,h2,.inr z⟩
theorem Eb(rg:Rgs ps n)(hi:i<n):0<=lR ps cs i/\lR ps cs i<n:=by
 unfold lR;have:=AF (l:=(qy ps i).map λo=>gt cs o.toNat) (L':=(range i).map λk=>gt cs k) λx hx=>by obtain⟨o,ho,rfl⟩:=mem_map.mp hx;have:=qx rg ho;exact mem_map.mpr ⟨o.toNat,mem_range.mpr (),rfl⟩
 simp at this
 lia
def BO(rg:Rgs ps n)(h:∀j,j<i->gt cs j=gt cs' j):lR ps cs i=lR ps cs' i:=by unfold lR;congr 2;refine List.map_congr_left λo ho=>?_;have:=qx rg ho;exact h _ ()
theorem Ch(rg:Rgs ps n)(hfc:Fc fc)(hl:∀i,(nbL ps i).length<=1000)(hn:cs.length=n)(hi:i<n):BC [pnt .bor n ps,Oj fc cs,.int i]=.ok (.int (lR ps cs i)):=by
 refine az ?_;show B4 [some (pnt .bor n ps),On fc cs,Ol i,none,none]=_;unfold B4 lR;have ha:=A5 hi (hl i);have ll:(qy ps i).length<=1000:=Nat.le_trans (length_filter_le _ _) (hl i);refine af (ar (v:=Oi ((qy ps i).map λo=>gt cs o.toNat)) ?_) ?_
 .refine aQ (by simp[b5,ha,aE]) (by rw[bR];lia) (gu (λo=>gt cs o.toNat) (qy ps i) λo ho=>⟨[On fc cs,Ol o],by simp[tgN,aS,bU,hfc.bo],?_⟩);have:=qx rg ho;simp[hfc.le,dD (cs:=cs) this.1 ()]
 have tkl:((qy ps i).map λo=>gt cs o.toNat).length<=1000:=by rw[length_map];exact ll
 generalize(qy ps i).map (λo=>gt cs o.toNat)=tk at *;obtain⟨m1,m2⟩:=sS tk;refine af (ar (v:=.int 0) ()) ?_;have mb:mF tk<100000:=by
  have:=AF (L':=tk) λx hx=>hx
  lia
 refine xr (Fin:=λe=>e=[some (pnt .bor n ps),On fc cs,Ol i,Om tk,Ol (mF tk)]) (λm e=>∃c:Nat,e=[some (pnt .bor n ps),On fc cs,Ol i,Om tk,Ol c]/\m=mF tk-c/\c<=mF tk) (mF tk) mb ⟨0,rfl,by lia,by lia⟩ (λm e hP=>?_) λe hF=>?_
 .obtain⟨c,rfl,rfl,hc⟩:=hP;by_cases q:c=mF tk
  .subst q;exact .inl ⟨by simp;exact m1,rfl⟩
  .have:=m2 c ();exact .inr ⟨by simp;exact this,mF tk-(c+1),[some (pnt .bor n ps),On fc cs,Ol i,Om tk,Ol (c+1:Nat)],by lia,.inl (ar ()),c+1,rfl,rfl,by lia⟩
 .subst hF;exact f9 rfl
abbrev lea(fl:Fl)(c:Nat)(n:Nat)(ps:NT)(os:List (N1))(st tp:Int):PV:=.obj fl c [3,4,5,6,0,7,8] [.int tp,net .frz n ps,.tup (oL os),.int st,.int n,.int (tp+1),.bl true]
theorem v_(h1:1<=x)(h2:x<=10):wE [.int x]=.ok .non:=by refine fU ⟨[Ol x],?_⟩;exact bw (by simp[show ¬x<1 by lia,show ¬10<x by lia]) aB
theorem uH{gf:Fl}(hg:gf=.bor\/gf=.frz)(hf:f=.bor\/f=.frz)(hn:os.length=n)(ho:OkS tp os):BE [net gf n ps,.lst f (oL os),.int tp]=.ok .non:=by
 have hf1:f.N7=f:=by rcases hf with rfl|rfl<;>rfl
 have hf2:f.Ob=false:=by rcases hf with rfl|rfl<;>rfl
 have hg1:gf.N7=gf:=by rcases hg with rfl|rfl<;>rfl
 refine fU ?_;refine dL (bw (by simp[hg1,aY,aA,bT,hn]) aB) ?_;refine mW (λ_ e=>∃x,e=[some (net gf n ps),some (.lst f (oL os)),Ol tp,x]) (λr=>∃e,r=.next e) (xs:=oL os) (et (by simp[hf1]) hf2 () ()) ⟨_,rfl⟩ (λk x e hx hP=>?_) (λe hP=>⟨e,rfl⟩);obtain⟨y,rfl⟩:=hP;simp only[oL,getElem?_map]at hx;obtain⟨o,ho1,rfl⟩:=map_eq_some_iff.mp hx;refine⟨_,cX rfl,.inl ⟨_,.inl (bw ?_ aB),_,rfl⟩⟩;cases o with
 |none=>simp[oV,jD,PV.isNon]
 |some s=>have:=ho s (List.mem_of_getElem? ho1);simp[oV,jD,show ¬s<0 by lia,show ¬tp<=s by lia]
def xF:kO [.obj .own cc [3,4,5,6] [.int tp,net .frz n ps,.tup (oL os),.int st],.int n,.int (tp+1),.bl true]=.ok (lea .own cc n ps os st tp):=by rfl
theorem sY{bk:Int}(hf:f.N7.N8=.bor\/f.N7.N8=.frz)(h1:1<=st)(h2:st<=10)(h3:1<=bk)(h4:bk<=10)(hn:os.length=n)(ho:OkS (st*bk) os):D3 [.obj .own cc [] [],net .frz n ps,.lst f (oL os),.int st,.int bk]=.ok (lea .own cc n ps os st (st*bk)):=by refine ff (e:=[some (lea .own cc n ps os st (st*bk)),some (net .frz n ps),some (.lst f (oL os)),Ol st,Ol bk]) ?_ rfl;have r1:=v_ h1 h2;have r2:=v_ h3 h4;have r3:=uH (ps:=ps) (.inr rfl) hf hn ho;have mu:dG (.int st) (.int bk)=.ok (.int (st*bk)):=fH (.inl ⟨by lia,by lia⟩);generalize st*bk=tp at *;refine af (fg (v:=.non) (by simp[r1,aE])) ?_;refine af (fg (v:=.non) (by simp[r2,aE])) ?_;refine af (fI (v:=.int tp) (by simp[mu]) rfl () rfl ()) ?_;refine af (fg (v:=.non) (by simp[aA,bT,r3,aE])) ?_;refine af (cT rfl) ?_;refine af (fI (v:=net .frz n ps) () rfl () rfl ()) ?_;refine af (fI (v:=.tup (oL os)) (by simp[dR,aY]) rfl () rfl ()) ?_;refine af (fI (v:=.int st) () rfl () rfl ()) ?_;have:=iy (env:=[some (.obj .own cc [3,4,5,6] [.int tp,net .frz n ps,.tup (oL os),.int st]),some (net .frz n ps),some (.lst f (oL os)),Ol st,Ol bk]) (ms:=ae (mUn (aA 0) (ac 1)) (ae (mOp aP (mUn (aA 3) (ac 0)) (Oh 1)) (ae (mC (.bl true)) am))) (xs:=[.int n,.int (tp+1),.bl true]) rfl (by rfl) () (by simpa using xF) (by simp[PV.has]);simpa using this
noncomputable def wc(st tp c:Int):Bool:=decide (c≠tp)&&decide ((c+1)%st≠0)
def iW(ps:NT)(st tp:Int)(cs:NW)(i:Nat):NW:=(((nbL ps i).map λo=>gt cs o.toNat).filter (wc st tp)).map (· + 1)
def gP(ps:NT)(os:List (N1))(st tp:Int)(cs:NW)(i:Nat):Int:=hV (iW ps st tp cs i ++(os.getD i none).toList++[tp])
def v4(h:l≠[]):g7 hV (Oj f l)=.ok (.int (hV l)):=by unfold g7;simp only[aY,lJ];rw[if_neg (by simpa using h)]
def Ad{c:Int}(hs:0<st):BF [lea .bor cc n ps os st tp,.int c]=.ok (.bl (wc st tp c)):=by
 refine az ?_;unfold LT wc;refine aM ?_ ();by_cases h:c=tp
 .simp[aA,bT,h]
 .simp[aA,bT,h,cJ hs]
theorem tf(hfc:Fc fc)(hcc:eJ cc=some BF)(hnb:∀x∈nbL ps i,0<=x/\x<n)(hl:(nbL ps i).length<=1000)(hs:0<st)(hn:cs.length=n)(ho:os.length=n)(hi:i<n):tR [lea .bor cc n ps os st tp,Oj fc cs,.int i]=.ok (.int (gP ps os st tp cs i)):=by
 refine az ?_;show Fq [some (lea .bor cc n ps os st tp),On fc cs,Ol i,none,none]=_;have e3:=hfc.bo;have be:=jX (ps:=ps) hi;have l1:((nbL ps i).map λo=>gt cs o.toNat).length<=1000:=by simpa using hl
 refine af (ar (v:=Oi ((nbL ps i).map λo=>gt cs o.toNat)) ?_) ?_
 .refine aQ (by simp[aA,bT,bO,be,aE]) (by rw[bR];lia) (gu (λo=>gt cs o.toNat) _ λx hx=>⟨[On fc cs,Ol x],by simp[tgN,aS,bU,e3],?_⟩);obtain⟨h1,h2⟩:=hnb x hx;simp[hfc.le,dD (cs:=cs) (i:=x) () ()]
 have l2:(iW ps st tp cs i).length<=1000:=by unfold iW;rw[length_map];exact Nat.le_trans (length_filter_le _ _) l1
 refine af (ar (v:=Oi (iW ps st tp cs i)) ?_) ?_
 .unfold iW;exact aQ () (by rw[bR];lia) (gH (wc st tp) (· + 1) _ λx hx=>⟨[some (lea .bor cc n ps os st tp),Ol x],by simp[tgN,aS,bU],by simp[hcc,Ad hs,aE],λ_=>by simp⟩)
 have hio:i<os.length:=by lia
 have ix:av (.tup (oL os)) (.int (i:Int))=.ok (oV os[i]):=cC rfl (by simp[oL,hio]) (by cases os[i]<;>rfl);have eg:os.getD i none=os[i]:=by simp[hio]
 unfold gP;rw[eg];generalize os[i]=o at *;generalize iW ps st tp cs i=of at *;cases o with
 |none=>
  refine af (bw (by simp[aA,bT,ix,oV,jD,PV.isNon]) aB) (aM ?_);have pl:aP (Oj .lnt of) (.lst .own [.int tp])=.ok (Oi (of++[tp])):=by rw[gY () () (by simp;lia)];simp[iL]
  simp[aA,bT,pl,v4 (l:=of++[tp]) ()]
 |some s=>
  refine af (d4 (by simp[aA,bT,ix,oV,jD,PV.isNon]) (eY (v:=.int s) (by simp[aA,bT,ix,oV]) rfl () (by rw[bR];lia))) ?_;rw[show iL of++[PV.int s]=iL (of++[s]) by simp[iL]];refine aM ?_ ();have pl:aP (Oj .lnt (of++[s])) (.lst .own [.int tp])=.ok (Oi (of++[s]++ [tp])):=by rw[gY () () (by simp;lia)];simp[iL]
  have pm:=v4 (f:=.own) (l:=of++[s]++ [tp]) ();show _=Res.ok (PV.int (hV (of++[s]++ [tp])));generalize of++[s]=of2 at *;simp[aA,bT,pl];exact pm
def fs(n r:Nat):List (N1):=(range n).map λi=>if i=r then some 0 else none
def Lb:oL (fs n r)=(range n).map λi=>oV (if i=r then some 0 else none):=by simp[oL,fs]
theorem tK(hf:f=.frz\/f=.own)(n1:1<=n)(n10:n<=10)(hr:r<n):wG [.obj .own 5 [] [],net f n ps,.int r]=.ok (lea .own 5 n ps (fs n r) n n):=by
 refine ff (e:=[some (lea .own 5 n ps (fs n r) n n),some (net .frz n ps),Ol r,some (.lst .frz (oL (fs n r)))]) ?_ rfl;show Fp [some (.obj .own 5 [] []),some (net f n ps),Ol r,none]=_;refine af (bw (by simp[aA,bT,show ¬(n:Int)<= r by lia]) aB) ?_;refine af (ar (v:=.lst .own (oL (fs n r))) ?_) ?_
 .refine aQ (bV (n:=n) (by simp[aA,bT]) ()) (by rw[bz];lia) ?_;rw[Lb];refine a6 (range n) λk hk=>⟨[Ol r,Ol (0+k)],by simp[tgN,aS,bU],?_,?_,?_⟩
  .by_cases e:k=r
   .simp[e,oV]
   .simp[e,oV,show ¬(k:Int)=r by lia]
  .by_cases e:k=r<;>simp[e,oV]
  .by_cases e:k=r<;>simp[e,oV]
 refine af (cT rfl) ?_;refine af (cT rfl) ?_;have efz:(net f n ps).Oe Fl.N9=net .frz n ps:=by rcases hf with rfl|rfl<;>simp[PV.Oe]
 simp only[s1_,efz];have li:=sY (cc:=5) (n:=n) (ps:=ps) (os:=fs n r) (st:=n) (bk:=1) (f:=.frz) (.inr rfl) () () () () (by simp [fs]) (λs hs=>by
  simp only[fs,mem_map]at hs;obtain⟨i,_,e⟩:=hs;split at e
  .cases e;lia
  .cases e)
 have:=iy (env:=[some (.obj .own 5 [] []),some (net .frz n ps),Ol r,some (.lst .frz (oL (fs n r)))]) (ms:=ae (ac 1) (ae (ac 3) (ae (mUn (aA 0) (ac 1)) (ae (Oh 1) am)))) (xs:=[net .frz n ps,.lst .frz (oL (fs n r)),.int n,.int 1]) rfl (by simp[aA,bT]) () (by simpa using li) (by simp[PV.has]);simpa[PV.Oe]using this
structure OkM(n:Nat)(ms:NW):Prop where
 ml:ms.length=n
 nd:ms.Nodup
 mr:∀x∈ms,0<=x/\x<=9
def ls(n:Nat)(ms:NW):List (N1):=ms.map λx=>some ((9-x)*n)
theorem Ai(N:OkM n ms)(n10:n<=10):Bw [net .frz n ps,Oj .frz ms]=.ok .non:=by have lu:=N.ml;refine fU ?_;refine dL (bw (by simp[p1,aA,bT,lu]) aB) ?_;refine dL (bw (by simp[p1,pK (show ms.length<=1000 by lia),t8 N.nd]) aB) ?_;refine mW (λ_ e=>∃x,e=[some (net .frz n ps),On .frz ms,x]) (λr=>∃e,r=.next e) (xs:=iL ms) (et (f:=.frz) () rfl () ()) ⟨_,rfl⟩ (λk x e hx hP=>?_) (λe hP=>⟨e,rfl⟩);obtain⟨y,rfl⟩:=hP;obtain⟨z,hz,rfl⟩:=qE hx;have:=N.mr z (List.mem_of_getElem? hz);refine⟨_,cX rfl,.inl ⟨_,.inl (bw ?_ aB),_,rfl⟩⟩;simp[show ¬z<0 by lia,show ¬(9:Int)<z by lia]
theorem AO(N:OkM n ms)(n1:1<=n):OkS (10*(n:Int)) (ls n ms):=λs hs=>by
 simp only[ls,mem_map]at hs;obtain⟨x,hx,e⟩:=hs;have:=N.mr x hx;cases e;have h1:0 <=(9-x)*(n:Int):=Int.mul_nonneg () ();have h2:(9-x)*(n:Int)<= 9*n:=Int.mul_le_mul_of_nonneg_right () ()
 lia
theorem yh(N:OkM n ms)(n1:1<=n)(n10:n<=10):BB [.obj .own 6 [] [],net .frz n ps,Oj .frz ms]=.ok (lea .own 6 n ps (ls n ms) n (10*n)):=by
 refine ff (e:=[some (lea .own 6 n ps (ls n ms) n (10*n)),some (net .frz n ps),On .frz ms,some (.lst .frz (oL (ls n ms)))]) ?_ rfl;show Ft [some (.obj .own 6 [] []),some (net .frz n ps),On .frz ms,none]=_;have rn:=Ai (ps:=ps) N n10;refine af (cT rfl) ?_;have efz:(net .frz n ps).Oe Fl.N9=net .frz n ps:=by simp
 simp;refine af (fg (v:=.non) (by simp[rn,aE,PV.Oe])) ?_;have eL:oL (ls n ms)=iL (ms.map λx=>(9-x)*n):=by simp[oL,ls,iL,oV]
 refine af (ar (v:=.lst .own (oL (ls n ms))) ?_) ?_
 .rw[eL];refine aQ () (by rw[bR,N.ml];lia) (gu (λx=>(9-x)*n) ms λx hx=>⟨[some (net .frz n ps),Ol x],by simp[tgN,aS,bU],?_⟩);have m:dG (.int (9-x)) (.int (n:Int))=.ok (.int ((9-x)*n)):=fH (.inr ⟨by lia,by lia⟩);simp[aA,bT,m]
 refine af (cT rfl) ?_;have li:=sY (cc:=6) (n:=n) (ps:=ps) (os:=ls n ms) (st:=n) (bk:=10) (f:=.frz) (.inr rfl) () () () () (by simp[ls,N.ml]) (by rw[Int.mul_comm];exact AO N n1);rw[Int.mul_comm (n:Int) 10]at li;have:=iy (env:=[some (.obj .own 6 [] []),some (net .frz n ps),On .frz ms,some (.lst .frz (oL (ls n ms)))]) (ms:=ae (ac 1) (ae (ac 3) (ae (mUn (aA 0) (ac 1)) (ae (Oh 10) am)))) (xs:=[net .frz n ps,.lst .frz (oL (ls n ms)),.int n,.int 10]) rfl (by simp[aA,bT]) () (by simpa using li) (by simp[PV.has]);simpa[PV.Oe]using this
abbrev gro(fl:Fl)(n:Nat)(ps:NT)(r:Nat):PV:=.obj fl 7 [9,4,10,0,7,8] [lea fl 5 n ps (fs n r) n n,net .frz n ps,.int r,.int n,.int (((n:Int)+1)*((n:Int)+1)),.bl true]
def xG:kO [.obj .own 7 [9,4,10] [lea .own 5 n ps (fs n r) n n,net .frz n ps,.int r],.int n,.int (((n:Int)+1)*((n:Int)+1)),.bl true]=.ok (gro .own n ps r):=by rfl
theorem A7(hf:f=.frz\/f=.own)(n1:1<=n)(n10:n<=10)(hr:r<n):BA [.obj .own 7 [] [],net f n ps,.int r]=.ok (gro .own n ps r):=by
 refine ff (e:=[some (gro .own n ps r),some (net .frz n ps),Ol r]) ?_ rfl;have fi:=tK (ps:=ps) (.inl rfl) n1 n10 hr;have mu:dG (.int ((n:Int)+1)) (.int ((n:Int)+1))=.ok (.int (((n:Int)+1)*((n:Int)+1))):=fH (.inl ⟨by lia,by lia⟩);have ri:=xG (n:=n) (ps:=ps) (r:=r);generalize((n:Int)+1)*((n:Int)+1)=sq at mu ri;refine af (cT rfl) ?_;have efz:(net f n ps).Oe Fl.N9=net .frz n ps:=by rcases hf with rfl|rfl<;>simp
 simp only[efz];refine af (fI (v:=lea .own 5 n ps (fs n r) n n) (by simp[fi,aE,PV.has]) rfl () rfl ()) ?_;refine af (fI (v:=net .frz n ps) () rfl () rfl ()) ?_;refine af (fI (v:=.int r) () rfl () rfl ()) ?_;have:=iy (env:=[some (.obj .own 7 [9,4,10] [lea .own 5 n ps (fs n r) n n,net .frz n ps,.int r]),some (net .frz n ps),Ol r]) (ms:=ae (mUn (aA 0) (ac 1)) (ae (mOp dG (mOp aP (mUn (aA 0) (ac 1)) (Oh 1)) (mOp aP (mUn (aA 0) (ac 1)) (Oh 1))) (ae (mC (.bl true)) am))) (xs:=[.int n,.int sq,.bl true]) rfl (by simp[aA,bT,mu]) () (by simpa using ri) (by simp[PV.has]);simpa using this
def PT(n:Nat)(cs:NW):NT:=cs.map λc=>(c / ((n:Int)+1),c%((n:Int)+1))
def FA(n:Nat)(cs:NW):NW:=cs.map (· / ((n:Int)+1))
def CN(n:Nat)(cs:NW):NW:=cs.map (· % ((n:Int)+1))
@[simp] def Nz:(FA n cs).length=cs.length:=by simp[FA]
@[simp] def Jm:(CN n cs).length=cs.length:=by simp[CN]
def nea(ps:NT)(fa:NW)(i:Nat):NW:=(nbL ps i).filter λo=>decide (gt fa o.toNat=gt fa i-1)
def eld(ps:NT)(r:Nat)(fa:NW)(i:Nat):N1:=if i=r then none else if(nea ps fa i).isEmpty then none else some (hV (nea ps fa i))
def lG(n:Nat)(ps:NT)(r:Nat)(cs:NW)(i:Nat):NW:=((range n).filter λj=>decide (eld ps r (FA n cs) j=some (i:Int))).map (gt (CN n cs))
def dcn(n:Nat)(ps:NT)(r:Nat)(cs:NW)(i:Nat):Int:=min (n:Int) (1+(lG n ps r cs i).sum)
def ox(n:Nat)(ps:NT)(r:Nat)(cs:NW)(i:Nat):Int:=
 gP ps (fs n r) n n (FA n cs) i*((n:Int)+1)+(if gP ps (fs n r) n n (FA n cs) i=gt (FA n cs) i then dcn n ps r cs i else gt (CN n cs) i)
theorem sF(hfc:Fc fc)(n10:n<=10)(hn:cs.length=n):Iz [gro .bor n ps r,Oj fc cs]=.ok (.lst .own (prL (PT n cs))):=by
 refine az ?_;refine aM ?_ ();rw[show prL (PT n cs)=cs.map λc=>prV (c / ((n:Int)+1),c%((n:Int)+1)) by simp[prL,PT]];refine aQ (xs:=iL cs) () (by rw[bR];lia) (a6 cs λc _=>⟨[some (gro .bor n ps r),Ol c],by simp[tgN,aS,bU,PV.Oe],?_,by simp,by simp⟩);have np:(0:Int) <(n:Int)+1:=by lia
 simp[aA,bT,cJ np,jT np (show(n:Int)+1<1073741824 by lia),prV]
def qH(hfc:Fc fc)(n10:n<=10)(hn:cs.length=n):By [gro .bor n ps r,Oj fc cs]=.ok (.lst .own (iL (FA n cs))):=by refine az ?_;refine aM ?_ ();have pt:=sF (ps:=ps) (r:=r) hfc n10 hn;rw[show iL (FA n cs)=(PT n cs).map λx=>PV.int x.1 by simp[iL,FA,PT]];refine aQ (xs:=prL (PT n cs)) (by rcases hfc with rfl|rfl<;>simp[fB,pt,aE,PV.Oe]) (by simp[PT];lia) (a6 (PT n cs) λx _=>⟨[some (prV x)],by rfl,?_,by simp,by simp⟩);simp
def lT(hfc:Fc fc)(n10:n<=10)(hn:cs.length=n):ID [gro .bor n ps r,Oj fc cs]=.ok (.lst .own (iL (CN n cs))):=by refine az ?_;refine aM ?_ ();have pt:=sF (ps:=ps) (r:=r) hfc n10 hn;rw[show iL (CN n cs)=(PT n cs).map λx=>PV.int x.2 by simp[iL,CN,PT]];refine aQ (xs:=prL (PT n cs)) (by rcases hfc with rfl|rfl<;>simp[fB,pt,aE,PV.Oe]) (by simp[PT];lia) (a6 (PT n cs) λx _=>⟨[some (prV x)],by rfl,?_,by simp,by simp⟩);simp
def DG:pE (Oj f l)=.ok (if l.isEmpty then .non else .int (hV l)):=by unfold pE;simp only[aY,lJ]
theorem BN{fa:NW}(hnb:∀x∈nbL ps i,0<=x/\x<n)(hl:(nbL ps i).length<=1000)(hn:fa.length=n)(hi:i<n):IB [gro .bor n ps r,Oj .bor fa,.int i]=.ok (oV (eld ps r fa i)):=by
 refine az ?_;show I_ [some (gro .bor n ps r),On .bor fa,Ol i,none]=_;unfold I_ eld;by_cases q:i=r
 .rw[if_pos q];exact bL (d4 (by simp[aA,bT,q]) (aM (by simp[oV]) (by simp[oV])))
 rw[if_neg q];refine af (bw (by simp[aA,bT,show ¬(i:Int)=r by lia]) aB) ?_;have be:=jX (ps:=ps) hi;refine af (ar (v:=Oi (nea ps fa i)) ?_) ?_
 .have hz:nea ps fa i=((nbL ps i).filter λo=>decide (gt fa o.toNat=gt fa i-1)).map id:=by simp[nea]
  rw[hz];refine aQ (by simp[aA,bT,bO,be,aE]) (by rw[bR];lia) (gH (λo=>decide (gt fa o.toNat=gt fa i-1)) id _ λx hx=>⟨[On .bor fa,Ol i,Ol x],by simp[tgN,aS,bU],?_,λ_=>by simp⟩);obtain⟨h1,h2⟩:=hnb x hx;simp[dD (cs:=fa) (i:=x) () (),dD (cs:=fa) (i:=i) () ()]
 generalize nea ps fa i=l;refine aM ?_ (by cases l<;>simp[oV]);simp;rw[DG];cases l<;>simp[oV]
abbrev ELs(n:Nat)(ps:NT)(r:Nat)(fa:NW):List (N1):=(range n).map (eld ps r fa)
def yB(hfc:Fc fc)(n10:n<=10)(hnb:Hnb ps n)(hl:∀i:Nat,(nbL ps i).length<=1000)(hn:cs.length=n):IE [gro .bor n ps r,Oj fc cs]=.ok (.lst .own (oL (ELs n ps r (FA n cs)))):=by
 refine az ?_;have fo:=qH (ps:=ps) (r:=r) hfc n10 hn;refine af (ar (v:=Oi (FA n cs)) (by rcases hfc with rfl|rfl<;>simp[dU,fo,aE,PV.Oe])) ?_;refine aM ?_ ();rw[show oL (ELs n ps r (FA n cs))=(range n).map λi=>oV (eld ps r (FA n cs) i) by simp[oL]];refine aQ (bV (by rfl) ()) (by rw[bz];lia) (a6 (range n) λk hk=>⟨[some (gro .bor n ps r),On .bor (FA n cs),Ol (0+k)],by simp[tgN,aS,bU,PV.Oe],?_,?_,?_⟩)
 .have el:=BN (r:=r) (hnb k) (hl k) (show(FA n cs).length=n by simpa using hn) (mem_range.mp hk);simp[jq,el,aE,PV.Oe];cases eld ps r (FA n cs) k<;>simp[oV]
 .cases eld ps r (FA n cs) k<;>simp[oV]
 .cases eld ps r (FA n cs) k<;>simp[oV]
def rB(f:Nat->Int)(g:Nat->N1):∀l:List Nat,jI (iL (l.map f)) (oL (l.map g))=l.map λi=>PV.tup [.int (f i),oV (g i)]
 | []=>rfl
 |i::l=>by have:=rB f g l;simp only[iL,oL,map_cons,jI]at this ⊢;rw[this]
def eqO(o:N1)(i:Int):pEq (oV o) (.int i)=.ok (.bl (decide (o=some i))):=by
 cases o with
 |none=>simp;rfl
 |some s=>simp[oV]
def gtR(l:NW):(range l.length).map (gt l)=l:=by apply ext_getElem ();intro i h1 h2;simp[gt,h2]
theorem vC(hn:cs.length=n):∀i,i<n->0<=gt (CN n cs) i/\gt (CN n cs) i<=n:=λi hi=>by
 have hm:=dw (far:=CN n cs) (by simpa using hn▸hi);obtain⟨c,_,e⟩:=mem_map.mp hm;have:=emod_nonneg c (show(n:Int)+1≠0 by lia);have:=emod_lt_of_pos c (show(0:Int) <(n:Int)+1 by lia)
 lia
def oi(hn:cs.length=n)(hx:x∈lG n ps r cs i):0<=x/\x<=n:=by obtain⟨j,hj,rfl⟩:=mem_map.mp hx;exact vC hn j (mem_range.mp (mem_filter.mp hj).1)
def AT:(lG n ps r cs i).length<=n:=by have:=length_filter_le (λj=>decide (eld ps r (FA n cs) j=some (i:Int))) (range n);simpa[lG]using this
theorem BR(hfc:Fc fc)(n10:n<=10)(hnb:Hnb ps n)(hl:∀i:Nat,(nbL ps i).length<=1000)(hn:cs.length=n):II [gro .bor n ps r,Oj fc cs,.int i]=.ok (.int (dcn n ps r cs i)):=by
 refine az ?_;have co:=lT (ps:=ps) (r:=r) hfc n10 hn;have eo:=yB (r:=r) hfc n10 hnb hl hn;have zp:jI (iL (CN n cs)) (oL (ELs n ps r (FA n cs)))=(range n).map λj=>PV.tup [.int (gt (CN n cs) j),oV (eld ps r (FA n cs) j)]:=by
  have:=rB (gt (CN n cs)) (eld ps r (FA n cs)) (range n)
  rwa [show(range n).map (gt (CN n cs))=CN n cs by have:=gtR (CN n cs);rw[Jm,hn]at this;exact this]at this
 refine af (ar (v:=.lst .own (iL (lG n ps r cs i))) ?_) ?_
 .rw[show iL (lG n ps r cs i)=((range n).filter λj=>decide (eld ps r (FA n cs) j=some (i:Int))).map λj=>PV.int (gt (CN n cs) j) by simp[iL,lG]];refine aQ ?_ (by simp;lia) (bP (a:=λj=>PV.tup [.int (gt (CN n cs) j),oV (eld ps r (FA n cs) j)]) (range n) λj hj=>⟨[Ol i,Ol (gt (CN n cs) j),some (oV (eld ps r (FA n cs) j))],?_,?_,λ_=>⟨by simp,rfl,rfl⟩⟩)
  .unfold kD;rcases hfc with rfl|rfl<;>simp[cM,iP,co,eo,aE,PV.Oe,gz,zp]
  .cases eld ps r (FA n cs) j<;>rfl
  .have ob:∀o:N1,PV.Oe Fl.N7 (oV o)=oV o:=λo=>by cases o<;>rfl
   simp[ob,eqO]
 have sm:ky (.lst .lnt (iL (lG n ps r cs i)))=.ok (.int (lG n ps r cs i).sum):=mP (by have:=AT (n:=n) (ps:=ps) (r:=r) (cs:=cs) (i:=i);lia) λx hx=>by have:=oi hn hx;lia
 refine aM ?_ ();simp[aA,bT,sm,dcn,gc]
theorem Ed(hfc:Fc fc)(n1:1<=n)(n10:n<=10)(hnb:Hnb ps n)(hl:∀i:Nat,(nbL ps i).length<=1000)(hn:cs.length=n)(hi:i<n):Bt [gro .bor n ps r,Oj fc cs,.int i]=.ok (.int (ox n ps r cs i)):=by
 refine az ?_;show Fk [some (gro .bor n ps r),On fc cs,Ol i,none,none,none]=_;have fo:=qH (ps:=ps) (r:=r) hfc n10 hn;have co:=lT (ps:=ps) (r:=r) hfc n10 hn;have dc:=BR (r:=r) (i:=i) hfc n10 hnb hl hn;have fl:(FA n cs).length=n:=by simpa using hn
 have cl:(CN n cs).length=n:=by simpa using hn
 have ld:=tf (.inl rfl) (cc:=5) (os:=fs n r) (st:=n) (tp:=n) rfl (hnb i) (hl i) () fl (by simp[fs]) hi;refine af (ar (v:=Oi (FA n cs)) (by rcases hfc with rfl|rfl<;>simp[dU,fo,aE,PV.Oe])) ?_;unfold ox;generalize gP ps (fs n r) n n (FA n cs) i=df at *;refine af (ar (v:=.int df) (by simp[aA,bT,lS,ld,aE,PV.has,PV.Oe])) ?_;have ic:∀f,av (Oj f (CN n cs)) (.int (i:Int))=.ok (.int (gt (CN n cs) i)):=λf=>by simpa using dD (i:=i) () ()
 have ia:∀f,av (Oj f (FA n cs)) (.int (i:Int))=.ok (.int (gt (FA n cs) i)):=λf=>by simpa using dD (i:=i) () ()
 refine af (ar (v:=.int (gt (CN n cs) i)) (by rcases hfc with rfl|rfl<;>simp[cM,co,ic,aE,PV.Oe])) ?_;have mu:dG (.int df) (.int ((n:Int)+1))=.ok (.int (df*((n:Int)+1))):=fH (.inr ⟨by lia,by lia⟩);by_cases q:df=gt (FA n cs) i
 .rw[if_pos q];refine af (d4 (by simp[ia,q]) (ar (v:=.int (dcn n ps r cs i)) (by rcases hfc with rfl|rfl<;>simp[cN,dc,aE,PV.Oe]))) ?_;exact aM (by simp[aA,bT,mu]) ()
 .rw[if_neg q];refine af (bw (by simp[ia,q]) aB) ?_;exact aM (by simp[aA,bT,mu]) ()
noncomputable def eE(at_:Int):Int->NW->NW
 |_,[]=>[]
 |k,p::ps=>if p=at_ then k::eE at_ (k+1) ps else eE at_ (k+1) ps
theorem jh:∀{k:Int}{ps:NW}{x:Int},x∈eE at_ k ps->k<=x/\x<k+ps.length/\ps[(x-k).toNat]?=some at_
 |_,[],x,h=>by simp[eE]at h
 |k,p::ps,x,h=>by
  have key:x∈eE at_ (k+1) ps->k<=x/\x<k+(p::ps).length/\(p::ps)[(x-k).toNat]?=some at_:=λh=>by obtain⟨h1,h2,h3⟩:=jh h;refine⟨by lia,by simp;lia,?_⟩;rw[show(x-k).toNat=(x-(k+1)).toNat+1 by lia,getElem?_cons_succ];exact h3
  unfold eE at h;split at h
  .rename_i hp
   rcases mem_cons.mp h with rfl|h
   .refine⟨by lia,by simp;lia,by simp[hp]⟩
   .exact key h
  .exact key h
theorem tj{at_:Int}:∀{k:Int}{ps:NW},(eE at_ k ps).length<=ps.length
 |_,[]=>by simp[eE]
 |k,p::ps=>by have:=tj (at_:=at_) (k:=k+1) (ps:=ps);unfold eE;split<;>simp<;>lia
def jB(cs l:NW):Int:=(l.map λk=>gt cs k.toNat).sum
def qM(n:Nat)(ps cs:NW)(i:Nat):Int:=min (n:Int) (1+jB cs (eE i 1 ps))
def rH{cs cs':NW}:∀{l:NW},(∀k∈l,gt cs k.toNat=gt cs' k.toNat)->jB cs l=jB cs' l
 | [],_=>rfl
 |k::l,h=>by have:=rH (cs':=cs') λx hx=>h x (mem_cons_of_mem _ hx);simp only[jB,map_cons,sum_cons]at this ⊢;rw[h k mem_cons_self,this]
theorem rG{cs:NW}:∀{l:NW},(∀k∈l,0<=gt cs k.toNat)->0<=jB cs l
 | [],_=>by simp[jB]
 |k::l,h=>by
  have:=rG λx hx=>h x (mem_cons_of_mem _ hx);have h2:=h k mem_cons_self;simp only[jB,map_cons,sum_cons]at this ⊢
  lia
def jR(l:NW)(k:Nat)(h:k<l.length):gt l k=l[k]:=by simp[gt,h]
theorem vc:∀{l:NW},(∀x∈l,0<=x)->∀x∈l,x<=l.sum
 | [],_,x,h=>by simp at h
 |y::l,hp,x,h=>by
  have h1:∀{l:NW},(∀x∈l,0<=x)->0<=l.sum:=λ{l}=>by
   intro h
   induction l with
   |nil=>simp
   |cons a l ih=>
    have:=ih λx hx=>h x (mem_cons_of_mem _ hx);have:=h a mem_cons_self;simp
    lia
  have h0:=h1 λx hx=>hp x (mem_cons_of_mem y hx);have hy:=hp y mem_cons_self;simp;rcases mem_cons.mp h with rfl|h
  .lia
  .have:=vc (λx hx=>hp x (mem_cons_of_mem y hx)) x h
   lia
def Tree(ps:NW):Prop:=∀i (h:i<ps.length),0<=ps[i]/\ps[i]<= i
structure NO(ps hs:NW)(j:Nat):Prop where
 len:hs.length=ps.length+1
 eqn:∀i:Nat,i<=ps.length->gt hs i=1+jB hs (eE i (j+1) (ps.drop j))
 bnd:∀i:Nat,i<=ps.length->1<=gt hs i/\gt hs i<=ps.length+1
 sum:(hs.take (j+1)).sum=ps.length+1
structure NN(ps hs:NW):Prop where
 len:hs.length=ps.length+1
 eqn:∀i:Nat,i<=ps.length->gt hs i=1+jB hs (eE i 1 ps)
 bnd:∀i:Nat,i<=ps.length->1<=gt hs i/\gt hs i<=ps.length+1
abbrev cnt(fl:Fl)(ps:NW):PV:=.obj fl 3 [11,0,7,8] [.tup (iL ps),.int (ps.length+1),.int (ps.length+2),.bl false]
def yD{ps:NW}:tU [.obj .own 3 [11] [.tup (iL ps)],.int (ps.length+1),.int (ps.length+2)]=.ok (cnt .own ps):=by refine ff (e:=[some (cnt .own ps),Ol (ps.length+1),Ol (ps.length+2)]) ?_ rfl;exact iy (xs:=[.int (ps.length+1),.int (ps.length+2),.bl false]) rfl () () (by rfl) ()
def IO{ps:NW}(h:m env=.ok (Oj f ps))(hf:f.Ob=false):yd m env=.ok (enP 1 (iL ps)):=by unfold yd;rw[h];simp[hf,gz]
theorem uK{ps:NW}(T:Tree ps)(hl:ps.length<=9)(hf:f=.bor\/f=.frz):IC [Oj f ps]=.ok .non:=by
 have hf1:f.N7=f:=by rcases hf with rfl|rfl<;>rfl
 have hf2:f.Ob=false:=by rcases hf with rfl|rfl<;>rfl
 have key:∃e,Lo [On f ps,none,none]=.next e:=by
  have s1:∀a:MS,mBr (aw (mOp pGt (ao (p1 cG) (ae (ac 0) am)) (Oh 9))) a aH [On f ps,none,none]=.next [On f ps,none,none]:=λa=>bw (by simp[p1,aY];lia) aB
  suffices hh:∃e,dC (yd (ac 0)) (tgT 2 (cF (tgN 1) (cF (tgN 2) j8))) (mBr ((iM (aw (mOp pLt (ac 2) (Oh 0))) (aw (mOp pGe (ac 2) (ac 1))))) (ba 2 (ae (mC (.str "a parent is no machine of a lower number than its kid")) am)) aH) [On f ps,none,none]=.next e by obtain⟨e,h⟩:=hh;exact⟨e,af (s1 _) h⟩
  refine mW (λ_ e=>∃a b,e=[On f ps,a,b]) (λr=>∃e,r=.next e) (xs:=enP 1 (iL ps)) (IO (by simp[hf1]) hf2) ⟨_,_,rfl⟩ (λk x e hx hP=>?_) (λe hP=>⟨e,rfl⟩);obtain⟨a,b,rfl⟩:=hP;rw[mY]at hx;obtain⟨y,hy,rfl⟩:=map_eq_some_iff.mp hx;obtain⟨v,hv,rfl⟩:=qE hy;obtain⟨hk,ev⟩:=List.getElem?_eq_some_iff.mp hv;have:=T k hk;refine⟨[On f ps,Ol (1+k),Ol v],rfl,.inl ⟨_,.inl (bw ?_ aB),_,_,rfl⟩⟩;simp[show ¬v<0 by lia,show ¬1+(k:Int)<= v by lia]
 obtain⟨e,h⟩:=key;exact fU ⟨e,h⟩
def BV{ps:NW}(T:Tree ps)(hl:ps.length<=9)(hf:f.N7.N8=.bor\/f.N7.N8=.frz):D4 [.obj .own 3 [] [],Oj f ps]=.ok (cnt .own ps):=by refine ff (e:=[some (cnt .own ps),On f ps]) ?_ rfl;have rf:=uK T hl hf;refine af (fg (v:=.non) (by simp[rf,aE])) ?_;refine af (fI (v:=.tup (iL ps)) (by simp[dR,aY]) rfl () rfl ()) ?_;have:=iy (env:=[some (.obj .own 3 [11] [.tup (iL ps)]),On f ps]) (ms:=ae (mOp aP (ao (p1 cG) (ae (ac 1) am)) (Oh 1)) (ae (mOp aP (ao (p1 cG) (ae (ac 1) am)) (Oh 2)) am)) (xs:=[.int (ps.length+1),.int (ps.length+2)]) rfl () () (by simpa using yD) ();exact this
def t_{env:En}{g:TgM}{mc:MT}{me:ME}{at_:Int}:∀(ps:NW) (k:Int),(∀j v:Int,v∈ps->∃e1,g (.tup [.int j,.int v]) env=some e1/\mc e1=.ok (decide (v=at_))/\me e1=.ok (.int j))->eQ g mc me env (enP k (iL ps))=.ok (iL (eE at_ k ps))
 | [],_,_=>rfl
 |p::ps,k,h=>by
  obtain⟨e1,h1,h2,h3⟩:=h k p mem_cons_self;have ih:=t_ ps (k+1) λj v hv=>h j v (mem_cons_of_mem _ hv);simp only[jx,enP,eQ];have b:(PV.tup [.int k,.int p]).N_=.tup [.int k,.int p]:=by simp
  rw[b,h1];simp only[h2];unfold eE;by_cases hc:p=at_
  .simp[hc,h3,ih]
  .simp[hc,ih]
theorem yt{ps:NW}{i:Int}(hl:ps.length<=1000):IG [cnt .bor ps,.int i]=.ok (Oi (eE i 1 ps)):=by refine az ?_;refine aM (aQ ?_ (by rw[mX,bR];lia) (t_ ps 1 λj v _=>⟨[Ol i,Ol j,Ol v],by rfl,by simp,by simp⟩)) ();unfold DL;simp[aA,bT,aY]
def Sm(cs:NW):Prop:=∀c∈cs,0<=c/\c<=1000
theorem El{ps:NW}(hfc:Fc fc)(hl:ps.length<=9)(hs:Sm cs)(hn:cs.length=ps.length+1):BD [cnt .bor ps,Oj fc cs,.int i]=.ok (.int (qM (ps.length+1) ps cs i)):=by
 refine az ?_;show B5 [some (cnt .bor ps),On fc cs,Ol i]=_;unfold B5 qM jB;have ho:=yt (ps:=ps) (i:=(i:Int)) ();have kl:=tj (at_:=(i:Int)) (k:=1) (ps:=ps);have hc:aV [1] 1 (bE (b7 b5 (ac 0) (ae (ac 2) am))) (tgN 1) bD (mOp av (ac 0) (ac 1)) [some (cnt .bor ps),On fc cs,Ol i]=.ok (Oi ((eE i 1 ps).map λk=>gt cs k.toNat)):=by refine aQ (by simp[b5,ho,aE]) (by rw[bR];lia) (gu (λk=>gt cs k.toNat) _ λx hx=>⟨[On fc cs,Ol x],by simp[tgN,aS,bU,hfc.bo],?_⟩);obtain⟨h1,h2,_⟩:=jh hx;simp[dD (cs:=cs) (i:=x) () ()]
 have sm:ky (Oi ((eE i 1 ps).map λk=>gt cs k.toNat))=.ok (.int ((eE i 1 ps).map λk=>gt cs k.toNat).sum):=mP (by simp;lia) λx hx=>by
  obtain⟨k,hk,rfl⟩:=mem_map.mp hx;obtain⟨h1,h2,_⟩:=jh hk;have:=hs _ (dw (i:=k.toNat) ())
  lia
 refine aM ?_ ();simp only[cV,bG,eG,hc];simp[aA,bT,sm,gc]
def InS(sp:Int)(cs:NW):Prop:=∀c∈cs,0<=c/\c<sp
structure Rl(o:PV)(n:Nat)(sp:Int)(al ip:Bool)(D:NW->Nat->Int):Prop where
 le:o.Oe Fl.N7=o:=by simp
 tb:o.Oe Fl.N8=o:=by simp
 bo:o.Oe Fl.N_=o:=by simp
 a0:aA 0 o=.ok (.int n):=by simp[aA,bT]
 a7:aA 7 o=.ok (.int sp):=by simp[aA,bT]
 a8:aA 8 o=.ok (.bl al):=by simp[aA,bT]
 s0:0<sp:=by lia
 n1:1<=n:=by lia
 n20:n<=20:=by lia
 due:∀fc cs k,Fc fc->cs.length=n->InS sp cs->k<n->jA aR (.ok [Oj fc cs,.int k]) o=.ok (.int (D cs k))/\0<=D cs k/\D cs k<sp
 rd:∀r,jA bu r o=r.bind λxs=>aG kN (o::xs):=by intro r;simp[bu]
 mv:∀r,jA aT r o=r.bind λxs=>aG kP (o::xs):=by intro r;simp[aT]
 tu:∀r,jA b0 r o=r.bind λxs=>aG kQ (o::xs):=by intro r;simp[b0]
 ca:∀r,jA bv r o=r.bind λxs=>aG (if ip then wI else mq) (o::xs):=by intro r;simp[bv]
def mvR(n:Nat)(D:NW->Nat->Int)(cs:NW):NW:=((range n).filter λi=>decide (D cs i≠gt cs i)).map λi:Nat=>(i:Int)
def stR(n:Nat)(D:NW->Nat->Int)(cs nm:NW):NW:=(range n).map λi:Nat=>if nm.contains (i:Int)then D cs i else gt cs i
def iT(n:Nat)(al:Bool)(nm:NW):Prop:=nm.Nodup/\(∀x∈nm,0<=x/\x<n)/\(al=true->nm.length<=1)/\nm.length<=1000
def caR(n:Nat)(ip:Bool)(D:NW->Nat->Int)(cs:NW):Bool:=decide ((mvR n D cs).length=if ip then 1 else 0)
section
variable{o:PV}{n:Nat}{sp:Int}{al ip:Bool}{D:NW->Nat->Int}{cs nm:NW}{f fn:Fl}
theorem y8(r:Rl o n sp al ip D)(hn:cs.length=n)(hc:InS sp cs)(nm:NW):(stR n D cs nm).length=n/\InS sp (stR n D cs nm):=by
 refine⟨by simp[stR],λc hc'=>?_⟩;obtain⟨i,hi,rfl⟩:=mem_map.mp hc';have hi:=mem_range.mp hi;split
 .exact(r.due .bor cs i (.inl rfl) hn hc hi).2
 .exact hc _ (dw ())
def kB:(mvR n D cs).length<=n:=by
 unfold mvR;rw[length_map];have:=length_filter_le (λi=>decide (D cs i≠gt cs i)) (range n)
 rwa [List.length_range]at this
theorem g_(r:Rl o n sp al ip D)(hf:Fc f\/f=.own)(hn:cs.length=n)(hc:InS sp cs):kP [o,Oj f cs]=.ok (Oi (mvR n D cs)):=by
 have n20:=r.n20;have fb:=Fc.of hf;refine az ?_;refine aM ?_ ();refine aQ (bV (by simp[r.le,r.a0]) ()) (by rw[bz];lia) (jU (λk=>decide (D cs k≠gt cs k)) (λk=>(k:Int)) n λk hk=>⟨[some o,On f.N_ cs,Ol (0+k)],by simp[tgN,aS,bU,r.bo],?_,λ_=>by simp⟩);generalize f.N_=fc at *;have gk:av (Oj fc cs) (.int (k:Int))=.ok (.int (gt cs k)):=by simpa using dD (i:=k) () ()
 simp[r.le,fb.le,(r.due fc cs k fb hn hc hk).1,gk]
theorem Em(r:Rl o n sp al ip D)(hf:Fc f\/f=.own)(hn:cs.length=n)(hc:InS sp cs):jA bv (.ok [Oj f cs]) o=.ok (.bl (caR n ip D cs)):=by
 have e:∀f',Fc f'\/f'=.own->(if ip then wI else mq) [o,.lst f' (iL cs)]=.ok (.bl (caR n ip D cs)):=λf' hf=>by
  have fb:Fc f'.N7.N8:=by
   rcases hf with(rfl|rfl)|rfl
   .exact .inl rfl
   .exact .inr rfl
   .exact .inl rfl
  have mo:=g_ r (.inl fb) hn hc;cases ip with
  |false=>refine az ?_;unfold Fd caR;exact aM (by simp[r.le,r.tb,r.mv,mo,aE]) ()
  |true=>
   refine az ?_;unfold Fs caR;have e1:((mvR n D cs).length:Int)=1 ↔(mvR n D cs).length=1:=by lia
   exact aM (by simp[r.le,r.tb,r.mv,mo,aE,e1]) ()
 have hf2:Fc f.N8\/f.N8=.own:=by
  rcases hf with(rfl|rfl)|rfl
  .exact .inl (.inl rfl)
  .exact .inl (.inr rfl)
  .exact .inr rfl
 simp[r.ca,r.tb,e _ hf2,aE]
theorem xI(r:Rl o n sp al ip D)(hf:Fc fn)(hg:iT n al nm):Bs [o,Oj fn nm]=.ok .non:=by
 obtain⟨hd,hr,ha,hl⟩:=hg;refine fU ?_;refine dL (bw ?_ aB) ?_
 .cases al with
  |false=>simp[r.le,r.a8]
  |true=>
   have:=ha rfl;simp[r.le,r.a8]
   lia
 refine BM (λ_ e=>∃x,e=[some o,On fn nm,x]) (xs:=iL nm) (et (by simp[hf.le]) hf.nl () ()) ⟨_,rfl⟩ (λk x e hx hP=>?_) (λe hP=>?_)
 .obtain⟨y,rfl⟩:=hP;obtain⟨m,hm,rfl⟩:=qE hx;obtain⟨h1,h2⟩:=hr m (List.mem_of_getElem? hm);refine⟨_,cX rfl,bN (bw ?_ aB) ⟨_,rfl⟩⟩;simp[r.le,r.a0,show ¬m<0 by lia,show ¬(n:Int)<= m by lia]
 .obtain⟨y,rfl⟩:=hP;exact yA (bw (by simp[pK hl,t8 hd]) aB)
def Fc.call(h:Fc f\/f=.own):Fc f.N7.N8:=by
 rcases h with(rfl|rfl)|rfl
 .exact .inl rfl
 .exact .inr rfl
 .exact .inl rfl
def w_(r:Rl o n sp al ip D)(hf:Fc f\/f=.own)(hfn:Fc fn\/fn=.own)(hn:cs.length=n)(hc:InS sp cs)(hg:iT n al nm):kQ [o,Oj f cs,Oj fn nm]=.ok (Oi (stR n D cs nm)):=by
 have n20:=r.n20;have fb:=Fc.of hf;refine az ?_;refine af (fg (v:=.non) (by simp[r.le,r.tb,xI r (Fc.call hfn) hg,aE])) (aM ?_);refine aQ (bV (by simp[r.le,r.a0]) ()) (by rw[bz];lia) (lU 0 (λi:Nat=>if nm.contains (i:Int)then D cs i else gt cs i) n λk hk=>⟨[On fn.N_ nm,some o,On f.N_ cs,Ol (0+k)],by simp[tgN,aS,bU,r.bo],?_⟩);generalize f.N_=fc at *;have gk:∀f,av (Oj f cs) (.int (k:Int))=.ok (.int (gt cs k)):=λf=>by simpa using dD (i:=k) () ()
 have dk:=(r.due fc cs k fb hn hc hk).1;by_cases q:nm.contains (k:Int)=true
 .simp;simp at q;simp[q,r.le,fb.le,dk]
 .simp only[q];simp at q;simp[q,gk]
def dnR(n:Nat)(D:NW->Nat->Int)(cs nm:NW):NW:=(mvR n D cs).filter λa=>nm.contains a
theorem xA(r:Rl o n sp al ip D)(hf:Fc f)(hfn:Fc fn)(hn:cs.length=n)(hc:InS sp cs)(hg:iT n al nm):Bc [o,Oj f cs,Oj fn nm]=.ok (.tup [Oi (dnR n D cs nm),Oi (stR n D cs nm)]):=by
 have n20:=r.n20;have ml:=kB (n:=n) (D:=D) (cs:=cs);refine az ?_;refine af (ar (v:=Oi (stR n D cs nm)) (by simp[r.le,r.tb,r.tu,hf.le,hf.tb,hfn.le,hfn.tb,w_ r (.inl hf) (.inl hfn) hn hc hg,aE])) ?_;refine af (ar (v:=Oi (dnR n D cs nm)) ?_) ?_
 .refine aQ (xs:=iL (mvR n D cs)) (by simp[r.le,r.tb,r.mv,hf.le,hf.tb,g_ r (.inl hf) hn hc,aE]) (by simp;lia) ?_;have:=gH (env:=bU [2] 1 [some o,On f cs,On fn nm,Om (stR n D cs nm),none]) (g:=tgN 1) (mc:=aw (mOp pIn (ac 1) (ac 0))) (me:=ac 1) (λa=>nm.contains a) (λa=>a) (mvR n D cs) λx hx=>⟨[On fn nm,Ol x],by simp[tgN,aS,bU,hfn.bo],by simp,λ_=>by simp⟩
  rw[List.map_id']at this;exact this
 .simp;rfl
def xB(f:Fl)(p:NW×NW):PV:=.tup [Oj f p.1,Oj f p.2]
def J7(n:Nat)(D:NW->Nat->Int):NW->List (NW)->List (NW×NW)
 |_,[]=>[]
 |cs,nm::tns=>(dnR n D cs nm,stR n D cs nm)::J7 n D (stR n D cs nm) tns
@[simp] def J8(ps:List (NW×NW)):mapL g (ps.map (xB f))=ps.map (xB (g f)):=by
 induction ps with
 |nil=>simp
 |cons a l ih=>simp[ih,xB]
theorem vX{rs:NW}(r:Rl o n sp al ip D)(hn:rs.length=n):kN [o,Oj f rs]=.ok (Oi (rs.map (· % sp))):=by have n20:=r.n20;refine az ?_;refine af (bw (by simp[r.le,r.a0,hn]) aB) (aM ?_);refine aQ (xs:=iL rs) () (by simp;lia) ?_;exact gu (· % sp) rs λx hx=>⟨[some o,Ol x],by simp[tgN,aS,bU,r.bo],by simp[r.le,r.a7,cJ r.s0]⟩
def HP{rs:NW}(r:Rl o n sp al ip D):InS sp (rs.map (· % sp)):=λc hc=>by obtain⟨x,_,rfl⟩:=mem_map.mp hc;have:=r.s0;exact⟨emod_nonneg _ (),emod_lt_of_pos _ r.s0⟩
end
noncomputable abbrev kg(f:Fl)(size span:Int):PV:=.obj f 9 [0,7,8] [.int size,.int span,.bl false]
theorem zI{size span:Int}(h1:2<=size)(h2:size<=20)(h3:size<=span):wH [.obj .own 9 [] [],.int size,.int span]=.ok (kg .own size span):=by
 refine ff (e:=[some (kg .own size span),Ol size,Ol span]) ?_ rfl;refine af (bw (by simp[show ¬size<2 by lia,show ¬20<size by lia]) aB) ?_;refine af (bw (by simp[show ¬span<size by lia]) aB) ?_;have ri:kO [.obj .own 9 [] [],.int size,.int span,.bl false]=.ok (kg .own size span):=by rfl
 have:=iy (env:=[some (.obj .own 9 [] []),Ol size,Ol span]) (ms:=ae (ac 1) (ae (ac 2) (ae (mC (.bl false)) am))) (xs:=[.int size,.int span,.bl false]) rfl () () (by simpa using ri) ();simpa using this
def b8(sp:Int)(cs:NW)(i:Nat):Int:=if i=0 then(if gt cs 0=gt cs (cs.length-1)then(gt cs 0+1)%sp else gt cs 0)else gt cs (i-1)
theorem Dg(hfc:Fc fc)(hn:cs.length=n)(hi:i<n)(hs:0<sp):Bv [kg .bor n sp,Oj fc cs,.int i]=.ok (.int (b8 sp cs i)):=by
 refine az ?_;unfold Fo b8;by_cases h0:i=0
 .subst h0;have g0:av (Oj fc cs) (.int 0)=.ok (.int (gt cs 0)):=dD () ();have gl:av (Oj fc cs) (.int ((n:Int)-1))=.ok (.int (gt cs (cs.length-1))):=by
   rw[dD () ()];congr 3
   lia
  refine af (bw () aB) ?_;by_cases hc:gt cs 0=gt cs (cs.length-1)
  .rw[if_pos hc];exact bL (d4 (by simp[aA,bT,hfc.le,g0,gl,<- hc]) (aM (by simp[aA,bT,hfc.le,g0,cJ hs])))
  .rw[if_neg hc];exact af (bw (by simp[aA,bT,hfc.le,g0,gl,hc]) aB) (aM (by simp[hfc.le,g0]))
 .rw[if_neg h0];have gl:av (Oj fc cs) (.int ((i:Int)-1))=.ok (.int (gt cs (i-1))):=by
   rw[dD () ()];congr 3
   lia
  exact bL (d4 (by simp;lia) (aM (by simp[hfc.le,gl])))
theorem Ec(hn:cs.length=n)(hc:InS sp cs)(hi:i<n)(hs:0<sp):0<=b8 sp cs i/\b8 sp cs i<sp:=by
 unfold b8;split
 .split
  .exact⟨emod_nonneg _ (),emod_lt_of_pos _ hs⟩
  .exact hc _ (dw ())
 .exact hc _ (dw ())
theorem vV(h1:1<=n)(h20:n<=20)(hs:0<sp):Rl (kg .bor n sp) n sp false true (b8 sp) where
 due:=λfc cs k hfc hn hc hk=>⟨by simp[aR,hfc.tb,Dg hfc hn hk hs,aE],Ec hn hc hk hs⟩
def r8(h1:1<=n)(h20:n<=20)(rg:Rgs ps n)(hl:∀i,(nbL ps i).length<=1000):Rl (pnt .bor n ps) n n false false (lR ps) where
 due:=λfc cs k hfc hn hc hk=>⟨by simp[aR,hfc.tb,Ch rg hfc hl hn hk,aE],Eb rg hk⟩
theorem r9{ps:NW}(hl:ps.length<=9):Rl (cnt .bor ps) (ps.length+1) ((ps.length:Int)+2) false false (qM (ps.length+1) ps) where
 due:=λfc cs k hfc hn hc hk=>by
  have sm:Sm cs:=λc hc'=>by have:=hc c hc';lia
  refine⟨by simp[aR,hfc.tb,El hfc hl sm hn,aE],?_⟩;have nn:=rG (l:=eE k 1 ps) λj hj=>by obtain⟨h1,h2,_⟩:=jh hj;exact(hc _ (dw ())).1
  unfold qM
  lia
theorem qL(ht:0<=tp)(ho:OkS tp os)(hn:cs.length=n)(hnb:∀x∈nbL ps i,0<=x/\x<n)(hc:∀c∈cs,0<=c):0<=gP ps os st tp cs i/\gP ps os st tp cs i<=tp:=by
 unfold gP;obtain⟨m1,m2⟩:=hG (l:=iW ps st tp cs i ++(os.getD i none).toList++[tp]) ();have h2:=m2 tp ();generalize hV (iW ps st tp cs i ++(os.getD i none).toList++[tp])=M at *;refine⟨?_,h2⟩;rcases mem_append.mp m1 with q|q
 .rcases mem_append.mp q with q|q
  .unfold iW at q;obtain⟨c,hc1,rfl⟩:=mem_map.mp q;obtain⟨o,ho1,rfl⟩:=mem_map.mp (mem_filter.mp hc1).1;have:=hnb o ho1;have:=hc _ (dw (i:=o.toNat) ())
   lia
  .have e:os.getD i none=some M:=by
    cases eo:os.getD i none with
    |none=>rw[eo]at q;cases q
    |some s=>rw[eo]at q;exact congrArg some (mem_singleton.mp q).symm
   have hm:some M∈os:=by grind
   exact(ho M hm).1
 .simp_all
theorem kh(hcc:cc=5\/cc=6)(h1:1<=n)(h20:n<=20)(hst:0<st)(ht:0<=tp)(ho:OkS tp os)(hol:os.length=n)(hnb:Hnb ps n)(hl:∀i,(nbL ps i).length<=1000):Rl (lea .bor cc n ps os st tp) n (tp+1) true false (gP ps os st tp):=by have b:=λfc cs k (hfc:Fc fc) (hn:cs.length=n) (hc:InS (tp+1) cs) hk=>And.intro (tf (cc:=cc) (tp:=tp) hfc (by rcases hcc with rfl|rfl<;>rfl) (hnb k) (hl k) hst hn hol hk) (qL (st:=st) ht ho hn (hnb k) λc hc'=>(hc c hc').1);rcases hcc with rfl|rfl<;>exact {due:=λfc cs k hfc hn hc hk=>let⟨d,b1,b2⟩:=b fc cs k hfc hn hc hk;⟨by simp[aR,hfc.tb,d,aE],b1,by lia⟩}
theorem ot(h:1<=n):OkS n (fs n r):=λs hs=>by
 simp only[fs,mem_map]at hs;obtain⟨i,_,e⟩:=hs;split at e
 .cases e;lia
 .cases e
theorem Ee(h1:1<=n)(hn:cs.length=n)(hi:i<n)(hnb:Hnb ps n)(hc:InS (((n:Int)+1)*((n:Int)+1)) cs):0<=ox n ps r cs i/\ox n ps r cs i <((n:Int)+1)*((n:Int)+1):=by
 have hfa:∀c∈FA n cs,0<=c:=λc hc'=>by obtain⟨x,hx,rfl⟩:=mem_map.mp hc';exact Int.ediv_nonneg (hc x hx).1 ()
 obtain⟨b1,b2⟩:=qL () (ot h1) (show(FA n cs).length=n by simpa using hn) (hnb i) hfa;have c1:=vC hn i hi;have sn:0 <=(lG n ps r cs i).sum:=by
  have:∀l:NW,(∀x∈l,0<=x)->0<=l.sum:=λl=>by
   induction l with
   |nil=>simp
   |cons a l ih=>
    intro h;have:=ih λx hx=>h x (mem_cons_of_mem _ hx);have:=h a mem_cons_self;simp
    lia
  exact this _ λx hx=>(oi hn hx).1
 unfold ox dcn;generalize gP ps (fs n r) n n (FA n cs) i=d at *;have m1:0<=d*((n:Int)+1):=Int.mul_nonneg b1 ();have m2:d*((n:Int)+1)<= n*((n:Int)+1):=Int.mul_le_mul_of_nonneg_right b2 ();have m3:((n:Int)+1)*((n:Int)+1)=n*((n:Int)+1)+((n:Int)+1):=by lia
 split<;>lia
theorem CT(h1:1<=n)(h10:n<=10)(hnb:Hnb ps n)(hl:∀i:Nat,(nbL ps i).length<=1000):Rl (gro .bor n ps r) n (((n:Int)+1)*((n:Int)+1)) true false (ox n ps r) where
 s0:=Int.mul_pos () ()
 due:=λfc cs k hfc hn hc hk=>⟨by simp[aR,hfc.tb,Ed hfc h1 h10 hnb hl hn hk,aE],Ee h1 hn hk hnb hc⟩
structure Ms(o:PV)(n:Nat)(sp:Int)(al ip:Bool)(D:NW->Nat->Int)(M:NW->Int):Prop where
 me:∀f cs,Fc f\/f=.own->cs.length=n->InS sp cs->jA aN (.ok [Oj f cs]) o=.ok (.int (M cs))
 fa:∀cs nm,cs.length=n->InS sp cs->iT n al nm->caR n ip D cs=false->stR n D cs nm≠cs->M (stR n D cs nm)<M cs
 mv:∀cs,cs.length=n->InS sp cs->caR n ip D cs=false->mvR n D cs≠[]
def Fc.tb2(h:Fc f\/f=.own):Fc f.N8\/f.N8=.own:=by
 rcases h with(rfl|rfl)|rfl
 .exact .inl (.inl rfl)
 .exact .inl (.inr rfl)
 .exact .inr rfl
def wT{D:NW->Nat->Int}(h:caR n false D cs=false):mvR n D cs≠[]:=λe=>by simp[caR,e]at h
theorem lf{e:Nat}(h1:0<b)(h2:b<=1000)(he:e<=1000):tL [.int b,.int e]=.ok (.int (b ^ e)):=by
 refine az ?_;show E6 [Ol b,Ol e,none,none]=_;refine af (ar (v:=.int 1) ()) ?_;refine iA (λk en=>∃x,en=[Ol b,Ol e,Ol (b ^ k),x]) (bV (n:=e) () ()) ⟨none,by simp⟩ (λk x en hx hP=>?_) (λen hP=>?_)
 .obtain⟨y,rfl⟩:=hP;obtain⟨hk,rfl⟩:=eA hx;have m1:dG (.int (b ^ k)) (.int b)=.ok (.int (b ^ k*b)):=fH (.inr ⟨by lia,by lia⟩);exact⟨_,cX rfl,bN (ar (by simp[m1,Int.pow_succ])) ⟨_,rfl⟩⟩
 .obtain⟨y,rfl⟩:=hP;rw[bz];exact f9 rfl
theorem m_(h:n<=10):(0:Int)<2 ^ n/\(2:Int) ^ n<=1024:=by
 refine⟨Int.pow_pos (),?_⟩;rcases Nat.lt_or_ge n 10 with q|q
 .exact Int.le_of_lt (Int.pow_lt_pow_of_lt () q)
 .lia
section
variable{n:Nat}{D:NW->Nat->Int}{cs nm:NW}{i:Nat}
def gL(hi:i<n):gt (stR n D cs nm) i=if nm.contains (i:Int)then D cs i else gt cs i:=by simp[stR,gt,hi]
theorem k8(hn:cs.length=n)(h:stR n D cs nm≠cs):∃i,i<n/\nm.contains (i:Int)=true/\D cs i≠gt cs i:=by
 apply Classical.byContradiction;intro no;refine h (ext_getElem (by simp[stR,hn]) λi a b=>?_);rw[<- jR _ _ a,<- jR _ _ b,gL ()];split
 .simp_all
 .rfl
theorem vO(hn:cs.length=n)(hl:nm.length<=1)(hi:i<n)(hc:nm.contains (i:Int)=true):stR n D cs nm=cs.set i (D cs i):=by
 have e:nm=[(i:Int)]:=by
  cases nm with
  |nil=>simp at hc
  |cons a l=>
   cases l with
   |nil=>simp at hc;rw[hc]
   |cons b l=>simp at hl
 subst e;refine ext_getElem (by simp[stR,hn]) λj a b=>?_;have hj:j<n:=by simp_all
 rw[<- jR _ _ a,<- jR _ _ b,gL hj,eX _ ()];by_cases e:j=i
 .simp[e]
 .grind
def Wl(rk:Nat->Nat)(n:Nat)(p:Nat->Bool):Int:=(((range n).filter p).map λi=>(2:Int) ^ rk i).sum
theorem ql:∀(n:Nat) (l:List Nat),l.Nodup->(∀x∈l,x<n)->(l.map λx=>2 ^ x).sum<2 ^ n
 |0,l,_,h=>by
  cases l with
  |nil=>decide
  |cons x l=>exact absurd (h x mem_cons_self) ()
 |n+1,l,nd,h=>by
  by_cases q:n∈l
  .have p:=List.perm_cons_erase q;rw[(p.map λx=>2 ^ x).sum_nat,map_cons,sum_cons];have nd':=nodup_cons.mp (p.nodup_iff.mp nd);have:=ql n (l.erase n) nd'.2 λx hx=>by
    have h1:=h x (List.mem_of_mem_erase hx);have h2:x≠n:=λe=>nd'.1 (e▸hx)
    lia
   lia
  .have:=ql n l nd λx hx=>by
    have h1:=h x hx;have h2:x≠n:=λe=>q (e▸hx)
    lia
   lia
theorem rF:∀l:List Nat,((l.sum:Nat):Int)=(l.map λx:Nat=>(x:Int)).sum
 | []=>by simp
 |x::l=>by
  have:=rF l;simp
  lia
variable{rk:Nat->Nat}{p p':Nat->Bool}
theorem rC{K:Nat}(inj:∀i j,i<n->j<n->rk i=rk j->i=j)(hk:∀i,i<n->p i=true->rk i<K):0<=Wl rk n p/\Wl rk n p<2 ^ K:=by
 have mm:∀i ∈(range n).filter p,i<n/\p i=true:=λi hi=>⟨mem_range.mp (mem_filter.mp hi).1,(mem_filter.mp hi).2⟩
 have nd:(((range n).filter p).map rk).Nodup:=by rw[Nodup,List.pairwise_map];exact Pairwise.imp_of_mem (λ{a b} ha hb hab e=>hab (inj a b (mm a ha).1 (mm b hb).1 e)) (nodup_range.filter _)
 have b:=ql K (((range n).filter p).map rk) nd λx hx=>by grind
 have e:Wl rk n p=(((((range n).filter p).map rk).map λx=>2 ^ x).sum:Nat):=by rw[rF];unfold Wl;congr 1;simp
 exact⟨by lia,by lia⟩
theorem yQ{m:Nat}(inj:∀i j,i<n->j<n->rk i=rk j->i=j)(hm:m<n)(h1:p m=true)(h2:p' m=false)(h3:∀i,i<n->rk m<rk i->p' i=p i):Wl rk n p'<Wl rk n p:=by
 have sp:∀p:Nat->Bool,Wl rk n p=Wl rk n (λi=>p i&&decide (rk m<rk i))+Wl rk n (λi=>p i&&!decide (rk m<rk i)):=λp=>by
  unfold Wl;generalize range n=l
  induction l with
  |nil=>rfl
  |cons a l ih=>simp only[filter_cons];cases p a<;>cases decide (rk m<rk a)<;>simp<;>lia
 have e:Wl rk n (λi=>p' i&&decide (rk m<rk i))=Wl rk n (λi=>p i&&decide (rk m<rk i)):=by
  unfold Wl;rw[filter_congr λi hi=>?_];by_cases q:rk m<rk i
  .simp_all
  .simp[q]
 have lo:=(rC (p:=λi=>p' i && !decide (rk m < rk i)) (K:=rk m) inj λi hi hp=>by
  simp at hp;have:rk i≠rk m:=λe=>by rw[inj i m hi hm e,h2]at hp;simp at hp
  lia).2
 have up:(2:Int) ^ rk m<=Wl rk n λi=>p i&&!decide (rk m<rk i):=by refine vc (λx hx=>?_) _ (mem_map.mpr ⟨m,mem_filter.mpr ⟨mem_range.mpr hm,by simp[h1]⟩,rfl⟩);obtain⟨i,_,rfl⟩:=mem_map.mp hx;exact Int.le_of_lt (Int.pow_pos ())
 rw[sp p',sp p,e]
 lia
theorem yP(n10:n<=10)(hr:∀i,i<n->rk i<n):ky (Oj f (((range n).filter p).map λi=>(2:Int) ^ rk i))=.ok (.int (Wl rk n p)):=by
 refine mP ?_ λx hx=>?_
 .grind
 .obtain⟨i,hi,rfl⟩:=mem_map.mp hx;have:=hr i (mem_range.mp (mem_filter.mp hi).1);have:=m_ (n:=rk i) ()
  lia
abbrev mvB(D:NW->Nat->Int)(cs:NW)(i:Nat):Bool:=decide (D cs i≠gt cs i)
theorem oz(inj:∀i j,i<n->j<n->rk i=rk j->i=j)(rl:∀i,i<n->rk i<n)(loc:∀cs cs' i,i<n->(∀j,j<n->rk i<rk j->gt cs j=gt cs' j)->D cs i=D cs' i)(hn:cs.length=n)(hne:stR n D cs nm≠cs):Wl rk n (mvB D (stR n D cs nm))<Wl rk n (mvB D cs):=by
 have mx:∀(d i:Nat),i<n->nm.contains (i:Int)=true/\D cs i≠gt cs i->n-rk i=d->∃m,m<n/\(nm.contains (m:Int)=true/\D cs m≠gt cs m)/\∀j,j<n->rk m<rk j->nm.contains (j:Int)=true->D cs j=gt cs j:=by
  intro d
  induction d using Nat.strongRecOn with
  |_ d ih=>
   intro i hi hP hd;by_cases h:∃j,j<n/\(nm.contains (j:Int)=true/\D cs j≠gt cs j)/\rk i<rk j
   .obtain⟨j,hj,hPj,hlt⟩:=h;have:=rl j hj;exact ih (n-rk j) () j hj hPj rfl
   .exact⟨i,hi,hP,λj hj hl hc=>Classical.byContradiction λz=>h ⟨j,hj,⟨hc,z⟩,hl⟩⟩
 obtain⟨i,hi,hP⟩:=k8 hn hne;obtain⟨m,hm,⟨m1,m2⟩,top⟩:=mx _ i hi hP rfl;have same:∀j,j<n->rk m<rk j->gt (stR n D cs nm) j=gt cs j:=λj hj hlt=>by
  rw[gL hj];split
  .exact top j hj hlt ‹_›
  .rfl
 have du:∀j,j<n->rk m<=rk j->D (stR n D cs nm) j=D cs j:=λj hj hle=>loc _ _ j hj λk hk hl=>same k hk ();refine yQ inj hm (by simp[m2]) ?_ λj hj hlt=>?_
 .simp only[mvB,du m hm (Nat.le_refl _),gL hm,m1];simp
 .simp only[mvB,du j hj (),same j hj hlt]
theorem t5{o:PV}{al ip:Bool}(r:Rl o n sp al ip D)(n10:n<=10)(hr:∀i:Nat,i<n->jA eH (.ok [.int i]) o=.ok (.int (rk i))/\rk i<n)(hf:Fc f\/f=.own)(hn:cs.length=n)(hc:InS sp cs):D5 [o,.lst f (iL cs)]=.ok (.int (Wl rk n (mvB D cs))):=by
 refine az ?_;have mo:=g_ r (.inl (Fc.call hf)) hn hc;have ml:=kB (n:=n) (D:=D) (cs:=cs);refine aM ?_ ();simp;rw[aQ (xs:=iL (mvR n D cs)) (ys:=iL (((range n).filter (mvB D cs)).map λi=>(2:Int) ^ rk i)) (by simp[r.le,r.tb,r.mv,mo,aE]) (by rw[bR];lia) ?_]
 .simp[yP n10 λi hi=>(hr i hi).2]
 .unfold mvR;rw[show ∀l:List Nat,iL (l.map λi:Nat=>(i:Int))=l.map λi:Nat=>PV.int i from λl=>by simp[iL],show ∀l:List Nat,iL (l.map λi=>(2:Int) ^ rk i)=l.map λi=>PV.int (2 ^ rk i)from λl=>by simp[iL]];refine a6 _ λx hx=>⟨[some o,some (.int x)],by simp[tgN,aS,bU,r.bo],?_,by simp,by simp⟩
  have hx:=hr x (mem_range.mp (mem_filter.mp hx).1);have pw:=lf (e:=rk x) (b:=2) () () ();simp[r.le,hx.1,pw,aE]
end
theorem Aq(h1:1<=n)(n10:n<=10)(rg:Rgs ps n)(hl:∀i,(nbL ps i).length<=1000):Ms (pnt .bor n ps) n n false false (lR ps) λcs=>Wl (λi=>n-1-i) n (mvB (lR ps) cs) where
 me:=λf cs hf hn hc=>by
  have rk:∀i:Nat,i<n->Iy [pnt .bor n ps,.int i]=.ok (.int ((n-1-i:Nat):Int)):=λi hi=>by refine az ?_;exact aM (by simp[aA,bT];lia) ()
  have:=t5 (rk:=λi=>n-1-i) (r8 h1 () rg hl) n10 (λi hi=>⟨by simp[eH,rk i hi,aE],by lia⟩) (Fc.tb2 hf) hn hc;simp[aN,this,aE]
 fa:=λcs nm hn hc _ _ h=>oz () () (λa b i hi h=>BO rg λj hj=>h j () ()) hn h
 mv:=λcs _ _ h=>wT h
theorem As{ps:NW}(T:Tree ps)(hl:ps.length<=9):Ms (cnt .bor ps) (ps.length+1) ((ps.length:Int)+2) false false (qM (ps.length+1) ps) λcs=>Wl id (ps.length+1) (mvB (qM (ps.length+1) ps) cs) where
 me:=λf cs hf hn hc=>by
  have rk:∀i:Nat,Ix [cnt .bor ps,.int i]=.ok (.int i):=λi=>by refine az ?_;exact f9 rfl
  have:=t5 (rk:=id) (r9 hl) () (λi hi=>⟨by simp[eH,rk i,aE],hi⟩) (Fc.tb2 hf) hn hc;simp[aN,this,aE]
 fa:=λcs nm hn hc _ _ h=>oz (λ_ _ _ _ h=>h) (λ_ h=>h) (λa b i hi h=>by
  unfold qM;rw[rH λk hk=>?_];obtain⟨k1,k2,k3⟩:=jh hk;obtain⟨k4,k5⟩:=List.getElem?_eq_some_iff.mp k3;have:=T _ k4;exact h _ () (by simp only[id];lia)) hn h
 mv:=λcs _ _ h=>wT h
noncomputable def num(b:Int)(r f:Nat->Nat):Nat->Int
 |0=>0
 |m+1=>(num b r f m*b+r m)*b+f m
def xD(n:Nat)(A x:Nat->Int)(m:Nat):Nat:=((range n).filter λi=>decide (x i=m)&&decide ((m:Int)<A i)).length
def yx(n:Nat)(A x:Nat->Int)(m:Nat):Nat:=((range n).filter λi=>decide ((m:Int)<x i)&&decide (A i=m)).length
def qG{p:Nat->Bool}:((range n).filter p).length<=n:=by grind
def mL(n T:Nat)(A x:Nat->Int):Int:=num ((n:Int)+1) (xD n A x) (yx n A x) T
def rp(f g:Nat->Int):∀l:List Nat,jI (iL (l.map f)) (iL (l.map g))=l.map λi=>prV (f i,g i)
 | []=>rfl
 |i::l=>by have:=rp f g l;simp only[iL,map_cons,jI]at this ⊢;rw[this];rfl
theorem sX{D:Nat->Int}(hf:Fc fc\/fc=.own)(hd:∀f k,Fc f->k<n->jA aR (.ok [Oj f cs,.int k]) (lea .bor cc n ps os st T)=.ok (.int (D k)))(hn:cs.length=n)(n10:n<=10)(hT:T<=1000) :
  yz [lea .bor cc n ps os st T,Oj fc cs]=.ok (.int (mL n T D (gt cs))):=by
 have fb:=Fc.of hf;refine az ?_;show Ls [some (lea .bor cc n ps os st T),On fc cs,none,none,none,none,none,none]=_;refine af (ar (v:=Oi ((range n).map D)) ?_) ?_
 .refine aQ (bV (by simp[aA,bT]) ()) (by rw[bz];lia) (lU 0 D n λk hk=>⟨[some (lea .bor cc n ps os st T),On fc.N_ cs,Ol (0+k)],by simp[tgN,aS,bU],?_⟩);have:=hd _ k fb hk;simp[fb.le,this]
 refine af (ar (v:=.int ((n:Int)+1)) (by simp[aA,bT])) ?_;refine af (ar (v:=.int 0) ()) ?_;have zp:jI (iL cs) (iL ((range n).map D))=(range n).map λi=>prV (gt cs i,D i):=by have:=rp (gt cs) D (range n);rw[<- hn,gtR]at this;rw[<- hn];exact this
 refine iA (λk e=>∃x5 x6 x7,e=[some (lea .bor cc n ps os st T),On fc cs,Om ((range n).map D),Ol ((n:Int)+1),Ol (num ((n:Int)+1) (xD n D (gt cs)) (yx n D (gt cs)) k),x5,x6,x7]) (bV (n:=T) (by simp[aA,bT]) ()) ⟨_,_,_,rfl⟩ (λk x e hx hP=>?_) (λe hP=>?_)
 .obtain⟨x5,x6,x7,rfl⟩:=hP;obtain⟨hk,rfl⟩:=eA hx;generalize hN:num ((n:Int)+1) (xD n D (gt cs)) (yx n D (gt cs)) k=N;have mz:∀x6 x7,kD (ae (ac 1) (ae (ac 2) am)) [some (lea .bor cc n ps os st T),On fc cs,Om ((range n).map D),Ol ((n:Int)+1),Ol N,Ol k,x6,x7]=.ok ((range n).map λi=>prV (gt cs i,D i)):=λx6 x7=>by unfold kD;simp[gz,zp]
  have row:∀(p:Nat->Bool) (mc:MT) (x6 x7:Option PV),(∀i,mc [Ol k,Ol (gt cs i),Ol (D i)]=.ok (p i))->aV [5] 2 (kD (ae (ac 1) (ae (ac 2) am))) (tgT 2 (cF (tgN 1) (cF (tgN 2) j8))) mc (ac 1) [some (lea .bor cc n ps os st T),On fc cs,Om ((range n).map D),Ol ((n:Int)+1),Ol N,Ol k,x6,x7]=.ok (.lst .own (iL (((range n).filter p).map (gt cs)))):=λp mc x6 x7 hp=>by rw[show iL (((range n).filter p).map (gt cs))=((range n).filter p).map λi=>PV.int (gt cs i) by simp[iL]];exact aQ (mz _ _) (by simp;lia) (bP (range n) λi hi=>⟨[Ol k,Ol (gt cs i),Ol (D i)],rfl,hp i,λ_=>⟨by simp,rfl,rfl⟩⟩)
  refine⟨_,cX rfl,?_⟩;simp;refine bh (ar (v:=Oi (((range n).filter λi=>decide (gt cs i=k)&&decide ((k:Int)<D i)).map (gt cs))) (row _ _ _ _ λi=>by by_cases q:gt cs i=k<;>simp[q])) ?_;refine bh (ar (v:=Oi (((range n).filter λi=>decide ((k:Int)<gt cs i)&&decide (D i=k)).map (gt cs))) (row _ _ _ _ λi=>by by_cases q:(k:Int)<gt cs i<;>simp[q])) ?_;have m1:∀x:Int,dG (.int x) (.int ((n:Int)+1))=.ok (.int (x*((n:Int)+1))):=λx=>fH (.inr ⟨by lia,by lia⟩);exact bN (ar (v:=.int ((N*((n:Int)+1)+xD n D (gt cs) k)*((n:Int)+1)+yx n D (gt cs) k)) (by simp[m1,aY,xD,yx])) ⟨_,_,_,by subst hN;rfl⟩
 .obtain⟨x5,x6,x7,rfl⟩:=hP;rw[bz];exact f9 rfl
theorem lM{x' r' r:Int}(hb:0<b)(h:x'<x)(h1:r'<b)(h2:0<=r):x'*b+r'<x*b+r:=by
 have:(x'+1)*b<=x*b:=Int.mul_le_mul_of_nonneg_right () ();rw[Int.add_mul,Int.one_mul]at this
 lia
theorem xY{r f r' f':Nat->Nat}(hb:0<b)(hr:∀m,(r' m:Int)<b)(hf:∀m,(f' m:Int)<b)(he:∀m<k,r' m=r m/\f' m=f m)(hk:r' k<r k \/(r' k=r k/\f' k<f k)):∀t,k<t->num b r' f' t<num b r f t:=by
 have same:∀m,m<=k->num b r' f' m=num b r f m:=λm=>by
  induction m with
  |zero=>intro _;rfl
  |succ m ih=>intro h;obtain⟨e1,e2⟩:=he m ();simp only[num,ih (),e1,e2]
 intro t ht
 induction t with
 |zero=>lia
 |succ t ih=>
  simp only[num];by_cases q:k=t
  .subst q;rw[same k (Nat.le_refl _)];rcases hk with h |⟨h,h2⟩
   .exact lM hb () (hf k) ()
   .rw[h];lia
  .exact lM hb (lM hb (ih ()) (hr t) ()) (hf t) ()
theorem fA{p q:Nat->Bool}:∀(l:List Nat) (i:Nat),i∈l->(∀j∈l,q j=true->p j=true)->p i=true->q i=false->(l.filter q).length <(l.filter p).length
 | [],_,h,_,_,_=>nomatch h
 |a::l,i,h,hs,hp,hq=>by
  have le:∀l:List Nat,(∀j∈l,q j=true->p j=true)->(l.filter q).length <=(l.filter p).length:=λl hl=>by
   induction l with
   |nil=>simp
   |cons b l ih=>cases e1:q b<;>cases e2:p b<;>simp_all<;>lia
  rw[filter_cons,filter_cons];rcases mem_cons.mp h with rfl|h
  .grind
  .have ih:=fA l i h (λj hj=>hs j (mem_cons_of_mem _ hj)) hp hq;cases e1:q a<;>cases e2:p a<;>simp_all<;>lia
theorem AM{x y A B:Nat->Int}(hi:i<n)(hx:0<=x i/\x i<=T)(hA:0<=A i/\A i<=T)(hd:A i≠x i)(yi:y i=A i)(yj:∀j,j≠i->y j=x j)(eq:∀j v,v<=x i->v<=A i->(B j=v↔A j=v)):mL n T B y<mL n T A x:=by
 have gv:∀j v,v<=x i->v<=A i->(v<B j↔v<A j):=λj v h1 h2=>by
  have e1:=eq j (B j);have e2:=eq j (A j)
  lia
 have bd:∀p:Nat->Bool,(((range n).filter p).length:Int) <(n:Int)+1:=λp=>by grind
 obtain⟨k,k1,k2,k3⟩:∃k:Nat,(k:Int)<= x i/\(k:Int)<= A i/\(k=x i\/k=A i):=⟨(min (x i) (A i)).toNat,by lia⟩
 have df:∀{p:Prop} [Decidable p],¬p->decide p=false:=λh=>decide_eq_false h;refine xY (k:=k) () (λm=>bd _) (λm=>bd _) (λm hm=>⟨?_,?_⟩) ?_ T ()
 .refine congrArg _ (filter_congr λj _=>?_);by_cases e:j=i
  .lia
  .rw[yj j e,decide_eq_decide.mpr (gv j m () ())]
 .refine congrArg _ (filter_congr λj _=>?_);rw[decide_eq_decide.mpr (eq j m () ())];by_cases e:j=i
  .lia
  .rw[yj j e]
 .by_cases q:A i<x i
  .have ek:(k:Int)=A i:=by lia
   refine .inr ⟨congrArg _ (filter_congr λj _=>?_),fA (range n) i (mem_range.mpr hi) (λj _ h=>?_) ?_ ?_⟩
   .grind
   .rw[decide_eq_decide.mpr (eq j k k1 k2)]at h;by_cases e:j=i
    .lia
    .rwa [yj j e]at h
   .lia
   .lia
  .have ek:(k:Int)=x i:=by lia
   refine .inl (fA (range n) i (mem_range.mpr hi) (λj _ h=>?_) ?_ ?_)
   .grind
   .lia
   .lia
section
variable{n:Nat}{ps:NT}{os:List (N1)}{st tp:Int}{cs cs':NW}{k:Int}{i j:Nat}
theorem wK(he:∀x,x<=k->(x∈iW ps st tp cs j↔x∈iW ps st tp cs' j)):∀v,v<=k->gP ps os st tp cs j=v->gP ps os st tp cs' j=v:=λv hv h=>by
 unfold gP at h ⊢;obtain⟨a1,a2⟩:=hG (l:=iW ps st tp cs j ++(os.getD j none).toList++[tp]) ();obtain⟨b1,b2⟩:=hG (l:=iW ps st tp cs' j ++(os.getD j none).toList++[tp]) ();rw[h]at a1 a2;have m:∀x,x<=k->(x∈iW ps st tp cs j ++(os.getD j none).toList++[tp]↔ x∈iW ps st tp cs' j ++(os.getD j none).toList++[tp]):=λx hx=>by simp only[mem_append,he x hx]
 have h1:=b2 v ((m v hv).mp a1);have h2:=a2 _ ((m _ ()).mpr b1)
 lia
theorem Ac{d:Int}(hi:i<cs.length)(h1:k<=gt cs i)(h2:k<=d):∀x,x<=k->(x∈iW ps st tp cs j↔x∈iW ps st tp (cs.set i d) j):=λx hx=>by
 simp only[iW,mem_map,mem_filter];constructor
 .rintro⟨c,⟨⟨o,ho,rfl⟩,h⟩,rfl⟩;have:o.toNat≠i:=λe=>by lia
  exact⟨gt cs o.toNat,⟨⟨o,ho,by rw[eX _ hi,if_neg this]⟩,h⟩,rfl⟩
 .rintro⟨c,⟨⟨o,ho,rfl⟩,h⟩,rfl⟩;rw[eX _ hi]at hx h ⊢;by_cases e:o.toNat=i
  .lia
  .grind
abbrev mT(n:Nat)(ps:NT)(os:List (N1))(st:Int)(T:Nat)(cs:NW):Int:=mL n T (gP ps os st T cs) (gt cs)
def l_(ho:OkS T os)(hnb:Hnb ps n)(hn:cs.length=n)(hc:∀c∈cs,0<=c/\c<=T)(hi:i<n)(hm:gP ps os st T cs i≠gt cs i):mT n ps os st T (cs.set i (gP ps os st T cs i))<mT n ps os st T cs:=by have hd:=qL (st:=st) () ho hn (hnb i) λc h=>(hc c h).1;refine AM hi (hc _ (dw ())) hd hm (by rw[eX _ (),if_pos rfl]) (λj hj=>by rw[eX _ (),if_neg hj]) λj v h1 h2=>?_;have he:=Ac (ps:=ps) (st:=st) (tp:=T) (j:=j) () h1 h2;exact⟨wK (λx hx=>(he x hx).symm) v (Int.le_refl _),wK he v (Int.le_refl _)⟩
theorem Ar(hcc:cc=5\/cc=6)(h1:1<=n)(n10:n<=10)(hst:0<st)(hT:T<=1000)(ho:OkS T os)(hol:os.length=n)(hnb:Hnb ps n)(hl:∀i,(nbL ps i).length<=1000):Ms (lea .bor cc n ps os st T) n ((T:Int)+1) true false (gP ps os st T) (mT n ps os st T) where
 me:=λf cs hf hn hc=>by have r:=kh hcc h1 () hst (Int.natCast_nonneg T) ho hol hnb hl;have:=sX (Fc.tb2 hf) (λf k hf hk=>(r.due f cs k hf hn hc hk).1) hn n10 hT;rcases hcc with rfl|rfl<;>simp[aN,this,aE]
 fa:=λcs nm hn hc hg _ h=>by obtain⟨i,hi,hi1,hi2⟩:=k8 hn h;rw[vO hn (hg.2.2.1 rfl) hi hi1];exact l_ ho hnb hn (λc h=>by have:=hc c h;lia) hi hi2
 mv:=λcs _ _ h=>wT h
end
def ltF(fa:NW)(j i:Nat):Bool:=decide (gt fa j<gt fa i) ||(decide (gt fa j=gt fa i)&&decide (j<i))
def rnk(n:Nat)(fa:NW)(i:Nat):Nat:=((range n).filter λj=>ltF fa j i).length
section
variable{n:Nat}{ps:NT}{r:Nat}{cs fa:NW}{i j:Nat}{fc:Fl}
theorem CV(hn:fa.length=n)(n10:n<=10)(hi:i<n):Bq [Oj .bor fa,.int i]=.ok (.int (rnk n fa i)):=by
 refine az ?_;refine af (ar (v:=Oi (((range n).filter λj=>ltF fa j i).map λj:Nat=>(j:Int))) ?_) ?_
 .refine aQ (bV (by simp[p1,hn]) ()) (by rw[bz];lia) (jU (λj=>ltF fa j i) (λj:Nat=>(j:Int)) n λk hk=>⟨[On .bor fa,Ol i,Ol (0+k)],by simp[tgN,aS,bU],?_,λ_=>by simp⟩);have a1:∀(f:Fl) (k:Nat),k<n->av (Oj f fa) (.int (k:Int))=.ok (.int (gt fa k)):=λf k hk=>by simpa using dD (i:=k) () ()
  have e:HT.lexLt [gt fa k,(k:Int)] [gt fa i,(i:Int)]=ltF fa k i:=by
   simp only[HT.lexLt,ltF];by_cases h:gt fa k=gt fa i
   .lia
   .lia
  rw[<- e];simp[a1 _ k hk,a1 _ i hi,zT,bK]
 exact aM (by simp[p1,rnk]) ()
theorem uI(hi:i<n)(h:ltF fa i j=true):rnk n fa i<rnk n fa j:=
 fA (range n) i (mem_range.mpr hi) (λk _ q=>by
  simp only[ltF,or_eq_true,and_eq_true,decide_eq_true_eq]at *
  lia) h (by simp[ltF])
def mR(hi:i<n):rnk n fa i<n:=by
 have:=fA (q:=λj=>ltF fa j i) (range n) i (mem_range.mpr hi) (λ_ _ _=>rfl) rfl (by simp[ltF])
 rwa [List.filter_eq_self.mpr (λ_ _=>rfl),List.length_range]at this
theorem vU(hi:i<n)(hj:j<n)(e:rnk n fa i=rnk n fa j):i=j:=by
 apply Classical.byContradiction;intro h;have:ltF fa i j=true\/ltF fa j i=true:=by
  simp only[ltF,or_eq_true,and_eq_true,decide_eq_true_eq]
  lia
 rcases this with q|q
 .have:=uI hi q;lia
 .have:=uI hj q;lia
abbrev wrg(n:Nat)(ps:NT)(r:Nat)(cs:NW)(i:Nat):Bool:=decide (gt (CN n cs) i≠dcn n ps r cs i)
def MG(n:Nat)(ps:NT)(r:Nat)(cs:NW):Int:=mT n ps (fs n r) n n (FA n cs)*2 ^ n+Wl (rnk n (FA n cs)) n (wrg n ps r cs)
theorem A6(hf:Fc fc\/fc=.own)(n10:n<=10)(hnb:Hnb ps n)(hl:∀i:Nat,(nbL ps i).length<=1000)(hn:cs.length=n)
  (hM:yz [lea .bor 5 n ps (fs n r) n n,.lst .bor (iL (FA n cs))]=.ok (.int M)):IF [gro .bor n ps r,.lst fc (iL cs)]=.ok (.int (M*2 ^ n+Wl (rnk n (FA n cs)) n (wrg n ps r cs))):=by
 refine az ?_;show Lq [some (gro .bor n ps r),some (.lst fc (iL cs)),none,none,none,none]=_;have fo:=qH (ps:=ps) (r:=r) (Fc.call hf) n10 hn;have co:=lT (ps:=ps) (r:=r) (Fc.call hf) n10 hn;have fb:=Fc.of hf;have fl:(FA n cs).length=n:=by simpa using hn
 refine af (ar (v:=.lst .own (iL (FA n cs))) (by simp[dU,fo,aE])) ?_;refine af (ar (v:=.lst .own (iL (CN n cs))) (by simp[cM,co,aE])) ?_;refine af (ar (v:=.lst .own (iL (((range n).filter (wrg n ps r cs)).map λj:Nat=>(j:Int)))) ?_) ?_
 .refine aQ (bV (by simp[aA,bT]) ()) (by rw[bz];lia) (jU (wrg n ps r cs) (λj:Nat=>(j:Int)) n λk hk=>⟨[some (.lst .bor (iL (CN n cs))),some (gro .bor n ps r),some (.lst fc.N_ (iL cs)),some (.int (0+k))],by simp[tgN,aS,bU],?_,λ_=>by simp⟩);have a1:∀f,av (.lst f (iL (CN n cs))) (.int (k:Int))=.ok (.int (gt (CN n cs) k)):=λf=>by simpa using dD (i:=k) () (by simp;lia)
  have dc:=BR (r:=r) (i:=k) fb n10 hnb hl hn;simp[a1,cN,fb.le,fb.tb,dc,aE]
 refine af (ar (v:=.lst .own (iL (((range n).filter (wrg n ps r cs)).map λi=>(2:Int) ^ rnk n (FA n cs) i))) ?_) ?_
 .rw[show ∀l:List Nat,iL (l.map λi=>(2:Int) ^ rnk n (FA n cs) i)=l.map λi=>PV.int (2 ^ rnk n (FA n cs) i)from λl=>by simp[iL]];have hx:∀l:List Nat,iL (l.map λj:Nat=>(j:Int))=l.map λj:Nat=>PV.int (j:Int):=λl=>by simp[iL]
  refine aQ (by rw[<- hx];simp) (by have:=qG (n:=n) (p:=wrg n ps r cs);rw[length_map];lia) (a6 _ λk hk=>⟨[some (.lst .bor (iL (FA n cs))),some (.int k)],by simp[tgN,aS,bU],?_,by simp,by simp⟩);have hk:=mem_range.mp (mem_filter.mp hk).1;have rl:=mR (fa:=FA n cs) hk;have pw:=lf (e:=rnk n (FA n cs) k) (b:=2) () () ();simp[CV fl n10 hk,pw,aE]
 have pn:=lf (e:=n) (b:=2) () () ();have p2:=m_ n10;have mu:dG (.int M) (.int (2 ^ n))=.ok (.int (M*2 ^ n)):=fH (.inr ⟨by lia,by lia⟩);have sm:=λf=>yP (f:=f) (p:=wrg n ps r cs) n10 λi hi=>mR (fa:=FA n cs) hi;exact aM (by simp[aA,bT,gQ,hM,pn,mu,sm,aE]) ()
def K9(hi:i<cs.length):gt (FA n cs) i=gt cs i / ((n:Int)+1):=by simp[FA,gt,hi]
def K_(hi:i<cs.length):gt (CN n cs) i=gt cs i%((n:Int)+1):=by simp[CN,gt,hi]
theorem nA{m:Int}(hb:0<=b/\b<=m):(a*(m+1)+b) / (m+1)=a/\(a*(m+1)+b)%(m+1)=b:=by
 rw[Int.add_comm];constructor
 .rw[Int.add_mul_ediv_right _ _ (),Int.ediv_eq_zero_of_lt hb.1 ()];lia
 .rw[Int.add_mul_emod_self_right];exact emod_eq_of_lt hb.1 ()
theorem vi(n1:1<=n)(hnb:Hnb ps n)(hn:cs.length=n)(hc:InS (((n:Int)+1)*((n:Int)+1)) cs)(hi:i<n)(hm:ox n ps r cs i≠gt cs i):MG n ps r (cs.set i (ox n ps r cs i))<MG n ps r cs:=by
 have fl:(FA n cs).length=n:=by simpa using hn
 have cl:(CN n cs).length=n:=by simpa using hn
 have np:(0:Int) <(n:Int)+1:=by lia
 have hfa:∀c∈FA n cs,0<=c/\c <=(n:Int):=λc hx=>by obtain⟨x,hm,rfl⟩:=mem_map.mp hx;obtain⟨h1,h2⟩:=hc x hm;have a:=Int.ediv_nonneg h1 (show 0 <=(n:Int)+1 by lia);have b:=Int.ediv_lt_of_lt_mul np h2;exact⟨a,by lia⟩
 have sn:0 <=(lG n ps r cs i).sum:=by
  cases e:lG n ps r cs i with
  |nil=>simp
  |cons a l=>have h:=λx hx=>(oi hn (x:=x) (by rw[e];exact hx)).1;exact Int.le_trans (h a mem_cons_self) (vc h a mem_cons_self)
 have dr:0<=dcn n ps r cs i/\dcn n ps r cs i<=n:=by unfold dcn;lia
 have cr:=vC hn i hi;have inj:∀fa:NW,∀i j,i<n->j<n->rnk n fa i=rnk n fa j->i=j:=λfa i j h1 h2 e=>vU h1 h2 e;have fS:∀v,FA n (cs.set i v)=(FA n cs).set i (v / ((n:Int)+1)):=λv=>by simp[FA]
 have cS:∀v,CN n (cs.set i v)=(CN n cs).set i (v%((n:Int)+1)):=λv=>by simp[CN]
 unfold MG;unfold ox at hm ⊢;by_cases q:gP ps (fs n r) n n (FA n cs) i=gt (FA n cs) i
 .rw[if_pos q]at hm ⊢;rw[q]at hm ⊢;obtain⟨d1,d2⟩:=nA dr;have e1:FA n (cs.set i (gt (FA n cs) i*((n:Int)+1)+dcn n ps r cs i))=FA n cs:=by rw[fS,d1,jR _ _ (),List.set_getElem_self]
  have e2:CN n (cs.set i (gt (FA n cs) i*((n:Int)+1)+dcn n ps r cs i))=(CN n cs).set i (dcn n ps r cs i):=by rw[cS,d2]
  generalize cs.set i (gt (FA n cs) i*((n:Int)+1)+dcn n ps r cs i)=cs' at *;have hw:gt (CN n cs) i ≠ dcn n ps r cs i:=λe=>hm (by
   rw[<- e,K9 (),K_ (),Int.mul_comm];exact Int.mul_ediv_add_emod _ _)
  have dc:∀j:Nat,eld ps r (FA n cs) i≠some (j:Int)->dcn n ps r cs' j=dcn n ps r cs j:=λj hj=>by unfold dcn lG;rw[e1,e2];congr 3;refine List.map_congr_left λx hx=>?_;rw[eX _ (),if_neg λe=>hj ?_];subst e;simpa using(mem_filter.mp hx).2
  have el:∀j:Nat,eld ps r (FA n cs) i=some (j:Int)->gt (FA n cs) j=gt (FA n cs) i-1:=λj h=>by
   unfold eld at h;split at h
   .cases h
   split at h
   .cases h
   rename_i q2
   have a:=(mem_filter.mp (hG (l:=nea ps (FA n cs) i) (by grind)).1).2;rw[Option.some.inj h]at a;simpa using a
  have:=yQ (p:=wrg n ps r cs) (p':=wrg n ps r cs') (inj (FA n cs)) hi (by simp [hw]) (by
   rw[wrg,e2,eX _ (),if_pos rfl,dc i λe=>by grind];simp) λj hj hl=>by
   have ji:j≠i:=λe=>by lia
   rw[wrg,wrg,e2,eX _ (),if_neg ji,dc j λe=>?_];have:=uI (fa:=FA n cs) hj (j:=i) (by simp[ltF,el j e];lia)
   lia
  rw[e1]
  lia
 .rw[if_neg q];obtain⟨d1,d2⟩:=nA cr;rw[fS,d1];have f:=l_ (ot n1) hnb fl hfa hi q;have b:=λfa p=>rC (p:=p) (inj fa) λi hi _=>mR hi;exact lM (Int.pow_pos ()) f (b _ _).2 (b _ _).1
def Dy(h1:1<=n)(h10:n<=10)(hr:r<n)(hnb:Hnb ps n)(hl:∀i,(nbL ps i).length<=1000):Ms (gro .bor n ps r) n (((n:Int)+1)*((n:Int)+1)) true false (ox n ps r) (MG n ps r) where
 me:=λf cs hf hn hc=>by
  have hfa:InS ((n:Int)+1) (FA n cs):=λc hx=>by obtain⟨x,hm,rfl⟩:=mem_map.mp hx;obtain⟨h1,h2⟩:=hc x hm;exact⟨Int.ediv_nonneg h1 (),Int.ediv_lt_of_lt_mul () h2⟩
  have rl:=kh (cc:=5) (st:=n) () h1 () () () (ot (r:=r) h1) (by simp[fs]) hnb hl;have:=A6 (Fc.tb2 hf) h10 hnb (λi=>hl i) hn (sX (.inl (.inl rfl)) (λf k hf hk=>(rl.due f (FA n cs) k hf (by simpa using hn) hfa hk).1) (by simpa using hn) h10 ());simp[aN,this,aE,MG]
 fa:=λcs nm hn hc hg _ h=>by obtain⟨i,hi,hi1,hi2⟩:=k8 hn h;rw[vO hn (hg.2.2.1 rfl) hi hi1];exact vi h1 hnb hn hc hi hi2
 mv:=λcs _ _ h=>wT h
end
def mw(cs:NW):Prop:=∃j i,j<i/\i<cs.length/\gt cs j≠gt cs 0/\gt cs i=gt cs 0
def IsJ(sp:Int)(cs:NW)(J:Nat):Prop:=(¬mw cs/\J=0)\/(mw cs/\1<=J/\J<cs.length/\(gt cs 0+J)%sp∉cs.drop 1/\∀s:Nat,1<=s->s<J->(gt cs 0+s)%sp∈cs.drop 1)
theorem tZ{c:Int}{a b:Nat}(h:(c+a)%sp=(c+b)%sp)(ha:(a:Int)<sp)(hb:(b:Int)<sp):a=b:=by
 have h1:((c+a)-(c+b))%sp=0:=Int.emod_eq_emod_iff_emod_sub_eq_zero.mp h;obtain⟨k,hk⟩:=Int.dvd_of_emod_eq_zero h1;rcases Int.lt_trichotomy k 0 with q|q|q
 .have:sp*k<=sp*(-1):=Int.mul_le_mul_of_nonneg_left () ()
  lia
 .subst q;lia
 .have:sp*1<=sp*k:=Int.mul_le_mul_of_nonneg_left () ()
  lia
section
variable{sp:Int}{cs nm:NW}{n:Nat}
theorem A9(hs:(cs.length:Int)<= sp)(hc:0<=gt cs 0/\gt cs 0<sp)(h:mw cs):∃s:Nat,1<=s/\s<cs.length/\(gt cs 0+s)%sp∉cs.drop 1:=by
 apply Classical.byContradiction;intro no;obtain⟨j,i,h1,h2,h3,e⟩:=h;have nd:((range cs.length).map λs:Nat=>(gt cs 0+s)%sp).Nodup:=by rw[Nodup,List.pairwise_map];refine Pairwise.imp_of_mem (λ{a b} ha hb hab z=>?_) (nodup_range);have ha':=mem_range.mp ha;have hb':=mem_range.mp hb;exact hab (tZ z () ())
 have le:=sK (l':=cs.drop 1) nd λx hx=>by
  obtain⟨s,hs',rfl⟩:=mem_map.mp hx;have hs2:=mem_range.mp hs';by_cases q:s=0
  .subst q;refine db.mpr ⟨i,by lia,h2,?_⟩;rw[e,show gt cs 0+((0:Nat):Int)=gt cs 0 by lia,emod_eq_of_lt hc.1 hc.2]
  .grind
 simp at le
 lia
theorem y6(hfc:Fc fc)(h1:1<=cs.length)(h2:cs.length<=1000)(hs:(cs.length:Int)<= sp)(hc:0<=gt cs 0/\gt cs 0<sp):∃J:Nat,IA [Oj fc cs,.int sp]=.ok (.int J)/\IsJ sp cs J:=by
 have g0:av (Oj fc cs) (.int 0)=.ok (.int (gt cs 0)):=dD () ();have bg:∃b:Nat,Bl [Oj fc cs]=.ok (.int b)/\b<=cs.length/\(gt cs 0∈cs.drop b↔mw cs):=by
  suffices hh:lV (Fa [On fc cs,none]) (λv=>∃b:Nat,v=.int b/\b<=cs.length/\(gt cs 0∈cs.drop b↔mw cs)) by obtain⟨v,h3,b,rfl,h4⟩:=hh;exact⟨b,az h3,h4⟩
  refine fk (ar (v:=.int 1) ()) ?_;refine nE (Fin:=λe=>∃b:Nat,e=[On fc cs,Ol b]/\b<=cs.length/\(∀i,i<b->gt cs i=gt cs 0)/\(b<cs.length->gt cs b≠gt cs 0)) (λm e=>∃b:Nat,e=[On fc cs,Ol b]/\m=cs.length-b/\b<=cs.length/\∀i,i<b->gt cs i=gt cs 0) (cs.length-1) () ⟨1,rfl,rfl,h1,λi hi=>by lia⟩ (λm e hP=>?_) λe hF=>?_
  .obtain⟨b,rfl,rfl,b2,al⟩:=hP;by_cases q:b<cs.length
   .have gb:av (Oj fc cs) (.int (b:Int))=.ok (.int (gt cs b)):=by simpa using dD (i:=b) () ()
    by_cases q2:gt cs b=gt cs 0
    .refine .inr ⟨by simp[p1,aY,hfc.le,g0,gb,q2];lia,cs.length-(b+1),[On fc cs,Ol (b+1:Nat)],by lia,.inl (ar ()),b+1,rfl,rfl,by lia,λi hi=>?_⟩;by_cases z:i=b
     .rw[z];exact q2
     .exact al i ()
    .exact .inl ⟨by simp[p1,aY,hfc.le,g0,gb,q2],b,rfl,b2,al,λ_=>q2⟩
   .exact .inl ⟨by simp[p1,aY];lia,b,rfl,b2,al,λz=>absurd z q⟩
  .obtain⟨b,rfl,hb,al,nx⟩:=hF;refine gU (f9 rfl) ⟨b,rfl,hb,?_⟩;rw[db];constructor
   .rintro⟨i,h1,h2,e⟩;have hb:=nx ();refine⟨b,i,?_,h2,hb,e⟩;rcases Nat.lt_or_eq_of_le h1 with q|q
    .exact q
    .lia
   .rintro⟨j,i,h1,h2,h3,e⟩;have:¬j<b:=λz=>h3 (al j z);exact⟨i,by lia,h2,e⟩
 obtain⟨b,e1,bl,B⟩:=bg
 suffices hh:lV (Ln [On fc cs,Ol sp,none]) (λv=>∃J:Nat,v=.int J/\IsJ sp cs J) by obtain⟨v,h3,J,rfl,h4⟩:=hh;exact⟨J,az h3,h4⟩
 have cb:im (iL cs) (some (b:Int)) none=iL (cs.drop b):=pU cs b bl;have c1:im (iL cs) (some 1) none=iL (cs.drop 1):=pU cs 1 h1;have sp0:0<sp:=by lia
 by_cases st:mw cs
 .have hm:=B.mpr st;refine fk (bw (by simp[hfc.le,hfc.tb,g0,e1,aE,cb];exact hm) aB) ?_;refine fk (ar (v:=.int 1) ()) ?_;obtain⟨s0,f1,f2,f3⟩:=A9 hs hc st;refine nE (Fin:=λe=>∃J:Nat,e=[On fc cs,Ol sp,Ol J]/\IsJ sp cs J) (λm e=>∃s:Nat,e=[On fc cs,Ol sp,Ol s]/\m=s0-s/\1<=s/\s<=s0/\∀t:Nat,1<=t->t<s->(gt cs 0+t)%sp∈cs.drop 1) (s0-1) () ⟨1,rfl,rfl,by lia,f1,λt a b=>by lia⟩ (λm e hP=>?_) λe hF=>?_
  .obtain⟨s,rfl,rfl,b1,b2,al⟩:=hP;have tst:aw (mOp pIn (mOp fm (mOp aP (mOp av (ac 0) (Oh 0)) (ac 2)) (ac 1)) (dl (ac 0) (dZ (Oh 1)) cq)) [On fc cs,Ol sp,Ol s]=.ok (decide ((gt cs 0+s)%sp∈cs.drop 1)):=by simp[hfc.le,g0,c1,cJ sp0]
   by_cases q:(gt cs 0+s)%sp∈cs.drop 1
   .have ns:s≠s0:=λz=>f3 ();refine .inr ⟨by lia,s0-(s+1),[On fc cs,Ol sp,Ol (s+1:Nat)],by lia,.inl (ar ()),s+1,rfl,rfl,by lia,by lia,λt t1 t2=>?_⟩;by_cases z:t=s
    .rw[z];exact q
    .exact al t t1 ()
   .exact .inl ⟨by lia,s,rfl,.inr ⟨st,b1,by lia,q,al⟩⟩
  .obtain⟨J,rfl,hJ⟩:=hF;exact gU (f9 rfl) ⟨J,rfl,hJ⟩
 .have hm:gt cs 0∉cs.drop b:=λz=>st (B.mp z);exact zq (by simp[hfc.le,hfc.tb,g0,e1,aE,cb];exact hm) (gU (aM ()) ⟨0,rfl,.inl ⟨st,rfl⟩⟩)
def bc(cs:NW):Nat->Int
 |0=>0
 |j+1=>bc cs j+if gt cs j=gt cs (j+1)then 0 else 1
def bS(cs:NW):Nat->Int
 |0=>0
 |m+1=>bS cs m+bc cs m
theorem vD{c:Int}:∀m,((((range (m+1)).filter λi=>decide (b8 sp cs i≠gt cs i)).filter λi=>decide (i≠0)).map λi:Nat=>c-i).sum=bS cs (m+1)+(c-1-m)*bc cs m
 |0=>by simp[bS,bc]
 |m+1=>by
  have ih:=vD (c:=c) m;have d:b8 sp cs (m+1)=gt cs m:=rfl;rw[List.range_succ,List.filter_append,List.filter_append,map_append,List.sum_append,ih];have e:c-1-(m:Int)=(c-1-((m+1:Nat):Int))+1:=by lia
  simp only[bS,bc];by_cases q:gt cs m=gt cs (m+1)
  .grind
  .grind
abbrev tP(sp:Int)(cs nm:NW):NW:=stR cs.length (b8 sp) cs nm
def Ci(hi:i+1<cs.length):gt (tP sp cs nm) (i+1)=if nm.contains ((i+1:Nat):Int)then gt cs i else gt cs (i+1):=gL hi
theorem wU{e:Int}(h0:gt (tP sp cs nm) 0=gt cs 0/\e=0\/e=1):∀j,j<cs.length->bc (tP sp cs nm) j<=bc cs j+e/\(gt (tP sp cs nm) j≠gt cs j->bc (tP sp cs nm) j+1<=bc cs j+e)
 |0,_=>by
  simp only[bc]
  lia
 |j+1,hj=>by
  have ih:=wU h0 j ();have g:=Ci (sp:=sp) (nm:=nm) hj;simp only[bc];rw[g];by_cases q:nm.contains ((j+1:Nat):Int)=true
  .lia
  .lia
theorem rj{e:Int}(h0:gt (tP sp cs nm) 0=gt cs 0/\e=0\/e=1):∀m,m<cs.length->bS (tP sp cs nm) (m+1)<= bS cs (m+1)+m*e/\(e=0->(∃i,i<=m/\gt (tP sp cs nm) i≠gt cs i)->bS (tP sp cs nm) (m+1)<bS cs (m+1))
 |0,_=>by
  refine⟨by simp[bS,bc],λz ⟨i,hi,hd⟩=>?_⟩;rw[show i=0 by lia]at hd
  lia
 |m+1,hm=>by
  obtain⟨i1,i2⟩:=rj h0 m ();obtain⟨b1,b2⟩:=wU h0 (m+1) hm;rw[bS,show bS cs (m+1+1)=bS cs (m+1)+bc cs (m+1)from rfl];have:((m+1:Nat):Int)*e=m*e+e:=by lia
  refine⟨by lia,λz ⟨i,hi,hd⟩=>?_⟩;subst z;by_cases q:i=m+1
  .lia
  .have:=i2 rfl ⟨i,by lia,hd⟩
   lia
theorem oy{v:Int}(h:v ∈(tP sp cs nm).drop 1):v∈cs.drop 1\/v=gt cs 0:=by
 obtain⟨i,h1,h2,e⟩:=db.mp h;simp[stR]at h2;obtain⟨j,rfl⟩:∃j,i=j+1:=⟨i-1,by lia⟩
 rw[Ci h2]at e;split at e
 .by_cases q:j=0
  .lia
  .exact .inl (db.mpr ⟨j,by lia,by lia,e⟩)
 .exact .inl (db.mpr ⟨j+1,by lia,h2,e⟩)
theorem Jj(hs:(cs.length:Int)<= sp)(hc:0<=gt cs 0/\gt cs 0<sp)(h0:gt (tP sp cs nm) 0=gt cs 0)(hJ:IsJ sp cs J)(hJ':IsJ sp (tP sp cs nm) J'):J'<=J:=by
 rcases hJ' with⟨_,rfl⟩ |⟨st',j1',_,_,j4'⟩
 .lia
 rcases hJ with⟨st,rfl⟩ |⟨st,j1,j2,j3,j4⟩
 .exfalso;obtain⟨j,i,h1,h2,h3,e⟩:=st';simp[stR]at h2;rw[h0]at h3 e;have ini:∀i j,j<i->i<cs.length->gt cs i=gt cs 0->gt cs j=gt cs 0:=λi j a b c=>Classical.byContradiction λz=>st ⟨j,i,a,b,z,c⟩;have cj:∀m,m<i->(∀l,l<=m->gt cs l=gt cs 0)->gt (tP sp cs nm) m=gt cs 0:=λm hm al=>by
   cases m with
   |zero=>exact h0
   |succ m=>
    rw[Ci ()];split
    .exact al m ()
    .simp_all
  obtain⟨p,rfl⟩:∃p,i=p+1:=⟨i-1,by lia⟩
  rw[Ci h2]at e;refine h3 (cj j h1 λl hl=>?_);split at e
  .grind
  .grind
 .apply Classical.byContradiction;intro no;have hm:=j4' J j1 ();rw[h0]at hm;rcases oy hm with z|z
  .exact j3 z
  .have z':(gt cs 0+J)%sp=(gt cs 0+((0:Nat):Int))%sp:=by rw[z,show gt cs 0+((0:Nat):Int)=gt cs 0 by lia,emod_eq_of_lt hc.1 hc.2]
   have:=tZ z' () ()
   lia
theorem Ji(n2:2<=cs.length)(hl:gt cs 0=gt cs (cs.length-1))(h0:gt (tP sp cs nm) 0=(gt cs 0+1)%sp)(hst:mw cs)(hJ:IsJ sp cs J)(hJ':IsJ sp (tP sp cs nm) J'):J'+1<=J:=by
 have sub:∀v,v ∈(tP sp cs nm).drop 1->v∈cs.drop 1:=λv hv=>by
  rcases oy hv with z|z
  .exact z
  .exact db.mpr ⟨cs.length-1,by lia,by lia,by rw[z,hl]⟩
 rcases hJ with⟨st,_⟩ |⟨_,j1,j2,j3,j4⟩
 .exact absurd hst st
 rcases hJ' with⟨_,rfl⟩ |⟨st',j1',_,_,j4'⟩
 .lia
 apply Classical.byContradiction;intro no;refine j3 ?_;by_cases q:J=1
 .subst q;obtain⟨j,i,h1,h2,h3,e⟩:=st';refine sub _ (db.mpr ⟨i,by lia,h2,?_⟩);rw[e,h0];rfl
 .have hm:=sub _ (j4' (J-1) () ());rw[h0,Int.emod_add_emod]at hm
  rwa [show gt cs 0+(J:Int)=gt cs 0+1+((J-1:Nat):Int) by lia]
def Jh(h:IsJ sp cs J)(h':IsJ sp cs J'):J=J':=by
 rcases h with⟨s,rfl⟩ |⟨s,a1,a2,a3,a4⟩<;>rcases h' with⟨s',rfl⟩ |⟨s',b1,b2,b3,b4⟩
 .rfl
 .exact absurd s' s
 .exact absurd s s'
 .rcases Nat.lt_trichotomy J J' with q|q|q
  .exact absurd (b4 J a1 q) a3
  .exact q
  .exact absurd (a4 J' b1 q) b3
theorem uN(hs:(cs.length:Int)<= sp)(n2:2<=cs.length)(hc:0<=gt cs 0/\gt cs 0<sp)(hJ:IsJ sp cs J)(hJ':IsJ sp (tP sp cs nm) J')(hw:∃k,k+1<cs.length/\gt cs k≠gt cs (k+1))(hne:tP sp cs nm≠cs) :
  (cs.length:Int)*J'+bS (tP sp cs nm) cs.length<cs.length*J+bS cs cs.length:=by
 have g0:gt (tP sp cs nm) 0=if nm.contains ((0:Nat):Int)then b8 sp cs 0 else gt cs 0:=gL ()
 obtain⟨i,hi,hi1,hi2⟩:=k8 rfl hne;have hi3:gt (tP sp cs nm) i≠gt cs i:=by rw[tP,gL hi,if_pos hi1];exact hi2
 obtain⟨m,hm⟩:∃m,cs.length=m+1:=⟨cs.length-1,by lia⟩
 by_cases h0:gt (tP sp cs nm) 0=gt cs 0
 .have w:=(rj (.inl ⟨h0,rfl⟩) m ()).2 rfl ⟨i,by lia,hi3⟩;have jm:(cs.length:Int)*J'<=cs.length*J:=Int.mul_le_mul_of_nonneg_left (by have:=Jj hs hc h0 hJ hJ';lia) ();rw[<- hm]at w
  lia
 .have hn0:nm.contains ((0:Nat):Int)=true:=Classical.byContradiction λz=>h0 ();rw[if_pos hn0]at g0;unfold b8 at g0;by_cases hl:gt cs 0=gt cs (cs.length-1)
  .rw[if_pos hl]at g0;have hst:mw cs:=by
    obtain⟨k,k1,k2⟩:=hw;by_cases q:gt cs k=gt cs 0
    .have q2:gt cs (k+1)≠ gt cs 0:=λz=>k2 (q.trans z.symm);have:k+1≠cs.length-1:=λz=>q2 ();exact⟨k+1,cs.length-1,by lia,by lia,q2,hl.symm⟩
    .exact⟨k,cs.length-1,by lia,by lia,q,hl.symm⟩
   have j:=Ji n2 hl g0 hst hJ hJ';have w:=(rj (sp:=sp) (cs:=cs) (nm:=nm) (.inr rfl) m ()).1;have jm:(cs.length:Int)*(J'+1)<= cs.length*J:=Int.mul_le_mul_of_nonneg_left () ();rw[Int.mul_add]at jm;rw[<- hm]at w
   lia
  .lia
theorem JL(n2:2<=n)(hs:(n:Int)<= sp)(hn:cs.length=n)(hc:0<=gt cs 0/\gt cs 0<sp)(h:caR n true (b8 sp) cs=false):∃k,k+1<n/\gt cs k≠gt cs (k+1):=by
 apply Classical.byContradiction;intro no;have al:∀i,i<n->gt cs i=gt cs 0:=λi=>by
  induction i with
  |zero=>intro _;rfl
  |succ i ih=>intro hi;rw[<- ih ()];exact Classical.byContradiction λz=>no ⟨i,hi,λe=>z e.symm⟩
 have d0:b8 sp cs 0≠gt cs 0:=by
  unfold b8;rw[if_pos rfl,if_pos (al _ ()).symm];by_cases q:gt cs 0+1<sp
  .rw[emod_eq_of_lt () q];lia
  .rw[show gt cs 0+1=sp by lia,Int.emod_self];lia
 obtain⟨m,rfl⟩:∃m,n=m+1:=⟨n-1,by lia⟩
 have e:mvR (m+1) (b8 sp) cs=[0]:=by
  unfold mvR;rw[List.range_succ_eq_map,filter_cons,if_pos (),List.filter_eq_nil_iff.mpr]
  .rfl
  intro x hx;obtain⟨i,hi,rfl⟩:=mem_map.mp hx;have hi:=mem_range.mp hi;have:b8 sp cs (i+1)=gt cs i:=rfl;simp[this,al i (),al (i+1) ()]
 simp[caR,e]at h
theorem Ap(n2:2<=n)(n20:n<=20)(hs:(n:Int)<= sp):∃M,Ms (kg .bor n sp) n sp false true (b8 sp) M/\∀cs:NW,cs.length=n->InS sp cs->∃J:Nat,IsJ sp cs J/\M cs=n*J+bS cs n:=by
 have r:=vV (sp:=sp) () n20 ();have ok:∀cs:NW,cs.length=n->InS sp cs->∃m:Int,(∀f,Fc f\/f=.own->Ba [kg .bor n sp,.lst f (iL cs)]=.ok (.int m))/\∃J,IsJ sp cs J/\m=n*J+bS cs n:=λcs hn hc=>by
  have hc0:=hc _ (dw (i:=0) ());have so:=λf hf=>y6 (fc:=f) hf () () () hc0;obtain⟨J,_,hJ⟩:=so .bor (.inl rfl);refine⟨n*J+bS cs n,λf hf=>az ?_,J,hJ,rfl⟩;obtain⟨J',e1,hJ'⟩:=so _ (Fc.call hf);rw[Jh hJ' hJ]at e1;show Lp [some (kg .bor n sp),some (.lst f (iL cs)),none]=_;have mo:=g_ r (.inl (Fc.call hf)) hn hc;have ml:=kB (n:=n) (D:=b8 sp) (cs:=cs);have ws:((((range n).filter λi=>decide (b8 sp cs i≠gt cs i)).filter λi=>decide (i≠0)).map λi:Nat=>(n:Int)-i).sum=bS cs n:=by
   obtain⟨m,rfl⟩:∃m,n=m+1:=⟨n-1,by lia⟩
   have:=vD (sp:=sp) (cs:=cs) (c:=((m+1:Nat):Int)) m;rw[show((m+1:Nat):Int)-1-m=0 by lia,Int.zero_mul,Int.add_zero]at this;exact this
  have sm:∀g:Fl,ky (.lst g (iL ((((range n).filter λi=>decide (b8 sp cs i≠gt cs i)).filter λi=>decide (i≠0)).map λi:Nat=>(n:Int)-i)))=.ok (.int (bS cs n)):=λg=>by
   rw[<- ws];refine mP ?_ λx hx=>?_
   .rw[length_map];refine Nat.le_trans (length_filter_le _ _) (Nat.le_trans (length_filter_le _ _) (by simp;lia))
   .obtain⟨i,hi,rfl⟩:=mem_map.mp hx;have:=mem_range.mp (mem_filter.mp (mem_filter.mp hi).1).1
    lia
  refine af (ar (v:=.lst .own (iL ((((range n).filter λi=>decide (b8 sp cs i≠gt cs i)).filter λi=>decide (i≠0)).map λi:Nat=>(n:Int)-i))) ?_) ?_
  .refine aQ (xs:=iL (mvR n (b8 sp) cs)) (by simp[r.mv,mo,aE]) (by rw[bR];lia) ?_;unfold mvR;rw[show ∀l:List Nat,iL (l.map λi:Nat=>(i:Int))=l.map λi:Nat=>PV.int i from λl=>by simp[iL],show ∀l:List Nat,iL (l.map λi:Nat=>(n:Int)-i)=l.map λi:Nat=>PV.int ((n:Int)-i)from λl=>by simp[iL]];exact bP _ λx _=>⟨[some (kg .bor n sp),some (.int x)],by simp[tgN,aS,bU],by simp,λ_=>by simp[aA,bT]⟩
  have mu:dG (.int (n:Int)) (.int (J:Int))=.ok (.int (n*J)):=fH (.inl ⟨by lia,by lia⟩);generalize List.map (λi:Nat=>(n:Int)-i) _=WS at *;exact aM (by simp[aA,bT,e1,aE,mu,sm]) ()
 obtain⟨M,hM⟩:∃M:NW->Int,∀cs:NW,cs.length=n->InS sp cs->(∀f,Fc f\/f=.own->Ba [kg .bor n sp,.lst f (iL cs)]=.ok (.int (M cs)))/\∃J,IsJ sp cs J/\M cs=n*J+bS cs n:=⟨λcs=>Classical.epsilon λm=>(∀f,Fc f\/f=.own->Ba [kg .bor n sp,.lst f (iL cs)]=.ok (.int m))/\∃J,IsJ sp cs J/\m=n*J+bS cs n,λcs hn hc=>Classical.epsilon_spec (ok cs hn hc)⟩
 refine⟨M,⟨λf cs hf hn hc=>?_,λcs nm hn hc hg h hne=>?_,λcs hn hc h e=>?_⟩,λcs hn hc=>(hM cs hn hc).2⟩
 .simp[aN,(hM cs hn hc).1 _ (Fc.tb2 hf),aE]
 .obtain⟨J,hJ,e⟩:=(hM cs hn hc).2;obtain⟨s1,s2⟩:=y8 r hn hc nm;obtain⟨J',hJ',e'⟩:=(hM _ s1 s2).2;rw[e,e'];have hc0:=hc _ (dw (i:=0) ());have hw:=JL n2 hs hn hc0 h;subst hn;exact uN hs n2 hc0 hJ hJ' hw hne
 .obtain⟨k,k1,k2⟩:=JL n2 hs hn (hc _ (dw ())) h;have:((k+1:Nat):Int)∈ mvR n (b8 sp) cs:=mem_map.mpr ⟨k+1,mem_filter.mpr ⟨mem_range.mpr k1,by simpa using(show b8 sp cs (k+1)≠ gt cs (k+1)from k2)⟩,rfl⟩;rw[e]at this;exact nomatch this
end
structure Mx(o:PV)(n:Nat)(sp:Int)(al ip:Bool)(D:NW->Nat->Int)(M:NW->Int):Prop where
 ms:Ms o n sp al ip D M
 bd:∀cs,cs.length=n->InS sp cs->0<=M cs/\M cs<10 ^ 200
 st:∀cs nm,cs.length=n->InS sp cs->caR n ip D cs=true->caR n ip D (stR n D cs nm)=true
theorem vL{D:NW->Nat->Int}(hn:cs.length=n)(nm:NW)(h:caR n false D cs=true):caR n false D (stR n D cs nm)=true:=by
 have e:stR n D cs nm=cs:=Classical.byContradiction λz=>by obtain⟨i,hi,_,hd⟩:=k8 hn z;have:(i:Int)∈ mvR n D cs:=mem_map.mpr ⟨i,mem_filter.mpr ⟨mem_range.mpr hi,by lia⟩,rfl⟩;simp[caR]at h;rw[h]at this;cases this
 rw[e];exact h
theorem Af{r f:Nat->Nat}(hb:0<b)(hr:∀m,(r m:Int)<b)(hf:∀m,(f m:Int)<b):∀t,0<=num b r f t/\num b r f t<b ^ (2*t)
 |0=>by simp[num]
 |t+1=>by
  obtain⟨h1,h2⟩:=Af hb hr hf t;have e:b ^ (2*(t+1))=b ^ (2*t)*b*b:=by grind
  have a:=lM (r:=0) hb h2 (hr t) ();have c:=lM (r:=0) hb a (hf t) ();have p1:=Int.mul_nonneg h1 (show 0<=b by lia);have p2:=Int.mul_nonneg (show 0<=num b r f t*b+r t by lia) (show 0<=b by lia);simp only[num];rw[e];simp at a c;exact⟨by lia,c⟩
theorem EW{A x:Nat->Int}:0<=mL n T A x/\mL n T A x <((n:Int)+1) ^ (2*T):=Af () (λm=>by have:=qG (n:=n) (p:=λi=>decide (x i=m)&&decide ((m:Int)<A i));unfold xD;lia) (λm=>by have:=qG (n:=n) (p:=λi=>decide ((m:Int)<x i)&&decide (A i=m));unfold yx;lia) T
section
variable{n:Nat}{sp:Int}{cs nm:NW}
theorem Fu:∀m,(0<=bc cs m/\bc cs m<=m)/\0<=bS cs m/\2*bS cs m<=m*((m:Int)-1)
 |0=>by simp[bc,bS]
 |m+1=>by
  obtain⟨⟨h1,h2⟩,h3,h4⟩:=Fu m;have e:((m+1:Nat):Int)*(((m+1:Nat):Int)-1)=m*((m:Int)-1)+2*m:=by lia
  simp only[bc,bS];refine⟨by lia,by lia,?_⟩;rw[e];lia
theorem vM(h:0<=b/\b<sp)(h2:2<=sp):(b+1)%sp≠b/\0 <=(b+1)%sp/\(b+1)%sp<sp:=by
 refine⟨?_,emod_nonneg _ (),emod_lt_of_pos _ ()⟩;by_cases q:b+1<sp
 .rw[emod_eq_of_lt () q];lia
 .rw[show b+1=sp by lia,Int.emod_self];lia
structure Cs(n:Nat)(sp:Int)(cs:NW)(p:Nat)(a b:Int):Prop where
 len:cs.length=n
 pn:p<n
 lo:∀i,i<p->gt cs i=a
 hi:∀i,p<=i->i<n->gt cs i=b
 ra:0<=a/\a<sp
 rb:0<=b/\b<sp
 ne:p≠0->a≠b
theorem Cs.due{p:Nat}(h:Cs n sp cs p a b)(h2:2<=sp):∀i<n,(b8 sp cs i≠gt cs i↔i=p):=λi hi=>by
 have hl:=h.len;have hp:=h.pn;unfold b8;by_cases h0:i=0
 .subst h0;by_cases p0:p=0
  .subst p0;have g0:=h.hi 0 () ();have gl:=h.hi (cs.length-1) () ();rw[if_pos (g0.trans gl.symm),g0];simp[(vM h.rb h2).1]
  .have g0:=h.lo 0 ();have gl:=h.hi (cs.length-1) () ();have:=h.ne p0
   lia
 .rw[if_neg h0];rcases Nat.lt_trichotomy i p with q|q|q
  .rw[h.lo i q,h.lo (i-1) ()];simp;lia
  .subst q;rw[h.lo (i-1) (),h.hi i () hi];simp[h.ne h0]
  .rw[h.hi i () hi,h.hi (i-1) () ()];simp;lia
theorem Cs.next{p:Nat}(h:Cs n sp cs p a b)(hn:2<=n)(h2:2<=sp):∃a' b',Cs n sp (cs.set p (b8 sp cs p)) ((p+1)%n) a' b':=by
 have hl:=h.len;have hp:=h.pn;have gs:∀i,gt (cs.set p (b8 sp cs p)) i=if i=p then b8 sp cs p else gt cs i:=λi=>eX _ () i
 by_cases p0:p=0
 .subst p0;have g0:=h.hi 0 () ();have gl:=h.hi (cs.length-1) () ();have hd:b8 sp cs 0=(b+1)%sp:=by unfold b8;rw[if_pos rfl,if_pos (g0.trans gl.symm),g0]
  obtain⟨s1,s2⟩:=vM h.rb h2;rw[show(0+1)%n=1 from Nat.mod_eq_of_lt ()];refine⟨(b+1)%sp,b,⟨by simp[hl],by lia,λi hi=>?_,λi h1 hi=>?_,s2,h.rb,λ_=>s1⟩⟩
  .simp_all
  .rw[gs,if_neg ()];exact h.hi i () hi
 .have hd:b8 sp cs p=a:=by unfold b8;rw[if_neg p0];exact h.lo _ ()
  by_cases q:p+1<n
  .rw[Nat.mod_eq_of_lt q];refine⟨a,b,⟨by simp[hl],q,λi hi=>?_,λi h1 hi=>?_,h.ra,h.rb,λ_=>h.ne p0⟩⟩
   .rw[gs,hd];split
    .rfl
    .exact h.lo i ()
   .rw[gs,if_neg ()];exact h.hi i () hi
  .rw[show p+1=n by lia,Nat.mod_self];refine⟨a,a,⟨by simp[hl],by lia,λi hi=>by lia,λi h1 hi=>?_,h.ra,h.ra,λz=>absurd rfl z⟩⟩;rw[gs,hd];split
   .rfl
   .exact h.lo i ()
theorem vn{p:Nat}{f:Nat->Bool}(hp:p<n)(h:∀i<n,(f i=true↔i=p)):(range n).filter f=[p]:=by
 have e:(range n).filter f=(range n).filter λi=>i==p:=filter_congr λi hi=>by grind
 rw[e];have hd:(range n).Nodup:=nodup_range;have hm:p∈range n:=mem_range.mpr hp;have:(range n).filter (λi=>i==p)=replicate ((range n).count p) p:=by rw[List.filter_beq]
 rw[this,Nodup.count hd,if_pos hm];rfl
theorem Ll(hn:cs.length=n)(n2:2<=n)(hc:InS sp cs)(h:caR n true (b8 sp) cs=true):∃p a b,Cs n sp cs p a b:=by
 simp only[caR,mvR,length_map,decide_eq_true_eq]at h;obtain⟨p,hp⟩:=List.length_eq_one_iff.mp h;have hm:∀i,i<n->(b8 sp cs i≠gt cs i↔i=p):=λi hi=>by
  have:i ∈(range n).filter (λi=>decide (b8 sp cs i≠gt cs i))↔ i=p:=by rw[hp];simp
  rw[<- this,mem_filter];simp[hi]
 have pn:p<n:=by
  have:p ∈(range n).filter (λi=>decide (b8 sp cs i≠gt cs i)):=by rw[hp];simp
  exact mem_range.mp (mem_filter.mp this).1
 have sm:∀i,i+1<n->i+1≠p->gt cs (i+1)=gt cs i:=λi hi hne=>by exact Classical.byContradiction λz=>hne ((hm (i+1) hi).mp λe=>z (e.symm.trans rfl))
 have lo:∀i,i<p->gt cs i=gt cs 0:=λi=>by
  induction i with
  |zero=>intro _;rfl
  |succ i ih=>intro hi;rw[sm i () ()];exact ih ()
 have hi:∀i,p<=i->i<n->gt cs i=gt cs p:=λi=>by
  induction i with
  |zero=>intro h1 _;rw[show p=0 by lia]
  |succ i ih=>
   intro h1 h2;by_cases e:i+1=p
   .rw[e]
   .rw[sm i h2 e];exact ih () ()
 refine⟨p,gt cs 0,gt cs p,hn,pn,lo,hi,hc _ (dw ()),hc _ (dw ()),λp0 e=>?_⟩;have:=(hm p pn).mpr rfl;obtain⟨q,rfl⟩:∃q,p=q+1:=⟨p-1,by lia⟩
 refine this ?_;rw[show b8 sp cs (q+1)=gt cs q from rfl,lo q (),e]
def Ei{p:Nat}(h:Cs n sp cs p a b)(s2:2<=sp):caR n true (b8 sp) cs=true:=by simp only[caR,mvR];rw[vn h.pn λi hi=>by simpa using h.due s2 i hi];rfl
theorem uM(hn:cs.length=n)(n2:2<=n)(s2:2<=sp)(hc:InS sp cs)(nm:NW)(h:caR n true (b8 sp) cs=true):caR n true (b8 sp) (stR n (b8 sp) cs nm)=true:=by
 obtain⟨p,a,b,C⟩:=Ll hn n2 hc h;have e:stR n (b8 sp) cs nm=if nm.contains (p:Int)then cs.set p (b8 sp cs p)else cs:=by
  refine ext_getElem (by split<;>simp[stR,hn]) λi h1 h2=>?_;have hi:i<n:=by grind
  have d:=C.due s2 i hi;rw[<- jR _ _ h1,<- jR _ _ h2,gL hi];by_cases q:i=p
  .subst q;split
   .rw[eX _ (),if_pos rfl]
   .rfl
  .have de:b8 sp cs i=gt cs i:=Classical.byContradiction λz=>q (d.mp z);rw[de,ite_self];split
   .rw[eX _ (by have:=C.pn;lia),if_neg q]
   .rfl
 rw[e];split
 .obtain⟨a',b',C'⟩:=C.next n2 s2;exact Ei C' s2
 .exact h
theorem Dv(n2:2<=n)(n20:n<=20)(hs:(n:Int)<= sp):∃M,Mx (kg .bor n sp) n sp false true (b8 sp) M:=by
 obtain⟨M,h,hM⟩:=Ap n2 n20 hs;refine⟨M,h,λcs hn hc=>?_,λcs nm hn hc h=>uM hn n2 () hc nm h⟩;obtain⟨J,hJ,e⟩:=hM cs hn hc;obtain⟨_,b1,b2⟩:=Fu (cs:=cs) n;have j:J<=n-1:=by rcases hJ with⟨_,rfl⟩ |⟨_,_,q,_⟩<;>lia
 have m1:(0:Int)<= n*J:=Int.mul_nonneg () ();have m2:(n:Int)*J<=20*20:=Int.mul_le_mul () () () ();have m3:(n:Int)*((n:Int)-1)<= 20*20:=Int.mul_le_mul () () () ()
 lia
end
theorem Kl{a b:Nat}(h:x <((a:Int)+1) ^ b)(ha:a<=10)(hb:b<=150):x<10 ^ 190:=by
 have:(a+1) ^ b<=11 ^ 150:=Nat.le_trans (Nat.pow_le_pow_left () _) (Nat.pow_le_pow_right () hb);have e:(((a+1) ^ b:Nat):Int)=((a:Int)+1) ^ b:=by simp
 lia
section
variable{n r:Nat}{ps:NT}{os:List (N1)}{st:Int}
theorem Aj(h1:1<=n)(n10:n<=10)(rg:Rgs ps n)(hl:∀i,(nbL ps i).length<=1000):∃M,Mx (pnt .bor n ps) n n false false (lR ps) M:=
 ⟨_,Aq h1 n10 rg hl,λcs hn hc=>by
  have:=rC (n:=n) (K:=n) (rk:=λi=>n-1-i) (p:=mvB (lR ps) cs) (λi j h1 h2 e=>by lia) (λi hi _=>by lia);have:=m_ n10
  lia,λcs nm hn _ h=>vL hn nm h⟩
theorem Ak{ps:NW}(T:Tree ps)(hl:ps.length<=9):∃M,Mx (cnt .bor ps) (ps.length+1) ((ps.length:Int)+2) false false (qM (ps.length+1) ps) M:=
 ⟨_,As T hl,λcs hn hc=>by
  have:=rC (K:=ps.length+1) (rk:=id) (p:=mvB (qM (ps.length+1) ps) cs) (λi j h1 h2 e=>e) (λi hi _=>hi);have:=m_ (n:=ps.length+1) ()
  lia,λcs nm hn _ h=>vL hn nm h⟩
theorem sM(hcc:cc=5\/cc=6)(h1:1<=n)(n10:n<=10)(hst:0<st)(hT:T<=75)(ho:OkS T os)(hol:os.length=n)(hnb:Hnb ps n)(hl:∀i,(nbL ps i).length<=1000):∃M,Mx (lea .bor cc n ps os st T) n ((T:Int)+1) true false (gP ps os st T) M:=
 ⟨_,Ar hcc h1 n10 hst () ho hol hnb hl,λcs hn hc=>by
  have:=EW (n:=n) (T:=T) (A:=gP ps os st T cs) (x:=gt cs);exact⟨this.1,Int.lt_trans (Kl this.2 n10 ()) ()⟩,λcs nm hn _ h=>vL hn nm h⟩
theorem Dw(h1:1<=n)(h10:n<=10)(hr:r<n)(hnb:Hnb ps n)(hl:∀i,(nbL ps i).length<=1000):∃M,Mx (gro .bor n ps r) n (((n:Int)+1)*((n:Int)+1)) true false (ox n ps r) M:=by
 refine⟨_,Dy h1 h10 hr hnb hl,λcs hn hc=>?_,λcs nm hn _ h=>vL hn nm h⟩;have p2:=m_ h10;obtain⟨a1,a2⟩:=EW (T:=n);obtain⟨b1,b2⟩:=rC (rk:=rnk n (FA n cs)) (p:=wrg n ps r cs) (λi j h1 h2 e=>vU h1 h2 e) (λi hi _=>mR hi);have a2:=Kl a2 h10 ();unfold MG mT;generalize mL n n (gP ps (fs n r) n n (FA n cs)) (gt (FA n cs))=m at *;generalize(2:Int) ^ n=PN at *;have c:m*PN<=10 ^ 190*1024:=Int.mul_le_mul () p2.2 () ();have d:=Int.mul_nonneg a1 (show 0<=PN by lia)
 lia
end
def tri:Nat->Nat
 |0=>0
 |k+1=>tri k+k
def vY{α:Type}(y:α)(xs:List α):PR.jC xs.length y xs=xs++[y]:=by simp[PR.jC]
theorem Cc(ti mo:Int)(n1:1<=n)(n2:n<=12):∃ts ms:NT,Bf [.int n,.int ti,.int mo]=.ok (.lst .own (prL (ts++ms)))/\gw n (n-1+tri n) (ts++ms)/\ts.length+1=n/\Tree (ts.map (·.1)):=by
 suffices hh:lV (B1 [Ol n,Ol ti,Ol mo,none,none,none]) (λv=>∃ts ms:NT,v=.lst .own (prL (ts++ms))/\gw n (n-1+tri n) (ts++ms)/\ts.length+1=n/\Tree (ts.map (·.1))) by obtain⟨v,h1,ts,ms,rfl,h2⟩:=hh;exact⟨ts,ms,az h1,h2⟩
 unfold B1;obtain⟨od,hod⟩:∃od:NW,od=(range n).map λk:Nat=>(k:Int):=⟨_,rfl⟩
 have hlen:od.length=n:=by rw[hod];simp
 have odn:od.Nodup:=by rw[hod];exact Pairwise.map _ (λa b h z=>h ()) nodup_range
 have od1:∀i:Nat,i<n->od.getD i 0=(i:Int):=λi hi=>by rw[hod];simp[hi]
 refine fk (ar (v:=.lst .own []) ()) ?_;refine nG (λq e=>∃ws t a,e=[Ol n,Ol t,Ol mo,some (.lst .own (prL ws)),a,none]/\PR.Tree n od (q+1) ws/\Tree (ws.map (·.1))/\∀w∈ws,w.1<w.2) (xs:=eT 1 (n-1)) ?_ ⟨[],ti,_,rfl,PR.Tree.start hlen n1,λi h=>by simp at h,λw h=>nomatch h⟩ (λq x e hx hP=>?_) (λe hP=>?_)
 .rw[CP (lo:=1) (hi:=n) () () ()];rw[show((n:Int)-1).toNat=n-1 by lia]
 .obtain⟨ws,t,a,rfl,T,G1,G2⟩:=hP;obtain⟨hq,rfl⟩:=eA hx;have lt:=T.ln;have kp:(0:Int)<1+(q:Int):=by lia
  have b1:=emod_nonneg t (show(1:Int)+q≠0 by lia);have b2:=emod_lt_of_pos t kp;have dv:iV (.int t) (.int (1+(q:Int)))=.ok (.int (t / (1+(q:Int)))):=jT kp ();refine⟨_,cX rfl,bh (eY (v:=prV (t%(1+(q:Int)),1+(q:Int))) (xs:=prL ws) (by simp[cJ kp,prV]) rfl () (by rw[kr];lia)) (bN (ar (v:=.int (t / (1+(q:Int)))) (by simp[dv])) ⟨ws++[(t%(1+(q:Int)),1+(q:Int))],t / (1+(q:Int)),Ol (1+(q:Int)),by simp[prL],?_,λi h=>?_,λw hw=>?_⟩)⟩
  .rw[<- vY];refine T.more (j:=(t%(1+(q:Int))).toNat) odn () () (.inr ?_);rw[od1 _ (),od1 _ ()];congr 1<;>lia
  .rw[length_map,length_append,List.length_singleton]at h;simp;by_cases z:i<ws.length
   .rw[List.getElem_append_left (by simpa using z)];exact G1 i (by simpa using z)
   .grind
  .grind
 obtain⟨ts,t,a,rfl,T,G1,G2⟩:=hP;rw[bz,show n-1+1=n by lia]at T;have Wh:=T.whole (by rw[hod]);have tln:=T.ln;have t10:∀k,k<=12->tri k<=66:=by decide
 refine nG (λk e=>∃ms m a b,e=[Ol n,Ol t,Ol m,some (.lst .own (prL (ts++ms))),a,b]/\gw n (n-1+tri k) (ts++ms)/\∀w∈ts++ms,w.2<w.1->w.1<k) (bV (n:=n) () ()) ⟨[],mo,a,none,by simp,by rw[append_nil];exact⟨Wh.rg,Wh.nd,by simp[tri];lia,Wh.cn⟩,λw hw h=>by grind⟩ (λk x e hx hP=>?_) (λe hP=>?_)
 .obtain⟨ms,m,a,b,rfl,Wh,lo⟩:=hP;obtain⟨hk,rfl⟩:=eA hx;refine⟨_,cX rfl,?_⟩;simp only[s0_,s1_,Int.zero_add];have tk:=t10 k ();refine lN (λj e=>∃ms m b,e=[Ol n,Ol t,Ol m,some (.lst .own (prL (ts++ms))),Ol k,b]/\gw n (n-1+tri k+j) (ts++ms)/\∀w∈ts++ms,w.2<w.1->w.1<k \/(w.1=k/\w.2<j)) (bV (n:=k) () ()) ⟨ms,m,_,rfl,Wh,λw hw h=>.inl (lo w hw h)⟩ (λj y e hy hP=>?_) (λe hP=>?_)
  .obtain⟨ms,m,b,rfl,Wh,lo⟩:=hP;obtain⟨hj,rfl⟩:=eA hy;have wl:=Wh.ln;have d3:iV (.int m) (.int 3)=.ok (.int (m / 3)):=jT () ();refine⟨_,cX rfl,?_⟩;simp only[s0_,s1_,Int.zero_add];by_cases hc:m%3=0/\((j:Int),(k:Int))∉ ts++ms
   .obtain⟨c1,c2⟩:=hc;have c3:((k:Int),(j:Int))∉ ts++ms:=λz=>by grind
    refine bh (d4 (by simp[yV,cJ,c1];simpa using c2) (eY (v:=prV ((k:Int),(j:Int))) (xs:=prL (ts++ms)) (by simp;rfl) rfl () (by rw[kr];lia))) (bN (ar (v:=.int (m / 3)) (by simp[d3])) ⟨ms++[((k:Int),(j:Int))],m / 3,Ol j,by simp[prL],?_,λw hw h=>?_⟩)
    .rw[<- append_assoc,<- vY];exact Wh.more ⟨by lia,by lia⟩ ⟨by lia,by lia⟩ () c3 c2
    .grind
   .refine bh (bw ?_ aB) (bN (ar (v:=.int (m / 3)) (by simp[d3])) ⟨ms,m / 3,Ol j,rfl,Wh.keep,λw hw h=>?_⟩)
    .by_cases c1:m%3=0
     .have c2:((j:Int),(k:Int))∈ ts++ms:=Classical.byContradiction λz=>hc ⟨c1,z⟩;simp[yV,cJ,c1];exact λz=>(mem_append.mp c2).resolve_left z
     .simp[cJ,c1]
    .grind
  .obtain⟨ms,m,b,rfl,Wh,lo⟩:=hP;rw[bz]at Wh lo;exact⟨ms,_,_,_,rfl,by rw[show n-1+tri (k+1)=n-1+tri k+k by simp[tri];lia];exact Wh,λw hw h=>by have:=lo w hw h;lia⟩
 .obtain⟨ms,m,a,b,rfl,Wh,_⟩:=hP;rw[bz]at Wh;exact gU (f9 rfl) ⟨ts,ms,rfl,Wh,tln,G1⟩
def BK{α β:Type}(f:α->β):∀(l:List α) (j:Nat),(l.map f).eraseIdx j=(l.eraseIdx j).map f
 | [],_|_::_,0=>rfl
 |x::l,j+1=>by simp[BK f l j]
def qK:∀(l:NW) (j:Nat) (h:j<l.length),(l[j]::l.eraseIdx j).Perm l
 |_::_,0,_=>.refl _
 |x::l,j+1,h=>(List.Perm.swap _ _ _).trans ((qK l j (by simpa using h)).cons x)
theorem HF(c:Int)(n2:n<=10):∃ms:NW,Bo [.int n,.int c]=.ok (Oi ms)/\OkM n ms:=by
 suffices hh:lV (Fe [Ol n,Ol c,none,none,none]) (λv=>∃ms:NW,v=Oi ms/\OkM n ms) by obtain⟨v,h1,ms,rfl,h2⟩:=hh;exact⟨ms,az h1,h2⟩
 refine fk (ar (v:=Oi [0,1,2,3,4,5,6,7,8,9]) rfl) ?_;refine fk (ar (v:=.lst .own []) ()) ?_;refine nG (λk e=>∃po ms c a,e=[Ol n,Ol c,Om po,Om ms,a]/\ms.length=k/\po.length+k=10/\(ms++po).Nodup/\∀x∈ms++po,0<=x/\x<=9) (bV (n:=n) () ()) ⟨[0,1,2,3,4,5,6,7,8,9],[],c,none,rfl,rfl,rfl,by decide,by decide⟩ (λk x e hx hP=>?_) (λe hP=>?_)
 .obtain⟨po,ms,c,a,rfl,l1,l2,nd,rg⟩:=hP;obtain⟨hk,rfl⟩:=eA hx;have kp:(0:Int)<po.length:=by lia
  have b1:=emod_nonneg c (show(po.length:Int)≠ 0 by lia);have b2:=emod_lt_of_pos c kp;obtain⟨j,hj⟩:∃j:Nat,c%(po.length:Int)=j:=⟨(c%(po.length:Int)).toNat,by lia⟩
  have jl:j<po.length:=by lia
  have dv:iV (.int c) (.int (10-(k:Int)))=.ok (.int (c / (10-(k:Int)))):=jT () ();have ap:kF 3 2 (mOp fm (ac 1) (ao (p1 cG) (ae (ac 2) am))) [Ol n,Ol c,Om po,Om ms,Ol (0+k)]=.next [Ol n,Ol c,Om (po.eraseIdx j),Om (ms++[po[j]]),Ol (0+k)]:=by
   unfold kF;have e:(mOp fm (ac 1) (ao (p1 cG) (ae (ac 2) am))) [Ol n,Ol c,Om po,Om ms,Ol (0+k)]=.ok (.int (j:Int)):=by simp[p1,cJ kp,hj]
   rw[e];simp only[getElem?_cons_zero,getElem?_cons_succ];have g:(iL po)[(j:Int).toNat]?=some (.int po[j]):=by simp
   rw[g];simp only[];rw[if_pos ⟨by decide,by lia,by simp[gz],by simp[gz],by simp;lia,by simp;lia⟩];have er:(iL po).eraseIdx (j:Int).toNat=iL (po.eraseIdx j):=by simp[iL,BK]
   rw[er];simp[iL]
  refine⟨_,cX rfl,bh ap (bN (ar (v:=.int (c / (10-(k:Int)))) (by simp[dv])) ⟨po.eraseIdx j,ms++[po[j]],_,_,rfl,by simp[l1],by grind,?_,λx hx=>?_⟩)⟩
  .have pm:(ms++[po[j]]++ po.eraseIdx j).Perm (ms++po):=by rw[append_assoc];exact(qK po j jl).append_left ms
   exact pm.symm.nodup nd
  .have pm:(ms++[po[j]]++ po.eraseIdx j).Perm (ms++po):=by rw[append_assoc];exact(qK po j jl).append_left ms
   exact rg x (pm.mem_iff.mp hx)
 .obtain⟨po,ms,c,a,rfl,l1,l2,nd,rg⟩:=hP;rw[bz]at l1;exact gU (f9 rfl) ⟨ms,rfl,l1,(nodup_append.mp nd).1,λx hx=>rg x (mem_append_left _ hx)⟩
noncomputable def kiS:Nat->Str
 |0=>"pass"
 |1=>"paint"
 |2=>"count"
 |3=>"far"
 |4=>"lead"
 |_=>"grow"
def tdV(k n:Nat)(ws:NT)(pa ms:NW)(r:Nat)(sp:Int):PV:=.box 0 [.str (kiS k),.int n,.lst .frz (prL ws),Oj .frz pa,Oj .frz ms,.int r,.int sp]
structure Td(k n:Nat)(ws:NT)(pa ms:NW)(r:Nat)(sp:Int):Prop where
 k6:k<6
 n1:1<=n
 n12:n<=12
 n6:k≠0->n<=6
 p2:k=0->2<=n
 wh:gw n (n-1+tri n) ws
 pl:pa.length+1=n
 tr:Tree pa
 nm:OkM (min n 10) ms
 rn:r<n
 sn:(n:Int)<= sp
 s60:sp<10 ^ 60
section
variable{k n:Nat}{ws:NT}{pa ms:NW}{r:Nat}{sp:Int}
def yY(g:Fl->Fl)(h:g .frz=.frz):(tdV k n ws pa ms r sp).Oe g=tdV k n ws pa ms r sp:=by simp[tdV,PV.Oe,h]
@[simp] def NG:(tdV k n ws pa ms r sp).Oe Fl.N7=tdV k n ws pa ms r sp:=yY _ rfl
@[simp] def NF:(tdV k n ws pa ms r sp).Oe Fl.N8=tdV k n ws pa ms r sp:=yY _ rfl
def yZ(p:Fl->Bool)(h:p .frz=false):(tdV k n ws pa ms r sp).has p=false:=by simp[tdV,PV.has,h]
def FF:fQ 0 0 (tdV k n ws pa ms r sp)=.ok (.str (kiS k)):=rfl
def JP:fQ 0 1 (tdV k n ws pa ms r sp)=.ok (.int n):=rfl
def Mt:fQ 0 2 (tdV k n ws pa ms r sp)=.ok (.lst .frz (prL ws)):=by simp[fQ,tdV]
def Mr:fQ 0 3 (tdV k n ws pa ms r sp)=.ok (Oj .frz pa):=by simp[fQ,tdV]
def Mq:fQ 0 4 (tdV k n ws pa ms r sp)=.ok (Oj .frz ms):=by simp[fQ,tdV]
def Mo:fQ 0 5 (tdV k n ws pa ms r sp)=.ok (.int r):=rfl
def Mn:fQ 0 6 (tdV k n ws pa ms r sp)=.ok (.int sp):=rfl
end
theorem Cg(fl:Fl)(ns:NW)(h:Scr fl):∃k n ws pa ms r sp,Bg [Oj fl ns]=.ok (tdV k n ws pa ms r sp)/\Td k n ws pa ms r sp:=by
 have cl:∀k:Nat,iS [Oj fl ns,.int k]=.ok (.int (cell ns k)):=λk=>wS ns k h;have c0:iS [Oj fl ns,.int 0]=.ok (.int (cell ns 0)):=cl 0;have c1:iS [Oj fl ns,.int 1]=.ok (.int (cell ns 1)):=cl 1;have c2:iS [Oj fl ns,.int 2]=.ok (.int (cell ns 2)):=cl 2;have c3:iS [Oj fl ns,.int 3]=.ok (.int (cell ns 3)):=cl 3;generalize cell ns 0=z0 at c0;generalize cell ns 1=z1 at c1;generalize cell ns 2=z2 at c2;generalize cell ns 3=z3 at c3;obtain⟨k,hk⟩:∃k:Nat,z0%6=k:=⟨(z0%6).toNat,by lia⟩
 have k6:k<6:=by lia
 obtain⟨m,hm⟩:∃m:Nat,1+z0 / 6%6=m:=⟨(1+z0 / 6%6).toNat,by lia⟩
 obtain⟨m',hm'⟩:∃m:Nat,2+z0 / 6%11=m:=⟨(2+z0 / 6%11).toNat,by lia⟩
 obtain⟨n,hn⟩:∃n:Nat,n=if k=0 then m' else m:=⟨_,rfl⟩
 have n7:1<=n/\n<=12/\(k≠0->n<=6)/\(k=0->2<=n):=by grind
 obtain⟨ts,tm,hw,Wh,tl,tr⟩:=Cc (n:=n) z1 z2 () ();obtain⟨ms,hms,N⟩:=HF (n:=min n 10) z3 ();have np:(0:Int)<n:=by lia
 obtain⟨r,hr⟩:∃r:Nat,z3%(n:Int)=r:=⟨(z3%(n:Int)).toNat,by have:=emod_nonneg z3 (show(n:Int)≠ 0 by lia);lia⟩
 have rn:r<n:=by have:=emod_lt_of_pos z3 np;lia
 have d6:iV (.int z0) (.int 6)=.ok (.int (z0 / 6)):=jT () ();have d2:iV (.int z3) (.int 2)=.ok (.int (z3 / 2)):=jT () ();have p59:oO (.int 10) (.int 59)=.ok (.int 100000000000000000000000000000000000000000000000000000000000):=by rfl
 have m59:fm (.int (z3 / 2)) (.int 100000000000000000000000000000000000000000000000000000000000)=.ok (.int (z3 / 2%100000000000000000000000000000000000000000000000000000000000)):=cJ ();have b59:=emod_nonneg (z3 / 2) (show(100000000000000000000000000000000000000000000000000000000000:Int)≠ 0 by decide);have c59:=emod_lt_of_pos (z3 / 2) (show(0:Int)<100000000000000000000000000000000000000000000000000000000000 by decide);generalize z3 / 2%100000000000000000000000000000000000000000000000000000000000=w at m59 b59 c59;obtain⟨sp,hsp,sn⟩:∃sp:Int,sp=(if z3%2=1 then(n:Int)+w else(n:Int)+z3 / 2%7)/\(n:Int)<= sp/\sp<10 ^ 60:=⟨_,rfl,by grind,by grind⟩
 refine⟨k,n,ts++tm,ts.map (·.1),ms,r,sp,az ?_,k6,n7.1,n7.2.1,n7.2.2.1,n7.2.2.2,Wh,by grind,tr,N,rn,sn.1,sn.2⟩;refine af (ar (v:=.int z0) (by simp[h.N7,h.N8,c0,aE])) ?_;refine af (ar (v:=.int z3) (by simp[h.N7,h.N8,c3,aE])) ?_;refine af (ar (v:=.str (kiS k)) ?_ (by rfl) rfl) ?_
 .simp;simp[cJ,hk];have:k=0\/k=1\/k=2\/k=3\/k=4\/k=5:=by lia
  rcases this with rfl|rfl|rfl|rfl|rfl|rfl<;>rfl
 refine af (ar (v:=.int m) (by simp[d6,cJ,hm])) ?_;have ek:pEq (.str (kiS k)) (.str "pass")=.ok (.bl (decide (k=0))):=by
  have:k=0\/k=1\/k=2\/k=3\/k=4\/k=5:=by lia
  rcases this with rfl|rfl|rfl|rfl|rfl|rfl<;>exact bZ (by decide +kernel)
 refine af (e:=[On fl ns,Ol z0,Ol z3,some (.str (kiS k)),Ol n,none,none,none,none,none]) ?_ ?_
 .by_cases q:k=0
  .rw[decide_eq_true q]at ek;refine d4 (by simp[ek]) ?_;rw[hn,if_pos q];exact ar (by simp[d6,cJ,hm']) () rfl
  .rw[decide_eq_false q]at ek;refine bw (by simp[ek]) ?_;rw[hn,if_neg q];exact aB
 refine af (ar (v:=.lst .own (prL (ts++tm))) (by simp[h.N7,h.N8,c1,c2,hw,aE])) ?_;refine af (ar (v:=.int ((n:Int)+z3 / 2%7)) (by rfl)) ?_;refine af (e:=[On fl ns,Ol z0,Ol z3,some (.str (kiS k)),Ol n,some (.lst .own (prL (ts++tm))),Ol sp,none,none,none]) ?_ ?_
 .by_cases q:z3%2=1
  .refine d4 (by simp[cJ,q]) ?_;rw[hsp,if_pos q];exact ar (by simp[d2,m59]) () rfl
  .refine bw (by simp[cJ,q]) ?_;rw[hsp,if_neg q];exact aB
 refine af (ar (v:=.lst .own (iL (ts.map (·.1)))) ?_) ?_
 .refine aQ (xs:=prL ts) ?_ (by rw[kr];lia) ?_
  .have ec:im (prL (ts++tm)) none (some ((n:Int)-1))=prL ts:=by rw[show(n:Int)-1=(ts.length:Int) by lia];rw[cut_to _ _ ()];simp[prL]
   simp[ec]
  .rw[show iL (ts.map (·.1))=ts.map λw=>PV.int w.1 by simp[iL]];exact a6 (a:=prV) ts λw _=>⟨[some (prV w)],by rfl,by rfl,by simp,by simp⟩
 rw[show((min n 10:Nat):Int)=min (n:Int) 10 by lia]at hms;refine af (ar (v:=Oi ms) (by simp[gc,hms,aE])) ?_;refine af (cT rfl) (af (cT rfl) (af (cT rfl) ?_));unfold wg;simp[qw,cJ np,hr,PV.Oe,tdV,PV.has]
theorem Ic:isB (pEq (.str "turn") (.str "turn")) true=true/\isB (pEq (.str "may") (.str "turn")) false=true/\isB (pEq (.str "may") (.str "spoil")) false=true/\isB (pEq (.str "may") (.str "may")) true=true/\isB (pEq (.str "measure") (.str "turn")) false=true/\isB (pEq (.str "measure") (.str "spoil")) false=true/\isB (pEq (.str "measure") (.str "may")) false=true/\isB (pEq (.str "measure") (.str "measure")) true=true:=by decide +kernel
def uB{ls:N0}{B:Nat}(h:∀z∈ls,z.length<=B):(sj ls).length<=ls.length*(B+1):=by have e:sj ls=Str.join ⟨#[32]⟩ ls:=StrLaws.glued_eq_join _ _;rw[e];exact ig 32 B ls h
def eR(h:Nm a):(tn a).length<=61:=(nt h).len
theorem AI(h:Sml l)(h8:l.length<=20):(md l).length<=1300:=by
 unfold md;split
 .decide +kernel
 .have:=uB (ls:=l.map tn) λz hz=>by obtain⟨a,ha,rfl⟩:=mem_map.mp hz;exact eR (cI (h.2 a ha).1 (h.2 a ha).2)
  simp at this
  lia
def IL:mFz m env=(m env).bind λv=>.ok (v.Oe Fl.N9):=rfl
theorem uf(h0:0<=x)(h:x<10 ^ 200):da (.int x)=.ok (.str (tn x))/\(tn x).length<=640/\PySem.intText? (tn x)=some x:=by
 obtain⟨m,rfl⟩:=Int.eq_ofNat_of_zero_le h0;have hm:m<10 ^ 200:=by lia
 have e:sg (tn ((m:Nat):Int))=dg m:=qf m;have o:=t7 m;have l:=vt 200 m () hm;have ln:(tn (m:Int)).length<=640:=by rw[bQ,e];lia
 refine⟨?_,ln,?_⟩
 .unfold da;dsimp only;rw[if_pos (Nat.lt_trans (show(m:Int).natAbs<10 ^ 200 from hm) ())];rfl
 .have:=PySem.intText_digits (by show PySem.NumText.AllDigits (sg _);rw[e];exact o.all) (by show sg _≠[];rw[e];exact o.ne) ();rw[this];have v:PySem.NumText.digitsVal (sg (tn (m:Int)))=m:=by rw[e];exact PySem.W.KIN.val_back m
  unfold sg at v;rw[v]
def sT(g:Fl->Fl):∀xs ys:N5,mapL g (xs++ys)=mapL g xs++mapL g ys
 | [],ys=>by simp
 |x::xs,ys=>by simp[sT g xs ys]
def kJ(a b:PV)(h:b.has Fl.Oa=false):av (.tup [a,b]) (.int 1)=.ok b:=cC rfl rfl h
section
variable{R o:PV}{n:Nat}{sp:Int}{al ip:Bool}{D:NW->Nat->Int}{cs nm:NW}
def swd(n:Nat)(ip:Bool)(D:NW->Nat->Int)(cs:NW):N0:=cs.map tn++[cw (caR n ip D cs)]
def Ce(n:Nat)(sp:Int)(cs:NW):Prop:=cs.length=n/\InS sp cs/\sp<=10 ^ 60
theorem Ce.nu(C:Ce n sp cs):∀c∈cs,Nm c:=λc hc=>by
 have:=C.2.1 c hc;have:=C.2.2;unfold Nm
 lia
def Ce.th(C:Ce n sp cs):∀x∈iL cs,Th x:=λx hx=>by obtain⟨a,ha,rfl⟩:=mem_map.mp hx;exact .inl ⟨a,rfl,C.nu a ha⟩
def Ce.go(r:Rl o n sp al ip D)(C:Ce n sp cs)(nm:NW):Ce n sp (stR n D cs nm):=by obtain⟨h1,h2⟩:=y8 r C.1 C.2.1 nm;exact⟨h1,h2,C.2.2⟩
theorem uZ(r:Rl o n sp al ip D):Sml (mvR n D cs):=by
 have n20:=r.n20;have:=kB (n:=n) (D:=D) (cs:=cs);refine⟨by lia,λa ha=>?_⟩;obtain⟨i,hi,rfl⟩:=mem_map.mp ha;have:=mem_range.mp (mem_filter.mp hi).1
 lia
theorem qN(r:Rl o n sp al ip D):Sml (dnR n D cs nm)/\(dnR n D cs nm).length<=20:=by have h:=uZ (cs:=cs) r;have l1:=length_filter_le (λa=>nm.contains a) (mvR n D cs);have l2:=kB (n:=n) (D:=D) (cs:=cs);have:=r.n20;exact⟨⟨by unfold dnR;lia,λa ha=>h.2 a (mem_filter.mp ha).1⟩,by unfold dnR;lia⟩
theorem rW(r:Rl o n sp al ip D)(C:Ce n sp cs):pP [o,Oj .frz cs]=.ok (.str (sj (swd n ip D cs))):=by
 have n20:=r.n20;have cl:=C.1;refine az ?_;show E7 [some o,On .frz cs]=_;refine aM ?_ ();have c:=Em r (.inl (.inr rfl)) C.1 C.2.1;have j:pQ [.lst .own (iL cs++[.str (cw (caR n ip D cs))])]=.ok (.str (sj (swd n ip D cs))):=by
  rw[lI (λx hx=>?_) (by simp;lia),map_append,vH]
  .rfl
  .rcases mem_append.mp hx with hx|hx
   .exact C.th x hx
   .rw[mem_singleton.mp hx];exact .inr ⟨_,rfl,by rw[BS];lia⟩
 have p:aP (Oj .frz cs) (.lst .own [.str (cw (caR n ip D cs))])=.ok (.lst .own (iL cs++[.str (cw (caR n ip D cs))])):=gY () () (by simp;lia);have e:lD (di (b7 bv (ac 0) (ae (ac 1) am))) (mC (.str "calm")) (mC (.str "wild")) [some o,On .frz cs]=.ok (.str (cw (caR n ip D cs))):=by
  rw[vp];have:di (b7 bv (ac 0) (ae (ac 1) am)) [some o,On .frz cs]=.ok (caR n ip D cs):=by simp[r.le,c]
  rw[this];cases caR n ip D cs<;>rfl
 simp only[cV,bG,ck,eG,lP,e,bX,getElem?_cons_zero,getElem?_cons_succ,bj,bC,fV,fw,Res.Og,p,dM,bM,dh];have m:mapL Fl.N8 (iL cs++[PV.str (cw (caR n ip D cs))])=iL cs++[PV.str (cw (caR n ip D cs))]:=by rw[sT];simp
 rw[o3,m,j];simp[aE]
def Av(h:InS sp cs):cs.map (· % sp)=cs:=by
 conv=>rhs;rw[<- List.map_id cs]
 exact List.map_congr_left λa ha=>emod_eq_of_lt (h a ha).1 (h a ha).2
theorem Gc(r:Rl o n sp al ip D)(C:Ce n sp cs)(hg:iT n al nm):BG [o,Oj .frz cs,.lst .own [Oj .frz nm]]=.ok (.lst .own [xB .frz (dnR n D cs nm,stR n D cs nm)]):=by
 have ro:=xA r (.inl rfl) (.inr rfl) C.1 C.2.1 hg;have rd:=vX (f:=.frz) r C.1;rw[Av C.2.1]at rd;obtain⟨dn,hdn⟩:∃dn,dn=dnR n D cs nm:=⟨_,rfl⟩
 obtain⟨st,hst⟩:∃st,st=stR n D cs nm:=⟨_,rfl⟩
 rw[<- hdn,<- hst]at ro ⊢;refine az ?_;refine af (ar (v:=Oi cs) (by simp[r.le,r.tb,r.rd,rd,aE])) ?_;refine af (ar (v:=.lst .own []) ()) ?_;refine af (cT rfl) ?_;simp;refine iA (xs:=[Oj .frz nm]) (λk e=>∃x3 x5,e=[some o,On .frz cs,some (.lst .frz [Oj .frz nm]),x3,some (.lst .own (if k=0 then []else [.tup [Oj .frz dn,Oj .frz st]])),x5]/\(k=0->x3=Om cs)) (et (f:=.frz) () rfl () ()) ⟨_,_,rfl,λ_=>rfl⟩ (λk x e hx hP=>?_) (λe hP=>?_)
 .obtain⟨x3,x5,rfl,h3⟩:=hP;cases k with
  |succ k=>simp at hx
  |zero=>
   obtain rfl:=h3 rfl;simp at hx;subst hx;refine⟨_,cX rfl,?_⟩;simp only[s1_];refine bh (eY (v:=.tup [Oj .frz dn,Oj .frz st]) ?_ rfl () ()) ?_
   .simp only[IL,cV,bG,ck,bX,getElem?_cons_zero,getElem?_cons_succ];simp[r.le,r.tb,ro,aE]
   have i1:av (.lst .lnt [.tup [Oj .frz dn,Oj .frz st]]) (.int (-1))=.ok (.tup [Oj .frz dn,Oj .frz st]):=by simp[av,aY,atI,ixN]
   have i2:=kJ (Oj .frz dn) (Oj .frz st) ();exact bN (ar (v:=Oj .frz st) (by simp[i1,i2])) ⟨_,_,rfl,nofun⟩
 .obtain⟨x3,x5,rfl,_⟩:=hP;exact f9 rfl
def twd(n:Nat)(ip:Bool)(D:NW->Nat->Int)(cs nm:NW):Str:=sj [md (dnR n D cs nm),":",sj (swd n ip D (stR n D cs nm))]
theorem vJ(r:Rl o n sp al ip D)(C:Ce n sp cs):(sj (swd n ip D cs)).length<=1400:=by
 have:=uB (ls:=swd n ip D cs) λz hz=>by
  rcases mem_append.mp hz with hz|hz
  .obtain⟨a,ha,rfl⟩:=mem_map.mp hz;exact eR (C.nu a ha)
  .rw[mem_singleton.mp hz,BS];lia
 have:=C.1;have:=r.n20;have e:(swd n ip D cs).length=cs.length+1:=by simp[swd]
 lia
theorem yU(hR:bo R=o)(r:Rl o n sp al ip D)(C:Ce n sp cs)(hg:iT n al nm):Stp R cs (.row "turn" nm) (stR n D cs nm) (twd n ip D cs nm):=by
 have C':=C.go r nm;have ru:=Gc r C hg;have e1:=bZ Ic.1;have i0:av (.tup [.str "turn",Oj .frz nm]) (.int 0)=.ok (.str "turn"):=cC rfl rfl rfl;have i1:av (.tup [.str "turn",Oj .frz nm]) (.int 1)=.ok (Oj .frz nm):=cC rfl rfl ();obtain⟨dS,d10⟩:=qN r;have m:=l0 (f:=.frz) dS;have ml:=AI dS d10;have sh:=rW r C';have sl:=vJ r C';unfold twd;refine⟨.frz,.frz,dnR n D cs nm,⟨rfl,rfl,rfl⟩,⟨rfl,rfl,rfl⟩,?_,?_⟩<;>rw[hR]
 .refine az ?_;show Fg [some o,On .frz cs,some (.tup [.str "turn",Oj .frz nm])]=_;refine bL (d4 (by simp[i0,e1]) (aM ?_));have i2:∀a b,av (.lst .own [xB .frz (a,b)]) (.int 0)=.ok (.tup [Oj .frz a,Oj .frz b]):=λa b=>cC rfl rfl ();unfold xB at ru i2;simp[r.le,r.tb,i1,ru,aE,i2]
 .generalize dnR n D cs nm=dn at *;generalize stR n D cs nm=st at *;refine az ?_;show wX [some o,some (.tup [Oj .frz dn,Oj .frz st]),some (.tup [.str "turn",Oj .frz nm]),none]=_;have j0:av (.tup [Oj .frz dn,Oj .frz st]) (.int 0)=.ok (Oj .frz dn):=cC rfl rfl ();have j1:=kJ (Oj .frz dn) (Oj .frz st) ();refine af (ar (v:=Oj .frz st) (by simp[j1])) ?_;refine bL (d4 (by simp[i0,e1]) (aM ?_));have j:=lI (f:=.own) (xs:=[.str (md dn),.str ":", .str (sj (swd n ip D st))]) (λx hx=>by
   simp at hx;rcases hx with rfl|rfl|rfl
   .exact .inr ⟨_,rfl,by lia⟩
   .exact .inr ⟨_,rfl,by decide +kernel⟩
   .exact .inr ⟨_,rfl,by lia⟩) ()
  simp[r.le,r.tb,j0,m,sh,aE,j];rfl
def uc(e1:pEq (.str z) (.str "turn")=.ok (.bl false))(e2:pEq (.str z) (.str "spoil")=.ok (.bl false)):tQ [o,Oj .frz cs,.tup [.str z]]=.ok (.tup [Oi [],Oj .frz cs]):=by have i0:av (.tup [.str z]) (.int 0)=.ok (.str z):=rfl;refine az ?_;exact af (bw (by simp[i0,e1]) aB) (af (bw (by simp[i0,e2]) aB) (aM ()))
def DJ(hR:bo R=o)(r:Rl o n sp al ip D)(C:Ce n sp cs):Stp R cs (.num "may" []) cs (md (mvR n D cs)):=by obtain⟨_,e1,e2,e3,_⟩:=Ic;have e1:=bZ e1;have e2:=bZ e2;have e3:=bZ e3;have i0:av (.tup [.str "may"]) (.int 0)=.ok (.str "may"):=rfl;refine⟨.own,.frz,[],⟨rfl,rfl,rfl⟩,⟨rfl,rfl,rfl⟩,uc e1 e2,?_⟩;rw[hR];refine az ?_;show wX [some o,some (.tup [Oj .frz [],Oj .frz cs]),some (.tup [.str "may"]),none]=_;have j1:=kJ (.lst .frz []) (Oj .frz cs) ();refine af (ar (v:=Oj .frz cs) (by simp[j1])) ?_;refine af (bw (by simp[i0,e1]) aB) (af (bw (by simp[i0,e2]) aB) (bL (d4 (by simp[i0,e3]) (aM ?_))));have m:=l0 (f:=.own) (uZ (cs:=cs) r);simp[r.le,r.tb,r.mv,g_ r (.inl (.inr rfl)) C.1 C.2.1,m,aE]
def AG(hR:bo R=o)(r:Rl o n sp al ip D)(hm:jA aN (.ok [Oj .frz cs]) o=.ok (.int M))(hs:da (.int M)=.ok (.str (tn M))):Stp R cs (.num "measure" []) cs (tn M):=by obtain⟨_,_,_,_,e1,e2,e3,e4⟩:=Ic;have e1:=bZ e1;have e2:=bZ e2;have e3:=bZ e3;have e4:=bZ e4;have i0:av (.tup [.str "measure"]) (.int 0)=.ok (.str "measure"):=rfl;refine⟨.own,.frz,[],⟨rfl,rfl,rfl⟩,⟨rfl,rfl,rfl⟩,uc e1 e2,?_⟩;rw[hR];refine az ?_;show wX [some o,some (.tup [Oj .frz [],Oj .frz cs]),some (.tup [.str "measure"]),none]=_;have j1:=kJ (.lst .frz []) (Oj .frz cs) ();refine af (ar (v:=Oj .frz cs) (by simp[j1])) ?_;exact af (bw (by simp[i0,e1]) aB) (af (bw (by simp[i0,e2]) aB) (af (bw (by simp[i0,e3]) aB) (bL (d4 (by simp[i0,e4]) (aM (by simp[r.le,hm,hs]))))))
end
def jn(k:Nat)(ls:N0):jo k ls=Str.join ⟨#[k]⟩ ls:=StrLaws.glued_eq_join _ _
def jH(k:Nat)(z:Str):jo k [z]=z:=by rfl
def gq(k:Nat)(z:Str){ls:N0}(h:ls≠[]):jo k (z::ls)=z ++⟨#[k]⟩++ jo k ls:=by
 rw[jn,jn];cases ls with
 |nil=>exact absurd rfl h
 |cons y r=>rfl
def nv(x y z:Str):x++y++z=x ++(y++z):=i5 (by simp[cZ])
def AW(k:Nat)(B:N0):∀A:N0,A≠[]->jo k (jo k A::B)=jo k (A++B)
 | [],h=>absurd rfl h
 | [a],_=>by rfl
 |a::b::A,_=>by
  have ih:=AW k B (b::A) ();cases B with
  |nil=>rw[jH,append_nil]
  |cons c B=>rw[gq k (jo k (b::A)) ()]at ih;rw[gq k (jo k (a::b::A)) (),gq k a (),List.cons_append,gq k a (),<- ih];simp only[nv]
def gF{ms:List ME}{out:Str}(h:m env=.ok (.str y))(hl:(out++y).length<=10000):mJ (m::ms) out env=mJ ms (out++y) env:=by
 conv=>lhs;unfold mJ
 rw[h];simp only[Res.Og];rw[if_pos hl]
def A_(h:m env=.ok (.int a))(hn:Nm a):mUn kA m env=.ok (.str (tn a)):=by unfold mUn;rw[h];exact(nt hn).st
def Ld(h:m env=.ok (.str y))(hn:y.length<=10000):mUn kA m env=.ok (.str y):=by unfold mUn;rw[h];show(if _ then _ else _)=_;rw[if_pos hn]
def fR{a b:Str}(h:a.length+b.length<=10000):dH (.str a) (.str b)=.ok (.str (a++b)):=by unfold dH pD;dsimp only;rw[if_pos (decide_eq_true h)]
def apl(x y:Str):(x++y).length=x.length+y.length:=by rw[bQ,bQ,bQ,cZ,length_append]
theorem oe(h:∀x∈l,Nm x)(hl:l.length<=100)(hf:f.N7.Ob=f.N7.Ob:=by rfl):wA [Oj f l]=.ok (.str (sj (l.map tn))):=by
 refine az ?_;refine aM ?_ ();refine iO (by decide +kernel) (by grind) (λz hz=>?_) (o7 h () ());obtain⟨a,ha,rfl⟩:=mem_map.mp hz;have:=eR (h a ha)
 lia
def sZ(h:SOk s):(line s).length <=(fJ s).length*131:=by unfold line;rw[jn];exact ig 32 130 _ λz hz=>((gR h).2 z hz).2
noncomputable def hd(k n:Nat)(ws:NT)(pa ms:NW)(r:Nat)(sp:Int):List Sd:=match k with
 |0=>[.num "pass" [n,sp]]
 |1=>[.net n ws,.num "paint" []]
 |2=>[.row "count" pa]
 |3=>[.net n ws,.num "far" [r]]
 |4=>[.net n ws,.row "lead" ms]
 |_=>[.net n ws,.num "grow" [r]]
noncomputable def spn(k n:Nat)(sp:Int):Int:=match k with
 |0=>sp
 |1=>n
 |4=>10*n+1
 |5=>(n+1)*(n+1)
 |_=>n+1
theorem wj:∀k,k<6->∀j,j<6->isB (pEq (.str (kiS k)) (.str (kiS j))) (decide (k=j))=true:=by decide +kernel
section
variable{k n:Nat}{ws:NT}{pa ms:NW}{r:Nat}{sp:Int}
theorem uY{m:Nat}(h:m<1000):Nm (m:Int):=cI () ()
theorem Td.net(T:Td k n ws pa ms r sp)(k0:k≠0):SOk (.net n ws):=by
 have n6:=T.n6 k0;have tr:∀k,k<=6->tri k<=15:=by decide
 have:=tr n n6;have:=T.wh.ln;refine⟨uY (),by lia,λp hp=>?_⟩;have:=T.wh.rg p hp;exact⟨⟨cI () (),by lia⟩,cI () (),by lia⟩
theorem Td.so(T:Td k n ws pa ms r sp):∀y∈hd k n ws pa ms r sp,SOk y:=by
 have nn:=T.net;have rn:=T.rn;have n12:=T.n12;have r1:∀x∈[(r:Int)],Nm x:=λx hx=>by rw[mem_singleton.mp hx];exact uY ()
 have k6:=T.k6;rcases(show k=0\/k=1\/k=2\/k=3\/k=4\/k=5 by lia)with rfl|rfl|rfl|rfl|rfl|rfl<;>intro y hy<;>simp only[hd,mem_cons,List.not_mem_nil,or_false]at hy
 .subst hy;refine⟨by simp[iR],λx hx=>?_⟩;simp at hx;rcases hx with rfl|rfl
  .exact uY ()
  .have:=T.sn;have:=T.s60;unfold Nm
   lia
 .rcases hy with rfl|rfl
  .exact nn ()
  .exact⟨by simp[iR],λx hx=>nomatch hx⟩
 .subst hy;refine⟨by simp[lY],by have:=T.pl;lia,λx hx=>?_⟩;obtain⟨i,hi,rfl⟩:=List.mem_iff_getElem.mp hx;have:=T.tr i hi;have:=T.pl;exact cI () ()
 .rcases hy with rfl|rfl
  .exact nn ()
  .exact⟨by simp[iR],r1⟩
 .rcases hy with rfl|rfl
  .exact nn ()
  .refine⟨by simp[lY],by have:=T.nm.ml;lia,λx hx=>?_⟩;have:=T.nm.mr x hx;exact cI () ()
 .rcases hy with rfl|rfl
  .exact nn ()
  .exact⟨by simp[iR],r1⟩
theorem Du(T:Td k n ws pa ms r sp)(k0:k≠0){m:ME}(hm:m env=.ok (.lst .own (sL (("net "++tn n)::ws.map wy)))):mMt fK (mC (.str " ")) m env=.ok (.str (line (.net n ws))):=by
 obtain⟨nn,nl,nw⟩:=T.net k0;have tl:=eR nn;rw[show line (.net n ws)=jo 32 (("net "++tn n)::ws.map wy)from rfl,pb];refine iO (by decide +kernel) (by simp;lia) (λz hz=>?_) hm;rcases mem_cons.mp hz with rfl|hz
 .rw[apl,show("net ":Str).length=4 by decide +kernel];lia
 .obtain⟨p,hp,rfl⟩:=mem_map.mp hz;have:=(EA (nw p hp).1.1 (nw p hp).2.1).2
  lia
theorem DU(T:Td k n ws pa ms r sp):Be [tdV k n ws pa ms r sp]=.ok (.tup [.int (spn k n sp),.str (jo 10 ((hd k n ws pa ms r sp).map line))]):=by
 have so:=T.so;have n12:=T.n12;have k6:=T.k6;have rn:=T.rn;have nn:Nm n:=uY ();have nr:Nm r:=uY ();have tl:=eR nn;have tr:=eR nr;have eq:∀j,j<6->pEq (.str (kiS k)) (.str (kiS j))=.ok (.bl (decide (k=j))):=λj hj=>bZ (wj k k6 j hj);have e0:=eq 0 ();have e1:=eq 1 ();have e2:=eq 2 ();have e4:=eq 4 ();have e5:=eq 5 ();have x1:(PySem.Str.empty ++("pass ":Str))= "pass ":=by decide +kernel
 have l1:("pass ":Str).length=5:=by decide +kernel
 have l2:(" ":Str).length=1:=by decide +kernel
 have jt:∀z:Str,jo 10 [line (.net n ws),z]=line (.net n ws)++ "\n"++z:=λz=>by rw[gq 10 _ (),jH,EQ]
 refine az ?_;show B0 [some (tdV k n ws pa ms r sp),none,none,none,none,none]=_;unfold B0;refine af (ar (v:=.str (kiS k)) (by simp[FF])) ?_;simp only[s0_,s1_];refine af (ar (v:=.int n) (by simp[JP])) ?_;simp only[s0_,s1_];by_cases k0:k=0
 .subst k0;have ns:Nm sp:=(so _ mem_cons_self).2 sp ();have ts:=eR ns;refine bL (d4 (by simp[kiS]at e0 ⊢;simp[e0]) (aM ?_));have hj:mJ [(mC (.str "pass ")),(mUn kA (ac 2)),(mC (.str " "))] PySem.Str.empty [some (tdV 0 n ws pa ms r sp),some (.str (kiS 0)),Ol n,none,none,none]=.ok (.str ("pass "++tn n++" ")):=by rw[gF (y:="pass ") rfl (by decide +kernel),x1,gF (y:=tn n) (A_ rfl nn) (by rw[apl];lia),gF (y:=" ") rfl (by rw[apl,apl];lia)];rfl
  have ad:dH (.str ("pass "++tn n++" ")) (.str (tn sp))=.ok (.str ("pass "++tn n++" "++tn sp)):=fR (by rw[apl,apl];lia);have fin:jo 10 ((hd 0 n ws pa ms r sp).map line)= "pass "++tn n++" "++tn sp:=by show jo 10 [jo 32 ["pass",tn n,tn sp]]=_;rw[jH,gq 32 _ (),gq 32 _ (),jH,show("pass ":Str)= "pass" ++⟨#[32]⟩ by decide +kernel,pb];simp only[nv]
  rw[fin];simp only[ow,bG,ck,eG,hj,Res.Og];simp[Mn,p1,(nt ns).st,ad,spn]
 rw[decide_eq_false k0]at e0;refine af (bw (by simp[kiS]at e0 ⊢;simp[e0]) aB) ?_;by_cases k2:k=2
 .subst k2;have sc:=so _ mem_cons_self;obtain⟨_,pl,pn⟩:=sc;refine bL (d4 (by simp[kiS]at e2 ⊢;simp[e2]) (aM ?_));have hj:mMt fK (mC (.str " ")) (mOp aP (dI (ae (mC (.str "count")) am)) (aV [] 1 (bE (mUn (fQ 0 3) (ac 0))) (tgN 0) bD (ao (p1 da) (ae (ac 0) am)))) [some (tdV 2 n ws pa ms r sp),some (.str (kiS 2)),Ol n,none,none,none]=.ok (.str (line (.row "count" pa))):=by
   rw[pb];refine iO (ls:="count" :: pa.map tn) (f:=.own) (by decide +kernel) (by simp;lia) (λz hz=>?_) ?_
   .rcases mem_cons.mp hz with rfl|hz
    .decide +kernel
    .obtain⟨a,ha,rfl⟩:=mem_map.mp hz;have:=eR (pn a ha)
     lia
   .have hc:=o7 (env:=[some (tdV 2 n ws pa ms r sp),some (.str (kiS 2)),Ol n,none,none,none]) (m:=mUn (fQ 0 3) (ac 0)) pn () (by simp[Mr]);simp only[eG,lP,bG,ck,lQ,hc,Res.Og];exact gX (zs:=["count"]) () () (by simp;lia)
  simp only[ow,bG,ck,hj,Res.Og];simp[hd,jH,spn]
 rw[decide_eq_false k2]at e2;refine af (bw (by simp[kiS]at e2 ⊢;simp[e2]) aB) ?_;have so0:=T.net k0;have wl:=(gR so0).1.2;have Nl:=sZ so0;have n1:("\n":Str).length=1:=by decide +kernel
 have nL:=λ(m:ME) (env:En)=>Du (m:=m) (env:=env) T k0;obtain⟨_,nl,nw⟩:=so0;generalize hN:line (.net n ws)=N at *;have e0:(PySem.Str.empty++"net ")++ tn n="net "++tn n:=congrArg (·++tn n) (by decide +kernel:PySem.Str.empty ++("net ":Str)= "net ");refine af (ar (v:=.str (N++"\n")) ?_) ?_
 .rw[eG,nL _ _ ?_]
  .exact fR ()
  simp only[eG,lP,bG,ck];rw[gF rfl (by decide +kernel),gF (A_ rfl nn) (by rw[e0,apl,show("net ":Str).length=4 by decide +kernel];lia),e0,aQ (xs:=prL ws) (ys:=sL (ws.map wy)) (by simp[Mt]) (by rw[kr];lia) ?_]
  .exact gX (zs:=["net "++tn n]) () () (by simp;lia)
  rw[show sL (ws.map wy)=ws.map λp=>PV.str (wy p) by simp[sL]];refine a6 ws λp hp=>⟨[some (prV p)],by simp[tgN,aS,bU,cR],?_,by simp,by simp⟩
  obtain⟨⟨a1,_⟩,b1,_⟩:=nw p hp;have i1:av (prV p) (.int 1)=.ok (.int p.2):=rfl;have l1:=eR a1;have l2:=eR b1;have s1:dH (.str (tn p.1)) (.str "-")=.ok (.str (tn p.1++"-")):=fR (by rw[show("-":Str).length=1 by decide +kernel];lia);have s2:dH (.str (tn p.1++"-")) (.str (tn p.2))=.ok (.str (wy p)):=fR (by rw[apl,show("-":Str).length=1 by decide +kernel];lia);simp[i1,(nt a1).st,(nt b1).st,s1,s2]
 simp only[s0_,s1_];by_cases k1:k=1
 .subst k1;have ad:dH (.str (N++"\n")) (.str "paint")=.ok (.str (N++"\n"++"paint")):=fR (by rw[apl,show("paint":Str).length=5 by decide +kernel];lia);refine bL (d4 (by simp[kiS]at e1 ⊢;simp[e1]) (aM ?_));have fin:jo 10 ((hd 1 n ws pa ms r sp).map line)=N++"\n"++"paint":=by show jo 10 [line (.net n ws),jo 32 ["paint"]]=_;rw[hN,jt,jH]
  rw[fin];simp[ad,spn]
 rw[decide_eq_false k1]at e1;refine af (bw (by simp[kiS]at e1 ⊢;simp[e1]) aB) ?_;by_cases k4:k=4
 .subst k4;obtain⟨_,ml,mn⟩:=so (.row "lead" ms) (by simp[hd]);have lj:=λf=>oe (f:=f) mn ();have l5:("lead ":Str).length=5:=by decide +kernel
  have sl:=uB (ls:=ms.map tn) (B:=61) λz hz=>by obtain⟨a,ha,rfl⟩:=mem_map.mp hz;exact eR (mn a ha)
  rw[length_map]at sl;have a1:dH (.str (N++"\n")) (.str "lead ")=.ok (.str (N++"\n"++"lead ")):=fR (by rw[apl];lia);have a2:dH (.str (N++"\n"++"lead ")) (.str (sj (ms.map tn)))=.ok (.str (N++"\n"++"lead "++sj (ms.map tn))):=fR (by rw[apl,apl];lia);have mu:dG (.int 10) (.int (n:Int))=.ok (.int (10*n)):=fH (.inl ⟨by decide,by decide⟩);have m0:ms.map tn≠[]:=λe=>by
   have e:=congrArg List.length e;rw[length_map,T.nm.ml]at e;have:=T.n1;simp at e
   lia
  refine bL (d4 (by simp[kiS]at e4 ⊢;simp[e4]) (aM ?_));have fin:jo 10 ((hd 4 n ws pa ms r sp).map line)=N++"\n"++"lead "++sj (ms.map tn):=by show jo 10 [line (.net n ws),jo 32 ("lead" :: ms.map tn)]=_;rw[hN,jt,gq 32 _ m0,show("lead ":Str)= "lead" ++⟨#[32]⟩ by decide +kernel];simp only[nv];rfl
  rw[fin];simp[Mq,lj,a1,a2,mu,spn,aE]
 rw[decide_eq_false k4]at e4;refine af (bw (by simp[kiS]at e4 ⊢;simp[e4]) aB) ?_;refine af (ar (v:=.int r) (by simp[Mo])) ?_;simp only[s0_,s1_];refine af (ar (v:=.int ((n:Int)+1)) ()) ?_;simp only[s0_,s1_];have kl:(kiS k).length<=5:=(by decide +kernel:∀k,k<6->(kiS k).length<=5) k k6;have e00:(PySem.Str.empty).length=0:=by decide +kernel
 have xx:∀z:Str,PySem.Str.empty++z=z:=λz=>i5 (by rw[cZ];rfl);have last:∀s5,aZ (gh (ae (ac 5) (ae (mOp dH (ac 3) (mJ [(mUn kA (ac 1)),(mC (.str " ")),(mUn kA (ac 4))] PySem.Str.empty)) am))) [some (tdV k n ws pa ms r sp),some (.str (kiS k)),Ol n,some (.str (N++"\n")),Ol r,Ol s5]=.ret (.tup [.int s5,.str (N++"\n" ++(kiS k++" "++tn r))]):=λs5=>by
  refine aM ?_ ();have hj:mJ [(mUn kA (ac 1)),(mC (.str " ")),(mUn kA (ac 4))] PySem.Str.empty [some (tdV k n ws pa ms r sp),some (.str (kiS k)),Ol n,some (.str (N++"\n")),Ol r,Ol s5]=.ok (.str (kiS k++" "++tn r)):=by rw[gF (y:=kiS k) (Ld rfl ()) (by rw[xx];lia),xx,gF (y:=" ") rfl (by rw[apl];lia),gF (y:=tn r) (A_ rfl nr) (by rw[apl,apl];lia)];rfl
  have ad:dH (.str (N++"\n")) (.str (kiS k++" "++tn r))=.ok (.str (N++"\n" ++(kiS k++" "++tn r))):=fR (by rw[apl,apl,apl];lia);simp only[ow,bG,ck,eG,hj,Res.Og];simp[ad]
 have fin:jo 10 ((hd k n ws pa ms r sp).map line)=N++"\n" ++(kiS k++" "++tn r):=by
  have:jo 10 [line (.net n ws),jo 32 [kiS k,tn r]]=N++"\n" ++(kiS k++" "++tn r):=by rw[hN,jt,gq 32 _ (),jH,pb]
  rw[<- this];rcases(show k=3\/k=5 by lia)with rfl|rfl<;>rfl
 rw[fin];by_cases k5:k=5
 .subst k5;have mu:dG (.int ((n:Int)+1)) (.int ((n:Int)+1))=.ok (.int ((n+1)*(n+1))):=fH (.inl ⟨by lia,by lia⟩);exact af (d4 (by simp[kiS]at e5 ⊢;simp[e5]) (ar (v:=.int ((n+1)*(n+1))) (by simp[mu]))) (last _)
 .rw[decide_eq_false k5]at e5;refine af (bw (by simp[kiS]at e5 ⊢;simp[e5]) aB) ?_;rw[last,show spn k n sp=n+1 by rcases(show k=3 by lia)with rfl;rfl]
end
def AU:kiS 0="pass" /\ kiS 1="paint" /\ kiS 2="count" /\ kiS 3="far" /\ kiS 4="lead" /\ kiS 5="grow":=⟨rfl,rfl,rfl,rfl,rfl,rfl⟩
theorem HI:∀k,k<6->isB (pEq (.str (kiS k)) (.str "net")) false=true:=by decide +kernel
def HH:isB (pEq (.str "net") (.str "net")) true=true:=by decide +kernel
section
variable{k n:Nat}{ws:NT}{pa ms:NW}{r:Nat}{sp:Int}
theorem wW{ks:N5}{j:Nat}{f:N5->N6}(hj:j=0/\c=9/\f=wH/\(∃a b,ks=[.int a,.int b])\/ j=2/\c=3/\f=D4/\∃l,ks=[Oj .frz l])(hv:v=.tup (.str (kiS j)::ks))(hf:f (.obj .own c [] []::ks)=.ok R)(rb:R.has Fl.Oc=false)(rl:R.has Fl.Ob=false):pR [.lst .own [v]]=.ok R:=by
 refine az ?_;show wY [some (.lst .own [v]),none]=_;have i1:av (.lst .lnt [v]) (.int (-1))=.ok v:=by subst hv;rcases hj with⟨rfl,rfl,rfl,a,b,rfl⟩ |⟨rfl,rfl,rfl,l,rfl⟩<;>simp[av,aY,atI,ixN]
 have i0:av (.lst .lnt [v]) (.int 0)=.ok v:=by subst hv;rcases hj with⟨rfl,rfl,rfl,a,b,rfl⟩ |⟨rfl,rfl,rfl,l,rfl⟩<;>simp[av,aY,atI,ixN]
 have j0:av v (.int 0)=.ok (.str (kiS j)):=by subst hv;exact cC rfl rfl rfl
 have m1:∀g:Fl->Fl,g .frz=.frz->v.Oe g=v:=λg hg=>by subst hv;rcases hj with⟨rfl,rfl,rfl,a,b,rfl⟩ |⟨rfl,rfl,rfl,l,rfl⟩<;>simp[hg]
 have nl:v.has Fl.Ob=false:=by subst hv;rcases hj with⟨rfl,rfl,rfl,a,b,rfl⟩ |⟨rfl,rfl,rfl,l,rfl⟩<;>simp
 have ml:=m1 Fl.N7 rfl;refine af (ar (v:=v) (by simp[ml,i1]) (by simp[nl]) rfl) ?_;have jk:j<6:=by lia
 have en:=bZ (HI j jk);have e0:=bZ (wj j jk 0 ());have e2:=bZ (wj j jk 2 ());rw[AU.1]at e0;rw[AU.2.2.1]at e2;refine af (bw (by simp[ml,i0,j0,en]) aB) ?_;rcases hj with⟨rfl,rfl,rfl,a,b,rfl⟩ |⟨rfl,rfl,rfl,l,rfl⟩
 .have a1:av v (.int 1)=.ok (.int a):=by rw[hv];rfl
  have a2:av v (.int 2)=.ok (.int b):=by rw[hv];rfl
  exact bL (d4 (by simp[ml,j0,e0]) (aM (by simp[ml,a1,a2,hf,aE,rb]) (by simp[rl])))
 .have a1:av v (.int 1)=.ok (Oj .frz l):=by rw[hv];exact cC rfl rfl ()
  exact af (bw (by simp[ml,j0,e0]) aB) (bL (d4 (by simp[ml,j0,e2]) (aM (by simp[ml,a1,hf,aE,rb]) (by simp[rl]))))
theorem CM(T:Td k n ws pa ms r sp):∃R o ip D M,pR [.lst .own ((hd k n ws pa ms r sp).map (pvS .frz))]=.ok R/\R.has Fl.Oc=false/\R.has Fl.Ob=false/\bo R=o/\Rl o n (spn k n sp) (decide (3<=k)) ip D/\Mx o n (spn k n sp) (decide (3<=k)) ip D M:=by
 have n1:=T.n1;have n12:=T.n12;have k6:=T.k6;have rn:=T.rn;have sn:=T.sn;by_cases k0:k=0
 .subst k0;have n2:=T.p2 rfl;have pi:=zI (size:=(n:Int)) (span:=sp) () () ();obtain⟨M,mx⟩:=Dv (n:=n) (sp:=sp) () () ();exact⟨kg .own n sp,kg .bor n sp,_,_,M,wW (j:=0) (.inl ⟨rfl,rfl,rfl,_,_,rfl⟩) rfl pi () (),by simp,by simp,by simp[bo],vV () () (by show 0<sp;lia),mx⟩
 have n6:=T.n6 k0;by_cases k2:k=2
 .subst k2;have pl:=T.pl;have hci:=BV (f:=.frz) T.tr () (.inr rfl);have rc:=r9 (ps:=pa) ();obtain⟨M,mx⟩:=Ak T.tr ();rw[show pa.length+1=n by lia,show(pa.length:Int)+2=n+1 by lia]at rc mx;exact⟨cnt .own pa,cnt .bor pa,_,_,M,wW (j:=2) (.inr ⟨rfl,rfl,rfl,_,rfl⟩) rfl hci () (),by simp,by simp,by simp[bo],rc,mx⟩
 have tr:∀k,k<=6->tri k<=15:=by decide
 have tn':=tr n n6;have Gd:=T.wh.good ();have hin:=DS (fl:=.frz) Gd n1 () (.inr rfl) λS h0 hc=>Ej T.wh () S h0 hc;have rg:∀x∈cU (ws.map mm),0<=x.1/\x.1<n/\0<=x.2/\x.2<n/\x.1≠x.2:=λx hx=>by
  obtain⟨w,hw,rfl⟩:=mem_map.mp ((cY _).mem_iff.mp hx);have:=Gd.rg w hw;simp only[mm]
  lia
 have hl:∀i,(nbL (cU (ws.map mm)) i).length<=1000:=λi=>by
  unfold nbL;rw[(fY _).length_eq,length_append,length_map,length_map];have h1:=length_filter_le (λx:Int×Int=>decide (x.2=(i:Int))) (cU (ws.map mm));have h2:=length_filter_le (λx:Int×Int=>decide (x.1=(i:Int))) (cU (ws.map mm));have h3:(cU (ws.map mm)).length<64:=by rw[(cY _).length_eq,length_map];exact Gd.sz
  lia
 generalize cU (ws.map mm)=ps at *;have hnb:∀i:Nat,∀x∈nbL ps i,0<=x/\x<n:=λi x hx=>by
  rcases qv.mp hx with q|q
  .have:=rg _ q;lia
  .have:=rg _ q;lia
 have np:(0:Int)<n:=by lia
 have key:∀(s:Sd) (R:PV),R.has Fl.Oc=false->R.has Fl.Ob=false->wD [net .own n ps,pvS .frz s]=.ok R->pR [.lst .own ([.net n ws,s].map (pvS .frz))]=.ok R:=λs R rb rl h=>by
  refine az ?_;show wY [some (.lst .own [pvS .frz (.net n ws),pvS .frz s]),none]=_;unfold wY;have ho:∀s:Sd,(pvS .frz s).has Fl.Oa=false:=iE _ _ rfl;have hn:(pvS .frz s).has Fl.Ob=false:=iE _ _ rfl s;have ml:∀s:Sd,(pvS .frz s).Oe Fl.N7=pvS .frz s:=iD _ _;have mt:∀s:Sd,(pvS .frz s).Oe Fl.N8=pvS .frz s:=iD _ _;have i1:av (.lst .lnt [pvS .frz (.net n ws),pvS .frz s]) (.int (-1))=.ok (pvS .frz s):=by simp[av,aY,atI,ixN,ho]
  have i0:av (.lst .lnt [pvS .frz (.net n ws),pvS .frz s]) (.int 0)=.ok (pvS .frz (.net n ws)):=by simp[av,aY,atI,ixN,ho]
  have j0:=zy .frz (.net n ws);have j1:av (pvS .frz (.net n ws)) (.int 1)=.ok (.int n):=cC (k:=1) rfl rfl rfl;have j2:av (pvS .frz (.net n ws)) (.int 2)=.ok (.lst .frz (prL ws)):=cC (k:=2) rfl rfl ();have en:=bZ HH;have ml':=ml (.net n ws);refine af (ar (v:=pvS .frz s) (by simp[ml,ml',i1]) (by simp[hn]) rfl) ?_;simp;refine bL (d4 (by simp[ml,ml',i0,j0,kd,en]) (aM ?_ (by simp[rl])));simp only[cV,bG,ck,IJ,eG,bX,lQ,getElem?_cons_zero,getElem?_cons_succ,bj,bC,bM,dh,ml,ml',s_,Res.Og,i0,j1,j2];simp[hin,aE,mt,h,rb]
 have onn:∀(s:Sd) (R:PV) {b:MS},Fh=aq (fv 0) b->b [some (net .frz n ps),some (pvS .frz s)]=.ret R->wD [net .own n ps,pvS .frz s]=.ok R:=λs R b hb h=>by
  refine az ?_;rw[hb];refine af (cT (v:=net .own n ps) rfl) ?_;have efn:(net .own n ps).Oe Fl.N9=net .frz n ps:=by simp
  simp;exact h
 have ek:∀j,j<6->pEq (.str (kiS k)) (.str (kiS j))=.ok (.bl (decide (k=j))):=λj hj=>bZ (wj k k6 j hj);have e1:pEq (.str (kiS k)) (.str "paint")=_:=ek 1 ();have e3:pEq (.str (kiS k)) (.str "far")=_:=ek 3 ();have e4:pEq (.str (kiS k)) (.str "lead")=_:=ek 4 ();rcases(show k=1\/k=3\/k=4\/k=5 by lia)with rfl|rfl|rfl|rfl
 .have pi:=xO (n:=n) (ps:=ps);obtain⟨M,mx⟩:=Aj (n:=n) (ps:=ps) n1 () rg hl;refine⟨pnt .own n ps,pnt .bor n ps,_,_,M,key (.num "paint" []) _ () () (onn _ _ rfl ?_),by simp,by simp,by simp[bo],r8 n1 () rg hl,mx⟩;have j0:av (.tup [.str "paint"]) (.int 0)=.ok (.str "paint"):=rfl;exact bL (d4 (by simp[pvS,j0];simp[kiS]at e1;simp[e1]) (aM (by simp[pi,aE])))
 .have fi:=tK (f:=.frz) (ps:=ps) (r:=r) (.inl rfl) n1 () rn;obtain⟨M,mx⟩:=sM (cc:=5) (T:=n) (os:=fs n r) (st:=n) (ps:=ps) (.inl rfl) n1 () np () (ot n1) (by simp[fs]) hnb hl;refine⟨lea .own 5 n ps (fs n r) n n,lea .bor 5 n ps (fs n r) n n,_,_,M,key (.num "far" [r]) _ () () (onn _ _ rfl ?_),by simp,by simp,by simp[bo],kh (.inl rfl) n1 () np () (ot n1) (by simp[fs]) hnb hl,mx⟩;have j0:av (.tup [.str "far",.int r]) (.int 0)=.ok (.str "far"):=rfl;have j1:av (.tup [.str "far",.int r]) (.int 1)=.ok (.int r):=rfl;exact af (bw (by simp[pvS,j0];simp[kiS]at e1;simp[e1]) aB) (bL (d4 (by simp[pvS,j0];simp[kiS]at e3;simp[e3]) (aM (by simp[pvS,j1,fi,aE]))))
 .have N:=T.nm;rw[show min n 10=n by lia]at N;have li:=yh (ps:=ps) N n1 ();have os:=AO N n1;obtain⟨M,mx⟩:=sM (cc:=6) (T:=10*n) (os:=ls n ms) (st:=n) (ps:=ps) (.inr rfl) n1 () np () (by simpa using os) (by simp[ls,N.ml]) hnb hl;refine⟨lea .own 6 n ps (ls n ms) n (10*n),lea .bor 6 n ps (ls n ms) n (10*n),_,_,M,key (.row "lead" ms) _ () () (onn _ _ rfl ?_),by simp,by simp,by simp[bo],kh (.inr rfl) n1 () np () os (by simp[ls,N.ml]) hnb hl,mx⟩;have j0:av (.tup [.str "lead",Oj .frz ms]) (.int 0)=.ok (.str "lead"):=cC (k:=0) rfl rfl rfl;have j1:av (.tup [.str "lead",Oj .frz ms]) (.int 1)=.ok (Oj .frz ms):=cC (k:=1) rfl rfl ();exact af (bw (by simp[pvS,j0];simp[kiS]at e1;simp[e1]) aB) (af (bw (by simp[pvS,j0];simp[kiS]at e3;simp[e3]) aB) (bL (d4 (by simp[pvS,j0];simp[kiS]at e4;simp[e4]) (aM (by simp[pvS,j1,li,aE])))))
 .have gi:=A7 (f:=.frz) (ps:=ps) (r:=r) (.inl rfl) n1 () rn;obtain⟨M,mx⟩:=Dw (ps:=ps) n1 () rn hnb hl;refine⟨gro .own n ps r,gro .bor n ps r,_,_,M,key (.num "grow" [r]) _ () () (onn _ _ rfl ?_),by simp,by simp,by simp[bo],CT n1 () hnb (λi=>hl i),mx⟩;have j0:av (.tup [.str "grow",.int r]) (.int 0)=.ok (.str "grow"):=rfl;have j1:av (.tup [.str "grow",.int r]) (.int 1)=.ok (.int r):=rfl;exact af (bw (by simp[pvS,j0];simp[kiS]at e1;simp[e1]) aB) (af (bw (by simp[pvS,j0];simp[kiS]at e3;simp[e3]) aB) (af (bw (by simp[pvS,j0];simp[kiS]at e4;simp[e4]) aB) (aM (by simp[pvS,j1,gi,aE]))))
end
def Asc(z:Str):Prop:=∀c∈sg z,c<128
def gI(h:Asc z):shp (.str z)=true:=by
 have ok:PyData.strOk z=true:=by unfold PyData.strOk;rw[<- all_toList,all_eq_true];intro c hc;exact decide_eq_true (Nat.lt_trans (h c hc) ())
 simp[shp,SeqAt.shaped,PV.data,PyData.canLay0,PyData.depth,ok]
theorem oH(h:Nm a):Asc (tn a):=λc hc=>by have:=(nt h).sgs c hc;lia
def JM(b:Bool):Wc (cw b):=by cases b<;>exact vE (by rfl)
def IM(zs ys:N0):PyData.eqvAll (dataL (sL zs)) (dataL (sL ys))=decide (zs=ys):=by
 induction zs generalizing ys with
 |nil=>cases ys<;>simp[sL,dataL,PyData.eqvAll]
 |cons n ns ih=>
  cases ys with
  |nil=>simp[sL,dataL,PyData.eqvAll]
  |cons m ms=>have:=ih ms;unfold sL at this;simp only[sL,map_cons,dataL,PV.data,PyData.eqvAll,PyData.eqv,this];by_cases h:n=m<;>simp[h]
def ze(h:∀z∈zs,Asc z):shp (.lst f (sL zs))=true:=by
 have c:PyData.canLayAll0 (dataL (sL zs))=true/\PyData.depthAll (dataL (sL zs))=0:=by
  induction zs with
  |nil=>exact⟨rfl,rfl⟩
  |cons z zs ih=>obtain⟨h1,h2⟩:=ih λy hy=>h y (mem_cons_of_mem _ hy);have:=gI (h z mem_cons_self);unfold sL at h1 h2;simp[shp,SeqAt.shaped,PV.data,PyData.canLay0]at this;simp[sL,dataL,PV.data,PyData.canLayAll0,PyData.canLay0,PyData.depthAll,PyData.depth,h1,h2,this]
 simp[shp,SeqAt.shaped,PV.data,PyData.canLay0,PyData.depth,c.1,c.2]
def E2{g:Fl}{ys:N0}(h:∀z∈zs,Asc z)(h':∀z∈ys,Asc z):pEq (.lst f (sL zs)) (.lst g (sL ys))=.ok (.bl (decide (zs=ys)))/\pNe (.lst f (sL zs)) (.lst g (sL ys))=.ok (.bl (!decide (zs=ys))):=by unfold pEq pNe;simp only[ze h,ze h',Bool.and_self,if_true,PV.data,PyData.eqv,IM,and_self]
def FD(ha:Nm a)(hb:Nm b)(h:tn a=tn b):a=b:=by have h1:=(nY ha).2;have h2:=(nY hb).2;unfold tn at h;rw[h,h2]at h1;exact(Option.some.inj h1).symm
def rS{ws:N0}(h0:ws≠[])(hl:ws.length<=150)(h:∀z∈ws,Wc z):cB (sj ws) (.str " ")=.ok (.lst .own (sL ws)):=by exact j_ () h0 hl λz hz=>⟨λc hc=>((h z hz).1 c hc).1,by have:=(h z hz).2;lia⟩
def Nc(z:Str):Prop:=∀c∈sg z,c≠58/\c<128
theorem ES{ls:N0}(h:∀z∈ls,Nc z):Nc (sj ls):=λc hc=>by
 rw[show sj ls=Str.join ⟨#[32]⟩ ls from StrLaws.glued_eq_join _ _]at hc;rcases oj 32 _ c hc with q |⟨z,hz,q⟩
 .lia
 .exact h z hz c q
theorem ER(h:Nm a):Nc (tn a):=λc hc=>by have:=(nt h).sgs c hc;lia
def ET(h:(sg z).all (λc=>decide (c≠58/\c<128))=true):Nc z:=λc hc=>of_decide_eq_true (all_eq_true.mp h c hc)
def Nc.asc(h:Nc z):Asc z:=λc hc=>(h c hc).2
def Sml.nm(h:Sml l):∀a∈l,Nm a:=λa ha=>cI (h.2 a ha).1 (h.2 a ha).2
theorem wd(h:Sml l):Nc (md l):=by
 unfold md;split
 .exact ET (by rfl)
 .exact ES λz hz=>by obtain⟨a,ha,rfl⟩:=mem_map.mp hz;exact ER (h.nm a ha)
theorem HQ:shp (.str "-")=true:=by decide +kernel
theorem KK(h:Sml l):md l="-"↔l=[]:=by
 constructor
 .intro e;cases l with
  |nil=>rfl
  |cons a l=>
   have n:=cI (h.2 a mem_cons_self).1 (h.2 a mem_cons_self).2;have d:=uX n (h.2 a mem_cons_self).1;have e':=congrArg sg e;unfold md at e';rw[if_neg (),show sg ("-":Str)=[45] by decide +kernel,map_cons]at e';have hd:∃t,sg (sj (tn a::l.map tn))=sg (tn a)++ t:=by
    cases l with
    |nil=>exact⟨[],by rw[append_nil];exact congrArg sg (jH 32 (tn a))⟩
    | cons b l=>exact ⟨sg ⟨#[32]⟩ ++ sg (jo 32 (tn b::l.map tn)),by
      show sg (jo 32 (tn a::tn b::l.map tn))=_;rw[gq 32 _ (),cZ,cZ,append_assoc]⟩
   obtain⟨t,ht⟩:=hd;rw[ht]at e';have ne:sg (tn a)≠ []:=by obtain⟨m,rfl⟩:=Int.eq_ofNat_of_zero_le (h.2 a mem_cons_self).1;have e:sg (tn ((m:Nat):Int))=dg m:=qf m;rw[e];exact(t7 m).ne
   cases q:sg (tn a)with
   |nil=>exact absurd q ne
   |cons c u=>
    rw[q]at e' d;have:=d c mem_cons_self;simp at e'
    lia
 .rintro rfl;rfl
def AJ(h:Sml l):pEq (.str (md l)) (.str "-")=.ok (.bl (decide (l=[])))/\pNe (.str (md l)) (.str "-")=.ok (.bl (!decide (l=[]))):=by have:=xy (gI (wd h).asc) HQ;rw[show decide (md l="-")=decide (l=[]) by rw[decide_eq_decide];exact KK h]at this;exact this
def Ii{a:Str}(ha:Asc a)(h:∀z∈zs,Asc z)(hm:a∈zs):pIn (.str a) (.lst f (sL zs))=.ok (.bl true):=by
 unfold pIn;simp only[aY];have h1:(sL zs).all shp=true:=all_eq_true.mpr λv hv=>by obtain⟨z,hz,rfl⟩:=mem_map.mp hv;exact gI (h z hz)
 have h2:inL (.str a) (sL zs)=true:=by unfold inL sL;rw[List.any_map,List.any_eq_true];exact⟨a,hm,by simp[PV.data,PyData.eqv]⟩
 rw[gI ha,h1,h2];rfl
theorem Lk(b:Bool):isB (eB (.str (cw b)) (.lst .own [.str "calm",.str "wild"])) false=true:=by cases b<;>decide +kernel
theorem BT(b:Bool):isB (pEq (.str (cw b)) (.str "calm")) b=true/\isB (pNe (.str (cw b)) (.str "calm")) (!b)=true/\isB (pEq (.str (cw b)) (.str "wild")) (!b)=true:=by cases b<;>decide +kernel
section
variable{R o:PV}{n:Nat}{sp:Int}{al ip:Bool}{D:NW->Nat->Int}{M:NW->Int}{cs nm:NW}
def Fw(C:Ce n sp cs):∀z∈swd n ip D cs,Wc z:=λz hz=>by
 rcases mem_append.mp hz with hz|hz
 .obtain⟨a,ha,rfl⟩:=mem_map.mp hz;exact rD (C.nu a ha)
 .rw[mem_singleton.mp hz];exact JM _
theorem HM(C:Ce n sp cs):Nc (sj (swd n ip D cs)):=ES λz hz=>by
 rcases mem_append.mp hz with hz|hz
 .obtain⟨a,ha,rfl⟩:=mem_map.mp hz;exact ER (C.nu a ha)
 .rw[mem_singleton.mp hz];cases caR n ip D cs<;>exact ET (by rfl)
theorem o5(r:Rl o n sp al ip D)(C:Ce n sp cs):cB (sj (swd n ip D cs)) (.str " ")=.ok (.lst .own (sL (swd n ip D cs))):=by have:=C.1;have:=r.n20;exact rS (by simp[swd]) (by simp[swd];lia) (Fw C)
theorem wP(C:Ce n sp cs):im (sL (swd n ip D cs)) none (some (n:Int))=sL (cs.map tn):=by have:=C.1;rw[cut_to _ _ (by simp[swd];lia)];unfold swd sL;rw[map_append,List.take_left' (by simp[C.1])]
def rK(r:Rl o n sp al ip D)(C:Ce n sp cs):tN [.str (sj (swd n ip D cs)),.int n]=.ok (.tup [.lst .own (sL (cs.map tn)),.str (cw (caR n ip D cs))]):=by
 have cl:=C.1;refine az ?_;refine af (ar ((Ao rfl).trans (o5 r C))) ?_;simp;have ix:∀f,av (.lst f (sL (swd n ip D cs))) (.int n)=.ok (.str (cw (caR n ip D cs))):=λf=>dJ () (by simp[swd,cl]);have ni:=bZ (Lk (caR n ip D cs));have sl:(swd n ip D cs).length=n+1:=by simp[swd,cl]
 refine af (bw (by simp[sl,ix,ni]) aB) (aM ?_);have cu:=wP (ip:=ip) (D:=D) C;simp only[ow,bG,ck,ik,il,jy,eG,bX,getElem?_cons_zero,getElem?_cons_succ,bj,bC,jM,h_,Res.Og,gZ,jc,cu,ix]
def qO:a∈dnR n D cs nm↔∃i:Nat,i<n/\a=i/\D cs i≠gt cs i/\nm.contains a=true:=by
 unfold dnR mvR;simp;constructor
 .rintro⟨⟨i,⟨h1,h2⟩,rfl⟩,h3⟩;exact⟨i,h1,rfl,h2,h3⟩
 .rintro⟨i,h1,rfl,h2,h3⟩;exact⟨⟨i,⟨h1,h2⟩,rfl⟩,h3⟩
def IP(hn:cs.length=n):dnR n D cs nm=((range n).filter λi=>decide (gt cs i≠gt (stR n D cs nm) i)).map λi:Nat=>(i:Int):=by
 unfold dnR mvR;rw[List.filter_map,List.filter_filter];refine congrArg _ (filter_congr λi hi=>?_);rw[gL (mem_range.mp hi)];simp only[Function.comp];cases q:nm.contains (i:Int)with
 |true=>simp[eq_comm]
 |false=>simp
def Cm(hn:cs.length=n)(h:dnR n D cs nm=[]):stR n D cs nm=cs:=Classical.byContradiction λz=>by obtain⟨i,hi,h1,h2⟩:=k8 hn z;have:(i:Int)∈ dnR n D cs nm:=qO.mpr ⟨i,hi,rfl,h2,h1⟩;rw[h]at this;cases this
def Co(hn:cs.length=n)(h:dnR n D cs nm≠[]):stR n D cs nm≠cs:=λe=>by obtain⟨a,ha⟩:=List.exists_mem_of_ne_nil _ h;obtain⟨i,hi,rfl,hd,hm⟩:=qO.mp ha;have:=gL (D:=D) (cs:=cs) (nm:=nm) hi;rw[e,if_pos hm]at this;exact hd this.symm
theorem xb(r:Rl o n sp al ip D)(C:Ce n sp cs)(hg:iT n al nm):Bz [.lst .frz (sL (cs.map tn)),.lst .frz (sL (nm.map tn)),.str (md (dnR n D cs nm)),.lst .frz (sL ((stR n D cs nm).map tn))]=.ok (.bl true):=by
 have n20:=r.n20;have cl:=C.1;have C':=C.go r nm;obtain⟨dS,d20⟩:=qN r;obtain⟨q1,q2⟩:=AJ dS;have nn:∀a∈nm,Nm a:=λa ha=>by have:=hg.2.1 a ha;exact cI () ()
 have an:∀z∈nm.map tn,Asc z:=λz hz=>by obtain⟨a,ha,rfl⟩:=mem_map.mp hz;exact oH (nn a ha)
 have ad:∀z ∈(dnR n D cs nm).map tn,Asc z:=λz hz=>by obtain⟨a,ha,rfl⟩:=mem_map.mp hz;exact oH (dS.nm a ha)
 have dm:=IP (D:=D) (nm:=nm) C.1;have dsub:∀a∈dnR n D cs nm,a∈nm:=λa ha=>by obtain⟨i,_,rfl,_,h⟩:=qO.mp ha;simpa using h
 have eqd:∀f,pEq (.lst f (sL ((dnR n D cs nm).map tn))) (.lst .own [])=_/\pNe (.lst f (sL ((dnR n D cs nm).map tn))) (.lst .own [])=_:=λf=>E2 (ys:=[]) ad (λz hz=>nomatch hz);generalize hst:stR n D cs nm=st at *;generalize dnR n D cs nm=dn at *;refine az ?_;show Fr [some (.lst .frz (sL (cs.map tn))),some (.lst .frz (sL (nm.map tn))),some (.str (md dn)),some (.lst .frz (sL (st.map tn))),none]=_;refine af (bw ?_ aB) ?_
 .by_cases d0:dn=[]
  .rw[qI,kR];simp only[eG,bX,lQ,getElem?_cons_zero,getElem?_cons_succ,bj,fu,Res.Og,q2];simp[d0]
  .have em:md dn=sj (dn.map tn):=if_neg d0;have sp:cB (md dn) (.str " ")=.ok (.lst .own (sL (dn.map tn))):=by rw[em];exact rS (by simpa using d0) (by simp;lia) λz hz=>by obtain⟨a,ha,rfl⟩:=mem_map.mp hz;exact rD (dS.nm a ha)
   have hc:aV [1] 1 (bE (mMt cB (ac 2) (mC (.str " ")))) (tgN 1) bD (mOp pIn (ac 1) (ac 0)) [some (.lst .frz (sL (cs.map tn))),some (.lst .frz (sL (nm.map tn))),some (.str (md dn)),some (.lst .frz (sL (st.map tn))),none]=.ok (.lst .own (dn.map λ_=>.bl true)):=by refine aQ (xs:=sL (dn.map tn)) (by rw[wJ,Ao rfl,sp];simp) (by simp;lia) ?_;rw[show sL (dn.map tn)=dn.map λa=>PV.str (tn a) by simp[sL]];exact a6 dn λa ha=>⟨[some (.lst .frz (sL (nm.map tn))),some (.str (tn a))],by simp[tgN,aS,bU],by simp[Ii (ad _ (mem_map_of_mem ha)) an (mem_map_of_mem (dsub a ha))],by simp,by simp⟩
   have hb:qq mI (.lst .own (dn.map λ_=>PV.bl true))=.ok (.bl true):=by rw[show(dn.map λ_=>PV.bl true)=(dn.map λ_=>true).map .bl by simp];unfold qq;dsimp only;rw[pY];simp[mI]
   rw[qI,kR];simp only[eG,bX,lQ,getElem?_cons_zero,getElem?_cons_succ,bj,fu,Res.Og,q2,D9,BI,cV,bG,hc];simp[hb]
 refine af (ar (v:=.lst .own (sL (dn.map tn))) ?_) ?_
 .rw[dm,show sL ((((range n).filter λi=>decide (gt cs i≠gt st i)).map λi:Nat=>(i:Int)).map tn)=((range n).filter λi=>decide (gt cs i≠gt st i)).map λi:Nat=>PV.str (tn i) by simp[sL]];refine aQ (bV (n:=n) (by simp[cl]) ()) (by rw[bz];lia) ?_;refine bP (range n) λi hi=>⟨[some (.lst .frz (sL (cs.map tn))),some (.lst .frz (sL (st.map tn))),Ol (0+i)],by simp[tgN,aS,bU],?_,λ_=>⟨by simp[(nt (uY (m:=i) (by grind))).st],by simp,by simp⟩⟩
  have hi:=mem_range.mp hi;have ix:∀l:NW,l.length=n->av (.lst .frz (sL (l.map tn))) (.int (i:Int))=.ok (.str (tn (gt l i))):=λl h=>dJ () (by simp[gt,h,hi]);have g1:=C.nu _ (dw (i:=i) ());have g2:=C'.nu _ (dw (i:=i) (by have:=C'.1;lia));have ne:=(xy (gI (oH g1)) (gI (oH g2))).2;rw[show decide (tn (gt cs i)=tn (gt st i))=decide (gt cs i=gt st i) by rw[decide_eq_decide];exact⟨FD g1 g2,λh=>by rw[h]⟩]at ne;simp[ix cs C.1,ix st C'.1,ne]
 simp;refine aM ?_ ();by_cases d0:dn=[]
 .simp only[BJ,qJ,eG,bX,lQ,lP,ck,getElem?_cons_zero,getElem?_cons_succ,bj,fu,bC,jM,Res.Og,q1,eqd];simp[d0]
 .have em:md dn=sj (dn.map tn):=if_neg d0;have jo:mMt fK (mC (.str " ")) (ac 4) [some (.lst .frz (sL (cs.map tn))),some (.lst .frz (sL (nm.map tn))),some (.str (md dn)),some (.lst .frz (sL (st.map tn))),some (.lst .own (sL (dn.map tn)))]=.ok (.str (md dn)):=by
   rw[em,pb];refine iO (f:=.lnt) (by decide +kernel) (by simp;lia) (λz hz=>?_) ();obtain⟨a,ha,rfl⟩:=mem_map.mp hz;have:=eR (dS.nm a ha)
   lia
  have sm:=(xy (gI (wd dS).asc) (gI (wd dS).asc)).1;simp only[BJ,qJ,eG,bX,lQ,lP,ck,getElem?_cons_zero,getElem?_cons_succ,bj,fu,bC,jM,Res.Og,q1,jo,sm,eqd];simp[d0]
end
noncomputable def lns:List (NW)->List Sd
 | []=>[.num "may" []]
 |nm::t=>.row "turn" nm::.num "measure" []::lns t
def ans(n:Nat)(ip:Bool)(D:NW->Nat->Int)(M:NW->Int)(cs:NW):List (NW)->N0
 | []=>[md (mvR n D cs)]
 |nm::t=>twd n ip D cs nm::tn (M (stR n D cs nm))::ans n ip D M (stR n D cs nm) t
def KI{g:Str->PV->N6}(h:m env=.ok (.str z)):mMt g m (mC v) env=g z v:=by unfold mMt;rw[h];simp
theorem tD(f:Fl)(a:N0)(x:Str):av (.lst f (sL (a++[x]))) (.int (-1))=.ok (.str x):=by
 have e:(-1+((a.length:Int)+1)).toNat=a.length:=by lia
 simp[av,aY,atI,ixN,sL];rw[if_pos (),Option.bind_some,e];simp
section
variable{R o:PV}{n:Nat}{sp:Int}{al ip:Bool}{D:NW->Nat->Int}{M:NW->Int}
theorem wZ:∀(tns:List (NW)) (cs:NW),(ans n ip D M cs tns).length=2*tns.length+1
 | [],_=>rfl
 |nm::t,cs=>by simp[ans,wZ t];lia
def AH(hR:bo R=o)(r:Rl o n sp al ip D)(m:Mx o n sp al ip D M)(C:Ce n sp cs):Stp R cs (.num "measure" []) cs (tn (M cs)):=by obtain⟨b1,b2⟩:=m.bd cs C.1 C.2.1;exact AG hR r (m.ms.me .frz cs (.inl (.inr rfl)) C.1 C.2.1) (uf b1 b2).1
def sB(hR:bo R=o)(r:Rl o n sp al ip D)(m:Mx o n sp al ip D M):∀(tns:List (NW)) (cs:NW),Ce n sp cs->(∀nm∈tns,iT n al nm)->p8 R cs (lns tns) (ans n ip D M cs tns)
 | [],cs,C,_=>.cons (DJ hR r C) .nil
 |nm::t,cs,C,h=>.cons (yU hR r C (h nm mem_cons_self)) (.cons (AH hR r m (C.go r nm)) (sB hR r m t _ (C.go r nm) λa ha=>h a (mem_cons_of_mem _ ha)))
abbrev stV(n:Nat)(ip:Bool)(D:NW->Nat->Int)(cs:NW)(f:Fl):PV:=.tup [.lst f (sL (cs.map tn)),.str (cw (caR n ip D cs))]
def tw(tns:List (NW)):N5:=tns.map λnm=>.lst .frz (sL (nm.map tn))
def uq(tns:List (NW)):(tw tns).length=tns.length:=by simp[tw]
def uo(h:g .frz=.frz)(tns:List (NW)):mapL g (tw tns)=tw tns:=n8 tns λnm _=>by simp[h]
def FB{tns:List (NW)}{nm:NW}(h:tns[k]?=some nm):av (.lst f (tw tns)) (.int k)=.ok (.lst .frz (sL (nm.map tn))):=cC rfl (by simp[tw,h]) ()
def A1{M:Int}(h0:0<=M)(h:M<10 ^ 200):gD (λz=>decide (z.length<=640)&&(PySem.intText? z).isSome) (λz=>.int ((PySem.intText? z).getD 0)) (.str (tn M))=.ok (.int M):=by obtain⟨_,h1,h2⟩:=uf h0 h;unfold gD;dsimp only;rw[if_pos (by simp[h1,h2]),h2];rfl
theorem w9{nm:NW}(r:Rl o n sp al ip D)(C:Ce n sp cs):cB (twd n ip D cs nm) (.str " : ")=.ok (.lst .own (sL [md (dnR n D cs nm),sj (swd n ip D (stR n D cs nm))])):=by
 have C':=C.go r nm;obtain⟨dS,d20⟩:=qN r;have ml:=AI dS d20;have sl:=vJ r C';have n1:=wd dS;have n2:=HM (ip:=ip) (D:=D) C';unfold twd;generalize md (dnR n D cs nm)=a at *;generalize sj (swd n ip D (stR n D cs nm))=b at *;have e:sj [a,":",b]=a++" : "++b:=by rfl
 rw[e];unfold cB;dsimp only;rw [if_pos ⟨by rfl,by rw [apl,apl,show (" : " : Str).length=3 by rfl];lia⟩,rO (λc hc=>(n1 c hc).1) (λc hc=>(n2 c hc).1) (λc hc=>by
  rcases mem_append.mp hc with hc|hc
  .have:=n1 c hc;lia
  .have:=n2 c hc;lia)]
 rfl
theorem w5{s0:NW}{tns:List (NW)}(r:Rl o n sp al ip D)(m:Mx o n sp al ip D M)(C:Ce n sp s0)(hg:∀nm∈tns,iT n al nm)(hl:tns.length<=100):Bp [.lst .bor (sL (sj (swd n ip D s0)::tn (M s0)::ans n ip D M s0 tns)),.lst .bor (tw tns),.int n]=.ok (.bl true):=by
 obtain⟨A,hA⟩:∃A,A=sj (swd n ip D s0)::tn (M s0)::ans n ip D M s0 tns:=⟨_,rfl⟩
 rw[<- hA];have ix:∀{i:Nat}{z:Str},A[i]?=some z->av (.lst .bor (sL A)) (.int (i:Int))=.ok (.str z):=λ{i z} h=>dJ () (by simpa using h);have i0:av (.lst .bor (sL A)) (.int 0)=.ok (.str (sj (swd n ip D s0))):=ix (i:=0) (by rw[hA];rfl);have i1:av (.lst .bor (sL A)) (.int 1)=.ok (.str (tn (M s0))):=ix (i:=1) (by rw[hA];rfl);obtain⟨b1,b2⟩:=m.bd s0 C.1 C.2.1;have tm:=uo (g:=Fl.N7) rfl tns;refine az ?_;show B3 [some (.lst .bor (sL A)),some (.lst .bor (tw tns)),Ol n,none,none,none,none,none,none,none,none]=_;unfold B3;refine af (ar (v:=stV n ip D s0 .own) (by simp[i0,rK r C,aE])) ?_;simp only[s0_,s1_];refine af (cT (v:=stV n ip D s0 .own) rfl) ?_;have fz:∀cs,(stV n ip D cs .own).Oe Fl.N9=stV n ip D cs .frz:=λcs=>by simp
 simp only[s0_,s1_,fz];have nn:∀cs,uQ (stV n ip D cs .frz) .non=.ok (.bl false):=λcs=>rfl;have ml:∀cs,(stV n ip D cs .frz).Oe Fl.N7=stV n ip D cs .frz:=λcs=>by simp
 have s_0:∀cs,av (stV n ip D cs .frz) (.int 0)=.ok (.lst .frz (sL (cs.map tn))):=λcs=>cC (k:=0) rfl rfl ();have s_1:∀cs,av (stV n ip D cs .frz) (.int 1)=.ok (.str (cw (caR n ip D cs))):=λcs=>cC (k:=1) rfl rfl rfl;have hob:∀cs,(stV n ip D cs .own).has Fl.Oc=false:=λcs=>by simp
 have hol:∀cs,(stV n ip D cs .own).has Fl.Ob=false:=λcs=>by simp
 have hnl:∀cs,(stV n ip D cs .frz).has Fl.Ob=false:=λcs=>by simp
 have st_rd:∀cs,Ce n sp cs->tN [.str (sj (swd n ip D cs)),.int n]=.ok (stV n ip D cs .own):=λcs C=>rK r C;generalize stV n ip D=S at *;refine af (bw (by simp[ml,nn]) aB) ?_;refine af (ar (v:=.int (M s0)) (by simp[i1,p1,A1 b1 b2])) ?_;simp only[s0_,s1_];refine af (ar (v:=.int (M s0)) ()) ?_;simp only[s0_,s1_];refine af (ar (v:=.int 0) ()) ?_;simp only[s0_,s1_];refine iA (λk e=>∃cs d x7 x8 x9 x10,e=[some (.lst .bor (sL A)),some (.lst .bor (tw tns)),Ol n,some (S cs .frz),Ol (M s0),Ol (M cs),Ol d,x7,x8,x9,x10]/\Ce n sp cs/\A.drop (2+2*k)=ans n ip D M cs (tns.drop k)/\0<=d/\d<=M s0/\(caR n ip D cs=false->d+M cs<=M s0)) (bV (n:=tns.length) (by simp[tm,p1,cG,aY,uq]) ()) ⟨s0,0,none,none,none,none,rfl,C,by rw[hA];rfl,by lia,b1,λ_=>by lia⟩ (λk x e hx hP=>?_) (λe hP=>?_)
 .obtain⟨cs,d,x7,x8,x9,x10,rfl,C,hd,d0,d1,d2⟩:=hP;obtain⟨hk,rfl⟩:=eA hx;obtain⟨nm,hnm⟩:∃nm,nm=tns[k]:=⟨_,rfl⟩
  rw[drop_eq_getElem_cons hk,<- hnm,ans]at hd;have gn:=hg nm (by rw[hnm];exact getElem_mem _);have a0:A[2+2*k]?=some (twd n ip D cs nm):=by have:=congrArg (·[0]?) hd;simpa using this
  have a1:A[3+2*k]?=some (tn (M (stR n D cs nm))):=by
   have:=congrArg (·[1]?) hd;simp at this;rw[<- this];congr 1
   lia
  have hd':A.drop (2+2*(k+1))=ans n ip D M (stR n D cs nm) (tns.drop (k+1)):=by have:=congrArg (List.drop 2) hd;rw[List.drop_drop]at this;rw[show 2+2*(k+1)=2+2*k+2 by lia,this];rfl
  have C':=C.go r nm;have j0:av (.lst .bor (sL A)) (.int (2+2*(k:Int)))=.ok (.str (twd n ip D cs nm)):=by exact ix a0
  have j1:av (.lst .bor (sL A)) (.int (3+2*(k:Int)))=.ok (.str (tn (M (stR n D cs nm)))):=by exact ix a1
  have mu:dG (.int 2) (.int (k:Int))=.ok (.int (2*(k:Int))):=fH (.inl ⟨by decide,by decide⟩);have ti:=FB (f:=.bor) (k:=k) (nm:=nm) (tns:=tns) (by rw[hnm];simp[hk]);have sp':=w9 (nm:=nm) r C;have tw':=xb (nm:=nm) r C gn;have sr:=st_rd _ C';obtain⟨dS,_⟩:=qN (cs:=cs) (nm:=nm) r;obtain⟨q1,q2⟩:=AJ dS;have sc:=m.st cs nm C.1 C.2.1;obtain⟨c1,c2⟩:=m.bd _ C'.1 C'.2.1;have io:=A1 c1 c2;have fa:caR n ip D cs=false->dnR n D cs nm≠[]->M (stR n D cs nm)<M cs:=λhc hne=>m.ms.fa cs nm C.1 C.2.1 gn hc (Co C.1 hne);have sa:dnR n D cs nm=[]->stR n D cs nm=cs:=Cm C.1;obtain⟨w1,_,w3⟩:=BT (caR n ip D cs);have w1:=bZ w1;have w3:=bZ w3;have w2:=bZ (BT (caR n ip D (stR n D cs nm))).2.1;generalize dnR n D cs nm=dn at *;generalize stR n D cs nm=st at *;have pm:∀f,av (.lst f (sL [md dn,sj (swd n ip D st)])) (.int (-1))=.ok (.str (sj (swd n ip D st))):=λf=>tD f [md dn] _;have p0:∀f,av (.lst f (sL [md dn,sj (swd n ip D st)])) (.int 0)=.ok (.str (md dn)):=λf=>dJ () rfl;have pl:∀f,cG (.lst f (sL [md dn,sj (swd n ip D st)]))=.ok (.int 2):=λf=>rfl;generalize hP:sL [md dn,sj (swd n ip D st)]=P at *;have Pm:mapL Fl.N7 P=P:=by rw[<- hP];simp
  have Ph:hasL Fl.Ob P=false:=by rw[<- hP];simp
  refine⟨_,cX rfl,?_⟩;simp only[s0_,s1_,Int.zero_add];refine bh (ar (v:=.lst .own P) ?_ (by simp[Ph]) rfl) ?_
  .rw[KI (z:=twd n ip D cs nm) (by simp[mu,j0]),sp']
  simp only[s0_,s1_];refine bh (ar (v:=S st .own) (by simp[Pm,pm,sr,aE,hob]) (by simp[hol]) rfl) ?_;simp only[s0_,s1_];refine bh (cT (v:=S st .own) rfl) ?_;simp only[s0_,s1_,fz];refine bh (bw (by simp[Pm,pl,p1,ml,nn,s_0,tm,ti,p0,tw',aE]) aB) ?_;refine bh (ar (v:=.int (M st)) (by simp[mu,j1,p1,io])) ?_;simp only[s0_,s1_];refine bh (bw ?_ aB) ?_
  .cases hc:caR n ip D cs with
   |false=>rw[hc]at w1;simp[ml,s_1,w1,hc];lia
   |true=>rw[hc]at w1;rw[sc hc]at w2;simp[ml,s_1,w1,w2,hc,sc hc];lia
  by_cases q:caR n ip D cs=false/\dn≠[]
  .obtain⟨h1,h2⟩:=q;have lt:=fa h1 h2;have:=d2 h1;rw[h1]at w3;refine bh (d4 (by simp[ml,s_1,w3,h1,Pm,p0,q2,h2]) (af (Ja (a:=d) (b:=1) rfl () rfl) (bw (by simp;lia) aB))) ?_;refine bh (ar (v:=S st .frz) (by simp[ml]) (by simp[hnl]) rfl) ?_;exact bN (ar (v:=.int (M st)) ()) ⟨st,d+1,_,_,_,_,rfl,C',hd',by lia,by lia,λ_=>by lia⟩
  .have ne:d+0=d:=by lia
   refine bh (bw ?_ aB) ?_
   .cases hc:caR n ip D cs with
    |true=>rw[hc]at w3;simp[ml,s_1,w3,hc]
    |false=>have:dn=[]:=Classical.byContradiction λz=>q ⟨hc,z⟩;rw[hc]at w3;rw[decide_eq_true this]at q2;simp[ml,s_1,w3,hc,Pm,p0,q2]
   refine bh (ar (v:=S st .frz) (by simp[ml]) (by simp[hnl]) rfl) ?_;refine bN (ar (v:=.int (M st)) ()) ⟨st,d,_,_,_,_,rfl,C',hd',d0,d1,λhs=>?_⟩;cases hc:caR n ip D cs with
   |true=>rw[sc hc]at hs;cases hs
   |false=>have e:=sa (Classical.byContradiction λz=>q ⟨hc,z⟩);rw[e];exact d2 hc
 .obtain⟨cs,d,x7,x8,x9,x10,rfl,C,hd,d0,d1,_⟩:=hP;rw[bz,drop_length,ans]at hd;have la:av (.lst .bor (sL A)) (.int (-1))=.ok (.str (md (mvR n D cs))):=by rw[<- List.take_append_drop (2+2*tns.length) A,hd];exact tD _ _ _
  have w1:=bZ (BT (caR n ip D cs)).1;have q2:=(AJ (uZ (cs:=cs) r)).2;refine aM ?_ ();cases hc:caR n ip D cs with
  |true=>rw[hc]at w1;simp[eP,d0,d1,ml,s_1,w1,hc]
  |false=>have:=m.ms.mv cs C.1 C.2.1 hc;rw[hc]at w1;simp[eP,d0,d1,ml,s_1,w1,hc,la,q2,this]
end
def HR{d:Nat->Option (N5->N6)}{r:Res (N5)}{x o:PV}(h:x.Oe Fl.N8=o)(ho:o.Oe Fl.N8=o):jA d r x=jA d r o:=by
 subst h;cases x with
 |obj f c ks vs=>
  rw[PV.Oe]at ho ⊢;unfold jA;dsimp only;cases d c with
  |none=>rfl
  |some m=>
   cases r with
   |ok xs=>simp only[dM,bM,ho];rfl
   |exc c|stuck=>rfl
 |_=>first|rfl|simp
def tl(tns:List (NW)):N0:=tns.flatMap λnm=>[line (.row "turn" nm),"measure"]
def FE(tns:List (NW))(nm:NW):tl (tns++[nm])=tl tns++[line (.row "turn" nm),"measure"]:=by simp[tl]
def qz:∀tns:List (NW),(lns tns).map line=tl tns++[("may":Str)]
 | []=>by show [jo 32 ["may"]]=_;rfl
 |nm::t=>by show line (.row "turn" nm)::jo 32 ["measure"]::(lns t).map line=_;rw[jH,qz t];rfl
theorem uu(tns:List (NW)):(tl tns).length=2*tns.length:=by
 induction tns with
 |nil=>rfl
 |cons a l ih=>rw[show tl (a::l)=line (.row "turn" a) :: "measure" :: tl l from rfl];simp;lia
theorem KY:∀k,k<6->isB (pIn (.str (kiS k)) (.lst .own [.str "pass",.str "paint",.str "count"])) (!decide (3<=k))=true:=by decide +kernel
def AL:line (.num "measure" [])= "measure":=jH 32 _
def DM(tns:List (NW)):(lns tns).length=2*tns.length+1:=by have:=congrArg List.length (qz tns);simpa[uu]using this
abbrev lev(fl:Fl)(ns:NW)(V:PV)(n:Nat)(sp:Int)(H:Str)(rs:NW)(tns:List (NW))(a b c:Option PV):En:=[On fl ns,some V,Ol n,some (.tup [.int sp,.str H]),Om rs,some (.lst .own (sL ([H,line (.row "state" rs),"measure"]++ tl tns))),some (.lst .own (tw tns)),a,b,c]
theorem law_true(fl:Fl)(ns:NW)(h:Scr fl)(hl:ns.length<=63):E1 [.lst fl (ns.map .int)]=.ok (.bl true):=by
 rw[AZ];obtain⟨k,n,ws,pa,ms,r,sp0,htd,T⟩:=Cg fl ns h;obtain⟨R,o,ip,D,M,hru,rb,rl,hR,K,mx⟩:=CM T;have hh:=DU T;have n1:=T.n1;have n12:=T.n12;have k6:=T.k6;have kin:=bZ (KY k k6);have so:=T.so;have np:(0:Int)<n:=by lia
 have s60:spn k n sp0<=10 ^ 60:=by have:=T.s60;have:((n:Int)+1)*((n:Int)+1)<= 13*13:=Int.mul_le_mul () () () ();rcases(show k=0\/k=1\/k=2\/k=3\/k=4\/k=5 by lia)with rfl|rfl|rfl|rfl|rfl|rfl<;>simp only[spn]<;>lia
 obtain⟨a,A',A2,b,ea,la,eb,hb⟩:∃a A' A2 b,hd k n ws pa ms r sp0=a::A'/\(hd k n ws pa ms r sp0).length=(if kd a="net" then 2 else 1)/\hd k n ws pa ms r sp0=A2++[b]/\kd b∈rsN (kd a):=by
  rcases(show k=0\/k=1\/k=2\/k=3\/k=4\/k=5 by lia)with rfl|rfl|rfl|rfl|rfl|rfl
  .exact⟨_,_,[],_,rfl,by rw[if_neg (by simp only[kd];decide +kernel)];rfl,rfl,by simp only[kd];decide +kernel⟩
  .exact⟨_,_,[.net n ws],_,rfl,rfl,rfl,by simp only[kd];decide +kernel⟩
  .exact⟨_,_,[],_,rfl,by rw[if_neg (by simp only[kd];decide +kernel)];rfl,rfl,by simp only[kd];decide +kernel⟩
  .exact⟨_,_,[.net n ws],_,rfl,rfl,rfl,by simp only[kd];decide +kernel⟩
  .exact⟨_,_,[.net n ws],_,rfl,rfl,rfl,by simp only[kd];decide +kernel⟩
  .exact⟨_,_,[.net n ws],_,rfl,rfl,rfl,by simp only[kd];decide +kernel⟩
 generalize hA:hd k n ws pa ms r sp0=A at *;generalize hS:spn k n sp0=sp at *;generalize hal:decide (3<=k)=al at *;have A0:A≠[]:=by rw[ea];simp
 have Al:A.length<=2:=by rw[la];split<;>lia
 have tdb:(tdV k n ws pa ms r sp0).has Fl.Oc=false:=yZ _ rfl;have tdl:(tdV k n ws pa ms r sp0).Od=true:=by simp[yZ Fl.Ob rfl]
 obtain⟨H,hH⟩:∃H,H=jo 10 (A.map line):=⟨_,rfl⟩
 rw[<- hH]at hh;have Hl:H.length<=6000:=by
  rw[hH,jn];have:=ig 10 2882 (A.map line) λz hz=>by
   obtain⟨s,hs,rfl⟩:=mem_map.mp hz;have:=sZ (so s hs);have:=(gR (so s hs)).1.2
   lia
  rw[length_map]at this
  lia
 have p59:oO (.int 10) (.int 59)=.ok (.int 100000000000000000000000000000000000000000000000000000000000):=by rfl
 have m2:dG (.int 2) (.int 100000000000000000000000000000000000000000000000000000000000)=.ok (.int 200000000000000000000000000000000000000000000000000000000000):=by rfl
 have mm:∀x:Int,fm (.int x) (.int 200000000000000000000000000000000000000000000000000000000000)=.ok (.int (x%200000000000000000000000000000000000000000000000000000000000)):=λx=>cJ ();obtain⟨rs,hrs⟩:∃rs:NW,rs=(range n).map λi:Nat=>cell ns (4+i)%200000000000000000000000000000000000000000000000000000000000-100000000000000000000000000000000000000000000000000000000000:=⟨_,rfl⟩
 have rn:rs.length=n:=by rw[hrs];simp
 have rN:∀x∈rs,Nm x:=λx hx=>by
  rw[hrs]at hx;obtain⟨i,_,rfl⟩:=mem_map.mp hx;unfold Nm
  lia
 have sst:SOk (.row "state" rs):=⟨by simp[lY],by lia,rN⟩
 have lst:"state "++sj (rs.map tn)=line (.row "state" rs):=by show _=jo 32 ("state" :: rs.map tn);rw[gq 32 _ (λe=>by have:=congrArg List.length e;simp at this;simp[this]at rn;lia)];exact congrArg (·++sj (rs.map tn)) (by decide +kernel:("state ":Str)= "state" ++⟨#[32]⟩)
 refine az (v:=.bl true) ?_;show B6 [On fl ns,none,none,none,none,none,none,none,none,none]=_;unfold B6;refine af (ar (v:=tdV k n ws pa ms r sp0) (by simp[h.N7,h.N8,htd,aE,tdb]) tdl rfl) ?_;simp only[s0_,s1_];refine af (ar (v:=.int n) (by simp[JP])) ?_;simp only[s0_,s1_];refine af (ar (v:=.tup [.int sp,.str H]) (by simp[hh,aE])) ?_;simp only[s0_,s1_];refine af (ar (v:=Oi rs) ?_) ?_
 .rw[hrs];refine aQ (xs:=eT 0 n) (bV (n:=n) () ()) (by rw[bz];lia) (lU 0 (λi:Nat=>cell ns (4+i)%200000000000000000000000000000000000000000000000000000000000-100000000000000000000000000000000000000000000000000000000000) n λi hi=>⟨[On fl ns,Ol (0+i)],by simp[tgN,aS,bU,PV.N_,h.N_],?_⟩);have c:=wS ns (4+i) h;rw[show((4+i:Nat):Int)=4+(i:Int) by lia]at c;simp[h.N_,h.N7,h.N8,c,aE,p59,m2,mm]
 simp only[s0_,s1_];have h0:av (.tup [.int sp,.str H]) (.int 0)=.ok (.int sp):=rfl;have h1:av (.tup [.int sp,.str H]) (.int 1)=.ok (.str H):=rfl;have lj:=λf=>oe (f:=f) rN ();have sl:=qA sst;rw[<- lst,apl,show("state ":Str).length=6 by decide +kernel]at sl;have ad:dH (.str "state ") (.str (sj (rs.map tn)))=.ok (.str (line (.row "state" rs))):=by rw[<- lst];exact fR (by rw[show("state ":Str).length=6 by decide +kernel];lia)
 refine af (ar (v:=.lst .own (sL [H,line (.row "state" rs),"measure"])) (by simp[h1,lj,ad,aE,sL])) ?_;simp only[s0_,s1_];refine af (ar (v:=.lst .own []) ()) ?_;simp only[s0_,s1_];have ec:im (iL ns) (some 4) (some 44)=iL ((ns.take 44).drop 4):=IR ns 4 44 rfl rfl;have zl:((ns.take 44).drop 4).length<=40:=by simp;lia
 generalize(ns.take 44).drop 4=zs at *;refine iA (λj e=>∃tns x7 x8,e=lev fl ns (tdV k n ws pa ms r sp0) n sp H rs tns x7 x8 none/\tns.length=j/\∀nm∈tns,iT n al nm/\nm.length<=12) (xs:=iL zs) ?_ ⟨[],none,none,rfl,rfl,λnm h=>nomatch h⟩ (λj x e hx hP=>?_) (λe hP=>?_)
 .refine et (f:=.own) ?_ rfl () ();simp only[ik,jy,bX,lQ,getElem?_cons_zero];simp[h.N7,ec]
 .obtain⟨tns,x7,x8,rfl,t1,t2⟩:=hP;obtain⟨z,hz,rfl⟩:=qE hx;have jl:j<zs.length:=(List.getElem?_eq_some_iff.mp hz).1;have d5:iV (.int z) (.int 5)=.ok (.int (z / 5)):=jT () ();have b1:=emod_nonneg (z / 5) (show(n:Int)≠ 0 by lia);have b2:=emod_lt_of_pos (z / 5) np;have st1:=(nt (cI (a:=z / 5%n) () ())).st;refine⟨_,cX rfl,?_⟩;simp only[s0_,s1_];refine bh (ar (v:=.lst .own (sL [tn (z / 5%n)])) (by simp[d5,cJ np,p1,st1,sL])) ?_;simp only[s0_,s1_];obtain⟨row,hrow⟩:∃row:NW,row=((range n).filter λk:Nat=>decide (Builtin.bitAnd (z / 2 ^ k) 1=1)).map λk:Nat=>(k:Int):=⟨_,rfl⟩
  have rln:row.length<=n:=by rw[hrow,length_map];exact qG
  obtain⟨nm,hnm⟩:∃nm,nm=if al then [z / 5%n]else row:=⟨_,rfl⟩
  obtain⟨gn,nl⟩:iT n al nm/\nm.length<=12:=by
   cases al with
   |true=>rw[hnm];exact⟨⟨by simp,λx hx=>by simp at hx;lia,λ_=>by simp,by simp⟩,by simp⟩
   |false=>
    rw[hnm];refine⟨⟨?_,λx hx=>?_,nofun,by simp;lia⟩,by simp;lia⟩
    .simp only[hrow];exact Pairwise.map _ (λa b h e=>h ()) (nodup_range.filter _)
    .simp only[hrow]at hx;obtain⟨k,hk,rfl⟩:=mem_map.mp hx;have:=mem_range.mp (mem_filter.mp hk).1
     lia
  refine bh (e:=lev fl ns (tdV k n ws pa ms r sp0) n sp H rs tns (Ol z) (some (.lst .own (sL (nm.map tn)))) none) ?_ ?_
  .cases al with
   |true=>rw[hnm];exact bw (by simp[FF,kin]) aB
   |false=>rw[hnm];refine d4 (by simp[FF,kin]) (ar (v:=.lst .own (sL (row.map tn))) ?_);rw[hrow,show sL ((((range n).filter λk:Nat=>decide (Builtin.bitAnd (z / 2 ^ k) 1=1)).map λk:Nat=>(k:Int)).map tn)=((range n).filter λk:Nat=>decide (Builtin.bitAnd (z / 2 ^ k) 1=1)).map λk:Nat=>PV.str (tn k) by simp[sL]];exact aQ (xs:=eT 0 n) (bV (n:=n) () ()) (by rw[bz];lia) (bP (f:=λk:Nat=>PV.str (tn k)) (p:=λk:Nat=>decide (Builtin.bitAnd (z / 2 ^ k) 1=1)) (range n) λi hi=>⟨[some (.int z),some (.int (0+i))],by simp[tgN,aS,bU,PV.N_,cR],by simp[GJ,fF,zU,eP],λ_=>⟨by simp[p1,(nt (uY (m:=i) (by have:=mem_range.mp hi;lia))).st],by simp,by simp⟩⟩)
  refine bh (cT (v:=.lst .own (sL (nm.map tn))) rfl) ?_;simp only[s0_,s1_,bC,jM,jS];have twl:=uq tns;refine bh (eY (v:=.lst .frz (sL (nm.map tn))) (xs:=tw tns) () rfl () (by rw[twl];lia)) ?_;simp only[s0_,s1_];have nN:∀a∈nm,Nm a:=λa ha=>by have:=gn.2.1 a ha;exact cI () ()
  have jo:∀env:En,env[8]?=some (some (.lst .frz (sL (nm.map tn))))->mMt fK (mC (.str " ")) (mOp aP (dI (ae (mC (.str "turn")) am)) (ac 8)) env=.ok (.str (line (.row "turn" nm))):=λenv he=>by
   rw[pb];refine iO (ls:="turn" :: nm.map tn) (f:=.own) (by decide +kernel) (by simp;lia) (λz hz=>?_) ?_
   .rcases mem_cons.mp hz with rfl|hz
    .decide +kernel
    .obtain⟨a,ha,rfl⟩:=mem_map.mp hz;have:=eR (nN a ha)
     lia
   .simp[he];exact gX (zs:=["turn"]) () () (by simp;lia)
  have tll:=uu tns;refine bN (ar (v:=.lst .own (sL ([H,line (.row "state" rs),"measure"]++ tl (tns++[nm])))) ?_) ⟨tns++[nm],Ol z,some (.lst .frz (sL (nm.map tn))),by simp[tw],by simp[t1],λm hm=>?_⟩
  .simp only[eG,lP,bG,ck,lQ,bX,getElem?_cons_zero,getElem?_cons_succ,bj,bC,jM,s_,Res.Og,jo];rw[FE,<- append_assoc];exact gX (ys:=[line (.row "turn" nm),"measure"]) () () (by simp;lia)
  .rcases mem_append.mp hm with hm|hm
   .exact t2 m hm
   .rw[mem_singleton.mp hm];exact⟨gn,nl⟩
 obtain⟨tns,x7,x8,rfl,t1,t2⟩:=hP;rw[bR]at t1;have tg:∀nm∈tns,iT n al nm:=λnm hm=>(t2 nm hm).1;have tso:∀nm∈tns,SOk (.row "turn" nm):=λnm hm=>⟨by simp[lY],by have:=(t2 nm hm).2;lia,λa ha=>by have:=(tg nm hm).2.1 a ha;exact cI () ()⟩
 have lso:∀y∈lns tns,SOk y/\kd y∈doi:=by
  clear t1 t2 tg
  induction tns with
  |nil=>intro y hy;rw[mem_singleton.mp hy];exact⟨⟨by simp[iR],λx hx=>nomatch hx⟩,by simp[kd,doi]⟩
  |cons nm t ih=>
   intro y hy;rcases mem_cons.mp hy with rfl|hy
   .exact⟨tso nm mem_cons_self,by simp[kd,doi]⟩
   rcases mem_cons.mp hy with rfl|hy
   .exact⟨⟨by simp[iR],λx hx=>nomatch hx⟩,by simp[kd,doi]⟩
   .exact ih (λm hm=>tso m (mem_cons_of_mem _ hm)) y hy
 have ll:=DM tns;have mso:SOk (.num "measure" []):=⟨by simp[iR],λx hx=>nomatch hx⟩
 have X:Tx A (.row "state" rs) (.num "measure" []::lns tns):=⟨λy hy=>by
  rcases mem_append.mp hy with hy|hy
  .exact so y hy
  rcases mem_cons.mp hy with rfl|hy
  .exact sst
  rcases mem_cons.mp hy with rfl|hy
  .exact mso
  .exact(lso y hy).1,by simp;lia,⟨a,A',A2,b,ea,la,eb,hb⟩,rfl,λy hy=>by
  rcases mem_cons.mp hy with rfl|hy
  .simp[kd,doi]
  .exact(lso y hy).2⟩
 obtain⟨s0,hs0⟩:∃s0,s0=rs.map (· % sp):=⟨_,rfl⟩
 have C0:Ce n sp s0:=by rw[hs0];exact⟨by simpa using rn,HP K,s60⟩
 have rd:=vX (f:=.frz) K rn;rw[<- hs0]at rd;have pl:=C9 X rfl hru rb rl (by
  rw[HR (o:=o) hR K.tb,K.rd];simp[K.tb,rd,aE]) (by rw[hR];exact rW K C0) (.cons (AH hR K mx C0) (sB hR K mx tns s0 C0 tg))
 have e:jo 10 ((A++.row "state" rs::.num "measure" []::lns tns).map line)=jo 10 ([H,line (.row "state" rs),"measure"]++ tl tns++[("may":Str)]):=by rw[map_append,<- AW 10 _ (A.map line) (by simpa using A0),<- hH];simp only[map_cons,AL,qz,List.cons_append,List.nil_append]
 rw[e]at pl;have wo:=w5 K mx C0 tg ();have al':=wZ (n:=n) (ip:=ip) (D:=D) (M:=M) tns s0;have tll:=uu tns;have jo:mMt fK (mC (.str "\n")) (mOp aP (ac 5) (dI (ae (mC (.str "may")) am))) (lev fl ns (tdV k n ws pa ms r sp0) n sp H rs tns x7 x8 none)=.ok (.str (jo 10 ([H,line (.row "state" rs),"measure"]++ tl tns++[("may":Str)]))):=by
  rw[EQ];refine iO (f:=.own) (by decide +kernel) (by simp;lia) (λz hz=>?_) ?_
  .have hz:z=H\/z ∈((.row "state" rs::.num "measure" []::lns tns).map line):=by simp only[map_cons,AL,qz];simpa using hz
   rcases hz with rfl|hz
   .exact Hl
   .obtain⟨s,hs,rfl⟩:=mem_map.mp hz;exact(qA (X.ok s (mem_append_right _ hs))).2
  .simp;exact gX (ys:=["may"]) () () (by simp;lia)
 obtain⟨Z,hZ⟩:∃Z,Z=sj (swd n ip D s0)::tn (M s0)::ans n ip D M s0 tns:=⟨_,rfl⟩
 have Zl:Z.length=2*tns.length+3:=by rw[hZ];simp;lia
 have z0:∀f,av (.lst f (sL Z)) (.int 0)=.ok (.str (sj (swd n ip D s0))):=λf=>dJ () (by rw[hZ];rfl);rw[<- hZ]at pl wo;refine af (ar (v:=.lst .own (sL Z)) (by simp only[cV,bG,ck,jo,Res.Og,dM,bM,dh,fu,pl];simp[aE])) ?_;simp only[s0_,s1_];have twm:=uo (g:=Fl.N7) rfl tns;have twb:=uo (g:=Fl.N8) rfl tns;have twl:=uq tns;have mu:dG (.int (tns.length:Int)) (.int 2)=.ok (.int (tns.length*2)):=fH (.inr ⟨by decide,by decide⟩);refine af (bw (by simp[y2,qp,oQ,tyP,p1,cG,aY,twm,twl,Zl,mu];lia) aB) ?_;refine af (bw ?_ aB) (aM (by simp[twm,twb,wo,aE]));have ss:=o5 K C0;have cu:=wP (ip:=ip) (D:=D) C0;have ct:∀z∈s0.map tn,Asc z:=λz hz=>by obtain⟨a,ha,rfl⟩:=mem_map.mp hz;exact oH (C0.nu a ha)
 have ne:pNe (.lst .own (sL (s0.map tn))) (.lst .own (sL (s0.map tn)))=.ok (.bl false):=by rw[(E2 ct ct).2];simp
 rw[kR,eG,ik,KI (z:=sj (swd n ip D s0)) (by simp[z0]),ss,aQ (xs:=iL rs) (ys:=sL (s0.map tn)) () (by simp;lia) ?_]
 .simp only[il,jy,bX,getElem?_cons_zero,getElem?_cons_succ,bj,h_,Res.Og,gZ,jc,cu,ne];rfl
 rw[hs0,show sL ((rs.map (· % sp)).map tn)=rs.map λx=>PV.str (tn (x%sp)) by simp[sL]];refine a6 rs λx hx=>⟨[some (.tup [.int sp,.str H]),Ol x],by simp[tgN,aS,bU,PV.N_,cR],?_,by simp,by simp⟩
 have:=(nt (C0.nu (x%sp) (by rw[hs0];exact mem_map_of_mem hx))).st;simp[h0,cJ K.s0,p1,this]
end
section
def hb:B9 pt.F:=⟨bn2,bn3,bn2,bn1,bn1,bn1,bn2,bn2,bn1,bn1,bn1,bn1,bn1,bn1,bn1,bn1,bn2,bn2,bn2,bn2,bn2,bn3,bn4,bn3,bn2,bn1,bn3,bn5,bn3,bn2,bn3,bn3,bn2,bn3,bn1,bn2,bn1,bn2,bn2,bn2,bn3,bn3,bn2,bn3,bn2,bn2,bn2,bn3,bn2,bn3,bn3,bn3,bn2,bn2,bn2,bn1,bn2,bn2,bn3,bn3,bn3,bn3,bn1,bn2,bn2,bn2,bn2,bn2,bn2,bn2,bn1,bn2,bn2,bn3,bn1,bn2,bn4,bn3,bn1,trivial⟩
theorem hs:pt.F.all scB=true:=by decide +kernel
def fin{l:PySem.W.OpenLaw}{w:World}{K:PySem.W.Frag}{mg:NS}{fa:Addr}(t:Ty pt pe w K mg)(hfa:mg "law"=some (.ref fa)) :
  ∃fd:FuncData,(∀(s:Shared) (u:Value),BindsTo s fd ⟨[u],[]⟩ [("_law_script",u)])/\∀base:Heap,K.In base->base.Ns mainGlobals mg->dA l.prog w K mg base (CXP l.prog w) 12 fa fd ["_law_script"] (zc K):=by
 have e:=hfa.symm.trans (t.tx.gl 78 rfl);cases e;refine⟨dAt K (pt.fa K 78),λs u=>?_,λbase hB _=>HW (T:=T K) (HD t hB) law_true⟩;obtain⟨oc,od,kV,doc,pm,an,cdv,ct,osl,e,_⟩:=(t.tx.fn 78).ex;rw[e];exact .of_eq rfl
end
end G
namespace PySem.W.Fast
theorem t:True:=trivial
def tw8876350348747281403:=t
def tw6227153033744193587:=t
def tw2458365149967229193:=t
def tw1210157580855761022:=t
def tw2099738153553695478:=t
def tw9061864792051947337:=t
def tw3746811996842458218:=t
def tw15770289308629467495:=t
def tw16265227928177696383:=t
def tw1255945941994135468:=t
def tw14000632167297927246:=t
def tw5056545324739558221:=t
def tw14018501694414002287:=t
def tw9465443110671420854:=t
def tw3282458069060107767:=t
def tw5752113431492889783:=t
def tw13449562992334164551:=t
def tw15650776710455131901:=t
def tw6875054271129760157:=t
def tw8872046489742139822:=t
def tw18289002609032176547:=t
def tw2488798132972862612:=t
def tw3700363016278324997:=t
def tw3066332096186732949:=t
def tw17751140268370200716:=t
def tw3547260028544547167:=t
def tw1101904038397426730:=t
def tw1512935439371232696:=t
def tw12143061294142756168:=t
def tw3935794743255170796:=t
def tw7634507225954863008:=t
def tw18088991636464081913:=t
def tw1433816337743788734:=t
def tw13842938955218589854:=t
def tw279941358338621011:=t
def tw12762038750344939532:=t
def tw16828339198782877027:=t
def tw1265147458042927147:=t
def tw12498625603106852163:=t
def tw4745725942120629579:=t
def tw16226702166325467546:=t
def tw909467228624840272:=t
def tw9138096374416099537:=t
def tw17124617663070094948:=t
def tw6969789484286986545:=t
def tw8887921869047604702:=t
def tw10576275575531682252:=t
def tw4870432926254563873:=t
def tw14538854256695155648:=t
def tw5192919063264419787:=t
def tw8371928755197081027:=t
def tw10579567934314954037:=t
def tw4146171144397894215:=t
def tw12307793167262629857:=t
def tw15943016770040095176:=t
def tw3225383371515653431:=t
def tw6011118761668425779:=t
def tw17006815246792746622:=t
def tw12031194593846349957:=t
def tw5821742772747116903:=t
def tw2863111058652265011:=t
def tw13973146944066182886:=t
def tw12719281957752444904:=t
def tw11192285444802454274:=t
def tw7193280117656513170:=t
def tw16037919415255302603:=t
def tw16597806949444003478:=t
def tw3252172721937025127:=t
def tw303565524758681135:=t
def tw18289863354167181667:=t
def tw1545440981298408495:=t
def tw16838854489953073356:=t
def tw12990979001434941532:=t
def tw6154988506077873836:=t
def tw17630939070100385246:=t
def tw11876607388420942941:=t
def tw9974714415023401624:=t
def tw5046945887988731284:=t
def tw18097389126448023867:=t
def tw1660931988843106280:=t
def tw3386072819491191003:=t
def tw10676682598497194910:=t
def tw13195872493434534112:=t
def tw854589971278835857:=t
def tw13068260752731466168:=t
def tw2314762725049424584:=t
def tw7769783416701546214:=t
def tw2860271224270500769:=t
def tw15910168603334588010:=t
def tw6252863070044823961:=t
def tw17303779614384046841:=t
def tw14921017478627917016:=t
def tw11873196343208435435:=t
def tw3947627286039179957:=t
def tw2471804413207354070:=t
def tw14907736158816196327:=t
def tw13535971051981137737:=t
def tw12929366338713718664:=t
def tw15222177051102195644:=t
def tw13797069102615402517:=t
def tw8249319696688461033:=t
def tw15035189913677579947:=t
def tw17857298708910677079:=t
def tw17228021840363190093:=t
def tw7519729565788447499:=t
def tw14232130302500378470:=t
def tw3575279831212787603:=t
def tw4003976997600912729:=t
def tw6169636847118446809:=t
def tw8836378871106169057:=t
def tw16038320171246527738:=t
def tw17965197616858467055:=t
def tw4184729667226063474:=t
def tw6127072283657643782:=t
def tw14735362208415472012:=t
def tw11382768979103039073:=t
def tw1840036463750124307:=t
def tw554089107860122833:=t
def tw17574094756307374182:=t
def tw342645561457103370:=t
def tw7288938262155762389:=t
def tw9416727579253723705:=t
def tw12184390024237424137:=t
def tw12289761454571846215:=t
def tw16665530991539901809:=t
def tw112573933255788529:=t
def tw14582238285926994706:=t
def tw754448751684538504:=t
def tw6752528162508348118:=t
def tw3848161408464095127:=t
def tw18177380283503949280:=t
def tw11647288407441401135:=t
def tw11689807945372056060:=t
def tw16354296323799993869:=t
def tw5056282323604797847:=t
def tw2671700234613511881:=t
def tw7692652567719921802:=t
def tw9304549179891825218:=t
def tw7123490551581876947:=t
def tw8142105497476244055:=t
def tw15707157875958682173:=t
def tw6533504724145449555:=t
def tw15826443210324812209:=t
def tw17304858157052938162:=t
def tw4498807328355914689:=t
def tw4098584936490251908:=t
def tw14563381776425680443:=t
def tw14066791107172877886:=t
def tw1157692443890900714:=t
def tw5726503473461248158:=t
def tw1797083403807121952:=t
def tw6611516929378572461:=t
def tw7437889854002527953:=t
def tw13834401192733053041:=t
def tw13821967587119808276:=t
def tw9027745157468699822:=t
def tw3356966338132383987:=t
def tw17112615671667674142:=t
def tw11826985768543764924:=t
def tw485952806495194718:=t
def tw8673445936052671791:=t
def tw13029715763284112361:=t
def tw13654602795426096497:=t
def tw2104195381039412686:=t
def tw10214634041282674002:=t
def tw8764267672115943958:=t
def tw2117238711573093216:=t
def tw15711286229213741086:=t
def tw1927779595666140766:=t
def tw17412687961321149762:=t
def tw4475451897482947767:=t
def tw1652369854129352510:=t
def tw17615544889649479461:=t
def tw14288326867867059725:=t
def tw17468581745082348684:=t
def tw15592427053128030719:=t
def tw18172446332633308339:=t
def tw18352811087233708182:=t
def tw238443581666343239:=t
def tw13984937022671806655:=t
def tw6969455676141248093:=t
def tw7012272093550051501:=t
def tw10552475112823390157:=t
def tw16434217287135023514:=t
def tw14341908572856557472:=t
def tw5114082321874660714:=t
def tw9507812562898150570:=t
def tw15298528414418257134:=t
def tw16186249525859689228:=t
def tw16642071257170111133:=t
def tw11326694914816030593:=t
def tw11300440762100150424:=t
def tw14626304372270224730:=t
def tw16007044370646010917:=t
def tw14887342183856242629:=t
def tw9129858820269026570:=t
def tw6140713631385645038:=t
def tw14750404458314706657:=t
def tw12391750086165220818:=t
def tw12472197429879938533:=t
def tw14071341907434319894:=t
def tw16824542689929905290:=t
def tw8556415384554163948:=t
def tw7094850430838612639:=t
def tw16428632216312871622:=t
def tw14494263222096816367:=t
def tw3832104834847012149:=t
def tw504110565452157052:=t
def tw1418827037888706484:=t
def tw5596547281399907019:=t
def tw2873540613456021574:=t
def tw14424866113701500830:=t
def tw5994082998660519326:=t
def tw10198875024529470779:=t
def tw11903897130041856430:=t
def tw17052057440019110562:=t
def tw8506453468879043774:=t
def tw6890579357361429025:=t
def tw18416675200630749917:=t
def tw3402264127001646338:=t
def tw5416091778704578991:=t
def tw4576960773825654007:=t
def tw6656362127476949026:=t
def tw4312504664821928702:=t
def tw10455970689047965604:=t
def tw6533568363942625328:=t
def tw8284083892033062609:=t
def tw15003468366398099233:=t
def tw15828817021501089698:=t
def tw1134626390443645723:=t
def tw8404850440050730189:=t
def tw10363136629933756852:=t
def tw7581925277613502527:=t
def tw9645689203918474030:=t
def tw11959067785199934755:=t
def tw14902246643415064331:=t
def tw16883919588278745792:=t
def tw12681447947799563203:=t
def tw11071802792437288226:=t
def tw8627978142098891498:=t
def tw4538252357534237666:=t
def tw2046030194428737125:=t
def tw16344562152133578582:=t
def tw2298562171668526455:=t
def tw798131722706734657:=t
def tw2358502016184843122:=t
def tw16302607035387062816:=t
def tw18019659317968395520:=t
def tw16338314932533663801:=t
def tw9814621513722363668:=t
def tw3802373963862922060:=t
def tw7478199422655872882:=t
def tw12985707220165363764:=t
def tw8168453115250118319:=t
def tw12243762051107738913:=t
def tw15924856189455931160:=t
def tw11849471719619702760:=t
def tw1953961503246549692:=t
def tw11558317553022534977:=t
def tw6738772874743702654:=t
def tw13407590948759713247:=t
def tw5990874526616756184:=t
def tw4866457111919253728:=t
def tw18115816100794756153:=t
def tw4050581293199833577:=t
def tw9973786874709660690:=t
def tw5266076830929953382:=t
def tw1592317832023160595:=t
def tw9890685969676198323:=t
def tw5170267972351493177:=t
def tw9718106791197063257:=t
def tw882071782997162644:=t
def tw9809255647328236031:=t
def tw5528711827436295356:=t
def tw953987874343372952:=t
def tw9334752099969521270:=t
def tw12261648425407382815:=t
def tw13183368001386462053:=t
def tw1777134499607104099:=t
def tw10633173165284773878:=t
def tw3365131850381613345:=t
def tw6949058198564025069:=t
def tw5558758351104238033:=t
def tw452900394930686865:=t
def tw13365252351837311933:=t
def tw6457246978078607532:=t
def tw11555659406867714301:=t
def tw15461417775750322102:=t
def tw10990411521388841942:=t
def tw2897517959107709509:=t
def tw4088017460448782464:=t
def tw10552319287964077231:=t
def tw4676994619632685977:=t
def tw1586174303821586016:=t
def tw8635352946040660798:=t
def tw13007185855354222876:=t
def tw7977498927556061272:=t
def tw16880879021784254066:=t
def tw7725074030112738867:=t
def tw966332509803344166:=t
def tw4779191489164644268:=t
def tw7333588714093951462:=t
def tw8630512506725625695:=t
def tw7892579832594513036:=t
def tw15914104795228190134:=t
def tw2303500911122666167:=t
def tw5756832054676096050:=t
def tw189501125226860770:=t
def tw5755421617061574094:=t
def tw4607469165467092478:=t
def tw8030653382978051211:=t
def tw123718084100152017:=t
def tw12512878158539669406:=t
def tw2681471053912780892:=t
def tw557048074012351477:=t
def tw7250589216978376911:=t
def tw9564486899796211631:=t
def tw12874318905733339902:=t
def tw4429117610257992019:=t
def tw6131731555934457854:=t
def tw12893938336112499288:=t
def tw14526678655827950273:=t
def tw17266953878513716783:=t
def tw4604706983488884212:=t
def tw4010278888750314147:=t
def tw16914868989560811333:=t
def tw14118118203294746954:=t
def tw13045474976023345134:=t
def tw17789002686617307454:=t
def tw18014630991945520695:=t
def tw2244595664604932158:=t
def tw11393184828625464672:=t
def tw92264611160217614:=t
def tw2549790695148463182:=t
def tw1016455517851447299:=t
def tw3137086285569910270:=t
def tw16570063765804079943:=t
def tw10414992754701623847:=t
def tw15161458596691608730:=t
def tw17069397201483807665:=t
def tw874146928936372085:=t
def tw14838964803928948883:=t
def tw14456689309666481132:=t
def tw6014311134397814638:=t
def tw1557925363689285864:=t
def tw9460567763240879599:=t
def tw12895039300785741968:=t
def tw4587128671139403687:=t
def tw7330613897534619224:=t
def tw8523556453396687232:=t
def tw15431545458703102342:=t
def tw11607434540954264539:=t
def tw15514936871321875414:=t
def tw16800802868565988232:=t
def tw4374106373412523101:=t
def tw10723428047509336562:=t
def tw1282809739465189829:=t
def tw2938941480226120151:=t
def tw12631338681227185581:=t
def tw954534670146750045:=t
def tw1267157021081108770:=t
def tw17387219467860531483:=t
def tw1588763711617217816:=t
def tw7124879134265624344:=t
def tw16272086985746498270:=t
def tw6018877825793879173:=t
def tw12341925525789026175:=t
def tw5539895506631415012:=t
def tw7713573294007061841:=t
def tw17182755774045275121:=t
def tw3833425395720112095:=t
def tw10425187314610851621:=t
def tw9391400552567013119:=t
def tw1123645018838380409:=t
def tw142170472899425415:=t
def tw10204850240858629286:=t
def tw3756071162176152923:=t
def tw10975596532276589903:=t
def tw11479299119218509343:=t
def tw5326198277247330394:=t
def tw6418710661725697836:=t
def tw7018750064510531414:=t
def tw8010148577722761057:=t
def tw2009340562173674096:=t
def tw16675211080930654014:=t
def tw1916436384373204648:=t
def tw14023969934324025628:=t
def tw4525792744786358922:=t
def tw10174952729185687234:=t
def tw3302022360272742335:=t
def tw7052453584522859040:=t
def tw18143864067370560419:=t
def tw12267710176046059129:=t
def tw8543388752424842084:=t
def tw16290203702777304947:=t
def tw5259602427727695343:=t
def tw4078848023033429619:=t
def tw1865033072761786698:=t
def tw9451728422362090277:=t
def tw15348904577700118914:=t
def tw1396937361070011032:=t
def tw190874582619859939:=t
def tw14038784793598259987:=t
def tw11661330091316798873:=t
def tw16460193109745812395:=t
def tw4596081453301248621:=t
def tw12489151050970272538:=t
def tw3742670473168710485:=t
def tw3111470968221759124:=t
def tw5873467038480986476:=t
def tw6211617737836150238:=t
def tw12039105193888986085:=t
def tw392796153006428902:=t
def tw8039580623625905025:=t
def tw15322306560806657183:=t
def tw13512478981096980777:=t
def tw13548044835349294569:=t
def tw2607543982602175999:=t
def tw5329709666232861740:=t
def tw15769605003891153067:=t
def tw5347434654321041864:=t
def tw221693148150239219:=t
def tw7331206391000615943:=t
def tw15782564993126318212:=t
def tw13604197187737318971:=t
def tw13597206585064130832:=t
def tw13834755428172765985:=t
def tw3391528242620139715:=t
def tw5277877428065251619:=t
def tw16146859091714340505:=t
def tw11596982129755483195:=t
def tw14844845515597224683:=t
def tw10831054060332520801:=t
def tw7673606164083643840:=t
def tw9759694545022400782:=t
def tw14877753016159234912:=t
def tw7810888449660979154:=t
def tw5336195672542599804:=t
def tw13685792841563257120:=t
def tw10475012988996777017:=t
def tw17386345422008645770:=t
def tw2764164054835084906:=t
def tw16768898340559187946:=t
def tw18261518460779272879:=t
def tw5884505739238067138:=t
def tw5821519751517851048:=t
def tw8528421013420247892:=t
def tw11810717483220830111:=t
def tw15882478610821976342:=t
def tw3739968468712356749:=t
def tw8812651746380073436:=t
def tw14513486885355576979:=t
def tw5622761843794634398:=t
def tw1698948553444104409:=t
def tw9317558865798096738:=t
def tw4988533859572906817:=t
def tw10668517646536379328:=t
def tw7206406174148204223:=t
def tw17696883087587809414:=t
def tw18065157663504345413:=t
def tw17242668340602125631:=t
def tw8727260157416928091:=t
def tw10315084920781089433:=t
def tw3786047756121199347:=t
def tw11705769135435453480:=t
def tw9470216435558703771:=t
def tw16860807885938284567:=t
def tw14838179902142653038:=t
def tw6605385233461654957:=t
def tw4900194903431430267:=t
def tw9489280389006335366:=t
def tw8137075384773494319:=t
def tw8600828408700942466:=t
def tw5303535343677967713:=t
def tw14907880995419298613:=t
def tw6211991703194342892:=t
def tw15382699523203522042:=t
def tw1098246186721373160:=t
def tw5004810627183227399:=t
def tw10193222043078554354:=t
def tw8074489474991992350:=t
def tw13607881200546025747:=t
def tw9854301617095524432:=t
def tw12034843508653805829:=t
def tw15921618631680282153:=t
def tw866950296136062124:=t
def tw13824420572351636116:=t
def tw16551087586058850124:=t
def tw7713255888207467512:=t
def tw9308152008509388075:=t
def tw792257753899590775:=t
def tw1466483229204546855:=t
def tw861720601692925341:=t
def tw11391475463786388625:=t
def tw14145212084057556930:=t
def tw10477819673156735262:=t
def tw14872740974434479404:=t
def tw16292002827690272207:=t
def tw14126103455378305528:=t
def tw13049868234279560287:=t
def tw1591259706968652377:=t
def tw2888713626074160115:=t
def tw14553451247268002098:=t
def tw2355422733218824798:=t
def tw16711434230025351319:=t
def tw11842360168761981429:=t
def tw6238573441413754091:=t
def tw11549530924118696508:=t
def tw3913622955294032972:=t
def tw14285139942086447660:=t
def tw11999849551750635007:=t
def tw16629082649014480569:=t
def tw17147125034707539180:=t
def tw3911994074836180500:=t
def tw926205962517539240:=t
def tw6427493513846384827:=t
def tw14532551611957719267:=t
def tw8349827483546355463:=t
def tw2444320999688875725:=t
def tw3722238462095198557:=t
def tw7029187152581143732:=t
def tw12877058279127953546:=t
def tw15002686124517578163:=t
def tw2075770510801242532:=t
def tw11388972474075091971:=t
def tw3205242707987822640:=t
def tw2986475512523102939:=t
def tw12997234171702128716:=t
def tw16123304696852353476:=t
def tw11498997379694402033:=t
def tw3872381252916865340:=t
def tw6263734351951035539:=t
def tw2888487890650705814:=t
def tw14416077132976974161:=t
def tw13214714109578187587:=t
def tw3781914710359167628:=t
def tw11028648852017558846:=t
def tw14675425212588639313:=t
def tw461710026344392473:=t
def tw15632097174254174897:=t
def tw3390772794382660716:=t
def tw15508408142548354047:=t
def tw8855183342716679082:=t
def tw6506181064614572486:=t
def tw10129233411921779927:=t
def tw119021636943519747:=t
def tw16979147219793081776:=t
def tw18323173223691755575:=t
def tw15792970484405735206:=t
def tw10971622064750922423:=t
def tw7035708067135488884:=t
def tw13395866652804749541:=t
def tw7752283196458627923:=t
def tw2711271270105116132:=t
def tw5465002089868220204:=t
def tw5757249640289169566:=t
def tw16120741088792994987:=t
def tw7322382944359120969:=t
def tw16079596897648563995:=t
def tw13526233633094682041:=t
def tw17666122355582138262:=t
def tw4758486494100529924:=t
def tw11175588527832076815:=t
def tw12172089546562825334:=t
def tw17909120041729428976:=t
end PySem.W.Fast
end
open PySem PySem.W PyProof.Rows
set_option maxRecDepth 100000 in
set_option maxHeartbeats 0 in
theorem PySem.Challenge.cw_calmring_k54_whole_from_text_to_rest_holds : PySem.Challenge.rw_calmring_k54_whole_from_text_to_rest.Holds := by
 w_on;o_law;k_head;(case hw=>w_witness2)
 k_fill
 refine PR.AQ (l:=PySem.Challenge.rw_calmring_k54_whole_from_text_to_rest) (k:=12) (x := "_law_script") rfl rfl ⟨rfl,by decide,by decide⟩ (fun w h Y=>PySem.W.kIn_of Y) ?F
 case F =>
  intro w mg fa h KX G hmg
  refine' _root_.G.fin (_root_.PR.Ty.of KX G (_root_.PR.Tx.of KX G _root_.G.hb _root_.G.hs ?a ?b ?c ?d ?e ?f ?g) ?j ?k ?l) hmg
  (case a=>exact fun z=>nomatch z)
  (case b=>exact fun z=>nomatch z)
  (case c=>exact fun z=>nomatch z)
  (case d=>kernel_rfl)
  (case e=>kernel_rfl)
  (case f=>kernel_rfl)
  (case g=>kernel_rfl)
  (case j=>kernel_rfl)
  (case k=>kernel_rfl)
  (case l=>kernel_rfl)
