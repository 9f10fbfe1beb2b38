import PyProof.Rows.All
import Wide.All
import OpenK.AllK
import Wide.FinOn
import Lean
import PyProof.EqAt
import PyProof.EqKinds
import PyProof.TupleCall
import PySem.Challenge.RW_calmring_k52_whole_faults_are_mended
abbrev Lj:=PySem.Value->PySem.Shared->Prop
abbrev Lk:=PySem.Str->Option PySem.Value
abbrev Ln:=List (Int×Int)
abbrev Lo:=List (PySem.Addr×PySem.Obj)
abbrev Lp:=PySem.Addr->Prop
abbrev Lq:=List Int
abbrev Lr:=List PySem.Value
abbrev Lu:=List PySem.Addr
abbrev Lw:=List PySem.Str
abbrev Lx:=Option Int
abbrev Ly:=Array PySem.Value
open List(range mem_filter mem_range mem_cons_self mem_cons_of_mem mem_cons mem_append mem_append_left getElem_inj getElem?_set_self getElem?_set_ne mem_append_right length_cons map_cons length_map append_nil nodup_cons replicate length_take getElem?_append_right getElem?_replicate getElem?_append_left getElem?_map length_append zip_cons_cons length_nil map_nil size_toArray length_set Pairwise find?_cons any_cons nodup_nil nodup_append sublist_nil Sublist all_cons any_eq_true pairwise_cons mem_map append_assoc all_eq_true getD_eq_getElem?_getD getElem_of_mem getElem?_eq_getElem getElem_mem nodup_range ext_getElem take_add_one sum_append mem_of_mem_take take_length getElem?_cons_succ map_map Nodup pairwise_map map_append take_of_length_le foldl_cons length_range map_id' length_filter_le getElem?_cons_zero sum_cons range_succ map_congr_left take_succ)
open PySem.W(instObj methodObj hideAll_get lookIn plainGet hasDictIn handedIn plainGet_of plainOver takerIn makesIn emptyDict callWith_K methodCall_KW kitOne kia_one mroIn clsIn excIn specialIn readsIn findCls exmOne mg_of)
open PySem.Heap(lt_size SameBut get?_push_of_some get?_push_size size_push get?_update_other ExtBut)
open Nat(zero_le le_succ not_lt_zero)
open Bool(or_eq_false_iff and_eq_true or_eq_true)
open Option(isSome_iff_exists map_eq_some_iff toList)
open Int(toNat_natCast emod_nonneg emod_lt_of_pos emod_eq_of_lt toNat_of_nonneg)
open PyProof.Rows(firstMet evalArgs_kw2 kmk_tree step_dedup)
set_option Elab.async false
set_option linter.all false
set_option maxRecDepth 100000
abbrev Fwe(v:PySem.Env)(c:PySem.Pos)(l:List PySem.Expr):Prop:=((PySem.backTo c (PySem.starEach l v)).all (fun x=>!x.1)&&(PySem.backToKw c (PySem.keywordEach [] v)).all (fun x=>x.1.isSome)&&decide (l.length+([]:List PySem.Keyword).length+(if([]:List PySem.Keyword).isEmpty then 0 else 1)<30))=true
abbrev Nd(x:PySem.Str):Prop:=(x ==("__debug__":PySem.Str))=false
abbrev Nc(x:PySem.Str):Prop:=(x ==("__classdict__":PySem.Str))=false
abbrev Lce(f:PySem.Str->Bool)(v:PySem.Env)(x:PySem.Str):Prop:=f x=true\/v.scope.names.lookup x=some .local
noncomputable section
set_option genSizeOf false
set_option compiler.extract_closed false
set_option bootstrap.genMatcherCode false
section
local macro_rules|`(())=>`(by first|decide|lia|(simp;done))
set_option hygiene false in
local macro_rules|`(tactic|walk_at "a")=>`(tactic|(refine tE.bq S λx v H1 F1 f1 e1 g1 r1 n1 d1 w1=>?_;rw[e1]at q))
namespace L2
open PySem PySem.Spec PyProof.Rows
section
abbrev Key:=Sum Int Str
def o4:Key->Value->Bool
 |.inl k,v=>Value.isInt k v
 |.inr x,v=>Value.isStrOf x v
noncomputable def KJ(w:World):Key->Int
 |.inl k=>hashInt k
 |.inr x=>hashStr w x
def cL:∀{k:Key}{v:Value},o4 k v=true->(∃i t,k=Sum.inl i/\v=Value.int i t)\/(∃x t,k=Sum.inr x/\v=Value.str x t)
 |.inl i,v,h=>by obtain⟨t,e⟩:=Value.isInt_shape h;exact .inl ⟨i,t,rfl,e⟩
 |.inr x,v,h=>by obtain⟨t,e⟩:=Value.isStrOf_shape h;exact .inr ⟨x,t,rfl,e⟩
def wK(i:Int)(t:Tok):o4 (.inl i) (.int i t)=true:=by simp[o4,Value.isInt]
def wJ(x:Str)(t:Tok):o4 (.inr x) (.str x t)=true:=by simp[o4,Value.isStrOf]
theorem FZ(a b:Int):decide ((Sum.inl a:Key)=Sum.inl b)=(a==b):=by lia
def FW(a b:Str):decide ((Sum.inr a:Key)=Sum.inr b)=decide (a=b):=by
 by_cases e:a=b
 .subst e;simp
 .have h:¬(Sum.inr a:Key)=Sum.inr b:=λq=>e (Sum.inr.inj q);rw[decide_eq_false h,decide_eq_false e]
def FY(a:Int)(b:Str):decide ((Sum.inl a:Key)=Sum.inr b)=false:=decide_eq_false (λq=>nomatch q)
def FX(a:Str)(b:Int):decide ((Sum.inr a:Key)=Sum.inl b)=false:=decide_eq_false (λq=>nomatch q)
def eP(prog:Program)(w:World):PySem.KeyKind prog w Key where
 is:=o4
 hash:=KJ w
 inj:=λv a b ha hb=>by
  rcases cL ha with⟨i,t,rfl,rfl⟩ |⟨x,t,rfl,rfl⟩
  .rcases cL hb with⟨j,u,rfl,e⟩ |⟨y,u,rfl,e⟩
   .injection e with e1 _;rw[e1]
   .exact nomatch e
  .rcases cL hb with⟨j,u,rfl,e⟩ |⟨y,u,rfl,e⟩
   .exact nomatch e
   .injection e with e1 _;rw[e1]
 byValue:=λk v h=>by rcases cL h with⟨i,t,rfl,rfl⟩ |⟨x,t,rfl,rfl⟩<;>rfl
 pyHash:=λhv h=>by
  rcases cL hv with⟨i,t,rfl,rfl⟩ |⟨x,t,rfl,rfl⟩
  .exact wpAny_pyHash_int h
  .exact wpAny_pyHash_str h
 eqBool:=λhu hv h=>by
  rcases cL hu with⟨i,t,rfl,rfl⟩ |⟨x,t,rfl,rfl⟩
  .rcases cL hv with⟨j,u,rfl,rfl⟩ |⟨y,u,rfl,rfl⟩
   .rw[FZ]at h;exact wpAny_eqBool_int h
   .rw[FY]at h;exact SeqAt.EqAt.int_str i t y u _ _ _ _ h
  .rcases cL hv with⟨j,u,rfl,rfl⟩ |⟨y,u,rfl,rfl⟩
   .rw[FX]at h;exact SeqAt.EqAt.str_int x t j u _ _ _ _ h
   .rw[FW]at h;exact wpAny_eqBool_str h
 «strs»:=λk x t v h=>by
  rcases cL h with⟨i,u,rfl,e⟩ |⟨y,u,rfl,e⟩
  .exact nomatch e
  .injection e with e1 _;subst e1;cases v<;>rfl
def rF(prog:Program)(w:World)(i:Int)(t:Tok):(eP prog w).is (.inl i) (.int i t)=true:=wK i t
def rE(prog:Program)(w:World)(x:Str)(t:Tok):(eP prog w).is (.inr x) (.str x t)=true:=wJ x t
end
section
inductive V where
 |non|bl (b:Bool)|int (i:Int)|str (x:Str)|byt (b:Array UInt8)|flt (b:UInt64)|ref (a:Addr)|ty (n:String)
 deriving DecidableEq
abbrev Lz:=List V
def bT:V->Value->Prop
 |.non,u=>u=Value.none
 |.bl b,u=>u=Value.bool b
 |.int i,u=>∃t,u=Value.int i t
 |.str x,u=>∃t,u=Value.str x t
 |.byt b,u=>∃t,u=Value.bytes b t
 |.flt b,u=>∃t,u=Value.float b t
 |.ref a,u=>u=Value.ref a
 |.ty n,u=>u=Value.type n
abbrev aY:Lz->Lr->Prop:=Paired bT
def aY.length{xs:Lz}{us:Lr}(r:aY xs us):xs.length=us.length:=Paired.length r
def aY.get:∀{xs:Lz}{us:Lr}{i:Nat}{x:V},aY xs us->xs[i]?=some x->∃u,us[i]?=some u/\bT x u
 |_,_,_,_,.nil,e=>by simp at e
 |_,_,0,_,.cons r _,e=>by simp at e;subst e;exact⟨_,rfl,r⟩
 |_,_,i+1,x,.cons _ t,e=>by obtain⟨u,h1,h2⟩:=aY.get t (by simpa using e);exact⟨u,by simpa using h1,h2⟩
def aY.set{x:V}{u:Value}(r:bT x u):∀{xs:Lz}{us:Lr} (i:Nat),aY xs us->aY (xs.set i x) (us.set i u)
 |_,_,_,.nil=>.nil
 |_,_,0,.cons _ t=>.cons r t
 |_,_,i+1,.cons q t=>.cons q (aY.set r i t)
def aY.append{xs ys:Lz}{us ws:Lr}(h:aY xs us)(s:aY ys ws):aY (xs++ys) (us++ws):=by
 induction h with
 |nil=>exact s
 |cons r t k=>exact .cons r k
def aY.take:∀{xs:Lz}{us:Lr} (n:Nat),aY xs us->aY (xs.take n) (us.take n)
 |_,_,0,_|_,_,_+1,.nil=>.nil
 |_,_,n+1,.cons r t=>.cons r (aY.take n t)
def aY.drop:∀{xs:Lz}{us:Lr} (n:Nat),aY xs us->aY (xs.drop n) (us.drop n)
 |_,_,0,r=>r
 |_,_,_+1,.nil=>.nil
 |_,_,n+1,.cons _ t=>aY.drop n t
def lX:Option V->Option Value->Prop
 |some v,some u=>bT v u
 |none,none=>True
 |_,_=>False
def KV{κ:Type}:List (κ×V)->List (κ×Value)->Prop:=Paired λ(p:κ×V) (q:κ×Value)=>p.1=q.1/\bT p.2 q.2
def kV:Key->V
 |.inl i=>.int i
 |.inr x=>.str x
inductive HO where
 |lst (xs:Lz)
 |tup (xs:Lz)
 |dK (kvs:List (Key×V))|dT (kvs:List (List Key×V))
 |set(S:Int->Bool) (n:Nat)
 |ins (C dx:Addr) (fs:List (Str×V))
 |own (x:Addr)
 |xd (fs:List (Str×V))
 |met (f x:Addr)
 |rng (lo hi:Int)
 |frz (o:Obj) (u:HO)
 |tbl (ps:Ly)
 |ext (φ:Heap->Prop)
abbrev Hp:=Addr->Option HO
abbrev LA:=Hp->Prop
noncomputable def upd(H:Hp)(a:Addr)(o:HO):Hp:=λb=>if b=a then some o else H b
def bG{H:Hp}{a:Addr}{o:HO}:upd H a o a=some o:=by unfold upd;rw[if_pos rfl]
def aR{H:Hp}{a b:Addr}{o:HO}(h:b≠a):upd H a o b=H b:=by unfold upd;rw[if_neg h]
def AV{H:Hp}{a:Addr}{o u:HO}:upd (upd H a o) a u=upd H a u:=by funext b;unfold upd;split<;>rfl
theorem cG{H:Hp}{a b:Addr}{o:HO}(h:H a=some o)(h':H b=none):a≠b:=by lia
section
variable(P:Program)(w:World)
def Kp:HO->Prop
 |.tup _|.frz _ _=>True
 |_=>False
def Tab(H:Hp)(ps qs:Ly):Prop:=qs=#[]\/ ∃l c q t0 c' oc u vs t,ps=#[l,c,.str q t0]/\qs=#[l,c,.ref c']/\H c'=some (.frz oc u)/\oc.data=.fields vs/\vs[1]?=some (.str q t)
def cO(H:Hp)(h:Heap)(a:Addr):HO->Prop
 |.lst xs=>xs.length<=sizeLine/\∃(its:Lr) (n:Nat),aY xs its/\h.get? a=some {cls:=.type "list",data:=.seq its.toArray n}
 |.tup xs=>xs.length<=sizeLine/\∃its:Lr,aY xs its/\IsTup h a its.toArray
 |.dK kvs=>kvs.length<=sizeLine/\(a==sysModules)=false/\∃vs,KV kvs vs/\h.DictOf (eP P w) a vs
 |.dT kvs=>kvs.length<=sizeLine/\(a==sysModules)=false/\∃xs:List (List Key×Addr×Value),
   Paired (λ(p:List Key×V) (q:List Key×Addr×Value)=>p.1=q.1/\H q.2.1=some (.tup (p.1.map kV))/\bT p.2 q.2.2) kvs xs /\
   ∃o es ep,h.get? a=some o/\o.ExactDict/\o.data=.dict es ep/\es.toList=xs.map (entryOfKey (tupleKind (eP P w)))/\(xs.map (·.1)).Nodup
 |.set S n=>h.SetOf (intKind P w) a S n
 |.ins C dx fs=>H dx=some (.own a)/\fs.length<=1000/\dx≠a/\h.get? a=some (instObj C dx)/\
   ∃mA,h.Ns1 dx mA/\(∀f,lX (fs.lookup f) (mA f))/\PySem.Within mA (fs.map (·.1))
 |.own _=>∃o,h.get? a=some o
 |.xd fs=>∃mA,h.Ns1 a mA/\∀f,lX (fs.lookup f) (mA f)
 |.rng lo hi=>∃t u v,h.get? a=some {cls:=.type "range",data:=.fields #[.int lo t,.int hi u,.int 1 v]}
 |.frz o u=>h.get? a=some o/\cO H h a u
 |.tbl ps=>∃qs,h.get? a=some {cls:=.none,data:=.fields qs}/\Tab H ps qs
 |.met f x=>h.get? a=some (methodObj (.ref f) (.ref x))
 |.ext φ=>φ h/\(∃o,h.get? a=some o)/\∀h1 h2:Heap,φ h1->(∀o,h1.get? a=some o->h2.get? a=some o)->φ h2
def HOk(H:Hp)(h:Heap):Prop:=∀a o,H a=some o->cO P w H h a o
end
section
variable{P:Program}{w:World}{H H':Hp}{h h':Heap}{a:Addr}{o:HO}
def cO.lt(x:cO P w H h a o):a<h.objs.size:=by
 cases o with
 |lst xs=>obtain⟨_,_,_,_,e⟩:=x;exact lt_size e
 |tup xs=>obtain⟨_,_,_,p⟩:=x;exact p.lt
 |dK kvs|dT kvs=>obtain⟨_,_,_,_,o,_,_,e,_⟩:=x;exact lt_size e
 |set S n=>obtain⟨o,_,_,_,e,_⟩:=x;exact lt_size e
 |ins C dx fs=>obtain⟨_,_,_,e,_⟩:=x;exact lt_size e
 |own y=>obtain⟨_,e⟩:=x;exact lt_size e
 |xd fs=>obtain⟨_,⟨_,_,_,e,_⟩,_⟩:=x;exact lt_size e
 |rng lo hi=>obtain⟨_,_,_,e⟩:=x;exact lt_size e
 |frz ob u=>obtain⟨e,_⟩:=x;exact lt_size e
 |tbl ps=>obtain⟨_,e,_⟩:=x;exact lt_size e
 |met f y=>exact lt_size (show h.get? a=some _ from x)
 |ext φ=>obtain⟨_,⟨_,e⟩,_⟩:=x;exact lt_size e
def Paired.mapP{α β:Type}{F G:α->β->Prop}{l₁:List α}{l₂:List β}(h:Paired F l₁ l₂)(f:∀a b,F a b->G a b):Paired G l₁ l₂:=by
 induction h with
 |nil=>exact .nil
 |cons r t k=>exact .cons (f _ _ r) k
def cO.stay(x:cO P w H h a o)(k:∀b u,(b=a\/H b=some (.own a))->h.get? b=some u->h'.get? b=some u)
  (ho:∀b,H b=some (.own a)->H' b=some (.own a)) (ht:∀b u,Kp u->H b=some u->H' b=some u):cO P w H' h' a o:=by
 induction o with
 |lst xs=>obtain⟨z,its,n,r,e⟩:=x;exact⟨z,its,n,r,k _ _ (.inl rfl) e⟩
 |tup xs=>obtain⟨z,its,r,ob,e,c⟩:=x;exact⟨z,its,r,ob,k _ _ (.inl rfl) e,c⟩
 |dK kvs=>obtain⟨z,y,vs,r,ob,es,ep,e,c⟩:=x;exact⟨z,y,vs,r,ob,es,ep,k _ _ (.inl rfl) e,c⟩
 |dT kvs=>obtain⟨z,y,xs,r,ob,es,ep,e,c⟩:=x;exact⟨z,y,xs,Paired.mapP r λp q z=>⟨z.1,ht _ _ True.intro z.2.1,z.2.2⟩,ob,es,ep,k _ _ (.inl rfl) e,c⟩
 |set S n=>obtain⟨ob,es,ep,t,e,c⟩:=x;exact⟨ob,es,ep,t,k _ _ (.inl rfl) e,c⟩
 |ins C dx fs=>obtain⟨d,z,ne,e,mA,⟨od,es,ep,e2,c⟩,r⟩:=x;exact⟨ho _ d,z,ne,k _ _ (.inl rfl) e,mA,⟨od,es,ep,k _ _ (.inr d) e2,c⟩,r⟩
 |own y=>obtain⟨ob,e⟩:=x;exact⟨ob,k _ _ (.inl rfl) e⟩
 |xd fs=>obtain⟨mA,⟨od,es,ep,e,c⟩,r⟩:=x;exact⟨mA,⟨od,es,ep,k _ _ (.inl rfl) e,c⟩,r⟩
 |rng lo hi=>obtain⟨t,u,v,e⟩:=x;exact⟨t,u,v,k _ _ (.inl rfl) e⟩
 |frz ob u ih=>obtain⟨e,q⟩:=x;exact⟨k _ _ (.inl rfl) e,ih q⟩
 |tbl ps=>obtain⟨qs,e,c⟩:=x;exact⟨qs,k a _ (.inl rfl) e,c.imp (λz=>z) λz=>by obtain⟨l,c,q,t0,c',oc,u,vs,t,e1,e2,e3,r⟩:=z;exact⟨l,c,q,t0,c',oc,u,vs,t,e1,e2,ht _ _ True.intro e3,r⟩⟩
 |met f y=>have e:h.get? a=some (methodObj (.ref f) (.ref y)):=x;show h'.get? a=some (methodObj (.ref f) (.ref y));exact k a _ (.inl rfl) e
 |ext φ=>obtain⟨p,⟨o,e⟩,st⟩:=x;exact⟨st _ _ p λo q=>k _ _ (.inl rfl) q,⟨o,k _ _ (.inl rfl) e⟩,st⟩
def HOk.lt(x:HOk P w H h)(e:H a=some o):a<h.objs.size:=(x a o e).lt
def HOk.fresh(x:HOk P w H h)(e:h.objs.size<=a):H a=none:=by
 cases q:H a with
 |none=>rfl
 |some u=>exact absurd (Nat.lt_of_lt_of_le (x.lt q) e) (Nat.lt_irrefl _)
def HOk.kept(x:HOk P w H h)(k:∀b u,h.get? b=some u->h'.get? b=some u):HOk P w H h':=λa o e=>
 (x a o e).stay (λb u _ q=>k b u q) (λ_ q=>q) λ_ _ _ q=>q
def HOk.laid(x:HOk P w H h)(k:∀b u,h.get? b=some u->h'.get? b=some u)(hp:h.objs.size<=a)(new:cO P w (upd H a o) h' a o):HOk P w (upd H a o) h':=λb u e=>by
 have hn:=x.fresh hp;by_cases hb:b=a
 .subst hb;rw[bG]at e;cases e;exact new
 .rw[aR hb]at e;exact(x b u e).stay (λc v _ q=>k c v q) (λc q=>by rw[aR (cG q hn)];exact q) λc xs _ q=>by rw[aR (cG q hn)];exact q
end
def Rd(H:Hp)(a:Addr)(u:HO):Prop:=H a=some u\/∃o,H a=some (.frz o u)
def Rd.ok{P:Program}{w:World}{H:Hp}{h:Heap}{a:Addr}{u:HO}(r:Rd H a u)(x:HOk P w H h):cO P w H h a u:=by
 rcases r with r |⟨o,r⟩
 .exact x a u r
 .obtain⟨_,q⟩:=x a _ r;exact q
def Mut:Option HO->Prop
 |some (.lst _)|some (.dK _)|some (.dT _)|some (.set _ _)|some (.ins _ _ _)|some (.ext _)=>True
 |_=>False
section
variable{P:Program}{w:World}{H:Hp}{h h':Heap}{x e:Addr}{o':HO}
theorem HOk.write(ok:HOk P w H h)(mu:Mut (H x))(he:e=x\/H e=some (.own x))(k:∀b u,b≠e->h.get? b=some u->h'.get? b=some u)(heo:∃u,h'.get? e=some u)
  (new:cO P w (upd H x o') h' x o'):HOk P w (upd H x o') h':=λb u q=>by
 have nown:∀c y,H c=some (.own y)->c≠x:=λc y r z=>by subst z;rw[r]at mu;exact mu
 have ntup:∀c u,Kp u->H c=some u->c≠x:=λc u h r z=>by subst z;rw[r]at mu;cases u<;>first|exact h|exact mu
 by_cases hb:b=x
 .subst hb;rw[bG]at q;cases q;exact new
 .rw[aR hb]at q;by_cases hbe:b=e
  .have q':H b=some (.own x):=by
    rcases he with z|z
    .lia
    .rw[hbe];exact z
   rw[q]at q';cases q';obtain⟨v,hv⟩:=heo;exact⟨v,by lia⟩
  .refine(ok b u q).stay (λc v hc r=>k c v ?_ r) (λc r=>by rw[aR (nown c b r)];exact r) λc xs h r=>by rw[aR (ntup c xs h r)];exact r
   rcases hc with rfl|hc
   .exact hbe
   .rintro rfl;rcases he with z|z
    .exact nown c b hc z
    .lia
end
structure Un(fs ex:Lu)(H H':Hp)(h h':Heap):Prop where
 keep:∀b o,h.get? b=some o->H b=none->b∉fs->b∉ex->h'.get? b=some o
 slot:∀b o,h.get? b=some o->H b=none->b∈fs->b∉ex->∃sl,h'.get? b=some {o with slots:=sl}
 free:∀b o,h.get? b=some o->H b=none->b∉ex->H' b=none
 there:∀b o,h.get? b=some o->b∉ex->∃o',h'.get? b=some o'
 tups:∀b xs,H b=some (.tup xs)->H' b=some (.tup xs)
 frzs:∀b o u,H b=some (.frz o u)->H' b=some (.frz o u)
 tbls:∀b ps,H b=some (.tbl ps)->∃more,H' b=some (.tbl (ps++more))
section
variable{fs fs' ex ex':Lu}{H H1 H2:Hp}{h h1 h2 h':Heap}{a x e:Addr}{o:HO}
def Un.any(u:Un fs ex H H1 h h1){b:Addr}{ob:Obj}(q:h.get? b=some ob)(n:H b=none)(hx:b∉ex):∃sl,h1.get? b=some {ob with slots:=sl}:=by
 by_cases hb:b∈fs
 .exact u.slot b ob q n hb hx
 .exact⟨ob.slots,u.keep b ob q n hb hx⟩
def Un.trans(a:Un fs ex H H1 h h1)(b:Un fs ex H1 H2 h1 h2):Un fs ex H H2 h h2 where
 keep:=λc ob q n hc hx=>b.keep c ob (a.keep c ob q n hc hx) (a.free c ob q n hx) hc hx
 slot:=λc ob q n hc hx=>by obtain⟨sl,e1⟩:=a.slot c ob q n hc hx;obtain⟨sl',e2⟩:=b.slot c _ e1 (a.free c ob q n hx) hc hx;exact⟨sl',e2⟩
 free:=λc ob q n hx=>by obtain⟨o',e1⟩:=a.there c ob q hx;exact b.free c o' e1 (a.free c ob q n hx) hx
 there:=λc ob q hx=>by obtain⟨o',e1⟩:=a.there c ob q hx;exact b.there c o' e1 hx
 tups:=λc xs q=>b.tups c xs (a.tups c xs q)
 frzs:=λc ob xs q=>b.frzs c ob xs (a.frzs c ob xs q)
 tbls:=λc ps q=>by obtain⟨m1,e1⟩:=a.tbls c ps q;obtain⟨m2,e2⟩:=b.tbls c _ e1;exact⟨m1++m2,by rw[e2,Array.append_assoc]⟩
def Un.kept(k:∀b u,h.get? b=some u->h'.get? b=some u):Un fs ex H H h h':=
 ⟨λb ob q _ _ _=>k b ob q,λb ob q _ _ _=>⟨ob.slots,k b ob q⟩,λ_ _ _ n _=>n,λb ob q _=>⟨ob,k b ob q⟩,λ_ _ q=>q,λ_ _ _ q=>q,λ_ ps q=>⟨#[],by rw[q];simp⟩⟩
def Un.refl:Un fs ex H H h h:=Un.kept λ_ _ q=>q
def Un.laid(k:∀b u,h.get? b=some u->h'.get? b=some u)(hp:h.objs.size<=a)(hn:H a=none):Un fs ex H (upd H a o) h h' where
 keep:=λb u q _ _ _=>k b u q
 slot:=λb u q _ _ _=>⟨u.slots,k b u q⟩
 free:=λb u q n _=>by rw[aR (Nat.ne_of_lt (Nat.lt_of_lt_of_le (lt_size q) hp))];exact n
 there:=λb u q _=>⟨u,k b u q⟩
 tups:=λb xs q=>by rw[aR (cG q hn)];exact q
 frzs:=λb u xs q=>by rw[aR (cG q hn)];exact q
 tbls:=λb ps q=>⟨#[],by rw[aR (cG q hn),q];simp⟩
theorem Un.write(mu:Mut (H x))(he:e=x\/H e=some (.own x))(k:∀b u,b≠e->h.get? b=some u->h'.get? b=some u)(heo:∃u,h'.get? e=some u):Un fs ex H (upd H x o) h h':=by
 have hx:∀b,H b=none->b≠x:=λb n z=>by subst z;rw[n]at mu;exact mu
 have hb:∀b,H b=none->b≠e:=λb n z=>by lia
 have hm:∀b u,H b=some u->¬Mut (some u)->b≠x:=λb u q nm z=>by lia
 refine ⟨λb u q n _ _=>k b u (hb b n) q,λb u q n _ _=>⟨u.slots,k b u (hb b n) q⟩,λb u q n _=>by rw [aR (hx b n)];exact n,λb u q _=>?_,
  λb xs q=>by rw[aR (hm b _ q λz=>z)];exact q,λb u xs q=>by rw[aR (hm b _ q λz=>z)];exact q,λb ps q=>⟨#[],by rw[aR (hm b _ q λz=>z),q];simp⟩⟩
 by_cases hbe:b=e
 .subst hbe;exact heo
 .exact⟨u,k b u hbe q⟩
def Un.mono(u:Un fs ex H H1 h h1)(hs:∀b∈fs,b∈fs')(hx:∀b∈ex,b∈ex'):Un fs' ex' H H1 h h1:=
 ⟨λb ob q n hb he=>u.keep b ob q n (λz=>hb (hs b z)) λz=>he (hx b z),λ_ _ q n _ he=>u.any q n λz=>he (hx _ z),λb ob q n he=>u.free b ob q n λz=>he (hx b z),λb ob q he=>u.there b ob q λz=>he (hx b z),u.tups,u.frzs,u.tbls⟩
end
noncomputable def trk(h:Heap)(H:Hp):Lu:=(range h.objs.size).filter λa=>(H a).isSome
def qe(h:Heap)(H:Hp):Heap:=PySem.W.hideAll h (trk h H)
def wP(h:Heap)(H:Hp):(qe h H).objs.size=h.objs.size:=PySem.W.hideAll_size _ _
def zo{h:Heap}{H:Hp}{b:Addr}{o:Obj}(e:h.get? b=some o)(n:H b=none):(qe h H).get? b=some o:=
 hideAll_get _ e λhm=>by have q:(H b).isSome=true:=(mem_filter.mp hm).2;rw[n]at q;simp at q
def BX{h:Heap}{H:Hp}{b:Addr}{o:Obj}(e:(qe h H).get? b=some o):h.get? b=some o/\H b=none:=by
 have e':h.get? b=some o:=PySem.W.of_hideAll (trk h H) e;refine⟨e',?_⟩;cases q:H b with
 |none=>rfl
 |some x=>have hm:b∈trk h H:=mem_filter.mpr ⟨mem_range.mpr (lt_size e'),by simp[q]⟩;have z:(qe h H).get? b=none:=PySem.W.hideAll_none (trk h H) hm;rw[z]at e;cases e
noncomputable def CT(g h:Heap)(L:Addr):Lo:=(range h.objs.size).filterMap λa=>if a=L \/(g.get? a).isSome=true then none else(h.get? a).map λo=>(a,o)
def rest(g h:Heap)(L d:Addr):Lo:=(CT g h L).filter λp=>decide (p.1≠d)
end
section
structure Mod(K:PySem.W.Frag)(mg:Lk)(base:Heap):Prop where
 kin:K.In base
 glob:base.Ns mainGlobals mg
 blt:∃mb,base.Ns builtinsNs mb/\∀x:Str,x≠"__name__" -> mb x=bootBuiltins x
 nolimit:base.NoLimit
structure Cx where
 prog:Program
 w:World
 K:PySem.W.Frag
 mg:Lk
 base:Heap
 A:Around
 N:Lw
 s₀:Shared
 H₀:Hp
 env:Env
 outer:List Env
 stack:List Env
 ex:Lu
 fn:Str->Bool
 calm:Bool
 pn:Lo
 xe:Lj
def frs(l:List Env):Lu:=l.filterMap (·.frame)
abbrev Cx.fs(X:Cx):Lu:=frs X.outer
def Vis(sc:Scope)(x:Str):Prop:=sc.names.lookup x=some .local\/sc.names.lookup x=some .cell\/sc.names.lookup x=some .free
def Loc(sc:Scope)(x:Str):Prop:=sc.names.lookup x=some .local\/sc.names.lookup x=some .cell
def K7(env:Env)(h:Heap)(m:Lk)(x:Str)(u:Value):Prop:=
 (env.kindOf x=some .local/\m x=some u)\/((env.kindOf x=some .cell\/env.kindOf x=some .free)/\∃c,env.cells.lookup x=some c/\h.IsCell c (some u))
structure Cx.Ok(X:Cx):Prop where
 mod:Mod X.K X.mg X.base
 kind:X.env.scope.kind=.function
 glob:X.env.globals=mainGlobals
 blt:X.env.builtins=builtinsNs
 above:X.s₀.heap.objs.size<=X.env.locals
 inj:∀x y c,X.env.cells.lookup x=some c->X.env.cells.lookup y=some c->x=y
 has:∀x,(X.env.kindOf x=some .cell\/X.env.kindOf x=some .free)->∃c,X.env.cells.lookup x=some c
 cab:∀x c,X.fn x=true->X.env.cells.lookup x=some c->X.s₀.heap.objs.size<=c
 hd:X.calm=true->X.A.handled=none
 frames:X.A.frames=some X.stack
 stk:X.stack=X.outer \/(X.stack=X.env::X.outer/\X.env.frame=some X.env.locals)
 exf:∀b∈X.ex,b≠X.env.locals/\∀x c,X.env.cells.lookup x=some c->c≠b
 bs:∀b o,X.base.get? b=some o->X.s₀.heap.get? b=some o/\X.H₀ b=none
 bsz:X.base.objs.size<=X.s₀.heap.objs.size
 noex:∀b o,X.base.get? b=some o->b∉X.ex
 exfs:∀b∈X.ex,b∉X.fs
 funs:X.s₀.heap.FunFrames X.base X.outer
 frf:∀b∈X.fs,X.H₀ b=none
structure Inv(X:Cx)(js:Lo)(Y:List (Option V))(H:Hp)(s:Shared):Prop where
 ok:X.Ok
 os:s.os=X.s₀.os
 bare:AllBare s.gens
 base:Un X.fs X.ex X.H₀ H X.s₀.heap s.heap
 loc:∃m,s.heap.Ns X.env.locals m/\∀(i:Nat) (x:Str) (v:V),X.N[i]?=some x->Y[i]?=some (some v)->Vis X.env.scope x->∃u,bT v u/\K7 X.env s.heap m x u
 cell:∀x c,X.env.cells.lookup x=some c->∃v,s.heap.IsCell c v
 free:H X.env.locals=none
 freeC:∀x c,X.env.cells.lookup x=some c->H c=none\/X.fn x=false/\∃o u,H c=some (.frz o u)
 pin:∀p∈X.pn++js,s.heap.get? p.1=some p.2/\H p.1=none/\p.1≠X.env.locals/\p.1∉X.fs/\∀v,p.2.data≠.cell v
 hok:HOk X.prog X.w H s.heap
 len:Y.length=X.N.length
section
variable{X:Cx}{js:Lo}{Y:List (Option V)}{H H':Hp}{s:Shared}{h':Heap}
def Cx.Ok.nofr(ok:X.Ok){b:Addr}{o:Obj}(e:X.base.get? b=some o):b∉X.fs:=λhb=>by have:=(ok.funs.mem hb).1;rw[e]at this;cases this
def Inv.bs(I:Inv X js Y H s):∀b o,X.base.get? b=some o->s.heap.get? b=some o/\H b=none:=λb o e=>
 ⟨I.base.keep b o (I.ok.bs b o e).1 (I.ok.bs b o e).2 (I.ok.nofr e) (I.ok.noex b o e),I.base.free b o (I.ok.bs b o e).1 (I.ok.bs b o e).2 (I.ok.noex b o e)⟩
def Inv.bk(I:Inv X js Y H s):∀b o,X.base.get? b=some o->s.heap.get? b=some o:=λb o e=>(I.bs b o e).1
def Inv.mod(I:Inv X js Y H s):Mod X.K X.mg X.base:=I.ok.mod
def Inv.kIn(I:Inv X js Y H s):X.K.In s.heap:=I.ok.mod.kin.keeps I.bk
def Inv.lt(I:Inv X js Y H s):X.env.locals<s.heap.objs.size:=let⟨_,hn,_⟩:=I.loc;hn.lt
def Inv.sz(I:Inv X js Y H s):X.s₀.heap.objs.size<=s.heap.objs.size:=Nat.le_trans I.ok.above (Nat.le_of_lt I.lt)
def Inv.nofs(I:Inv X js Y H s){a:Addr}(h:s.heap.objs.size<=a):a∉X.fs:=λhb=>by obtain⟨_,o,ho,_⟩:=I.ok.funs.mem hb;exact absurd (Nat.lt_of_lt_of_le (lt_size ho) (Nat.le_trans I.sz h)) (Nat.lt_irrefl _)
def Inv.cne(I:Inv X js Y H s):∀x c,X.env.cells.lookup x=some c->c≠X.env.locals:=λx c e z=>by obtain⟨v,o,ho,hd⟩:=I.cell x c e;obtain⟨m,⟨o',es,ep,ho',hd',_⟩,_⟩:=I.loc;rw[z,ho']at ho;cases ho;rw[hd']at hd;cases hd
def Inv.funs(I:Inv X js Y H s):s.heap.FunFrames X.base X.outer:=by
 have all:∀(l:List Env),(∀b∈frs l,b∈X.fs)->X.s₀.heap.FunFrames X.base l->s.heap.FunFrames X.base l:=by
  intro l
  induction l with
  |nil=>intro _ _;trivial
  |cons env r ih=>intro hs hl;obtain⟨hk,⟨L,o,hf,hn,ho,hd⟩,hr⟩:=hl;have hL:L∈X.fs:=hs L (by unfold frs;rw[List.filterMap_cons,hf];exact mem_cons_self);obtain⟨sl,e⟩:=I.base.slot L o ho (I.ok.frf L hL) hL λz=>I.ok.exfs L z hL;exact⟨hk,⟨L,_,hf,hn,e,hd⟩,ih (λb hb=>hs b (by unfold frs;rw[List.filterMap_cons,hf];exact mem_cons_of_mem _ hb)) hr⟩
 exact all X.outer (λ_ hb=>hb) I.ok.funs
def Inv.stack(I:Inv X js Y H s):s.heap.FunFrames X.base X.stack:=by
 rcases I.ok.stk with e |⟨e,hf⟩
 .rw[e];exact I.funs
 .rw[e];obtain⟨m,hn,_⟩:=I.loc;refine .cons (by rw[I.ok.kind];decide) hf hn ?_ I.funs;exact Heap.get?_none_of_le (Nat.le_trans I.ok.bsz I.ok.above)
def Inv.stkSub(I:Inv X js Y H s):∀b∈frs X.stack,b∈X.env.locals::X.fs:=λb hb=>by
 rcases I.ok.stk with e |⟨e,hf⟩
 .rw[e]at hb;exact mem_cons_of_mem _ hb
 .rw[e]at hb;unfold frs at hb;rw[List.filterMap_cons,hf]at hb;exact hb
def Inv.stkFree(I:Inv X js Y H s):∀b∈frs X.stack,H b=none:=λb hb=>by
 rcases mem_cons.mp (I.stkSub b hb)with e|hb
 .rw[e];exact I.free
 .obtain⟨_,o,ho,_⟩:=I.ok.funs.mem hb;exact I.base.free b o ho (I.ok.frf b hb) λz=>I.ok.exfs b z hb
def Inv.step{g':Array GenState}{t':Nat}{d':Drawn}{ch:Lu}(I:Inv X js Y H s)
  (hch:∀b∈ch,(b∈X.ex\/X.s₀.heap.objs.size<=b)/\b≠X.env.locals/\(∀x c,X.env.cells.lookup x=some c->c≠b)/\∀p∈X.pn++js,p.1≠b)
  (keep:∀b o,b≠X.env.locals->b∉X.fs->b∉ch->s.heap.get? b=some o->H b=none->h'.get? b=some o)
  (slot:∀b o,b≠X.env.locals->b∈X.fs->b∉ch->s.heap.get? b=some o->H b=none->∃sl,h'.get? b=some {o with slots:=sl}) (free:∀b o,b∉ch->s.heap.get? b=some o->H b=none->H' b=none)
  (there:∀b o,b∉ch->s.heap.get? b=some o->∃o',h'.get? b=some o')
  (tups:∀b xs,H b=some (.tup xs)->H' b=some (.tup xs)) (frzs:∀b o u,H b=some (.frz o u)->H' b=some (.frz o u)) (tbls:∀b ps,H b=some (.tbl ps)->∃more,H' b=some (.tbl (ps++more)))
  (ns:∀m,s.heap.Ns X.env.locals m->h'.Ns X.env.locals m) (hok:HOk X.prog X.w H' h') (hg:AllBare g') :
  Inv X js Y H' {s with heap:=h',gens:=g',drawn:=d',toks:=t'}:=by
 have neL:∀b o,X.s₀.heap.get? b=some o->b≠X.env.locals:=λb o e=>Nat.ne_of_lt (Nat.lt_of_lt_of_le (lt_size e) I.ok.above);have neC:∀b o,X.s₀.heap.get? b=some o->b∉X.ex->b∉ch:=λb o e hx hb=>by
  rcases(hch b hb).1 with z|z
  .exact hx z
  .exact absurd (Nat.lt_of_lt_of_le (lt_size e) z) (Nat.lt_irrefl _)
 have cellK:∀x c,X.env.cells.lookup x=some c->∀v,s.heap.IsCell c v->h'.IsCell c v:=λx c e v hz1=>by
  obtain⟨o,ho,hd⟩:=hz1;have nch:c∉ch:=λz=>(hch c z).2.2.1 x c e rfl;rcases I.freeC x c e with n |⟨_,o',u,q⟩
  .by_cases hc:c∈X.fs
   .obtain⟨sl,q⟩:=slot c o (I.cne x c e) hc nch ho n;exact⟨_,q,hd⟩
   .exact⟨o,keep c o (I.cne x c e) hc nch ho n,hd⟩
  .obtain⟨q1,_⟩:=I.hok c _ q;obtain⟨q2,_⟩:=hok c _ (frzs c o' u q);rw[ho]at q1;cases q1;exact⟨o,q2,hd⟩
 refine⟨I.ok,I.os,hg,⟨λb o e n hb hx=>?_,λb o e n hb hx=>?_,λb o e n hx=>?_,λb o e hx=>?_,λb xs e=>tups b xs (I.base.tups b xs e),λb o xs e=>frzs b o xs (I.base.frzs b o xs e),λb ps e=>?_⟩,?_,λx c e=>?_,?_,λx c e=>?_,λp hp=>?_,hok,I.len⟩
 .exact keep b o (neL b o e) hb (neC b o e hx) (I.base.keep b o e n hb hx) (I.base.free b o e n hx)
 .obtain⟨sl,e1⟩:=I.base.slot b o e n hb hx;obtain⟨sl',e2⟩:=slot b _ (neL b o e) hb (neC b o e hx) e1 (I.base.free b o e n hx);exact⟨sl',e2⟩
 .obtain⟨o',e1⟩:=I.base.there b o e hx;exact free b o' (neC b o e hx) e1 (I.base.free b o e n hx)
 .obtain⟨o',e1⟩:=I.base.there b o e hx;exact there b o' (neC b o e hx) e1
 .obtain⟨m1,e1⟩:=I.base.tbls b ps e;obtain⟨m2,e2⟩:=tbls b _ e1;exact⟨m1++m2,by simp_all⟩
 .obtain⟨m,hn,hl⟩:=I.loc;refine⟨m,ns m hn,λi x v e1 e2 e3=>?_⟩;obtain⟨u,r,l⟩:=hl i x v e1 e2 e3;refine⟨u,r,?_⟩;rcases l with l |⟨k,c,e,z⟩
  .exact .inl l
  .exact .inr ⟨k,c,e,cellK x c e _ z⟩
 .obtain⟨v,z⟩:=I.cell x c e;exact⟨v,cellK x c e v z⟩
 .obtain⟨m,⟨o,_,_,ho,_⟩,_⟩:=I.loc;exact free _ o (λz=>(hch _ z).2.1 rfl) ho I.free
 .obtain⟨v,o,ho,hd⟩:=I.cell x c e;rcases I.freeC x c e with n |⟨n,o',u,q⟩
  .exact .inl (free c o (λz=>(hch c z).2.2.1 x c e rfl) ho n)
  .exact .inr ⟨n,o',u,frzs c o' u q⟩
 .obtain⟨e,n,ne,nf,d⟩:=I.pin p hp;have nch:p.1∉ch:=λz=>(hch p.1 z).2.2.2 p hp rfl;exact⟨keep p.1 p.2 ne nf nch e n,free p.1 p.2 nch e n,ne,nf,d⟩
theorem Inv.un{t':Nat}(I:Inv X js Y H s)(u:Un X.fs [] H H' s.heap h')(hok:HOk X.prog X.w H' h'):Inv X js Y H' {s with heap:=h',toks:=t'}:=by
 obtain⟨m,⟨o,es,ep,ho,r⟩,_⟩:=id I.loc;obtain⟨sl,hL⟩:=u.any ho I.free ();exact I.step (g':=s.gens) (d':=s.drawn) (ch:=[]) (λ_ z=>nomatch z) (λb o _ hb _ e n=>u.keep b o e n hb ()) (λb o _ hb _ e n=>u.slot b o e n hb ()) (λb o _ e n=>u.free b o e n ()) (λb o _ e=>u.there b o e ()) u.tups u.frzs u.tbls (λm' hm=>by
  obtain⟨o',es',ep',ho',r'⟩:=hm;rw[ho]at ho';cases ho';exact⟨_,es',ep',hL,r'⟩) hok I.bare
def Inv.call{g':Array GenState}{t':Nat}{d':Drawn}{ch:Lu}(I:Inv X js Y H s)(u:Un (frs X.stack) ch H H' s.heap h')(hok:HOk X.prog X.w H' h')(hg:AllBare g')
  (hch:∀b∈ch,(b∈X.ex\/X.s₀.heap.objs.size<=b)/\b≠X.env.locals/\(∀x c,X.env.cells.lookup x=some c->c≠b)/\∀p∈X.pn++js,p.1≠b) :
  Inv X js Y H' {s with heap:=h',gens:=g',drawn:=d',toks:=t'}:=by
 obtain⟨m,⟨o,es,ep,ho,r⟩,_⟩:=id I.loc;obtain⟨sl,hL⟩:=u.any ho I.free λz=>(hch _ z).2.1 rfl;exact I.step (ch:=ch) hch (λb o hL hb hc e n=>u.keep b o e n (λz=>(mem_cons.mp (I.stkSub b z)).elim hL hb) hc) (λb o _ _ hc e n=>u.any e n hc) (λb o hc e n=>u.free b o e n hc) (λb o hc e=>u.there b o e hc) u.tups u.frzs u.tbls (λm' hm=>by
  obtain⟨o',es',ep',ho',r'⟩:=hm;rw[ho]at ho';cases ho';exact⟨_,es',ep',hL,r'⟩) hok hg
theorem Inv.turned{t':Nat}{it:Addr}(I:Inv X js Y H s)(k:∀b o,b≠it->s.heap.get? b=some o->h'.get? b=some o)(hn:H it=none)(hL:it≠X.env.locals)
  (h1:it∈X.ex\/X.s₀.heap.objs.size<=it) (h2:∀x c,X.env.cells.lookup x=some c->c≠it) (h3:∀p∈X.pn++js,p.1≠it):Inv X js Y H {s with heap:=h',toks:=t'}:=by
 have nit:∀b u,H b=some u->b≠it:=λb u e z=>by lia
 refine I.step (g':=s.gens) (d':=s.drawn) (ch:=[it]) (λb hb=>?_) (λb o _ _ hc e _=>k b o (λz=>hc (by simp[z])) e) (λb o _ _ hc e _=>⟨o.slots,k b o (λz=>hc (by simp[z])) e⟩) (λ_ _ _ _ n=>n)
  (λb o hc e=>⟨o,k b o (λz=>hc (by simp[z])) e⟩) (λ_ _ e=>e) (λ_ _ _ e=>e) (λb ps e=>⟨#[],by rw[e];simp⟩) (λm hm=>?_) (λb u e=>?_) I.bare
 .have e:b=it:=by simpa using hb
  subst e;exact⟨h1,hL,h2,h3⟩
 .obtain⟨o,es,ep,ho,r⟩:=hm;exact⟨o,es,ep,k _ o (Ne.symm hL) ho,r⟩
 .refine(I.hok b u e).stay (λc v hc q=>k c v ?_ q) (λ_ q=>q) λ_ _ _ q=>q;rcases hc with z|z
  .lia
  .exact nit c _ z
def Inv.tok(I:Inv X js Y H s)(t:Nat):Inv X js Y H {s with toks:=t}:=I.un (h':=s.heap) (t':=t) Un.refl I.hok
def Inv.kept{t':Nat}(I:Inv X js Y H s)(k:∀b u,s.heap.get? b=some u->h'.get? b=some u):Inv X js Y H {s with heap:=h',toks:=t'}:=I.un (Un.kept k) (I.hok.kept k)
def Inv.laid{a:Addr}{o:HO}{t':Nat}(I:Inv X js Y H s)(k:∀b u,s.heap.get? b=some u->h'.get? b=some u)(hp:s.heap.objs.size<=a)(new:cO X.prog X.w (upd H a o) h' a o) :
  Inv X js Y (upd H a o) {s with heap:=h',toks:=t'}:=I.un (Un.laid k hp (I.hok.fresh hp)) (I.hok.laid k hp new)
def Inv.write{x e:Addr}{o:HO}{t':Nat}(I:Inv X js Y H s)(mu:Mut (H x))(he:e=x\/H e=some (.own x))(k:∀b u,b≠e->s.heap.get? b=some u->h'.get? b=some u)(heo:∃u,h'.get? e=some u)
  (new:cO X.prog X.w (upd H x o) h' x o):Inv X js Y (upd H x o) {s with heap:=h',toks:=t'}:=I.un (Un.write mu he k heo) (I.hok.write mu he k heo new)
def Inv.pins_of{pins':Lo}(I:Inv X js Y H s)(h:∀p∈pins',s.heap.get? p.1=some p.2/\H p.1=none/\p.1≠X.env.locals/\p.1∉X.fs/\∀v,p.2.data≠.cell v):Inv X pins' Y H s:=
 ⟨I.ok,I.os,I.bare,I.base,I.loc,I.cell,I.free,I.freeC,λp hp=>(mem_append.mp hp).elim (λz=>I.pin p (mem_append_left _ z)) (h p),I.hok,I.len⟩
def rC{N:Lw}(hN:N.Nodup){i j:Nat}{x:Str}(a:N[i]?=some x)(b:N[j]?=some x):i=j:=by obtain⟨h1,e1⟩:=List.getElem?_eq_some_iff.mp a;obtain⟨h2,e2⟩:=List.getElem?_eq_some_iff.mp b;exact(getElem_inj hN).mp (e1.trans e2.symm)
def oC{M:Model}{A:Around}{E:Lj}{i:Nat}{x:Str}{v:V}{u:Value}{Q:Unit->Shared->Prop}(I:Inv X js Y H s)(hN:X.N.Nodup)(hi:X.N[i]?=some x)(hx:Loc X.env.scope x)(r:bT v u)
  (h:∀s',Inv X js (Y.set i (some v)) H s'->(∃a,SameBut a s.heap s'.heap/\(a=X.env.locals\/X.env.cells.lookup x=some a))->Q .unit s') (hf:Lce X.fn X.env x:=by first|exact .inl rfl|exact .inr rfl|assumption):wpAny M A (storeName X.env x u) Q E s:=by
 obtain⟨m,hn,hl⟩:=id I.loc;have hcls:(X.env.scope.kind==.class ||(X.env.scope.kind==.module&&X.env.locals != X.env.globals))=false:=by rw[I.ok.kind];rfl
 have hiσ:i<Y.length:=by rw[I.len];exact(List.getElem?_eq_some_iff.mp hi).1
 have cne:=I.cne;have tracked:∀{a:Addr}{h':Heap},(∃o,s.heap.get? a=some o/\H a=none)->SameBut a s.heap h'->HOk X.prog X.w H h':=λ{a h'} ha hs b ob e=>by
  obtain⟨_,_,hfree⟩:=ha;refine(I.hok b ob e).stay (λc w' hc q=>(hs.2 c ?_).trans q) (λ_ q=>q) λ_ _ _ q=>q;rintro rfl;rcases hc with rfl|hc
  .rw[hfree]at e;cases e
  .rw[hfree]at hc;cases hc
 rcases hx with hk|hk
 .refine wpAny_storeName_local hk hn (λh' hn' hs=>?_) hcls;obtain⟨oL,_,_,hoL,_⟩:=id hn;refine h _ ⟨I.ok,I.os,I.bare,⟨λb o e n hb hx=>?_,λb o e n hb hx=>?_,I.base.free,λb o e hx=>?_,I.base.tups,I.base.frzs,I.base.tbls⟩,⟨_,hn',λj y v' e1 e2 e3=>?_⟩,λy c e=>?_,I.free,I.freeC,λp hp=>?_,tracked ⟨oL,hoL,I.free⟩ hs,by simpa using I.len⟩ ⟨_,hs,.inl rfl⟩
  .exact(hs.2 b (Nat.ne_of_lt (Nat.lt_of_lt_of_le (lt_size e) I.ok.above))).trans (I.base.keep b o e n hb hx)
  .obtain⟨sl,e1⟩:=I.base.slot b o e n hb hx;exact⟨sl,(hs.2 b (Nat.ne_of_lt (Nat.lt_of_lt_of_le (lt_size e) I.ok.above))).trans e1⟩
  .obtain⟨o',e1⟩:=I.base.there b o e hx;exact⟨o',(hs.2 b (Nat.ne_of_lt (Nat.lt_of_lt_of_le (lt_size e) I.ok.above))).trans e1⟩
  .by_cases hj:j=i
   .subst hj;rw[hi]at e1;cases e1;rw[getElem?_set_self hiσ]at e2;cases e2;exact⟨u,r,.inl ⟨hk,by simp⟩⟩
   .rw[getElem?_set_ne (Ne.symm hj)]at e2;obtain⟨u',r',q⟩:=hl j y v' e1 e2 e3;refine⟨u',r',?_⟩;rcases q with⟨k,e⟩ |⟨k,c,e,z⟩
    .refine .inl ⟨k,?_⟩;have:y≠x:=λe=>hj (rC hN e1 (e▸hi));simp[this,e]
    .exact .inr ⟨k,c,e,z.sameBut hs (cne y c e)⟩
  .obtain⟨w',z⟩:=I.cell y c e;exact⟨w',z.sameBut hs (cne y c e)⟩
  .obtain⟨e,n,ne,nf,d⟩:=I.pin p hp;exact⟨(hs.2 p.1 ne).trans e,n,ne,nf,d⟩
 .have hfn:X.fn x=true:=by
   rcases hf with z|z
   .exact z
   .rw[z]at hk;cases hk
  obtain⟨c,hc⟩:=I.ok.has x (.inl hk);obtain⟨w',z⟩:=I.cell x c hc;refine wpAny_storeName_cell I.ok.kind hk hc z (λh' hc' hs=>?_);obtain⟨oc,hoc,hocd⟩:=id z;refine h {s with heap:=h'} ⟨I.ok,I.os,I.bare,⟨λb o e n hb hx=>?_,λb o e n hb hx=>?_,I.base.free,λb o e hx=>?_,I.base.tups,I.base.frzs,I.base.tbls⟩,⟨m,hn.sameBut hs (Ne.symm (cne x c hc)),λj y v' e1 e2 e3=>?_⟩,λy c' e=>?_,I.free,I.freeC,λp hp=>?_,tracked ⟨oc,hoc,(I.freeC x c hc).resolve_right λq=>by rw[hfn]at q;cases q.1⟩ hs,by simpa using I.len⟩ ⟨c,hs,.inr hc⟩
  .exact(hs.2 b (Nat.ne_of_lt (Nat.lt_of_lt_of_le (lt_size e) (I.ok.cab x c hfn hc)))).trans (I.base.keep b o e n hb hx)
  .obtain⟨sl,e1⟩:=I.base.slot b o e n hb hx;exact⟨sl,(hs.2 b (Nat.ne_of_lt (Nat.lt_of_lt_of_le (lt_size e) (I.ok.cab x c hfn hc)))).trans e1⟩
  .obtain⟨o',e1⟩:=I.base.there b o e hx;exact⟨o',(hs.2 b (Nat.ne_of_lt (Nat.lt_of_lt_of_le (lt_size e) (I.ok.cab x c hfn hc)))).trans e1⟩
  .by_cases hj:j=i
   .subst hj;rw[hi]at e1;cases e1;rw[getElem?_set_self hiσ]at e2;cases e2;exact⟨u,r,.inr ⟨.inl hk,c,hc,hc'⟩⟩
   .rw[getElem?_set_ne (Ne.symm hj)]at e2;obtain⟨u',r',q⟩:=hl j y v' e1 e2 e3;refine⟨u',r',?_⟩;rcases q with q |⟨k,c',e,z'⟩
    .exact .inl q
    .refine .inr ⟨k,c',e,z'.sameBut hs ?_⟩;rintro rfl;exact hj (rC hN e1 (I.ok.inj _ _ _ e hc▸hi))
  .by_cases hcc:c'=c
   .subst hcc;exact⟨_,hc'⟩
   .obtain⟨w2,z2⟩:=I.cell y c' e;exact⟨w2,z2.sameBut hs hcc⟩
  .obtain⟨e,n,ne,nf,d⟩:=I.pin p hp;refine⟨(hs.2 p.1 ?_).trans e,n,ne,nf,d⟩;intro q;rw[q,hoc]at e;have q':oc=p.2:=Option.some.inj e;exact d w' (by rw[<- q'];exact hocd)
def qK{M:Model}{A:Around}{E:Lj}{i:Nat}{x:Str}{v:V}{u:Value}{Q:Unit->Shared->Prop}(I:Inv X js Y H s)(hN:X.N.Nodup)(hi:X.N[i]?=some x)(hx:Loc X.env.scope x)(r:bT v u)
  (h:∀s',Inv X js (Y.set i (some v)) H s'->Q .unit s') (hf:Lce X.fn X.env x:=by first|exact .inl rfl|exact .inr rfl|assumption):wpAny M A (storeName X.env x u) Q E s:=
 oC I hN hi hx r (λs' I' _=>h s' I') hf
def Inv.call'{s':Shared}{ch:Lu}(I:Inv X js Y H s)(ho:s'.os=s.os)(u:Un (frs X.stack) ch H H' s.heap s'.heap)(hok:HOk X.prog X.w H' s'.heap)(hg:AllBare s'.gens)
  (hch:∀b∈ch,(b∈X.ex\/X.s₀.heap.objs.size<=b)/\b≠X.env.locals/\(∀x c,X.env.cells.lookup x=some c->c≠b)/\∀p∈X.pn++js,p.1≠b):Inv X js Y H' s':=by
 obtain⟨h',g',d',t',o'⟩:=s';have e:o'=s.os:=ho;subst e;exact I.call (g':=g') (t':=t') (d':=d') u hok hg hch
end
abbrev XK:=Value->Option Addr->LA
abbrev St:=List (Option V)
abbrev VK:=V->LA
abbrev TE:=St->Hp->VK->Prop
abbrev TT:=St->Hp->(Bool->LA)->Prop
abbrev TA:=St->Hp->(Lz->LA)->Prop
structure Ends where
 nx:St->LA
 rt:VK
 bk:St->LA:=λ_ _=>False
 ct:St->LA:=λ_ _=>False
abbrev TS:=Ends->St->LA
def EP(X:Cx)(js:Lo)(Y:St)(Q:VK)(u:Value)(s':Shared):Prop:=∃v H',Inv X js Y H' s'/\bT v u/\Q v H'
def TP(X:Cx)(js:Lo)(Y:St)(Q:Bool->LA)(b:Bool)(s':Shared):Prop:=∃H',Inv X js Y H' s'/\Q b H'
def AP(X:Cx)(js:Lo)(Y:St)(Q:Lz->LA)(us:Lr)(s':Shared):Prop:=∃vs H',Inv X js Y H' s'/\aY vs us/\Q vs H'
def SP(X:Cx)(js:Lo)(D:Ends)(f:Flow)(s':Shared):Prop:=
 match f with
 |.next=>∃σ' H',Inv X js σ' H' s'/\D.nx σ' H'
 |.brk=>∃σ' H',Inv X js σ' H' s'/\D.bk σ' H'
 |.cont=>∃σ' H',Inv X js σ' H' s'/\D.ct σ' H'
 |.ret u=>∃v σ' H',Inv X js σ' H' s'/\bT v u/\D.rt v H'
def PE(X:Cx)(e:Expr)(t:TE):Prop:=
 ∀(js:Lo) (s:Shared) (Y:St) (H:Hp) (Q:VK),Inv X js Y H s->t Y H Q->wpAny (model X.prog X.w) X.A (eval e X.env) (EP X js Y Q) X.xe s
def PT(X:Cx)(e:Expr)(t:TT):Prop:=
 ∀(js:Lo) (s:Shared) (Y:St) (H:Hp) (Q:Bool->LA),Inv X js Y H s->t Y H Q->wpAny (model X.prog X.w) X.A (isTrue e X.env (eval e X.env)) (TP X js Y Q) X.xe s
def PW(X:Cx)(e:Expr)(t:TT):Prop:=
 ∀(whole:Sem Value) (js:Lo) (s:Shared) (Y:St) (H:Hp) (Q:Bool->LA),Inv X js Y H s->t Y H Q->wpAny (model X.prog X.w) X.A (isTrue e X.env whole) (TP X js Y Q) X.xe s
def PW.pt{X:Cx}{e:Expr}{t:TT}(h:PW X e t):PT X e t:=h _
def PA(X:Cx)(es:List Expr)(t:TA):Prop:=
 ∀(pos:Pos) (js:Lo) (s:Shared) (Y:St) (H:Hp) (Q:Lz->LA),Inv X js Y H s->t Y H Q->wpAny (model X.prog X.w) X.A (spliced (backTo pos (starEach es X.env))) (AP X js Y Q) X.xe s
def PS(X:Cx)(st:Stmt)(t:TS):Prop:=
 ∀(js:Lo) (s:Shared) (Y:St) (H:Hp) (D:Ends),Inv X js Y H s->t D Y H->wpAny (model X.prog X.w) X.A (exec st X.env) (SP X js D) X.xe s
def PSs(X:Cx)(st:List Stmt)(t:TS):Prop:=
 ∀(js:Lo) (s:Shared) (Y:St) (H:Hp) (D:Ends),Inv X js Y H s->t D Y H->wpAny (model X.prog X.w) X.A (execs st X.env) (SP X js D) X.xe s
def thn{α:Type}{t:Sem α}{Q Q':α->Shared->Prop}{M:Model}{A:Around}{E:Lj}{s:Shared}(h:wpAny M A t Q E s)(hQ:∀a s,Q a s->Q' a s):wpAny M A t Q' E s:=wpAny_mono h hQ λ_ _ x=>x
end
section
section
variable{X:Cx}
def Ki(i:Nat):TE:=λY H Q=>∃v,Y[i]?=some (some v)/\Q v H
def tC(v:V):TE:=λ_ H Q=>Q v H
def fg{i:Nat}{x:Str}{pos:Pos}(hN:X.N[i]?=some x)(hv:Vis X.env.scope x)(hd:Nd x:=by decide)(hcd:Nc x:=by decide):PE X (.Name x pos) (Ki i):=by
 intro js s Y H Q I h;obtain⟨v,e,h⟩:=h;obtain⟨m,hn,hl⟩:=I.loc;obtain⟨u,r,l⟩:=hl i x v hN e hv;have fin:EP X js Y Q u s:=⟨v,H,I,r,h⟩
 rcases l with⟨hk,hm⟩ |⟨hk,c,hc,hcell⟩
 .exact wpAny_Name (wpAny_loadName_local I.ok.kind hk hn hm fin) hd
 .rcases hk with hk|hk
  .exact wpAny_Name (wpAny_loadName_cell I.ok.kind hk hc hcell fin) hd
  .exact wpAny_Name (wpAny_loadName_free I.ok.kind hk hc hcell fin hcd) hd
def yj{i j pos}:PE X (.Constant (.int i) j pos) (tC (.int i)):=λ_ _ _ H _ I h=>wpAny_Constant_int ⟨.int i,H,I.tok _,⟨_,rfl⟩,h⟩
def Ij{b j pos}:PE X (.Constant (.bool b) j pos) (tC (.bl b)):=λ_ _ _ H _ I h=>Constant_bool ⟨.bl b,H,I,rfl,h⟩
def yi{j pos}:PE X (.Constant .none j pos) (tC .non):=λ_ _ _ H _ I h=>Constant_none ⟨.non,H,I,rfl,h⟩
def iH{x j pos}:PE X (.Constant (.str x) j pos) (tC (.str x)):=λ_ _ _ H _ I h=>Calls.Constant_str ⟨.str x,H,I.tok _,⟨_,rfl⟩,h⟩
def Gl(X:Cx)(x:Str):Prop:=X.env.kindOf x=some .globalImplicit
def kj{E:Lj}{js:Lo}{s:Shared}{Y:St}{H:Hp}{x:Str}{u:Value}{pos:Pos}{Q:Lj}(I:Inv X js Y H s)(hg:Gl X x)(hm:X.mg x=some u)(h:Q u s)
  (hd:Nd x:=by decide):wpAny (model X.prog X.w) X.A (eval (.Name x pos) X.env) Q E s:=
 Calls.Name_function_global I.ok.kind hg (Calls.loadGlobal_global (by rw[I.ok.glob];exact I.mod.glob.keeps I.bk) hm h) hd
def gA{E:Lj}{js:Lo}{s:Shared}{Y:St}{H:Hp}{x:Str}{u:Value}{pos:Pos}{Q:Lj}(I:Inv X js Y H s)(hg:Gl X x)(hm:X.mg x=none)(hv:bootBuiltins x=some u)(h:Q u s)
  (hn:x≠"__name__":=by decide) (hd:Nd x:=by decide):wpAny (model X.prog X.w) X.A (eval (.Name x pos) X.env) Q E s:=by
 obtain⟨mb,h1,h2⟩:=I.mod.blt;exact Calls.Name_function_global I.ok.kind hg (Calls.loadGlobal_builtin (by rw[I.ok.glob];exact I.mod.glob.keeps I.bk) hm (by rw[I.ok.blt];exact h1.keeps I.bk) ((h2 x hn).trans hv) h) hd
def BN{x:Str}{v:V}{u:Value}{pos:Pos}(hg:Gl X x)(hm:X.mg x=some u)(r:bT v u)(hd:Nd x:=by decide):PE X (.Name x pos) (tC v):=
 λ_ _ _ H _ I h=>kj I hg hm ⟨v,H,I,r,h⟩ hd
def BQ{x:Str}{v:V}{u:Value}{pos:Pos}(hg:Gl X x)(hm:X.mg x=none)(hv:bootBuiltins x=some u)(r:bT v u)(hn:x≠"__name__":=by decide)(hd:Nd x:=by decide):PE X (.Name x pos) (tC v):=
 λ_ _ _ H _ I h=>gA I hg hm hv ⟨v,H,I,r,h⟩ hn hd
variable{a b:Expr}{ta tb:TE}{pos:Pos}
variable{tA tB':TT}{rest:List Expr}
def Kt(t u:TT):TT:=λY H Q=>t Y H λc H1=>if c=true then u Y H1 Q else Q false H1
def tOr(t u:TT):TT:=λY H Q=>t Y H λc H1=>if c=true then Q true H1 else u Y H1 Q
def Ko(t:TT):TT:=λY H Q=>t Y H λc H1=>Q (!c) H1
def BC(ha:PT X a tA):PW X (.BoolOp .And [a] pos) tA:=by
 intro wh js s Y H Q I h;refine isTrue_and (thn (ha js s Y H Q I h) λc s1 e=>?_);cases c with
 |true=>exact isTrue_and_nil e
 |false=>exact e
def EF(ha:PT X a tA):PW X (.BoolOp .Or [a] pos) tA:=by
 intro wh js s Y H Q I h;refine isTrue_or (thn (ha js s Y H Q I h) λc s1 e=>?_);cases c with
 |false=>exact isTrue_or_nil e
 |true=>exact e
def EG(ha:PT X a tA)(hb:PW X (.BoolOp .And (b::rest) pos) tB'):PW X (.BoolOp .And (a::b::rest) pos) (Kt tA tB'):=by
 intro wh js s Y H Q I h;refine isTrue_and (thn (ha js s Y H _ I h) λc s1 ⟨H1,I1,q1⟩=>?_);cases c with
 |true=>exact hb wh js s1 Y H1 Q I1 q1
 |false=>exact⟨H1,I1,q1⟩
def Ib(ha:PT X a tA)(hb:PW X (.BoolOp .Or (b::rest) pos) tB'):PW X (.BoolOp .Or (a::b::rest) pos) (tOr tA tB'):=by
 intro wh js s Y H Q I h;refine isTrue_or (thn (ha js s Y H _ I h) λc s1 ⟨H1,I1,q1⟩=>?_);cases c with
 |true=>exact⟨H1,I1,q1⟩
 |false=>exact hb wh js s1 Y H1 Q I1 q1
def EH(ha:PT X a tA):PT X (.UnaryOp .Not a pos) (Ko tA):=by intro js s Y H Q I h;exact isTrue_not (ha js s Y H (λc H1=>Q (!c) H1) I h)
def HQ(ta tb:TE):TE:=λY H Q=>ta Y H λx H1=>∃c,x=.bl c/\if c=true then tb Y H1 Q else Q (.bl false) H1
def Km(ta tb:TE):TE:=λY H Q=>ta Y H λx H1=>∃c,x=.bl c/\if c=true then Q (.bl true) H1 else tb Y H1 Q
def EQ{op}{t:TE}(h:PE X a t):PE X (.BoolOp op [a] pos) t:=λjs s Y H Q I hw=>BoolOp_one (h js s Y H Q I hw)
def ET(ha:PE X a ta)(hb:PE X (.BoolOp .And (b::rest) pos) tb):PE X (.BoolOp .And (a::b::rest) pos) (HQ ta tb):=by
 intro js s Y H Q I h;refine BoolOp_and (thn (ha js s Y H _ I h) λv s1 zz=>?_);obtain⟨x,H1,I1,r1,q1⟩:=zz;obtain⟨c,rfl,q1⟩:=q1;cases r1;refine wpAny_truthy_bool ?_;cases c with
 |true=>exact hb js s1 Y H1 Q I1 q1
 |false=>exact⟨.bl false,H1,I1,rfl,q1⟩
def Ig(ha:PE X a ta)(hb:PE X (.BoolOp .Or (b::rest) pos) tb):PE X (.BoolOp .Or (a::b::rest) pos) (Km ta tb):=by
 intro js s Y H Q I h;refine BoolOp_or (thn (ha js s Y H _ I h) λv s1 zz=>?_);obtain⟨x,H1,I1,r1,q1⟩:=zz;obtain⟨c,rfl,q1⟩:=q1;cases r1;refine wpAny_truthy_bool ?_;cases c with
 |false=>exact hb js s1 Y H1 Q I1 q1
 |true=>exact⟨.bl true,H1,I1,rfl,q1⟩
def tIf(t:TT)(ta tb:TE):TE:=λY H Q=>t Y H λc H1=>if c=true then ta Y H1 Q else tb Y H1 Q
def yk{c:Expr}(hc:PT X c tA)(ha:PE X a ta)(hb:PE X b tb):PE X (.IfExp c a b pos) (tIf tA ta tb):=by
 intro js s Y H Q I h;refine wpAny_IfExp (thn (hc js s Y H _ I h) λd s1 ⟨H1,I1,q1⟩=>?_);cases d with
 |true=>exact ha js s1 Y H1 Q I1 q1
 |false=>exact hb js s1 Y H1 Q I1 q1
end
end
section
def SqL(K:PySem.W.Frag)(H:Hp)(a:Addr)(xs:Lz):Prop:=
 Rd H a (.lst xs)\/
  ∃(o:Obj) (its:Ly) (n:Nat),K.lookup a=some o/\o.cls=.type "list" /\ o.dict=none/\o.data=.seq its n/\its.size<=sizeLine/\aY xs its.toList
def SqT(K:PySem.W.Frag)(H:Hp)(a:Addr)(xs:Lz):Prop:=
 Rd H a (.tup xs)\/
  ∃(o:Obj) (its:Ly) (n:Nat),K.lookup a=some o/\o.cls=.type "tuple" /\ o.data=.seq its n/\its.size<=sizeLine/\aY xs its.toList
noncomputable def JJ:Value->Option V
 |.none=>some .non
 |.bool b=>some (.bl b)
 |.int i _=>some (.int i)
 |.str x _=>some (.str x)
 |.bytes b _=>some (.byt b)
 |.float b _=>some (.flt b)
 |.ref a=>some (.ref a)
 |.type n=>some (.ty n)
 |_=>none
def bT.abs{x:V}{u:Value}(r:bT x u):JJ u=some x:=by
 cases x with
 |non|bl _=>cases r;rfl
 |int _|str _|byt _|flt _=>obtain⟨t,rfl⟩:=r;rfl
 |ref _|ty _=>cases r;rfl
def bT.inj{x y:V}{u:Value}(r:bT x u)(q:bT y u):x=y:=Option.some.inj (r.abs.symm.trans q.abs)
def aY.inj{xs ys:Lz}{us:Lr}(h:aY xs us)(g:aY ys us):xs=ys:=by
 induction h generalizing ys with
 |nil=>cases g;rfl
 |cons r t k=>cases g with
  |cons r' t'=>rw[r.inj r',k t']
section
variable{X:Cx}{js:Lo}{Y:St}{H:Hp}{s:Shared}{a:Addr}{xs ys:Lz}
def SqL.of{K:PySem.W.Frag}(h:H a=some (.lst xs)):SqL K H a xs:=.inl (.inl h)
def SqT.of{K:PySem.W.Frag}(h:H a=some (.tup xs)):SqT K H a xs:=.inl (.inl h)
theorem Inv.list(I:Inv X js Y H s)(h:SqL X.K H a xs):∃its:Lr,aY xs its/\PlainL s.heap a its.toArray/\xs.length<=sizeLine:=by
 rcases h with h |⟨o,its,n,hk,hc,hd,hs,hz,r⟩
 .obtain⟨z,its,n,r,e⟩:=h.ok I.hok;exact⟨its,r,⟨_,n,e,rfl,rfl,rfl⟩,z⟩
 .refine⟨its.toList,r,⟨o,n,I.kIn a o hk,hc,hd,by simpa using hs⟩,?_⟩;have e:=r.length;simp at e
  lia
def Inv.tuple(I:Inv X js Y H s)(h:SqT X.K H a xs):∃its:Lr,aY xs its/\IsTup s.heap a its.toArray/\xs.length<=sizeLine:=by
 rcases h with h |⟨o,its,n,hk,hc,hs,hz,r⟩
 .obtain⟨z,its,r,p⟩:=h.ok I.hok;exact⟨its,r,p,z⟩
 .refine⟨its.toList,r,⟨o,I.kIn a o hk,hc,n,by simpa using hs⟩,?_⟩;have e:=r.length;simp only[Array.length_toList]at e
  lia
theorem Inv.list_inj(I:Inv X js Y H s)(h:SqL X.K H a xs)(h':SqL X.K H a ys):xs=ys:=by
 obtain⟨its,r,⟨o,n,e,_,_,d⟩,_⟩:=I.list h;obtain⟨its',r',⟨o',n',e',_,_,d'⟩,_⟩:=I.list h';rw[e]at e';cases e';rw[d]at d';injection d' with d1 _;have:its=its':=by lia
 subst this;exact r.inj r'
def Inv.tuple_inj(I:Inv X js Y H s)(h:SqT X.K H a xs)(h':SqT X.K H a ys):xs=ys:=by
 obtain⟨its,r,⟨o,e,_,n,d⟩,_⟩:=I.tuple h;obtain⟨its',r',⟨o',e',_,n',d'⟩,_⟩:=I.tuple h';rw[e]at e';cases e';rw[d]at d';injection d' with d1 _;have:its=its':=by lia
 subst this;exact r.inj r'
end
section
variable{X:Cx}{st:Stmt}{rest:List Stmt}{t u:TS}{e:Expr}{te:TE}{pos:Pos}
def HK:TS:=λD Y H=>D.nx Y H
def Kk(t u:TS):TS:=λD Y H=>t {D with nx:=u D} Y H
def BE:PSs X [] HK:=λ_ _ Y H _ I h=>wpAny_execs_nil ⟨Y,H,I,h⟩
def j9(h1:PS X st t)(h2:PSs X rest u):PSs X (st::rest) (Kk t u):=by
 intro js s Y H D I h;refine wpAny_execs_cons (thn (h1 js s Y H {D with nx:=u D} I h) λf s1 q=>?_);cases f with
 |next=>obtain⟨σ',H',I',q⟩:=q;exact h2 js s1 σ' H' D I' q
 |ret v|brk|cont=>exact q
def uS(h1:PS X st t):PSs X [st] t:=by
 intro js s Y H D I h;refine wpAny_execs_cons (thn (h1 js s Y H D I h) λf s1 q=>?_);cases f with
 |next=>exact wpAny_execs_nil q
 |ret v|brk|cont=>exact q
def Inv.quiet{js:Lo}{Y:St}{H:Hp}{s:Shared}(I:Inv X js Y H s):interactive X.env=false:=by simp[interactive,I.ok.kind]
def HM(te:TE):TS:=λD Y H=>te Y H λ_ H1=>D.nx Y H1
def l7(he:PE X e te)(hs:swapsWith e none pos.line X.env=pure false:=by rfl):PS X (.Expr e pos) (HM te):=by intro js s Y H D I h;exact wpAny_Expr_any (thn (he js s Y H _ I h) λv s1 ⟨x,H1,I1,r1,q1⟩=>⟨Y,H1,I1,q1⟩) I.quiet hs
def Kl(te:TE):TS:=λD Y H=>te Y H D.rt
def tN(he:PE X e te):PS X (.Return (some e) pos) (Kl te):=by intro js s Y H D I h;exact wpAny_Return_some (thn (he js s Y H _ I h) λv s1 ⟨x,H1,I1,r1,q1⟩=>⟨x,Y,H1,I1,r1,q1⟩)
def Kr(c:TT)(t u:TS):TS:=λD Y H=>c Y H λb H1=>if b=true then t D Y H1 else u D Y H1
def Ic{c:Expr}{a b:List Stmt}{tc:TT}(hc:PT X c tc)(ha:PSs X a t)(hb:PSs X b u):PS X (.If c a b pos) (Kr tc t u):=by
 intro js s Y H D I h;refine wpAny_If (thn (hc js s Y H _ I h) λd s1 ⟨H1,I1,q1⟩=>?_);cases d with
 |true=>exact ha js s1 Y H1 D I1 q1
 |false=>exact hb js s1 Y H1 D I1 q1
end
abbrev TG:=V->St->Hp->(St->LA)->Prop
abbrev TGs:=Lz->St->Hp->(St->LA)->Prop
def PG(X:Cx)(target:Expr)(t:TG):Prop:=
 ∀(js:Lo) (s:Shared) (Y:St) (H:Hp) (v:V) (u:Value) (Q:St->LA),Inv X js Y H s->bT v u->t v Y H Q ->
  wpAny (model X.prog X.w) X.A (assign target X.env u) (λ_ s'=>∃σ' H',Inv X js σ' H' s'/\Q σ' H') X.xe s
def PGs(X:Cx)(ts:List Expr)(t:TGs):Prop:=
 ∀(js:Lo) (s:Shared) (Y:St) (H:Hp) (vs:Lz) (us:Lr) (Q:St->LA),Inv X js Y H s->aY vs us->t vs Y H Q ->
  wpAny (model X.prog X.w) X.A (assignInOrder ((assignEach ts X.env).map (·.2)) us) (λ_ s'=>∃σ' H',Inv X js σ' H' s'/\Q σ' H') X.xe s
abbrev G3:=V->V->V->Hp->(LA)->Prop
def JL(X:Cx)(t:G3):Prop:=
 ∀(js:Lo) (s:Shared) (Y:St) (H:Hp) (o i v:V) (ov iv u:Value) (Q:LA),Inv X js Y H s->bT o ov->bT i iv->bT v u->t o i v H Q ->
  wpAny (model X.prog X.w) X.A (setItem ov iv u) (λ_ s'=>∃H',Inv X js Y H' s'/\Q H') X.xe s
section
variable{X:Cx}{pos:Pos}
def De(i:Nat):TG:=λv Y H Q=>Q (Y.set i (some v)) H
def uW{i:Nat}{x:Str}(hN:X.N.Nodup)(hi:X.N[i]?=some x)(hx:Loc X.env.scope x)(hf:Lce X.fn X.env x:=by first|exact .inl rfl|exact .inr rfl|assumption):PG X (.Name x pos) (De i):=by intro js s Y H v u Q I r h;exact wpAny_assign_Name (qK I hN hi hx r (λs' I'=>⟨_,H,I',h⟩) hf)
def KP:TGs:=λvs Y H Q=>vs=[]/\Q Y H
def Jh(t:TG)(u:TGs):TGs:=λvs Y H Q=>∃v r,vs=v::r/\t v Y H λσ' H'=>u r σ' H' Q
def BL:PGs X [] KP:=by intro js s Y H vs us Q I r h;obtain⟨e,h⟩:=h;subst e;cases r;exact assignInOrder_nil ⟨Y,H,I,h⟩
def yf{e:Expr}{es:List Expr}{t:TG}{u:TGs}(h1:PG X e t)(h2:PGs X es u)
  (hs:(assignEach (e::es) X.env).map (·.2)=assign e X.env::(assignEach es X.env).map (·.2):=by rfl):PGs X (e::es) (Jh t u):=by
 intro js s Y H vs us Q I r h;obtain⟨v,vr,e1,h⟩:=h;subst e1;cases r with
 |cons r rr=>rw[hs];refine assignInOrder_cons (thn (h1 js s Y H _ _ _ I r h) λ_ s1 ⟨σ1,H1,I1,q1⟩=>?_);exact h2 js s1 σ1 H1 _ _ Q I1 rr q1
def KN(K:PySem.W.Frag)(n:Nat)(t:TGs):TG:=λv Y H Q=>∃a xs,v=.ref a/\SqT K H a xs/\xs.length=n/\t xs Y H Q
theorem EN{es:List Expr}{k:Nat}{t:TGs}{n:Nat}(hc:X.calm=true)(h:PGs X es t)
  (hn:(assignEach es X.env).length=n:=by rfl) (hst:(assignEach es X.env).findIdx? (·.1)=none:=by rfl):PG X (.Tuple es k pos) (KN X.K n t):=by
 intro js s Y H v u Q I r hw;obtain⟨a,xs,e1,hq,hl,hw⟩:=hw;subst e1;cases r;obtain⟨its,rv,ht,hz⟩:=I.tuple hq;refine assign_Tuple_tuple (I.ok.hd hc) ht (by simp[hn,<- hl,rv.length]) hst λh' hx=>?_;have I1:Inv X js Y H {s with heap:=h'}:=I.kept (t':=s.toks) λb o e=>hx b o (Nat.ne_of_lt (lt_size e)) e;exact h js _ Y H xs _ Q I1 () hw
def KO(to ti:TE)(t:G3):TG:=λv Y H Q=>to Y H λo H1=>ti Y H1 λi H2=>t o i v H2 λH3=>Q Y H3
def EO{o i:Expr}{to ti:TE}{t:G3}(ho:PE X o to)(hi:PE X i ti)(hs:JL X t)
  (ha:∀ v,assign (.Subscript o i pos) X.env v=(do
   let ov <- holding [v] (eval o X.env)
   let iv <- holding [v,ov] (eval i X.env)
   standAt pos
   holding [v,ov,iv] (setItem ov iv v)
   release [v,ov,iv] []):=by intro _;rfl):PG X (.Subscript o i pos) (KO to ti t):=by
 intro js s Y H v u Q I r h;rw[ha];refine wpAny_bind (wpAny_holding (thn (ho js s Y H _ I h) λov s1 zz=>?_));obtain⟨x,H1,I1,r1,q1⟩:=zz;refine wpAny_bind (wpAny_holding (thn (hi js s1 Y H1 _ I1 q1) λiv s2 zz=>?_));obtain⟨y,H2,I2,r2,q2⟩:=zz;refine wpAny_bind (wpAny_standAt (wpAny_bind (wpAny_holding (thn (hs js s2 Y H2 x y v ov iv u _ I2 r1 r2 r q2) λ_ s3 ⟨H3,I3,q3⟩=>?_))));exact wpAny_release ⟨Y,H3,I3,q3⟩
def HP(te:TE)(g:TG):TS:=λD Y H=>te Y H λx H1=>g x Y H1 D.nx
def EK{tg e:Expr}{te:TE}{g:TG}(he:PE X e te)(hg:PG X tg g)(hs:swapsWithSole [tg] e pos.line X.env=pure false:=by rfl)(hw:swappedStores [tg] e X.env=pure none:=by rfl)
  (h1:(assignEach [tg] X.env).map (·.2)=[assign tg X.env]:=by rfl):PS X (.Assign [tg] e pos) (HP te g):=by
 intro js s Y H D I h;refine wpAny_Assign_stores (thn (he js s Y H _ I h) λv s1 zz=>?_) hs hw;obtain⟨x,H1,I1,r1,q1⟩:=zz;rw[h1];exact thn (hg js s1 Y H1 x v _ I1 r1 q1) λ_ s2 q=>q
def x9{i:Nat}{x:Str}{e:Expr}{te:TE}{pos':Pos}(hN:X.N.Nodup)(hi:X.N[i]?=some x)(hx:Loc X.env.scope x)(he:PE X e te)(hs:swapsWith e (some (.Name x pos')) pos.line X.env=pure false:=by rfl)(hf:Lce X.fn X.env x:=by first|exact .inl rfl|exact .inr rfl|assumption) :
  PS X (.Assign [.Name x pos'] e pos) (HP te (De i)):=by
 intro js s Y H D I h;refine wpAny_Assign_Name (thn (he js s Y H _ I h) λv s1 zz=>?_) hs;obtain⟨y,H1,I1,r1,q1⟩:=zz;exact qK I1 hN hi hx r1 (λs2 I2=>⟨_,H1,I2,q1⟩) hf
def Eb(c:TT)(tb:TS):TS:=λD Y H=>∃W:Nat->St->LA,(∃m,W m Y H)/\∀m Y H,W m Y H ->
 c Y H λb H1=>if b=true then ∃N:St->LA,(∀σ' H',N σ' H'->∃m',m'<m/\W m' σ' H')/\tb {D with nx:=N,ct:=N,bk:=D.nx} Y H1 else D.nx Y H1
def xZ{c:Expr}{body:List Stmt}{tc:TT}{tb:TS}(hp:PassesOwn (model X.prog X.w) X.A X.env X.xe)(hc:PT X c tc)(hb:PSs X body tb):PS X (.While c body [] pos) (Eb tc tb):=by
 intro js s Y H D I h;obtain⟨W,⟨m0,w0⟩,turn⟩:=h;refine wpAny_While (codeAny_whileLoop (λn s'=>∃σ' H',Inv X js σ' H' s'/\W n σ' H') ?_ m0 ⟨Y,H,I,w0⟩);rintro n s1 ⟨σ1,H1,I1,w1⟩;refine wpAny_passesOwn hp (thn (hc js s1 σ1 H1 _ I1 (turn n σ1 H1 w1)) λb s2 ⟨H2,I2,q2⟩=>?_);cases b with
 |true=>
  obtain⟨N,hN,q2⟩:=q2;refine wpAny_passesOwn hp (thn (hb js s2 σ1 H2 _ I2 q2) λf s3 q3=>?_);cases f with
  |next=>obtain⟨σ3,H3,I3,n3⟩:=q3;obtain⟨m',hm,w3⟩:=hN σ3 H3 n3;exact⟨m',hm,σ3,H3,I3,w3⟩
  |cont=>obtain⟨σ3,H3,I3,n3⟩:=q3;obtain⟨m',hm,w3⟩:=hN σ3 H3 n3;exact⟨m',hm,σ3,H3,I3,w3⟩
  |brk|ret v=>exact q3
 |false=>exact wpAny_execs_nil ⟨σ1,H2,I2,q2⟩
end
structure It where
 go:Nat->LA
 yld:Nat->Hp->V->LA
 stop:Nat->LA
def n5(X:Cx)(js:Lo)(H:Hp)(b:Addr):Prop:=
 H b=none/\b≠X.env.locals/\b∉X.fs/\(b∈X.ex\/X.s₀.heap.objs.size<=b)/\(∀x c,X.env.cells.lookup x=some c->c≠b)/\∀p∈X.pn++js,p.1≠b
theorem Inv.fpOk{X:Cx}{js:Lo}{Y:St}{H H':Hp}{s:Shared}{b:Addr}(I:Inv X js Y H s)(hb:s.heap.objs.size<=b)(hn:H' b=none):n5 X js H' b:=by
 refine⟨hn,Nat.ne_of_gt (Nat.lt_of_lt_of_le I.lt hb),I.nofs hb,.inr (Nat.le_trans I.sz hb),λx c e z=>?_,λp hp z=>?_⟩
 .obtain⟨v,q⟩:=I.cell x c e;exact absurd (Nat.lt_of_lt_of_le q.lt ()) (Nat.lt_irrefl _)
 .exact absurd (Nat.lt_of_lt_of_le (lt_size (I.pin p hp).1) ()) (Nat.lt_irrefl _)
structure uw(P:Program)(w:World)(K:PySem.W.Frag)(tg:Expr)(J:It)(fp:Lu)(it:Addr)(tn:Nat->Heap->Prop):Prop where
 mem:it∈fp
 obj:∀i h,tn i h->∀b∈fp,∃o,h.get? b=some o/\∀v,o.data≠.cell v
 keep:∀i h h',tn i h->(∀b∈fp,∀o,h.get? b=some o->h'.get? b=some o)->tn i h'
 item:∀(X:Cx),X.prog=P->X.w=w->X.K=K->X.calm=true->∀(i:Nat) (js:Lo) (s:Shared) (Y:St) (H:Hp) (E:Lj),Inv X js Y H s->(∀b∈fp,n5 X js H b)->tn i s.heap->J.go i H ->
  wpAny (model P w) X.A (pyNext (.ref it)) (λr s1=>∃ u,r=some u /\
   wpAny (model P w) X.A (letOwnedTupleGo tg (.ref it) u) (λ_ s2=>∃x H',Inv X js Y H' s2/\bT x u/\J.yld i H x H'/\tn (i+1) s2.heap/\∀b∈fp,H' b=none) E s1) E s
 done:∀(X:Cx),X.prog=P->X.w=w->X.K=K->X.calm=true->∀(i:Nat) (js:Lo) (s:Shared) (Y:St) (H:Hp) (E:Lj),Inv X js Y H s->(∀b∈fp,n5 X js H b)->tn i s.heap->J.stop i H ->
  wpAny (model P w) X.A (pyNext (.ref it)) (λr s1=>r=none/\Inv X js Y H s1) E s
 self:∀(A:Around) (i:Nat) (s:Shared) (Q:Lj) (E:Lj),tn i s.heap->Q (.ref it) s->wpAny (model P w) A (pyIter (.ref it)) Q E s
abbrev TI:=St->Hp->(It->LA)->Prop
def PIE(X:Cx)(js:Lo)(Y:St)(tg:Expr)(R:It->LA)(itv:Value)(s2:Shared):Prop:=
 ∃(it:Addr) (fp:Lu) (tn:Nat->Heap->Prop) (J:It) (H':Hp),itv=.ref it/\Inv X js Y H' s2/\uw X.prog X.w X.K tg J fp it tn/\tn 0 s2.heap/\(∀b∈fp,n5 X js H' b)/\R J H'
def PI(X:Cx)(tg iter:Expr)(wi:TI):Prop:=
 ∀(js:Lo) (s:Shared) (Y:St) (H:Hp) (R:It->LA),Inv X js Y H s->wi Y H R ->
  wpAny (model X.prog X.w) X.A (eval iter X.env) (λv s1=>wpAny (model X.prog X.w) X.A (pyIter v) (PIE X js Y tg R) X.xe s1) X.xe s
def vg{M:Model}{A:Around}{E:Lj}{s:Shared}{tg:Expr}{it:Addr}{u:Value}{o:Obj}{n:String}{vs:Ly}{Q:Unit->Shared->Prop}(ho:s.heap.get? it=some o)(hc:o.cls=.type n)(hd:o.data=.fields vs)
    (hn:["enumerate","zip","dict_itemiterator","dict_reverseitemiterator","odict_iterator","itertools.zip_longest","itertools.pairwise"].contains n=false) (hQ:Q .unit s):wpAny M A (letOwnedTupleGo tg (.ref it) u) Q E s:=by
  unfold letOwnedTupleGo;cases tg<;>first
    |exact wpAny_pure hQ
    | (cases u <;> first
        |exact wpAny_pure hQ
        | (refine wpAny_bind (wpAny_load ho ?_)
           rw[hc,hd];show wpAny M A (if(["enumerate","zip","dict_itemiterator","dict_reverseitemiterator","odict_iterator","itertools.zip_longest","itertools.pairwise"].contains n&&vs[0]?==some (rawInt _))=true then _ else _) Q E s;rw[if_neg (by intro h;rw[hn,Bool.false_and]at h;cases h)];exact wpAny_pure hQ))
def Itl(K:PySem.W.Frag)(a:Addr):It:=
 ⟨λi H=>∃xs x,SqL K H a xs/\xs[i]?=some x,λi H x H'=>H'=H/\∀xs,SqL K H a xs->xs[i]?=some x,λi H=>∃xs,SqL K H a xs/\xs.length<=i⟩
def Itt(K:PySem.W.Frag)(a:Addr):It:=
 ⟨λi H=>∃xs x,SqT K H a xs/\xs[i]?=some x,λi H x H'=>H'=H/\∀xs,SqT K H a xs->xs[i]?=some x,λi H=>∃xs,SqT K H a xs/\xs.length<=i⟩
def Itr(lo:Int)(n:Nat):It:=⟨λi _=>i<n,λi H x H'=>H'=H/\x=.int (lo+i),λi _=>n<=i⟩
theorem vO{P:Program}{w:World}{K:PySem.W.Frag}{tg:Expr}(a it:Addr):uw P w K tg (Itl K a) [it] it (λi h=>h.IsListIter it a i) where
 mem:=by simp
 obj:=λi h st b hb=>by
  have e:b=it:=by simpa using hb
  subst e;obtain⟨o,e,c,d⟩:=st;exact⟨o,e,λv z=>by lia⟩
 keep:=λi h h' st k=>st.at λo e=>k it () o e
 item:=by intro X hP hw hK hc i js s Y H E I hf st hg;subst hP hw hK;obtain⟨xs,x,hq,hx⟩:=hg;obtain⟨its,rv,p,hz⟩:=I.list hq;obtain⟨u,hu,ru⟩:=rv.get hx;obtain⟨f0,f1,f2,f3,f4,f5⟩:=hf it ();refine wpAny_pyNext_list_item st p.isList (by simpa using hu) λh' st' sb=>?_;have I1:Inv X js Y H {s with heap:=h'}:=I.turned (t':=s.toks) (λb o hb e=>(sb.2 b hb).trans e) f0 f1 f3 f4 f5;obtain⟨o,e,c,d⟩:=id st';exact⟨u,rfl,vg e c d () ⟨x,H,I1,ru,⟨rfl,λys hy=>by rw[I.list_inj hy hq];exact hx⟩,st',λb hb=>(hf b hb).1⟩⟩
 done:=by intro X hP hw hK hc i js s Y H E I hf st hg;subst hP hw hK;obtain⟨xs,hq,hx⟩:=hg;obtain⟨its,rv,p,hz⟩:=I.list hq;obtain⟨f0,f1,f2,f3,f4,f5⟩:=hf it ();have hl:=rv.length;exact wpAny_pyNext_list_end (I.ok.hd hc) st p.isList (by simp;lia) λh' eb=>⟨rfl,I.turned (t':=s.toks) (λb o hb e=>eb b o hb e) f0 f1 f3 f4 f5⟩
 self:=λ_ _ _ _ _ st h=>wpAny_pyIter_listiter st h
def sP{P:Program}{w:World}{K:PySem.W.Frag}{tg:Expr}(a it:Addr):uw P w K tg (Itt K a) [it] it (λi h=>h.IsTupleIter it a i) where
 mem:=by simp
 obj:=λi h st b hb=>by
  have e:b=it:=by simpa using hb
  subst e;obtain⟨o,e,c,d⟩:=st;exact⟨o,e,λv z=>by lia⟩
 keep:=λi h h' st k=>st.at λo e=>k it () o e
 item:=by intro X hP hw hK hc i js s Y H E I hf st hg;subst hP hw hK;obtain⟨xs,x,hq,hx⟩:=hg;obtain⟨its,rv,p,hz⟩:=I.tuple hq;obtain⟨u,hu,ru⟩:=rv.get hx;obtain⟨f0,f1,f2,f3,f4,f5⟩:=hf it ();refine wpAny_pyNext_tuple_item st (show s.heap.IsTuple a its.toArray from p) (by simpa using hu) λh' st' sb=>?_;have I1:Inv X js Y H {s with heap:=h'}:=I.turned (t':=s.toks) (λb o hb e=>(sb.2 b hb).trans e) f0 f1 f3 f4 f5;obtain⟨o,e,c,d⟩:=id st';exact⟨u,rfl,vg e c d () ⟨x,H,I1,ru,⟨rfl,λys hy=>by rw[I.tuple_inj hy hq];exact hx⟩,st',λb hb=>(hf b hb).1⟩⟩
 done:=by intro X hP hw hK hc i js s Y H E I hf st hg;subst hP hw hK;obtain⟨xs,hq,hx⟩:=hg;obtain⟨its,rv,p,hz⟩:=I.tuple hq;obtain⟨f0,f1,f2,f3,f4,f5⟩:=hf it ();have hl:=rv.length;exact wpAny_pyNext_tuple_end (I.ok.hd hc) st (show s.heap.IsTuple a its.toArray from p) (by simp;lia) λh' eb=>⟨rfl,I.turned (t':=s.toks) (λb o hb e=>eb b o hb e) f0 f1 f3 f4 f5⟩
 self:=λ_ _ _ _ _ st h=>wpAny_pyIter_tupleiter st h
theorem sQ{P:Program}{w:World}{K:PySem.W.Frag}{tg:Expr}(it:Addr)(lo:Int)(n:Nat):uw P w K tg (Itr lo n) [it] it (λi h=>IsRangeIter h it (lo+(i:Nat)*1) ((n:Int)-(i:Nat)) 1) where
 mem:=by simp
 obj:=λi h st b hb=>by
  have e:b=it:=by simpa using hb
  subst e;exact ⟨_,st,λv z=>by
   have z':Data.fields _=Data.cell v:=z;cases z'⟩
 keep:=λi h h' st k=>k it () _ st
 item:=by intro X hP hw hK hc i js s Y H E I hf st hg;subst hP hw hK;obtain⟨f0,f1,f2,f3,f4,f5⟩:=hf it ();have W:=Walks.range (prog:=X.prog) (w:=X.w) (I.ok.hd hc) it lo 1 n;refine W.item i s _ _ hg st λv h' tk hv st' kk=>?_;obtain⟨t,rfl⟩:=hv;have I1:Inv X js Y H {s with heap:=h',toks:=tk}:=I.turned (λb o hb e=>kk b o (by simpa using hb) e) f0 f1 f3 f4 f5;refine⟨_,rfl,vg (s:={s with heap:=h',toks:=tk}) (n:="range_iterator") st' rfl rfl () ⟨.int (lo+i),H,I1,⟨t,?_⟩,⟨rfl,rfl⟩,st',λb hb=>(hf b hb).1⟩⟩;rw[Int.mul_one]
 done:=by intro X hP hw hK hc i js s Y H E I hf st hg;subst hP hw hK;obtain⟨f0,f1,f2,f3,f4,f5⟩:=hf it ();exact wpAny_pyNext_range_end (I.ok.hd hc) st (by have:n<=i:=hg;lia) λh' eb=>⟨rfl,I.turned (t':=s.toks) (λb o hb e=>eb b o hb e) f0 f1 f3 f4 f5⟩
 self:=λ_ _ _ _ _ st h=>wpAny_pyIter_rangeiter st h
end
section
section
variable{X:Cx}{tg:Expr}
theorem qZ{js:Lo}{Y:St}{H:Hp}{s:Shared}{R:It->LA}{E:Lj}{lo hi:Int}{t u v:Tok}{tk:Nat}(I:Inv X js Y H s)(h1:-(2 ^ 62)<= lo)(h2:lo<2 ^ 62)(h3:-(2 ^ 62)<= hi)(h4:hi<2 ^ 62)
  (q:R (Itr lo (hi-lo).toNat) H):wpAny (model X.prog X.w) X.A (pyIter (.ref s.heap.objs.size)) (PIE X js Y tg R) E {s with heap:=s.heap.push {cls:=.type "range",data:=.fields #[.int lo t,.int hi u,.int 1 v]},toks:=tk}:=by
 refine wpAny_pyIter_range (IsRange.new ..) (small_one h1 h2 h3 h4) ?_;have I1:Inv X js Y H {s with heap:=s.heap.push {cls:=.type "range",data:=.fields #[.int lo t,.int hi u,.int 1 v]},toks:=tk}:=I.kept λb o e=>get?_push_of_some _ e;refine ⟨(s.heap.push { cls:=.type "range", data:=.fields #[.int lo t,.int hi u,.int 1 v] }).objs.size,[(s.heap.push { cls:=.type "range", data:=.fields #[.int lo t,.int hi u,.int 1 v] }).objs.size],_,_,H,rfl,
  I1.kept (t':=tk) λb o e=>get?_push_of_some _ e,sQ _ lo (hi-lo).toNat,?_,λb hb=>?_,q⟩
 .have e1:lo+((0:Nat):Int)*1=lo:=by simp
  have e2:(((hi-lo).toNat:Nat):Int)-((0:Nat):Int)=Builtin.Range.rangeSize lo hi 1:=by rw[rangeSize_one];split<;>lia
  show IsRangeIter _ _ (lo+((0:Nat):Int)*1) ((((hi-lo).toNat:Nat):Int)-((0:Nat):Int)) 1;rw[e1,e2];exact get?_push_size _ rfl
 .have e:b=(s.heap.push {cls:=.type "range",data:=.fields #[.int lo t,.int hi u,.int 1 v]}).objs.size:=by simpa using hb
  subst e;exact I1.fpOk (Nat.le_refl _) (I1.hok.fresh (Nat.le_refl _))
def Je(ta:TA):TI:=λY H R=>ta Y H λvs H1=>∃j:Int,vs=[.int j]/\-(2 ^ 62)<= j/\j<2 ^ 62/\R (Itr 0 j.toNat) H1
def Jd(ta:TA):TI:=λY H R=>ta Y H λvs H1=>∃i j:Int,vs=[.int i,.int j]/\(-(2 ^ 62)<= i/\i<2 ^ 62/\-(2 ^ 62)<= j/\j<2 ^ 62)/\R (Itr i (j-i).toNat) H1
def oO{a:Expr}{ta:TA}{p pos:Pos}(hg:Gl X "range")(hm:X.mg "range"=none)(ha:PA X [a] ta)(hs:starEach [a] X.env=[(false,eval a X.env)]:=by rfl):PI X tg (.Call (.Name "range" p) [a] [] pos) (Je ta):=by
 intro js s Y H R I h;refine Call_ (gA I hg hm boot_range (PyProof.Rows.callWith_type1 (thn (ha pos js s Y H _ I h) λus s1 zz=>?_) hs rfl));obtain⟨vs,H1,I1,r1,q1⟩:=zz;obtain⟨j,e,q1,q2,q⟩:=q1;subst e;cases r1 with
 |cons r rr=>cases rr;obtain⟨t,rfl⟩:=r;exact call_range_1 (qZ I1 () () q1 q2 (by simpa using q))
def wn{a b:Expr}{ta:TA}{p pos:Pos}(hg:Gl X "range")(hm:X.mg "range"=none)(ha:PA X [a,b] ta)(hs:starEach [a,b] X.env=[(false,eval a X.env),(false,eval b X.env)]:=by rfl)(hs2:starEach [b] X.env=[(false,eval b X.env)]:=by rfl) :
  PI X tg (.Call (.Name "range" p) [a,b] [] pos) (Jd ta):=by
 intro js s Y H R I h;refine Call_ (gA I hg hm boot_range (PyProof.Rows.callWith_type1 (thn (ha pos js s Y H _ I h) λus s1 zz=>?_) (by rw[hs,hs2]) (by rw[hs2];rfl)));obtain⟨vs,H1,I1,r1,q1⟩:=zz;obtain⟨i,j,e,⟨q1,q2,q3,q4⟩,q⟩:=q1;subst e;cases r1 with
 |cons r rr=>
  cases rr with
  |cons r' rr=>cases rr;obtain⟨t,rfl⟩:=r;obtain⟨t',rfl⟩:=r';exact call_range_2 (qZ I1 q1 q2 q3 q4 q)
def Ks(wi:TI)(g:TG)(tb:TS):TS:=λD Y H=>wi Y H λJ H1=>∃W:Nat->Nat->St->LA,(∃m,W 0 m Y H1)/\∀i m Y H,W i m Y H ->
 (J.stop i H/\D.nx Y H)\/(J.go i H/\∃N:St->LA,(∀σ' H',N σ' H'->∃m',m'<m/\W (i+1) m' σ' H')/\∀x H',J.yld i H x H'->g x Y H' λσ2 H2=>tb {D with nx:=N,ct:=N,bk:=D.nx} σ2 H2)
def mV(fp:Lu)(h:Heap):Lo:=fp.filterMap λb=>(h.get? b).map λo=>(b,o)
def iJ{fp:Lu}{h:Heap}{b:Addr}{o:Obj}(hb:b∈fp)(e:h.get? b=some o):(b,o)∈ mV fp h:=List.mem_filterMap.mpr ⟨b,hb,by rw[e];rfl⟩
def wy{fp:Lu}{h:Heap}{p:Addr×Obj}(hp:p∈mV fp h):p.1∈fp/\h.get? p.1=some p.2:=by
 obtain⟨b,hb,e⟩:=List.mem_filterMap.mp hp;cases q:h.get? b with
 |none=>rw[q]at e;cases e
 |some o=>rw[q]at e;have e':(b,o)=p:=Option.some.inj e;subst e';exact⟨hb,q⟩
def Inv.pinned{js:Lo}{Y:St}{H:Hp}{s:Shared}{fp:Lu}(I:Inv X js Y H s)(hf:∀b∈fp,n5 X js H b)(ho:∀b∈fp,∃o,s.heap.get? b=some o/\∀v,o.data≠.cell v):Inv X (js++mV fp s.heap) Y H s:=
 I.pins_of λp hp=>(mem_append.mp hp).elim (λz=>I.pin p (mem_append_right _ z)) λz=>by obtain⟨hb,e⟩:=wy z;obtain⟨f0,f1,f2,_⟩:=hf p.1 hb;obtain⟨o,e',d⟩:=ho p.1 hb;rw[e]at e';cases e';exact⟨e,f0,f1,f2,d⟩
def Inv.unpinned{js pl:Lo}{Y:St}{H:Hp}{s:Shared}(I:Inv X (js++pl) Y H s):Inv X js Y H s:=I.pins_of λp hp=>I.pin p (mem_append_right _ (mem_append_left _ hp))
def EI{iter:Expr}{body:List Stmt}{wi:TI}{g:TG}{tb:TS}{pos:Pos}(hp:PassesOwn (model X.prog X.w) X.A X.env X.xe)(hc:X.calm=true)(hi:PI X tg iter wi)(hg:PG X tg g)(hb:PSs X body tb)
  (hs:∀x,foldedSetIterable iter X.env x=pure x:=by intro _;rfl):PS X (.For tg iter body [] pos) (Ks wi g tb):=by
 intro js s Y H D I h;refine wpAny_For (thn (hi js s Y H _ I h) λv s1 h1=>thn h1 λitv s2 h2=>?_) hs;obtain⟨it,fp,tn,J,H2,e,I2,T,st2,f2,W,⟨m0,w0⟩,turn⟩:=h2;subst e;have stat:∀{H':Hp},(∀b∈fp,H' b=none)->∀b∈fp,n5 X js H' b:=λhn b hb=>⟨hn b hb,(f2 b hb).2⟩
 refine codeAny_forLoop_any (λn s'=>∃i σ' H',Inv X js σ' H' s'/\tn i s'.heap/\(∀b∈fp,H' b=none)/\W i n σ' H') ?_ m0 ⟨0,Y,H2,I2,st2,λb hb=>(f2 b hb).1,w0⟩;rintro n s3 ⟨i,σ3,H3,I3,st3,fr3,w3⟩;rcases turn i n σ3 H3 w3 with⟨stop,qn⟩ |⟨go,N,hN,step⟩
 .refine wpAny_passesOwn hp (thn (T.done X rfl rfl rfl hc i js s3 σ3 H3 X.xe I3 (stat fr3) st3 stop) λr s4 ⟨hr,I4⟩=>?_);subst hr;exact wpAny_execs_nil ⟨σ3,H3,I4,qn⟩
 .refine wpAny_passesOwn hp (thn (T.item X rfl rfl rfl hc i js s3 σ3 H3 X.xe I3 (stat fr3) st3 go) λr s4 ⟨u,hr,h4⟩=>?_);subst hr;refine wpAny_passesOwn hp (thn h4 λ_ s5 zz=>?_);obtain⟨x,H5,I5,r5,y5,st5,fr5⟩:=zz;have I5':=I5.pinned (stat fr5) (T.obj _ _ st5);refine wpAny_passesOwn hp (thn (hg _ s5 σ3 H5 x u _ I5' r5 (step x H5 y5)) λ_ s6 ⟨σ6,H6,I6,q6⟩=>?_);refine wpAny_passesOwn hp (thn (hb _ s6 σ6 H6 _ I6 q6) λf s7 q7=>?_);have again:∀{σ7:St}{H7:Hp},Inv X (js++mV fp s5.heap) σ7 H7 s7->N σ7 H7->∃m,m<n/\∃i σ' H',Inv X js σ' H' s7/\tn i s7.heap/\(∀b∈fp,H' b=none)/\W i m σ' H':=λ{σ7 H7} I7 n7=>by obtain⟨m',hm,w7⟩:=hN σ7 H7 n7;refine⟨m',hm,i+1,σ7,H7,I7.unpinned,T.keep _ _ _ st5 λb hb o e=>(I7.pin (b,o) (mem_append_right _ (mem_append_right _ (iJ hb e)))).1,λb hb=>?_,w7⟩;obtain⟨o,e,d⟩:=T.obj _ _ st5 b hb;exact(I7.pin (b,o) (mem_append_right _ (mem_append_right _ (iJ hb e)))).2.1
  cases f with
  |next|cont=>obtain⟨σ7,H7,I7,n7⟩:=q7;exact again I7 n7
  |brk=>obtain⟨σ7,H7,I7,q7⟩:=q7;exact⟨σ7,H7,I7.unpinned,q7⟩
  |ret v=>obtain⟨x7,σ7,H7,I7,r7,q7⟩:=q7;exact⟨x7,σ7,H7,I7.unpinned,r7,q7⟩
end
end
section
abbrev R2:=V->V->Hp->VK->Prop
def OpR(X:Cx)(f:Value->Value->Sem Value)(r:R2):Prop:=
 ∀(js:Lo) (s:Shared) (Y:St) (H:Hp) (x y:V) (v u:Value) (Q:VK),Inv X js Y H s->bT x v->bT y u->r x y H Q ->
  wpAny (model X.prog X.w) X.A (f v u) (EP X js Y Q) X.xe s
def UnR(X:Cx)(f:Value->Sem Value)(r:V->Hp->VK->Prop):Prop:=
 ∀(js:Lo) (s:Shared) (Y:St) (H:Hp) (x:V) (v:Value) (Q:VK),Inv X js Y H s->bT x v->r x H Q ->
  wpAny (model X.prog X.w) X.A (f v) (EP X js Y Q) X.xe s
def e_(X:Cx)(f:Value)(r:Lz->Hp->VK->Prop):Prop:=
 ∀(js:Lo) (s:Shared) (Y:St) (H:Hp) (xs:Lz) (us:Lr) (Q:VK),Inv X js Y H s->aY xs us->r xs H Q ->
  wpAny (model X.prog X.w) X.A (call f us) (EP X js Y Q) X.xe s
def K4(X:Cx)(r:V->Hp->(Bool->LA)->Prop):Prop:=
 ∀(js:Lo) (s:Shared) (Y:St) (H:Hp) (x:V) (v:Value) (Q:Bool->LA),Inv X js Y H s->bT x v->r x H Q ->
  wpAny (model X.prog X.w) X.A (truthy v) (TP X js Y Q) X.xe s
def tOp(r:R2)(ta tb:TE):TE:=λY H Q=>ta Y H λx H1=>tb Y H1 λy H2=>r x y H2 Q
def tUn(r:V->Hp->VK->Prop)(ta:TE):TE:=λY H Q=>ta Y H λx H1=>r x H1 Q
def rI(C:Int->Int->Prop)(g:Int->Int->V):R2:=λx y H Q=>∃i j,x=.int i/\y=.int j/\C i j/\Q (g i j) H
def rI0(g:Int->Int->V):R2:=λx y H Q=>∃i j,x=.int i/\y=.int j/\Q (g i j) H
def rU(g:Int->V):V->Hp->VK->Prop:=λx H Q=>∃i,x=.int i/\Q (g i) H
section
variable{X:Cx}{a b c:Expr}{ta tb tc:TE}{pos:Pos}
def GO(ha:PE X a ta)(hb:PE X b tb){js:Lo}{s:Shared}{Y:St}{H:Hp}{R:V->V->LA}(I:Inv X js Y H s)
  (h:ta Y H λx H1=>tb Y H1 λy H2=>R x y H2) {Q:Lj}{f:Value->Value->Sem Value}
  (hf:∀v u s2 x y H2,Inv X js Y H2 s2->bT x v->bT y u->R x y H2->wpAny (model X.prog X.w) X.A (f v u) Q X.xe s2) :
  wpAny (model X.prog X.w) X.A (eval a X.env) (λv s₁=>wpAny (model X.prog X.w) X.A (eval b X.env) (λu s₂=>wpAny (model X.prog X.w) X.A (f v u) Q X.xe s₂) X.xe s₁) X.xe s:=by
 refine thn (ha js s Y H _ I h) λv s1 hz1=>?_;obtain⟨x,H1,I1,r1,q1⟩:=hz1;refine thn (hb js s1 Y H1 _ I1 q1) λu s2 hz1=>?_;obtain⟨y,H2,I2,r2,q2⟩:=hz1;exact hf v u s2 x y H2 I2 r1 r2 q2
def Ih{op:Operator}{r:R2}(ho:OpR X (binaryOp op) r)(ha:PE X a ta)(hb:PE X b tb):PE X (.BinOp a op b pos) (tOp r ta tb):=by intro js s Y H Q I h;exact wpAny_BinOp (GO ha hb I h λv u s2 x y H2 I2 rx ry q=>ho js s2 Y H2 x y v u Q I2 rx ry q)
def Ie{op:UnaryOp}{r:V->Hp->VK->Prop}(ho:UnR X (unaryOp op) r)(ha:PE X a ta):PE X (.UnaryOp op a pos) (tUn r ta):=by intro js s Y H Q I h;exact UnaryOp_ (thn (ha js s Y H _ I h) λv s1 ⟨x,H1,I1,r1,q1⟩=>ho js s1 Y H1 x v Q I1 r1 q1)
def opI{f:Value->Value->Sem Value}{C:Int->Int->Prop}{g:Int->Int->Int}
  (rule:∀(i j:Int) (t u:Tok) (s:Shared) (Q:Lj) (E:Lj),C i j->Q (.int (g i j) s.toks) {s with toks:=s.toks+1}->wpAny (model X.prog X.w) X.A (f (.int i t) (.int j u)) Q E s) :
  OpR X f (rI C λi j=>.int (g i j)):=by
 intro js s Y H x y v u Q I rx ry h;obtain⟨i,j,rfl,rfl,hc,q⟩:=h;obtain⟨t,rfl⟩:=rx;obtain⟨t',rfl⟩:=ry;exact rule i j t t' s _ _ hc ⟨.int (g i j),H,I.tok _,⟨_,rfl⟩,q⟩
def E5{f:Value->Value->Sem Value}{g:Int->Int->Int}
  (rule:∀(i j:Int) (t u:Tok) (s:Shared) (Q:Lj) (E:Lj),Q (.int (g i j) s.toks) {s with toks:=s.toks+1}->wpAny (model X.prog X.w) X.A (f (.int i t) (.int j u)) Q E s) :
  OpR X f (rI0 λi j=>.int (g i j)):=by
 intro js s Y H x y v u Q I rx ry h;obtain⟨i,j,rfl,rfl,q⟩:=h;obtain⟨t,rfl⟩:=rx;obtain⟨t',rfl⟩:=ry;exact rule i j t t' s _ _ ⟨.int (g i j),H,I.tok _,⟨_,rfl⟩,q⟩
def BV{f:Value->Value->Sem Value}{g:Int->Int->Bool}
  (rule:∀(i j:Int) (t u:Tok) (s:Shared) (Q:Lj) (E:Lj),Q (.bool (g i j)) s->wpAny (model X.prog X.w) X.A (f (.int i t) (.int j u)) Q E s) :
  OpR X f (rI0 λi j=>.bl (g i j)):=by
 intro js s Y H x y v u Q I rx ry h;obtain⟨i,j,rfl,rfl,q⟩:=h;obtain⟨t,rfl⟩:=rx;obtain⟨t',rfl⟩:=ry;exact rule i j t t' s _ _ ⟨.bl (g i j),H,I,rfl,q⟩
def Lc(i j:Int):Prop:=0<j/\j<1073741824
def Lb(i j:Int):Prop:=0<=j/\j<=1000000/\i.natAbs<2 ^ 64
def Ha(i j:Int):Prop:=(-(2 ^ 64)<i/\i<2 ^ 64)\/(-(2 ^ 64)<j/\j<2 ^ 64)
def Ha.ok{i j:Int}(h:Ha i j):IntMulOk i j:=by
 rcases h with⟨h1,h2⟩ |⟨h1,h2⟩
 .exact .of_left (intBits_le_64 h1 h2)
 .exact .of_right (intBits_le_64 h1 h2)
theorem sN(k:Nat):(0:Int)<= 2 ^ k:=by lia
def E4:OpR X (binaryOp .Add) (rI0 λi j=>.int (i+j)):=E5 λ_ _ _ _ _ _ _ q=>add_int q
def EW:OpR X (binaryOp .Sub) (rI0 λi j=>.int (i-j)):=E5 λ_ _ _ _ _ _ _ q=>sub_int q
def EZ:OpR X (binaryOp .Mult) (rI Ha λi j=>.int (i*j)):=opI λ_ _ _ _ _ _ _ hc q=>mul_int q hc.ok
theorem BT:OpR X (binaryOp .FloorDiv) (rI Lc λi j=>.int (i / j)):=opI λi j _ _ _ _ _ hc q=>by have h1:(0:Int)<j:=hc.1;have h2:j<1073741824:=hc.2;exact floordiv_int () (by rw[Int.fdiv_eq_ediv_of_nonneg i ()];exact q) (.inl (PyProof.noPylong_small ()))
def E0:OpR X (binaryOp .Mod) (rI (λ_ j=>0<j) λi j=>.int (i%j)):=opI λi j _ _ _ _ _ hc q=>by exact mod_int' () (by rw[Int.fmod_eq_emod_of_nonneg i ()];exact q)
def EY:OpR X (binaryOp .Pow) (rI Lb λi j=>.int (i ^ j.toNat)):=opI λ_ _ _ _ _ _ _ hc q=>pow_int_small hc.1 hc.2.1 hc.2.2 q
def EX:OpR X (binaryOp .RShift) (rI (λ_ j=>0<=j) λi j=>.int (i / 2 ^ j.toNat)):=opI λi j _ _ _ _ _ hc q=>
 rshift_int hc (by rw[Int.fdiv_eq_ediv_of_nonneg i (sN _)];exact q)
def E2:OpR X (binaryOp .BitAnd) (rI0 λi j=>.int (Builtin.bitAnd i j)):=E5 λ_ _ _ _ _ _ _ q=>and_int q
def unI{f:Value->Sem Value}{g:Int->Int}
  (rule:∀(i:Int) (t:Tok) (s:Shared) (Q:Lj) (E:Lj),Q (.int (g i) s.toks) {s with toks:=s.toks+1}->wpAny (model X.prog X.w) X.A (f (.int i t)) Q E s) :
  UnR X f (rU λi=>.int (g i)):=by
 intro js s Y H x v Q I rx h;obtain⟨i,rfl,q⟩:=h;obtain⟨t,rfl⟩:=rx;exact rule i t s _ _ ⟨.int (g i),H,I.tok _,⟨_,rfl⟩,q⟩
def D8:UnR X (unaryOp .USub) (rU λi=>.int (-i)):=unI λ_ _ _ _ _ q=>neg_int q
def zw{js:Lo}{Y:St}{H:Hp}{s:Shared}{Q:VK}{k k':Bool}(I:Inv X js Y H s)(q:Q (.bl k) H)(e:k=k'):EP X js Y Q (.bool k') s:=by subst e;exact⟨.bl k,H,I,rfl,q⟩
def Io:OpR X (compareOp .Lt) (rI0 λi j=>.bl (decide (i<j))):=BV λ_ _ _ _ _ _ _ q=>lt_int q
def C4:OpR X (compareOp .LtE) (rI0 λi j=>.bl (decide (i<=j))):=BV λ_ _ _ _ _ _ _ q=>le_int q
def Ip:OpR X (compareOp .Gt) (rI0 λi j=>.bl (decide (j<i))):=BV λ_ _ _ _ _ _ _ q=>gt_int q
def Iq:OpR X (compareOp .GtE) (rI0 λi j=>.bl (decide (j<=i))):=BV λ_ _ _ _ _ _ _ q=>ge_int q
def yv:OpR X (compareOp .Is) (λx y H Q=>y=.non/\Q (.bl (decide (x=.non))) H):=by
 intro js s Y H x y v u Q I rx ry h;obtain⟨rfl,q⟩:=h;cases ry;refine is_none_gen (zw I q ?_);cases x<;>first
  |(cases rx;rfl)
  |(obtain⟨t,rfl⟩:=rx;rfl)
def uZ:OpR X (compareOp .IsNot) (λx y H Q=>y=.non/\Q (.bl (!decide (x=.non))) H):=by
 intro js s Y H x y v u Q I rx ry h;obtain⟨rfl,q⟩:=h;cases ry;refine isnot_none_gen (zw I q ?_);cases x<;>first
  |(cases rx;rfl)
  |(obtain⟨t,rfl⟩:=rx;rfl)
def OpR.or{f:Value->Value->Sem Value}{r r':R2}(h:OpR X f r)(h':OpR X f r'):OpR X f (λx y H Q=>r x y H Q\/r' x y H Q):=by
 intro js s Y H x y v u Q I rx ry q;rcases q with q|q
 .exact h js s Y H x y v u Q I rx ry q
 .exact h' js s Y H x y v u Q I rx ry q
theorem fY(b:Expr){op:CmpOp}(h:op≠.In:=by decide)(h2:op≠.NotIn:=by decide):behindInMarks op b=false:=by
 have e1:(op==CmpOp.In)=false:=by lia
 have e2:(op==CmpOp.NotIn)=false:=by lia
 cases b<;>simp[behindInMarks,e1,e2]
def BP{op:CmpOp}{r:R2}(ho:OpR X (compareOp op) r)(ha:PE X a ta)(hb:PE X b tb)(hm:behindInMarks op b=false):PE X (.Compare a [op] [b] pos) (tOp r ta tb):=by intro js s Y H Q I h;exact wpAny_Compare1 (GO ha hb I h λv u s2 x y H2 I2 rx ry q=>ho js s2 Y H2 x y v u Q I2 rx ry q) hm
def CY(t:TE):TT:=λY H Q=>t Y H λx H'=>∃k,x=.bl k/\Q k H'
def BD{op:CmpOp}{r:R2}(ho:OpR X (compareOp op) r)(ha:PE X a ta)(hb:PE X b tb)(hm:behindInMarks op b=false):PT X (.Compare a [op] [b] pos) (CY (tOp r ta tb)):=by
 intro js s Y H Q I h;refine wpAny_isTrue_Compare1 (thn (ha js s Y H _ I h) λv s1 ⟨x,H1,I1,r1,q1⟩=>thn (hb js s1 Y H1 _ I1 q1) λu s2 ⟨y,H2,I2,r2,q2⟩=>
  thn (ho js s2 Y H2 x y v u _ I2 r1 r2 q2) λc s3 ⟨z,H3,I3,r3,k,e,q3⟩=>?_) hm
 subst e;cases r3;exact wpAny_truthy_bool ⟨H3,I3,q3⟩
def xr(r r':R2)(ta tb tc:TE):TE:=λY H Q=>ta Y H λx H1=>tb Y H1 λy H2=>r x y H2 λz H3=>∃k,z=.bl k /\
 (if k=true then tc Y H3 λw' H4=>r' y w' H4 Q else Q (.bl false) H3)
def xY{op op':CmpOp}{r r':R2}(ho:OpR X (compareOp op) r)(ho':OpR X (compareOp op') r')(ha:PE X a ta)(hb:PE X b tb)(hc:PE X c tc)
  (hm:lastMarks [op,op'] [b,c]=false:=by with_unfolding_all rfl):PT X (.Compare a [op,op'] [b,c] pos) (CY (xr r r' ta tb tc)):=by
 intro js s Y H Q I h;refine isTrue_chain (thn (ha js s Y H _ I h) λv s1 ⟨x,H1,I1,r1,q1⟩=>test_link (thn (hb js s1 Y H1 _ I1 q1) λu s2 ⟨y,H2,I2,r2,q2⟩=>
  thn (ho js s2 Y H2 x y v u _ I2 r1 r2 q2) λd s3 ⟨z,H3,I3,r3,k,e,q3⟩=>?_)) hm
 subst e;cases r3;refine wpAny_truthy_bool ?_;cases k with
 |false=>obtain⟨k',e',q'⟩:=q3;cases e';exact ite_ff ⟨H3,I3,q'⟩
 |true=>refine ite_tt (test_last (thn (hc js s3 Y H3 _ I3 q3) λw' s4 ⟨z',H4,I4,r4,q4⟩=>thn (ho' js s4 Y H4 y z' u w' _ I4 r2 r4 q4) λd' s5 ⟨z2,H5,I5,r5,k2,e2,q5⟩=>?_));subst e2;cases r5;exact wpAny_truthy_bool ⟨H5,I5,q5⟩
def JK(K:PySem.W.Frag)(x:V)(H:Hp)(k:Bool):Prop:=
 match x with
 |.non=>k=false
 |.bl b=>k=b
 |.int i=>k=(i != 0)
 |.str y=>y.length<=sizeLine/\k=((y.length:Int) != 0)
 |.byt y=>y.size<=sizeLine/\k=((y.size:Int) != 0)
 |.ref p=>(∃xs,SqL K H p xs/\k=!xs.isEmpty)\/(∃xs,SqT K H p xs/\k=!xs.isEmpty)\/ ∃kvs,H p=some (.dK kvs)/\k=!kvs.isEmpty
 |_=>False
def t_{κ:Type}{kvs:List (κ×V)}{vs:List (κ×Value)}(r:KV kvs vs):(!vs.isEmpty)=!kvs.isEmpty:=by cases r<;>rfl
def nN{xs:Lz}{its:Lr}(r:aY xs its):(!its.toArray.isEmpty)=!xs.isEmpty:=by cases r<;>simp
def nE:(sizeLine:Nat)<2 ^ 63:=by rw[sizeLine_eq];decide
theorem D_:K4 X (λx H Q=>∃k,JK X.K x H k/\Q k H):=by
 intro js s Y H x v Q I rx h;obtain⟨k,e,q⟩:=h;have hs:sizeLine=16777216:=sizeLine_eq;cases x with
 |non=>cases rx;have e':k=false:=e;subst e';exact truthy_none ⟨H,I,q⟩
 |bl b=>cases rx;have e':k=b:=e;subst e';exact wpAny_truthy_bool ⟨H,I,q⟩
 |int i=>obtain⟨t,rfl⟩:=rx;have e':k=(i != 0):=e;subst e';exact PySem.P.truthy_int ⟨H,I,q⟩
 |str y=>obtain⟨t,rfl⟩:=rx;obtain⟨hy,e'⟩:y.length<=sizeLine/\k=((y.length:Int) != 0):=e;subst e';exact PySem.P.truthy_str () ⟨H,I.tok _,q⟩
 |byt y=>obtain⟨t,rfl⟩:=rx;obtain⟨hy,e'⟩:y.size<=sizeLine/\k=((y.size:Int) != 0):=e;subst e';exact PySem.W.truthy_bytes () ⟨H,I.tok _,q⟩
 |ref p=>
  cases rx;have e':(∃xs,SqL X.K H p xs/\k=!xs.isEmpty)\/(∃xs,SqT X.K H p xs/\k=!xs.isEmpty)\/ ∃kvs,H p=some (.dK kvs)/\k=!kvs.isEmpty:=e;rcases e' with⟨xs,hx,e'⟩ |⟨xs,hx,e'⟩ |⟨kvs,hx,e'⟩
  .subst e';obtain⟨its,r,pl,hz⟩:=I.list hx;have hlen:=r.length;exact wpAny_truthy_list pl.isList (by simp;lia) ⟨H,I.tok _,by rw[nN r];exact q⟩
  .subst e';obtain⟨its,r,pl,hz⟩:=I.tuple hx;have hlen:=r.length;exact truthy_tuple pl (by simp;lia) ⟨H,I.tok _,by rw[nN r];exact q⟩
  .subst e';obtain⟨hz,hS,vs,r,m⟩:kvs.length<=sizeLine/\(p==sysModules)=false/\∃vs,KV kvs vs/\s.heap.DictOf (eP X.prog X.w) p vs:=I.hok p _ hx;have hlen:kvs.length=vs.length:=Paired.length r;exact wpAny_truthy_dict hS m () ⟨H,I.tok _,by rw[t_ r];exact q⟩
 |_=>exact(show False from e).elim
def xX(ha:PE X a ta)(he:∀whole,isTrue a X.env whole=(do let v <- whole;standAt a.pos;holding [v] (truthy v))) :
  PT X a (λY H Q=>ta Y H λx H'=>∃k,JK X.K x H' k/\Q k H'):=by
 intro js s Y H Q I h;exact isTrue_plain (thn (ha js s Y H _ I h) λv s1 ⟨x,H1,I1,r1,q1⟩=>D_ js s1 Y H1 x v Q I1 r1 q1) (he _)
def eY{x:V}{us:Lr}(r:aY [x] us):∃u,us=[u]/\bT x u:=by
 cases r with
 |cons r1 r2=>cases r2;exact⟨_,rfl,r1⟩
def HD{x y:V}{us:Lr}(r:aY [x,y] us):∃u w',us=[u,w']/\bT x u/\bT y w':=by
 cases r with
 |cons r1 r2=>
  cases r2 with
  |cons r3 r4=>cases r4;exact⟨_,_,rfl,r1,r3⟩
def w5(hc:X.calm=true):e_ X (.builtin "min") (λxs H Q=>∃i j,xs=[.int i,.int j]/\Q (.int (if j<i then j else i)) H):=by
 intro js s Y H xs us Q I r h;obtain⟨i,j,rfl,q⟩:=h;obtain⟨u,w',rfl,⟨t,rfl⟩,⟨t',rfl⟩⟩:=HD r;refine min_two_ints (I.ok.hd hc) λh' tk k=>⟨_,H,I.kept k,?_,q⟩
 by_cases hj:j<i
 .rw[if_pos hj,if_pos hj];exact⟨_,rfl⟩
 .rw[if_neg hj,if_neg hj];exact⟨_,rfl⟩
end
end
section
structure uz(h:Heap)(x dx C:Addr)(mA:Lk):Prop where
 obj:h.get? x=some (instObj C dx)
 ns:h.Ns1 dx mA
 ne:dx≠x
def wG{h:Heap}{dx:Addr}{mA:Lk}(n:h.Ns1 dx mA):∃od,h.get? dx=some od/\∀name,lookIn name od=some (mA name):=by
 obtain⟨o,es,ep,ho,hd,hk,_,hm⟩:=n;refine⟨o,ho,λname=>?_⟩;have e:=hm name;unfold nsFind findBy at e;rw[<- Array.find?_toList]at e;unfold lookIn;rw[hd];dsimp only;split
 .rename_i y q
  rw[q]at e;exact congrArg some e
 .rename_i q
  rw[q]at e;have a:es.toList.any (·.refKey)=false:=by rw[List.any_eq_false];intro y hy;obtain⟨z,t,hkey⟩:=hk y (Array.mem_toList_iff.mp hy);simp[DictEntry.refKey,hkey]
  have a':¬es.toList.any (·.refKey)=true:=by rw[a];exact Bool.false_ne_true
  rw[if_neg a'];exact congrArg some e
def uz.look{h:Heap}{x dx C:Addr}{mA:Lk}(I:uz h x dx C mA):∃od,PySem.W.InstAt h x (instObj C dx) C (some od)/\∀name,lookIn name od=some (mA name):=
 let⟨od,ho,hl⟩:=wG I.ns
 ⟨od,⟨I.obj,rfl,rfl,ho⟩,hl⟩
section
variable{prog:Program}{w:World}{A:Around}{E:Lj}{s:Shared}{K:PySem.W.Frag}{x dx C f:Addr}{mA:Lk}{name:Str}{v:Value}
def Cn{expr:Bool}{Q:Lj}(X:K.In s.heap)(I:uz s.heap x dx C mA)(hg:plainGet K C name=true)(hh:hasDictIn K C=true)
  (ha:PySem.W.findIn K (.ref C) name=some none) (hv:mA name=some v) (hv':handedIn v=true) (h:Q v {s with toks:=s.toks+1}) :
  wpAny (model prog w) A (getAttr (.ref x) name expr) Q E s:=by
 obtain⟨od,J,hl⟩:=I.look;exact PySem.W.get_value X J (plainGet_of hg).1 (PySem.W.findObj_own hh ha rfl (by rw[hl,hv])) hv' h
def zt{pl:Sem Bool}{Q:Value×Lr->Shared->Prop}(X:K.In s.heap)(I:uz s.heap x dx C mA)(hg:plainGet K C name=true)
  (hf:PySem.W.findIn K (.ref C) name=some (some (.ref f))) (ht:PySem.W.isFn K (.ref f)=true) (hv:mA name=none) (h:Q (.ref f,[.ref x]) s) :
  wpAny (model prog w) A (getMethod (.ref x) name pl) Q E s:=by
 obtain⟨od,J,hl⟩:=I.look;exact PySem.W.method_fn X J (plainGet_of hg).1 (plainGet_of hg).2 hf (beq_iff_eq.mp ht) (by show(lookIn name od).map (·.isSome)=some false;rw[hl,hv];rfl) h
theorem Bc{ns:Lw}{Q:Unit->Shared->Prop}(X:K.In s.heap)(I:uz s.heap x dx C mA)
  (hs:PySem.W.findIn K (.ref C) "__setattr__"=some (some (.builtin "object.__setattr__"))) (hp:plainOver K C=true) (ht:takerIn K C name=some none) (hh:hasDictIn K C=true)
  (hw:PySem.Within mA ns) (hsz:ns.length<=sizeLine)
  (h:∀h',uz h' x dx C (λy=>if y=name then some v else mA y)->SameBut dx s.heap h'->Q .unit {s with heap:=h',toks:=s.toks+2}) :
  wpAny (model prog w) A (setAttr (.ref x) name v) Q E s:=by
 obtain⟨od,J,hl⟩:=I.look;refine PySem.W.set_plain X J hs (PySem.W.osa_open X J hp ht λb=>?_);obtain⟨cd,hc,hd'⟩:=PySem.W.any_some hh;have hx:s.heap.get? x=some ⟨.ref C,some dx,.plain,#[]⟩:=I.obj;refine wpAny_bind (wpAny_pure (wpAny_bind (wpAny_bind (wpAny_loadPart hx (wpAny_bind (PySem.W.Looks.here (PySem.W.looks_clsIn X hc) ?_))))));rw[hd'];refine wpAny_pure (wpAny_bind (wpAny_pure (wpAny_bind ?_)));refine wpAny_nsSet1 I.ns λh' hn2 hs2=>?_;obtain⟨oD,esD,epD,hoD,hdD,hcD⟩:=hn2.count (PySem.Within.cons name v hw);refine wpAny_bind (wpAny_lookBehind hoD (by rw[hdD];exact pastItsLine_dict (Nat.le_trans hcD (by rw[length_cons];lia))) ?_);exact wpAny_pure (h _ ⟨(hs2.2 _ (Ne.symm I.ne)).trans I.obj,hn2,I.ne⟩ hs2)
def y0{R:Result->Shared->Prop}{vs:Lr}{kw:List (Str×Value)}(X:K.In s.heap)(hm:makesIn K C=true)
  (hi:PySem.W.findIn K (.ref C) "__init__"=some (some (.ref f))) (hf:PySem.W.typeIn K (.ref f)=some (.type "function"))
  (h:codeAny (model prog w) (A.under (.builtin "type.__call__" ⟨.ref C::vs,kw⟩)) (.call (.ref f) ⟨.ref (s.heap.objs.size+1)::vs,kw⟩) (PySem.W.InitBack (s.heap.objs.size+1) R)
   {s with heap:=(s.heap.push emptyDict).push (instObj C s.heap.objs.size)}) :
  codeAny (model prog w) A (.call (.ref C) ⟨vs,kw⟩) R s:=by
 obtain⟨hh,g,d,t,os⟩:=s;exact PySem.W.make_core (PySem.W.makes_of X hm) (PySem.W.looks_findIn X hi) (λself=>PySem.W.bind_fn X self hf) (.inl rfl) h
end
noncomputable def iF(f:Str)(v:V):List (Str×V)->List (Str×V)
 | []=>[(f,v)]
 |(g,x)::r=>if g=f then(g,v)::r else(g,x)::iF f v r
def lM(f g:Str)(v:V):∀fs:List (Str×V),(iF f v fs).lookup g=if g=f then some v else fs.lookup g
 | []=>by
  show List.lookup g [(f,v)]=_;by_cases h:g=f
  .have hb:(g==f)=true:=beq_iff_eq.mpr h;simp only[List.lookup,hb,if_pos h]
  .have hb:(g==f)=false:=beq_eq_false_iff_ne.mpr h;simp only[List.lookup,hb,if_neg h]
 |(k,x)::r=>by
  have ih:=lM f g v r;rw[show iF f v ((k,x)::r)=(if k=f then(k,v)::r else(k,x)::iF f v r)from rfl];by_cases hk:k=f
  .rw[if_pos hk];by_cases h:g=k
   .simp_all
   .have hb:(g==k)=false:=beq_eq_false_iff_ne.mpr h;simp only[List.lookup,hb,if_neg (λe:g=f=>h (e.trans hk.symm))]
  .rw[if_neg hk];by_cases h:g=k
   .simp_all
   .have hb:(g==k)=false:=beq_eq_false_iff_ne.mpr h;simp only[List.lookup,hb];exact ih
def k8(f:Str)(v:V):∀fs:List (Str×V),f ∈(iF f v fs).map (·.1)/\∀g,g∈fs.map (·.1)->g ∈(iF f v fs).map (·.1)
 | []=>⟨by simp[iF],λg h=>by simp at h⟩
 |(k,x)::r=>by
  obtain⟨i1,i2⟩:=k8 f v r;rw[show iF f v ((k,x)::r)=(if k=f then(k,v)::r else(k,x)::iF f v r)from rfl];by_cases hk:k=f
  .rw[if_pos hk];subst hk;exact⟨by simp,λg h=>by simpa using h⟩
  .rw[if_neg hk];refine⟨?_,λg h=>?_⟩
   .rw[map_cons];exact mem_cons_of_mem _ i1
   .rw[map_cons]at h ⊢;rcases mem_cons.mp h with e|e
    .exact mem_cons.mpr (.inl e)
    .exact mem_cons_of_mem _ (i2 g e)
theorem lP(f:Str)(v:V):∀fs:List (Str×V),(iF f v fs).length<=fs.length+1
 | []=>by simp[iF]
 |(k,x)::r=>by
  have ih:=lP f v r;rw[show iF f v ((k,x)::r)=(if k=f then(k,v)::r else(k,x)::iF f v r)from rfl];by_cases hk:k=f
  .rw[if_pos hk,length_cons,length_cons];lia
  .rw[if_neg hk,length_cons,length_cons];lia
def lX.some_of{v:V}{o:Option Value}(r:lX (some v) o):∃u,o=some u/\bT v u:=by
 cases o with
 |none=>exact(show False from r).elim
 |some u=>exact⟨u,rfl,r⟩
def lX.none_of{o:Option Value}(r:lX none o):o=none:=by
 cases o with
 |none=>rfl
 |some u=>exact(show False from r).elim
def wQ{v:V}{u:Value}(r:bT v u):handedIn u=true:=by
 cases v with
 |non=>cases(show u=Value.none from r);rfl
 |bl b=>cases(show u=Value.bool b from r);rfl
 |int i=>obtain⟨t,e⟩:=(show ∃t,u=Value.int i t from r);cases e;rfl
 |str x=>obtain⟨t,e⟩:=(show ∃t,u=Value.str x t from r);cases e;rfl
 |byt b=>obtain⟨t,e⟩:=(show ∃t,u=Value.bytes b t from r);cases e;rfl
 |flt b=>obtain⟨t,e⟩:=(show ∃t,u=Value.float b t from r);cases e;rfl
 |ref a=>cases(show u=Value.ref a from r);rfl
 |ty n=>cases(show u=Value.type n from r);rfl
section
variable{P:Program}{w:World}{H H':Hp}{h h':Heap}{a C dx:Addr}{fs fs':List (Str×V)}
def qd(hok:HOk P w H h)(e:H a=some (.ins C dx fs)):∃mA,uz h a dx C mA/\(∀f,lX (fs.lookup f) (mA f))/\PySem.Within mA (fs.map (·.1))/\fs.length<=1000/\H dx=some (.own a):=by
 obtain⟨d,z,ne,ob,mA,n,r,q⟩:=(show cO P w H h a (.ins C dx fs)from hok a _ e)
 exact⟨mA,⟨ob,n,ne⟩,r,q,z,d⟩
end
structure Cls(K:PySem.W.Frag)(C:Addr):Prop where
 pg:plainGet K C Str.empty=true
 hd:hasDictIn K C=true
 po:plainOver K C=true
 sa:PySem.W.findIn K (.ref C) "__setattr__"=some (some (.builtin "object.__setattr__"))
def Cls.get{K:PySem.W.Frag}{C:Addr}(c:Cls K C)(f:Str):plainGet K C f=true:=c.pg
def gG(K:PySem.W.Frag)(C:Addr)(f:Str):Prop:=PySem.W.findIn K (.ref C) f=some none
def gG.taker{K:PySem.W.Frag}{C:Addr}{f:Str}(n:gG K C f):takerIn K C f=some none:=by unfold takerIn;rw[show PySem.W.findIn K (.ref C) f=some none from n];rfl
structure CV(K:PySem.W.Frag)(C:Addr)(m:Str)(f:Addr):Prop where
 at_:PySem.W.findIn K (.ref C) m=some (some (.ref f))
 fn:PySem.W.isFn K (.ref f)=true
 kp:PySem.W.keepIn K (.ref f)=true
section
variable{X:Cx}{js:Lo}{Y:St}{H:Hp}{s:Shared}{a C dx:Addr}{fs:List (Str×V)}{f:Str}{v:V}{A:Around}{E:Lj}
def uh{b:Bool}{Q:Lj}(I:Inv X js Y H s)(e:H a=some (.ins C dx fs))(c:Cls X.K C)(n:gG X.K C f)(l:fs.lookup f=some v)
  (h:∀u s',Inv X js Y H s'->bT v u->Q u s'):wpAny (model X.prog X.w) A (getAttr (.ref a) f b) Q E s:=by
 obtain⟨mA,O,r,_,_,_⟩:=qd I.hok e;obtain⟨u,hu,ru⟩:=lX.some_of (by rw[<- l];exact r f);exact Cn I.kIn O (c.get f) c.hd n hu (wQ ru) (h u _ (I.tok _) ru)
def ug{m:Str}{g:Addr}{pl:Sem Bool}{Q:Value×Lr->Shared->Prop}(I:Inv X js Y H s)(e:H a=some (.ins C dx fs))(c:Cls X.K C)(k:CV X.K C m g)(l:fs.lookup m=none)
  (h:Q (.ref g,[.ref a]) s):wpAny (model X.prog X.w) A (getMethod (.ref a) m pl) Q E s:=by
 obtain⟨mA,O,r,_,_,_⟩:=qd I.hok e;have hn:mA m=none:=lX.none_of (by rw[<- l];exact r m);exact zt I.kIn O (c.get m) k.at_ k.fn hn h
theorem tj{y:V}{u:Value}{Q:Unit->Shared->Prop}(I:Inv X js Y H s)(e:H a=some (.ins C dx fs))(c:Cls X.K C)(n:gG X.K C f)(hl:fs.length<1000)(ry:bT y u)
  (h:∀s',Inv X js Y (upd H a (.ins C dx (iF f y fs))) s'->Q .unit s'):wpAny (model X.prog X.w) A (setAttr (.ref a) f u) Q E s:=by
 obtain⟨mA,O,r,wi,_,ho⟩:=qd I.hok e;have hz:(fs.map (·.1)).length<=sizeLine:=by rw[length_map,sizeLine_eq];lia
 refine Bc I.kIn O c.sa c.po n.taker c.hd wi hz λh' O' sb=>h _ ?_;have hd:∃o,h'.get? dx=some o:=let⟨o,_,_,e',_⟩:=O'.ns;⟨o,e'⟩
 refine I.write (by rw[e];exact True.intro) (.inr ho) (λb q hb z=>(sb.2 b hb).trans z) hd ?_;refine⟨by rw[aR O.ne];exact ho,?_,O.ne,O'.obj,_,O'.ns,λg=>?_,λg hg=>?_⟩
 .have:=lP f y fs;lia
 .show lX ((iF f y fs).lookup g) (if g=f then some u else mA g);rw[lM];by_cases q:g=f
  .rw[if_pos q,if_pos q];exact ry
  .simp_all
 .by_cases q:g=f
  .rw[q];exact(k8 f y fs).1
  .refine(k8 f y fs).2 g (wi g λz=>hg ?_);show(if g=f then some u else mA g)=none;rw[if_neg q];exact z
def Inv.made(I:Inv X js Y H s):Inv X js Y (upd (upd H s.heap.objs.size (.own (s.heap.objs.size+1))) (s.heap.objs.size+1) (.ins C s.heap.objs.size []))
  {s with heap:=(s.heap.push emptyDict).push (instObj C s.heap.objs.size)}:=by
 have e1:(s.heap.push emptyDict).get? s.heap.objs.size=some emptyDict:=get?_push_size s.heap rfl;have e2:((s.heap.push emptyDict).push (instObj C s.heap.objs.size)).get? (s.heap.objs.size+1)=some (instObj C s.heap.objs.size):=by
  have:=get?_push_size (s.heap.push emptyDict) (o:=instObj C s.heap.objs.size) rfl
  rwa [size_push]at this
 have e3:(s.heap.push emptyDict).Ns s.heap.objs.size (λ_=>none):=⟨emptyDict,#[],_,e1,rfl,(λe he=>absurd he ()),λ_=>rfl⟩
 have I1:=I.laid (a:=s.heap.objs.size) (o:=.own (s.heap.objs.size+1)) (h':=s.heap.push emptyDict) (t':=s.toks) (λb u q=>get?_push_of_some _ q) (Nat.le_refl _) ⟨_,e1⟩;refine I1.laid (a:=s.heap.objs.size+1) (o:=.ins C s.heap.objs.size []) (t':=s.toks) (λb u q=>get?_push_of_some _ q) (Nat.le_of_eq (size_push _ _)) ?_;have ne:s.heap.objs.size≠s.heap.objs.size+1:=Nat.ne_of_lt (Nat.lt_succ_self _);refine⟨by rw[aR ne,bG],zero_le _,ne,e2,λ_=>none,(Heap.Ns1.of_empty e3).at λo q=>get?_push_of_some _ q,λ_=>True.intro,λy hy=>absurd rfl hy⟩
def CQ{prog:Program}{w:World}{env:Env}{e:Expr}{f:Str}{pos:Pos}{s:Shared}{Q:Lj}(hb:attributeBase e f env (eval e env)=eval e env)
  (h:wpAny (model prog w) A (eval e env) (λo s₁=>wpAny (model prog w) A (getAttr o f true) Q E s₁) E s):wpAny (model prog w) A (eval (.Attribute e f pos) env) Q E s:=
 Attribute_any_ h (by rw[arm_eval_Attribute,hb])
end
def HL(K:PySem.W.Frag)(ta:TE)(f:Str):TE:=λY H Q=>ta Y H λx H1=>∃a C dx fs v,x=.ref a/\H1 a=some (.ins C dx fs)/\Cls K C/\gG K C f/\fs.lookup f=some v/\Q v H1
def sFld(K:PySem.W.Frag)(ta tv:TE)(f:Str):TS:=λD Y H=>tv Y H λy H1=>ta Y H1 λx H2=>∃a C dx fs,x=.ref a/\H2 a=some (.ins C dx fs)/\Cls K C/\gG K C f/\fs.length<1000 /\
 D.nx Y (upd H2 a (.ins C dx (iF f y fs)))
section
variable{X:Cx}{o e value:Expr}{f:Str}{pos pos' tpos:Pos}{ta tv:TE}
def ES(he:PE X e ta)(hb:attributeBase e f X.env (eval e X.env)=eval e X.env):PE X (.Attribute e f pos) (HL X.K ta f):=by intro js s Y H Q I h;refine CQ hb (thn (he js s Y H _ I h) λu s1 zz=>?_);obtain⟨x,H1,I1,rx,a,C,dx,fs,v,ex,ea,c,n,l,q⟩:=zz;subst ex;obtain rfl:u=Value.ref a:=rx;exact uh I1 ea c n l λu' s2 I2 ru=>⟨v,H1,I2,ru,q⟩
def EJ(ha:PE X o ta)(hv:PE X value tv)(hs:swapsWith value (some (.Attribute o f pos')) pos.line X.env=pure false):PS X (.Assign [.Attribute o f pos'] value pos) (sFld X.K ta tv f):=by intro js s Y H D I h;refine plainObj_wpAny_Assign_Attribute (thn (hv js s Y H _ I h) λu s1 ⟨y,H1,I1,ry,q⟩=>thn (ha js s1 Y H1 _ I1 q) λov s2 zz=>?_) hs;obtain⟨x,H2,I2,rx,a,C,dx,fs,ex,ea,c,n,l,q2⟩:=zz;subst ex;obtain rfl:ov=Value.ref a:=rx;exact tj I2 ea c n l ry λs3 I3=>⟨Y,_,I3,q2⟩
end
end
section
structure eX(k:Nat)(A:Around):Prop where
 hd:A.handled=none
 dp:A.depth+3*k+5<recursionLimit
 un:A.units+16*k+200<cLine
theorem eX.mono{j k:Nat}{A:Around}(r:eX k A)(h:j<=k):eX j A:=⟨r.hd,by have:=r.dp;lia,by have:=r.un;lia⟩
theorem eX.deeper{k:Nat}{A:Around}(r:eX (k+1) A)(env:Env):eX k (A.deeper env):=
 ⟨r.hd,by have:=r.dp;show A.depth+1+3*k+5<_;lia,by have:=r.un;show A.units+3+16*k+200<_;lia⟩
def t7{A:Around}{C:Addr}{us:Lr}{kw:List (Str×Value)}:(A.under (.builtin "type.__call__" ⟨.ref C::us,kw⟩)).depth=A.depth+1:=by
 first|rfl|simp[Code.weight]
def t6{A:Around}{C:Addr}{us:Lr}{kw:List (Str×Value)}:(A.under (.builtin "type.__call__" ⟨.ref C::us,kw⟩)).units=A.units+1:=by
 first|rfl|simp[Code.cUnits]
theorem eX.make{k:Nat}{A:Around}(r:eX (k+1) A)(C:Addr)(us:Lr)(kw:List (Str×Value)):eX k (A.under (.builtin "type.__call__" ⟨.ref C::us,kw⟩)):=
 ⟨r.hd,by have:=r.dp;rw[t7];lia,by have:=r.un;rw[t6];lia⟩
theorem eX.depth{k:Nat}{A:Around}(r:eX k A):A.depth<recursionLimit:=by have:=r.dp;lia
theorem eX.units{k:Nat}{A:Around}(r:eX k A):A.units+64<cLine:=by have:=r.un;lia
def Ec:TA:=λ_ H Q=>Q [] H
def uG(ta:TE)(tr:TA):TA:=λY H Q=>ta Y H λx H1=>tr Y H1 λxs H2=>Q (x::xs) H2
section
variable{X:Cx}{e:Expr}{es:List Expr}{te:TE}{t:TA}{pos:Pos}
def gO:PA X [] Ec:=λ_ _ _ _ H Q I h=>Calls.spliced_nil ⟨[],H,I,.nil,h⟩
def dP(ha:PE X e te)(hr:PA X es t)(hs:starEach (e::es) X.env=(false,eval e X.env)::starEach es X.env:=by rfl):PA X (e::es) (uG te t):=by intro pos js s Y H Q I h;rw[hs];refine Calls.spliced_cons (thn (ha js s Y H _ I h) λu s1 zz=>?_);obtain⟨x,H1,I1,r1,q1⟩:=zz;exact thn (hr pos js s1 Y H1 _ I1 q1) λus s2 ⟨xs,H2,I2,r2,q2⟩=>⟨x::xs,H2,I2,.cons r1 r2,q2⟩
def Kj(t:TA):TE:=λY H Q=>t Y H λxs H1=>xs.length<=sizeLine/\∀p,H1 p=none->Q (.ref p) (upd H1 p (.tup xs))
def Kq(t:TA):TE:=λY H Q=>t Y H λxs H1=>xs.length<=sizeLine/\∀p,H1 p=none->Q (.ref p) (upd H1 p (.lst xs))
def yg{x1}(h:PA X es t):PE X (.Tuple es x1 pos) (Kj t):=by intro js s Y H Q I hq;refine wpAny_Tuple_spliced (thn (h pos js s Y H _ I hq) λus s1 ⟨xs,H1,I1,r,z,q⟩=>⟨by rw[<- r.length];exact z,?_⟩);have hf:H1 s1.heap.objs.size=none:=I1.hok.fresh (Nat.le_refl _);refine⟨.ref s1.heap.objs.size,upd H1 s1.heap.objs.size (.tup xs),I1.laid (t':=s1.toks) (λb u e=>get?_push_of_some _ e) (Nat.le_refl _) ?_,rfl,q _ hf⟩;exact⟨z,us,r,⟨_,get?_push_size _ rfl,rfl,_,rfl⟩⟩
def ER(h:PA X es t):PE X (.List es pos) (Kq t):=by intro js s Y H Q I hq;refine wpAny_List_spliced (thn (h pos js s Y H _ I hq) λus s1 ⟨xs,H1,I1,r,z,q⟩=>⟨by rw[<- r.length];exact z,?_⟩);have hf:H1 s1.heap.objs.size=none:=I1.hok.fresh (Nat.le_refl _);refine⟨.ref s1.heap.objs.size,upd H1 s1.heap.objs.size (.lst xs),I1.laid (t':=s1.toks) (λb u e=>get?_push_of_some _ e) (Nat.le_refl _) ?_,rfl,q _ hf⟩;exact⟨z,us,0,r,get?_push_size _ rfl⟩
end
abbrev Sp:=Lz->Hp->VK->XK->Prop
abbrev CXT:=List Env->Hp->Shared->XK->Lj
structure uA(P:Program)(w:World)(K:PySem.W.Frag)(mg:Lk)(base:Heap)(A:Around)(outer:List Env)(s:Shared)(H:Hp):Prop where
 frames:A.frames=some outer
 mod:Mod K mg base
 bs:∀b o,base.get? b=some o->s.heap.get? b=some o/\H b=none
 bsz:base.objs.size<=s.heap.objs.size
 funs:s.heap.FunFrames base outer
 frf:∀b∈frs outer,H b=none
 hok:HOk P w H s.heap
 bare:AllBare s.gens
def CE(outer:List Env)(P:Program)(w:World)(H:Hp)(s:Shared)(Q:VK)(u:Value)(s':Shared):Prop:=
 ∃v H',s'.os=s.os/\AllBare s'.gens/\Un (frs outer) [] H H' s.heap s'.heap/\HOk P w H' s'.heap/\bT v u/\Q v H'
def CR(CX:CXT)(outer:List Env)(P:Program)(w:World)(H:Hp)(s:Shared)(Q:VK)(E:XK)(r:Result)(s':Shared):Prop:=
 match r with
 |.ok (.ret u)=>CE outer P w H s Q u s'
 |.ok _=>False
 |.error e=>CX outer H s E e s'
structure dR(P:Program)(w:World)(K:PySem.W.Frag)(mg:Lk)(base:Heap)(CX:CXT)(k:Nat)(f:Addr)(fd:FuncData)(ps:Lw)(sp:Sp):Prop where
 len:∀vs H Q E,sp vs H Q E->vs.length=ps.length
 run:∀(A:Around) (outer:List Env) (s:Shared) (H:Hp) (args:Args) (us:Lr) (vs:Lz) (Q:VK) (E:XK),eX k A->uA P w K mg base A outer s H->BindsTo s fd args (ps.zip us)->aY vs us->sp vs H Q E ->
  codeAny (model P w) A (.call (.ref f) args) (CR CX outer P w H s Q E) s
def dR.mono{P:Program}{w:World}{K:PySem.W.Frag}{mg:Lk}{base:Heap}{CX:CXT}{j k:Nat}{f:Addr}{fd:FuncData}{ps:Lw}{sp:Sp}(F:dR P w K mg base CX j f fd ps sp)(h:j<=k) :
  dR P w K mg base CX k f fd ps sp:=⟨F.len,λA outer s H args us vs Q E hr=>F.run A outer s H args us vs Q E (hr.mono h)⟩
def dR.imp{P:Program}{w:World}{K:PySem.W.Frag}{mg:Lk}{base:Heap}{CX:CXT}{k:Nat}{f:Addr}{fd:FuncData}{ps:Lw}{sp sp':Sp}(F:dR P w K mg base CX k f fd ps sp)
  (h:∀vs H Q E,sp' vs H Q E->sp vs H Q E):dR P w K mg base CX k f fd ps sp':=
 ⟨λvs H Q E q=>F.len vs H Q E (h _ _ _ _ q),λA outer s H args us vs Q E hr he hb hv hs=>F.run A outer s H args us vs Q E hr he hb hv (h _ _ _ _ hs)⟩
def uA.make{P:Program}{w:World}{K:PySem.W.Frag}{mg:Lk}{base:Heap}{A:Around}{outer:List Env}{s:Shared}{H:Hp}(e:uA P w K mg base A outer s H)(C:Addr)(us:Lr)(kw:List (Str×Value)) :
  uA P w K mg base (A.under (.builtin "type.__call__" ⟨.ref C::us,kw⟩)) outer s H:=⟨by first|exact e.frames |(simpa[Code.envs]using e.frames),e.mod,e.bs,e.bsz,e.funs,e.frf,e.hok,e.bare⟩
section
variable{X:Cx}{js:Lo}{Y:St}{H:Hp}{s s':Shared}
def Inv.env0(I:Inv X js Y H s):uA X.prog X.w X.K X.mg X.base X.A X.stack s H:=
 ⟨I.ok.frames,I.ok.mod,I.bs,Nat.le_trans I.ok.bsz I.sz,I.stack,I.stkFree,I.hok,I.bare⟩
def Inv.after{Q:VK}{u:Value}(I:Inv X js Y H s)(h:CE X.stack X.prog X.w H s Q u s'):EP X js Y Q u s':=by obtain⟨v,H',os,bare,un,hok,r,q⟩:=h;obtain⟨hh,g,d,t,os'⟩:=s';obtain rfl:os'=s.os:=os;exact⟨v,H',I.call (h':=hh) (g':=g) (d':=d) (t':=t) un hok bare (λb z=>absurd z ()),r,q⟩
end
def gM(K:PySem.W.Frag)(fd:FuncData)(ps:Lw)(ds:Lr):Prop:=
 ∀(s:Shared) (us:Lr),K.In s.heap->(us++ds).length=ps.length->BindsTo s fd ⟨us,[]⟩ (ps.zip (us++ds))
def gM.all{K:PySem.W.Frag}{fd:FuncData}{ps:Lw}(h:∀us:Lr,us.length=ps.length->bindArgs fd ⟨us,[]⟩=pure (ps.zip us)):gM K fd ps []:=λs us _ hl=>by rw[append_nil]at hl ⊢;exact .of_eq (h us hl)
section
variable{X:Cx}{CX:CXT}{k:Nat}{f C:Addr}{fd:FuncData}{ps:Lw}{sp:Sp}{dvs:Lz}{ds:Lr}{E:XK}{x m:Str}{p pos apos:Pos}{e o:Expr}{es:List Expr}{ta:TE}{t:TA}
structure Mk(K:PySem.W.Frag)(C f:Addr):Prop where
 makes:makesIn K C=true
 init:PySem.W.findIn K (.ref C) "__init__"=some (some (.ref f))
 fn:PySem.W.isFn K (.ref f)=true
 kp:PySem.W.keepIn K (.ref C)=true
end
def PK(X:Cx)(kws:List Keyword)(t:TA):Prop:=
 ∀(pos:Pos) (js:Lo) (s:Shared) (Y:St) (H:Hp) (Q:Lz->LA),Inv X js Y H s->t Y H Q->wpAny (model X.prog X.w) X.A (evalAll ((backToKw pos (keywordEach kws X.env)).map (·.2))) (AP X js Y Q) X.xe s
section
variable{X:Cx}{CX:CXT}{k:Nat}{f C:Addr}{fd:FuncData}{ps ks:Lw}{sp:Sp}{E:XK}{x m:Str}{p pos apos kpos:Pos}{e o:Expr}{es:List Expr}{kws:List Keyword}{te ta:TE}{t tk:TA}{nm:Option Str}
def ya:PK X [] Ec:=λ_ _ _ _ H Q I h=>wpAny_evalAll_nil ⟨[],H,I,.nil,h⟩
def uU(ha:PE X e te)(hr:PK X kws t):PK X (⟨nm,e,kpos⟩::kws) (uG te t):=by intro pos js s Y H Q I h;show wpAny _ _ (evalAll ((do let v <- eval e X.env;standAt pos;pure v)::(backToKw pos (keywordEach kws X.env)).map (·.2))) _ _ s;refine wpAny_evalAll_cons (wpAny_bind (thn (ha js s Y H _ I h) λu s1 ⟨x,H1,I1,r1,q1⟩=>wpAny_bind (wpAny_standAt (wpAny_pure ?_))));exact thn (hr pos js s1 Y H1 _ I1 q1) λus s2 ⟨xs,H2,I2,r2,q2⟩=>⟨x::xs,H2,I2,.cons r1 r2,q2⟩
variable{g:Lr->Lr->Lr}{gV:Lz->Lz->Lz}
end
structure gn(N P:Lw)(sc:Scope):Prop where
 kind:sc.kind=.function
 co:sc.isCoroutine=false
 gen:sc.isGenerator=false
 nd:N.Nodup
 pre:N.take P.length=P
 par:∀x∈P,sc.names.lookup x=some .local\/sc.names.lookup x=some .cell
 nofree:∀y∈sc.names,y.2≠.free
def pq{kindOf:Str->Option NameKind}{x:Str}:∀{binds:List (Str×Value)}{m:Lk},(∀v,(x,v)∉ binds)->bindL kindOf binds m x=m x
 | [],_,_=>rfl
 |(n,v)::r,m,h=>by
  unfold bindL;rw[pq λw hw=>h w (mem_cons_of_mem _ hw)];split
  .have:x≠n:=by rintro rfl;exact h v mem_cons_self
   simp[this]
  .rfl
def pA{kindOf:Str->Option NameKind}{x:Str}:∀{binds:List (Str×Value)}{m:Lk},(∀v,(x,v)∉ binds)->bindC kindOf binds m x=m x
 | [],_,_=>rfl
 |(n,v)::r,m,h=>by
  unfold bindC;rw[pA λw hw=>h w (mem_cons_of_mem _ hw)];split
  .rfl
  .have:x≠n:=by rintro rfl;exact h v mem_cons_self
   simp[this]
def pz{kindOf:Str->Option NameKind}{x:Str}{v:Value}:∀{P:Lw}{vs:Lr}{i:Nat}{m:Lk},P.Nodup->P[i]?=some x->vs[i]?=some v->kindOf x=some .local ->
  bindL kindOf (P.zip vs) m x=some v
 | [],_,_,_,_,h,_,_|_::_,[],_,_,_,_,h,_=>by simp at h
 |p::P,w::vs,0,m,nd,h1,h2,hk=>by simp at h1 h2;subst h1;subst h2;show bindL kindOf ((p,w)::P.zip vs) m p=_;unfold bindL;rw[pq λv hv=>(nodup_cons.mp nd).1 (List.of_mem_zip hv).1,if_pos hk];simp
 |p::P,w::vs,i+1,m,nd,h1,h2,hk=>by unfold bindL;exact pz (nodup_cons.mp nd).2 (by simpa using h1) (by simp_all) hk
def pB{kindOf:Str->Option NameKind}{x:Str}{v:Value}:∀{P:Lw}{vs:Lr}{i:Nat}{m:Lk},P.Nodup->P[i]?=some x->vs[i]?=some v->kindOf x≠some .local ->
  bindC kindOf (P.zip vs) m x=some v
 | [],_,_,_,_,h,_,_|_::_,[],_,_,_,_,h,_=>by simp at h
 |p::P,w::vs,0,m,nd,h1,h2,hk=>by simp at h1 h2;subst h1;subst h2;show bindC kindOf ((p,w)::P.zip vs) m p=_;unfold bindC;rw[pA λv hv=>(nodup_cons.mp nd).1 (List.of_mem_zip hv).1,if_neg hk];simp
 |p::P,w::vs,i+1,m,nd,h1,h2,hk=>by show bindC kindOf ((p,w)::P.zip vs) m x=_;unfold bindC;exact pB (i:=i) (nodup_cons.mp nd).2 (by simpa using h1) (by simpa using h2) hk
def start(N:Lw)(vs:Lz):St:=vs.map some++replicate (N.length-vs.length) none
noncomputable def gI(CX:CXT)(P:Program)(w:World)(K:PySem.W.Frag)(mg:Lk)(base:Heap)(N:Lw)(qual:Str)(scope:Scope)(f:Addr)(cd:Value)(A:Around)(outer:List Env)(s:Shared)(H:Hp)(E:XK):Cx where
 prog:=P
 w:=w
 K:=K
 mg:=mg
 base:=base
 A:=A.deeper (envOfC qual scope s.heap.objs.size f cd)
 N:=N
 s₀:=s
 H₀:=H
 env:=envOfC qual scope s.heap.objs.size f cd
 outer:=outer
 stack:=envOfC qual scope s.heap.objs.size f cd::outer
 ex:=[]
 calm:=true
 fn:=λ_=>true
 pn:=[]
 xe:=λe s'=>wpAny (model P w) (A.deeper (envOfC qual scope s.heap.objs.size f cd)) (leaving (envOfC qual scope s.heap.objs.size f cd) e) (λ_ s''=>CX outer H s E e s'') (λe' s''=>CX outer H s E e' s'') s'
def sA{sc:Scope}{n:Nat}{x:Str}(h:sc.names.lookup x=some .cell):∃c,(cellsFrom n sc.names []).lookup x=some c:=by have q:=PySem.W.cellsFrom_some sc.names n [] (.inl h);exact isSome_iff_exists.mp q
theorem wM{CX:CXT}{P:Program}{w:World}{K:PySem.W.Frag}{mg:Lk}{base:Heap}{N ps:Lw}{qual:Str}{scope:Scope}{f:Addr}{cd:Value}{A:Around}{outer:List Env}{s s1:Shared}{H:Hp}{E:XK}{us:Lr}{vs:Lz}
  (S:gn N ps scope) (hd:A.handled=none) (e0:uA P w K mg base A outer s H) (hl:vs.length=ps.length) (r:aY vs us)
  (x:InCallC s s.heap.objs.size (bindL (envOfC qual scope s.heap.objs.size f cd).kindOf (ps.zip us) λ_=>none) (cellsFrom (s.heap.objs.size+1) scope.names []) (bindC (envOfC qual scope s.heap.objs.size f cd).kindOf (ps.zip us) λ_=>none) s1) :
  Inv (gI CX P w K mg base N qual scope f cd A outer s H E) [] (start N vs) H s1:=by
 have hpl:ps.length<=N.length:=by have:=congrArg List.length S.pre;rw[length_take]at this;lia
 obtain⟨h1,tk,rfl,hk⟩:=x.done;have noA:∀b:Addr,b ∉(gI CX P w K mg base N qual scope f cd A outer s H E).ex:=λb z=>absurd (show b ∈([]:Lu)from z) ();refine ⟨⟨e0.mod,S.kind,rfl,rfl,Nat.le_refl _,λy z c h1 h2=>?_,λy hy=>?_,λy c _ h=>?_,λ_=>hd,Around.frames_deeper e0.frames,.inr ⟨rfl,rfl⟩,λb z=>absurd z (noA b),e0.bs,e0.bsz,λb _ _=>noA b,λb z=>absurd z (noA b),e0.funs,e0.frf⟩,
  rfl,e0.bare,Un.kept hk,⟨_,x.toInCall.ns,λi y v h1 h2 h3=>?_⟩,λy c h=>⟨_,x.cell y c h⟩,e0.hok.fresh (Nat.le_refl _),λy c h=>?_,λp hp=>absurd (show p ∈([]:Lo)from hp) (),e0.hok.kept hk,?_⟩
 .exact name_of_addr x.apart (PySem.mem_of_lookup h1) (PySem.mem_of_lookup h2)
 .have hy:scope.names.lookup y=some .cell\/scope.names.lookup y=some .free:=hy;rcases hy with hy|hy
  .exact sA hy
  .exact absurd rfl (S.nofree _ (PySem.mem_of_lookup hy))
 .exact Nat.le_of_lt (x.above y c (PySem.mem_of_lookup h))
 .have hi:i<vs.length:=by
   unfold start at h2;by_cases hi:i<vs.length
   .exact hi
   .rw[getElem?_append_right (by simpa using hi)]at h2;rw[getElem?_replicate]at h2;split at h2<;>cases h2
  have ha:vs[i]?=some v:=by
   unfold start at h2;rw[getElem?_append_left (by simpa using hi),getElem?_map]at h2;cases e:vs[i]? with
   |none=>rw[e]at h2;cases h2
   |some a=>rw[e]at h2;cases h2;rfl
  obtain⟨u,hu,rv⟩:=r.get ha;have hp:ps[i]?=some y:=by rw[<- S.pre,List.getElem?_take_of_lt ()];exact h1
  have ndP:ps.Nodup:=by rw[<- S.pre];exact S.nd.sublist (List.take_sublist _ _)
  refine⟨u,rv,?_⟩;rcases S.par y (List.mem_of_getElem? hp)with k|k
  .exact .inl ⟨k,pz ndP hp hu k⟩
  .obtain⟨c,e⟩:=sA k;refine .inr ⟨.inl k,c,e,?_⟩;have q:=x.cell y c e;rw[pB ndP hp hu (by show scope.names.lookup y≠_;rw[k];decide)]at q;exact q
 .exact .inl (e0.hok.fresh (Nat.le_of_lt (x.above y c (PySem.mem_of_lookup h))))
 .unfold start;show _=N.length;rw[length_append,length_map,List.length_replicate]
  lia
noncomputable def Cx.low(X:Cx)(g:Str->Bool):Cx:={X with fn:=g}
def K5(g:Str->Bool)(X:Cx)(st:List Stmt)(t:TS):Prop:=
 ∀(js:Lo) (s:Shared) (Y:St) (H:Hp) (D:Ends),Inv X js Y H s->t D Y H->wpAny (model X.prog X.w) X.A (execs st X.env) (SP (X.low g) js D) X.xe s
def Gf(g:Str->Bool){CX:CXT}{P:Program}{w:World}{K:PySem.W.Frag}{mg:Lk}{base:Heap}{k:Nat}{f:Addr}{name qual:Str}{params:Arguments}{body:List Stmt}{scope:Scope}{dV kV doc pm cdv ct oc:Value}{an od:Option Addr}
  {osl:Array (Option Value)}{N ps:Lw}{sp:Sp} (lk:K.lookup f=some ⟨oc,od,.func (PySem.W.fnOf name qual params body scope dV kV doc pm an cdv ct),osl⟩) (hcd:PySem.W.codeIn K cdv qual=true) (S:gn N ps scope)
  (len:∀vs H Q E,sp vs H Q E->vs.length=ps.length)
  (hbody:∀ (A:Around) (outer:List Env) (s:Shared) (H:Hp) (vs:Lz) (Q:VK) (E:XK),eX k (A.deeper (envOfC qual scope s.heap.objs.size f cdv))->sp vs H Q E ->
   ∃t,K5 g (gI CX P w K mg base N qual scope f cdv A outer s H E) body t/\t {nx:=λ_ H'=>Q .non H',rt:=Q} (start N vs) H) :
  dR P w K mg base CX (k+1) f (PySem.W.fnOf name qual params body scope dV kV doc pm an cdv ct) ps sp:=by
 refine⟨len,λA outer s H args us vs Q E hr e0 hb r hsp=>?_⟩;have hl:=len _ _ _ _ hsp;have KX:K.In s.heap:=e0.mod.kin.keeps λb o e=>(e0.bs b o e).1;have lim:s.heap.NoLimit:=e0.mod.nolimit.keeps λb o e=>(e0.bs b o e).1;have hkind:∀y∈ps.zip us,scope.names.lookup y.1=some .local \/(scope.names.lookup y.1=some .cell/\((cellsFrom (s.heap.objs.size+1) scope.names []).lookup y.1).isSome=true):=λhz1 hy=>by
  obtain⟨n,v⟩:=hz1;rcases S.par n (List.of_mem_zip hy).1 with q|q
  .exact .inl q
  .exact .inr ⟨q,PySem.W.cellsFrom_some _ _ _ (.inl q)⟩
 refine codeAny_call_function hr.depth (KX _ _ lk) rfl S.co S.gen rfl (PySem.W.codeRec_of KX hcd) (hb _ _ _ _ ?_);refine wpAny_newFunctionEnv_cells S.kind hkind λenv he s1 x=>?_;subst he;refine⟨lim.keeps x.toInCall.keep,codeAny_func ?_⟩;obtain⟨t,ht,hq⟩:=hbody A outer s H vs Q E (hr.deeper _) hsp;have I:Inv (gI CX P w K mg base N qual scope f cdv A outer s H E) [] (start N vs) H s1:=wM S hr.hd e0 hl r x;refine wpAny_mono (ht [] s1 (start N vs) H _ I hq) (λfl s' hs=>?_) λe s' hs=>hs;have fin:∀{σ':St}{H':Hp}{v:V}{u:Value},Inv ((gI CX P w K mg base N qual scope f cdv A outer s H E).low g) [] σ' H' s'->bT v u->Q v H'->CE outer P w H s Q u s':=
  λ{σ' H' v u} J rv q=>⟨v,H',J.os,J.bare,J.base,J.hok,rv,q⟩
 cases fl with
 |ret u=>obtain⟨v,σ',H',J,rv,q⟩:=hs;exact fin J rv q
 |next=>obtain⟨σ',H',J,q⟩:=hs;exact fin (v:=V.non) J rfl q
 |brk=>obtain⟨_,_,_,q⟩:=hs;exact False.elim q
 |cont=>obtain⟨_,_,_,q⟩:=hs;exact False.elim q
def Dg{CX:CXT}{P:Program}{w:World}{K:PySem.W.Frag}{mg:Lk}{base:Heap}{k:Nat}{f:Addr}{name qual:Str}{params:Arguments}{body:List Stmt}{scope:Scope}{dV kV doc pm cdv ct oc:Value}{an od:Option Addr}
  {osl:Array (Option Value)}{N ps:Lw}{sp:Sp} (lk:K.lookup f=some ⟨oc,od,.func (PySem.W.fnOf name qual params body scope dV kV doc pm an cdv ct),osl⟩) (hcd:PySem.W.codeIn K cdv qual=true) (S:gn N ps scope)
  (len:∀vs H Q E,sp vs H Q E->vs.length=ps.length)
  (hbody:∀ (A:Around) (outer:List Env) (s:Shared) (H:Hp) (vs:Lz) (Q:VK) (E:XK),eX k (A.deeper (envOfC qual scope s.heap.objs.size f cdv))->sp vs H Q E ->
   ∃t,PSs (gI CX P w K mg base N qual scope f cdv A outer s H E) body t/\t {nx:=λ_ H'=>Q .non H',rt:=Q} (start N vs) H) :
  dR P w K mg base CX (k+1) f (PySem.W.fnOf name qual params body scope dV kV doc pm an cdv ct) ps sp:=Gf (λ_=>true) lk hcd S len hbody
end
section
section
variable{X:Cx}{x:Str}{p pos:Pos}{e:Expr}{es:List Expr}{t:TA}{id T:String}{r:Lz->Hp->VK->Prop}
def tCB(r:Lz->Hp->VK->Prop)(t:TA):TE:=λY H Q=>t Y H λvs H1=>r vs H1 Q
def mX(hc:e_ X (.builtin id) r)(hg:Gl X x)(hm:X.mg x=none)(hv:bootBuiltins x=some (.builtin id))(ha:PA X (e::es) t)(hn:x≠"__name__":=by decide)(hdb:Nd x:=by decide)
  (he:starEach (e::es) X.env=(false,eval e X.env)::starEach es X.env:=by rfl) (hpl:(backTo pos (starEach es X.env)).any (·.1)=false:=by rfl):PE X (.Call (.Name x p) (e::es) [] pos) (tCB r t):=by
 intro js s Y H Q I h;refine wpAny_Call_Name_kw (gA I hg hm hv ?_ hn hdb);exact PyProof.Rows.callWith_builtin1 (thn (ha pos js s Y H _ I h) λus s1 ⟨vs,H1,I1,r1,q1⟩=>hc js s1 Y H1 vs us Q I1 r1 q1) he hpl
def kL(hc:e_ X (.type T) r)(hg:Gl X x)(hm:X.mg x=none)(hv:bootBuiltins x=some (.type T))(ha:PA X (e::es) t)(hn:x≠"__name__":=by decide)(hdb:Nd x:=by decide)
  (he:starEach (e::es) X.env=(false,eval e X.env)::starEach es X.env:=by rfl) (hpl:(backTo pos (starEach es X.env)).any (·.1)=false:=by rfl):PE X (.Call (.Name x p) (e::es) [] pos) (tCB r t):=by
 intro js s Y H Q I h;refine wpAny_Call_Name_kw (gA I hg hm hv ?_ hn hdb);exact PyProof.Rows.callWith_type1 (thn (ha pos js s Y H _ I h) λus s1 ⟨vs,H1,I1,r1,q1⟩=>hc js s1 Y H1 vs us Q I1 r1 q1) he hpl
end
end
end L2
namespace HT
open PySem PyProof.Rows
noncomputable def lexLt:Lq->Lq->Bool
 | [],[]=>false
 | [],_::_=>true
 |_::_,[]=>false
 |x::xs,y::ys=>if x=y then lexLt xs ys else decide (x<y)
def t9(x y:Int)(xs ys:Lq):lexLt (x::xs) (y::ys)=if x=y then lexLt xs ys else decide (x<y):=rfl
def oe:lexLt [] []=false:=rfl
def nG(y:Int)(ys:Lq):lexLt [] (y::ys)=true:=rfl
def nH(x:Int)(xs:Lq):lexLt (x::xs) []=false:=rfl
def Ag(A:Around)(s:Shared)(a:Int)(t:Tok)(c:Int)(u:Tok):∃e,SeqAt.EqAt A s (.int a t) (.int c u) e/\(e=true↔a=c):=
 ⟨(a==c),SeqAt.EqAt.int_int a t c u,by simp⟩
def xU(A:Around)(s:Shared)(a:Int)(t:Tok)(c:Int)(u:Tok)(prog:Program)(w:World)(E:Lj)(Q:Lj)(h:Q (.bool (decide (a<c))) s) :
  wpAny (model prog w) A (richCompare .Lt (.int a t) (.int c u)) Q E s:=
 (PyProof.Rows.lt_int h:wpAny (model prog w) A (compareOp .Lt (.int a t) (.int c u)) Q E s)
section
open PySem.SeqAt
open PySem.AutoSeq1 (wpAny_loadPart')
open PySem.MeetsSeq PySem.MeetsSeq2 PySem.MeetsSeq3
theorem n6(l b:Addr)(items items2:Ly)(n n2:Nat)(dd dd2:Option Addr)(sl sl2:Array (Option Value))(ns ms:Lq)(hi:IntsAre items.toList ns)(hj:IntsAre items2.toList ms) :
  Meets (Builtin.«tuple.__lt__» ⟨[.ref l,.ref b],[]⟩)
   (λ_ R s=>s.heap.get? l=some { cls:=.type "tuple", dict:=dd,data:=.seq items n,slots:=sl }/\s.heap.get? b=some { cls:=.type "tuple", dict:=dd2,data:=.seq items2 n2,slots:=sl2 } /\
    R (.ok (.ret (.bool (lexLt ns ms)))) s):=
 .of_wp λprog w A R s h=>by
  obtain⟨hp,g,d,tk,os⟩:=s;obtain⟨hl,hb,h⟩:=h;have f2:=AutoSeq1.sub_tuple_tuple;have z1:items.size=ns.length:=by rw[<- hi.length];simp
  have z2:items2.size=ms.length:=by rw[<- hj.length];simp
  wp_walk using wpAny_loadPart' hl,wpAny_loadPart' hb,wpAny_forIn_list _ (λrest b s'=>b.1=none/\s'=⟨hp,g,d,tk,os⟩/\∃ (vs ws:Lr) (ns' ms':Lq),rest=vs.zip ws /\
   IntsAre vs ns'/\IntsAre ws ms'/\ns'.length+items2.size=ms'.length+items.size/\R (.ok (.ret (.bool (lexLt ns' ms')))) ⟨hp,g,d,tk,os⟩) _
  case turn=>
   rintro⟨y,x⟩ rest b s' ⟨hb',rfl,vs,ws,ns',ms',hz,hvi,hwi,hlen,hR⟩;cases hvi with
   |nil=>rw[List.zip_nil_left]at hz;cases hz
   |cons a t hvi'=>
    cases hwi with
    |nil=>rw[List.zip_nil_right]at hz;cases hz
    |cons c u hwi'=>
     rw[zip_cons_cons]at hz;injection hz with hyx hrest;injection hyx with hy hx;subst hy hx;rw[t9]at hR;simp only[length_cons]at hlen;obtain⟨e,he,hiff⟩:=Ag A.in1 ⟨hp,g,d,tk,os⟩ a t c u;refine wpAny_bind (he prog w _ _ ?_);cases e with
     |true=>
      rw[if_pos (hiff.mp rfl)]at hR
      wp_walk
      exact⟨rfl,rfl,_,_,_,_,hrest,hvi',hwi',by lia,hR⟩
     |false=>
      rw[if_neg (λq=>absurd (hiff.mpr q) Bool.false_ne_true)]at hR;have hri:=xU A.in1 ⟨hp,g,d,tk,os⟩ a t c u prog w
      wp_walk using hri
      exact⟨_,rfl,by simpa using hR⟩
  case fin=>
   rintro⟨b1,b2⟩ s' ⟨hb',rfl,vs,ws,ns',ms',hz,hvi,hwi,hlen,hR⟩;simp only at hb';subst hb';have hv:lexLt ns' ms'=decide (items.size<items2.size):=by
    cases hvi with
    |nil=>
     cases hwi with
     |nil=>simp only[length_nil]at hlen;rw[oe];exact(decide_eq_false ()).symm
     |cons c u hw=>simp only[length_nil,length_cons]at hlen;rw[nG];exact(decide_eq_true ()).symm
    |cons a t hv=>
     cases hwi with
     |nil=>simp only[length_nil,length_cons]at hlen;rw[nH];exact(decide_eq_false ()).symm
     |cons c u hw=>rw[zip_cons_cons]at hz;cases hz
   rw[hv]at hR
   wp_walk
   exact⟨_,rfl,by simpa[Builtin.Tuple.tupleCompareSizes]using hR⟩
  case h=>
   exact⟨rfl,rfl,items.toList,items2.toList,ns,ms,rfl,hi,hj,by lia,h⟩
end
section
variable{prog:Program}{w:World}{A:Around}{E:Lj}{s:Shared}
def lt_tupInts{l b:Addr}{items items2:Ly}{ns ms:Lq}{Q:Lj}(hl:IsTup s.heap l items)(hb:IsTup s.heap b items2)(hi:IntsAre items.toList ns)(hj:IntsAre items2.toList ms)
  (hu:A.units<cLine) (h:Q (.bool (lexLt ns ms)) s):wpAny (model prog w) A (compareOp .Lt (.ref l) (.ref b)) Q E s:=by
 obtain⟨⟨cls,dd,data,sl⟩,ho,hc,n,hd⟩:=id hl;obtain⟨⟨cls2,dd2,data2,sl2⟩,ho2,hc2,n2,hd2⟩:=id hb;simp only at hc hd hc2 hd2;subst hc hd hc2 hd2;exact richCompare_meets_room (op:=.Lt) ⟨_,ho,rfl⟩ ⟨_,ho2,rfl⟩ PySem.F.slot_tuple_lt PySem.F.entry_tuple_lt (PySem.F.args_tuple_lt_2 _ _) (n6 l b items items2 n n2 dd dd2 sl sl2 ns ms hi hj)
  ⟨ho,ho2,show Value.bool (lexLt ns ms)≠ Value.notImplemented/\Q (.bool (lexLt ns ms)) s from⟨(λx=>nomatch x),h⟩⟩ hu
noncomputable def sIx(n d:Nat):Lx->Nat
 |none=>d
 |some v=>if v<0 then(v+(n:Int)).toNat else min v.toNat n
def sIx_none(n d:Nat):sIx n d none=d:=rfl
theorem sIx_nat(n d k:Nat):sIx n d (some (k:Int))=min k n:=by show(if(k:Int)<0 then((k:Int)+(n:Int)).toNat else min (k:Int).toNat n)=min k n;rw[if_neg (),toNat_natCast]
end
end HT
namespace L2
open PySem PySem.Spec PyProof.Rows
section
abbrev TO:=St->Hp->(Lx->LA)->Prop
def PO(X:Cx)(e:Option Expr)(t:TO):Prop:=
 ∀(js:Lo) (s:Shared) (Y:St) (H:Hp) (Q:Lx->LA),Inv X js Y H s->t Y H Q ->
  wpAny (model X.prog X.w) X.A (evalPart e X.env) (λu s'=>∃o H',Inv X js Y H' s'/\IsPart u o/\Q o H') X.xe s
def A0:TO:=λ_ H Q=>Q none H
def HJ(t:TE):TO:=λY H Q=>t Y H λx H1=>∃i,x=.int i/\Q (some i) H1
def nP{ns:Lq}:∀{us:Lr},aY (ns.map V.int) us->IntsAre us ns:=by
 induction ns with
 |nil=>intro us r;rw[map_nil]at r;cases r;exact .nil
 |cons n ns ih=>
  intro us r;cases r with
  |cons r1 r2=>obtain⟨t,e⟩:=r1;subst e;exact .cons n t (ih r2)
section
variable{X:Cx}{e:Expr}{te:TE}{lo hi:Option Expr}{tl th:TO}{pos p2:Pos}
def BJ:PO X none A0:=by intro js s Y H Q I h;exact wpAny_pure ⟨none,H,I,.none,h⟩
def BI(h:PE X e te):PO X (some e) (HJ te):=by intro js s Y H Q I hw;rw[evalPart_some];refine thn (h js s Y H _ I hw) λu s1 hz1=>?_;obtain⟨x,H1,I1,r1,q1⟩:=hz1;obtain⟨i,rfl,q⟩:=q1;obtain⟨t,rfl⟩:=r1;exact⟨some i,H1,I1,.int i t,q⟩
def SlR(X:Cx)(r:V->Lx->Lx->Hp->VK->Prop):Prop:=
 ∀(js:Lo) (s:Shared) (Y:St) (H:Hp) (x:V) (v vl vu:Value) (lo hi:Lx) (sl:Addr) (Q:VK),Inv X js Y H s->bT x v->s.heap.IsSliceOf sl vl vu .none->IsPart vl lo->IsPart vu hi->r x lo hi H Q ->
  ∃T id,typeLookup (.type T) "__getitem__"=pure (some (.builtin id))/\s.TypeIs v T/\wpAny (model X.prog X.w) X.A (getItem v (.ref sl)) (EP X js Y Q) X.xe s
def tSl(r:V->Lx->Lx->Hp->VK->Prop)(te:TE)(tl th:TO):TE:=λY H Q=>te Y H λx H1=>tl Y H1 λl H2=>th Y H2 λu H3=>r x l u H3 Q
def yh{r:V->Lx->Lx->Hp->VK->Prop}(hr:SlR X r)(he:PE X e te)(hl:PO X lo tl)(hu:PO X hi th):PE X (.Subscript e (.Slice lo hi none p2) pos) (tSl r te tl th):=by intro js s Y H Q I h;refine Subscript_ (thn (he js s Y H _ I h) λv s1 zz=>?_);obtain⟨x,H1,I1,r1,q1⟩:=zz;refine wpAny_Slice (thn (hl js s1 Y H1 _ I1 q1) λvl s2 ⟨l,H2,I2,pl,q2⟩=>thn (hu js s2 Y H2 _ I2 q2) λvu s3 zz=>?_);obtain⟨u,H3,I3,pu,q3⟩:=zz;refine wpAny_pure ?_;have I4:Inv X js Y H3 {s3 with heap:=s3.heap.push {cls:=.type "slice",data:=.fields #[vl,vu,.none]}}:=I3.kept (t':=s3.toks) λb ob q=>get?_push_of_some _ q;obtain⟨T,id,hT,ht,hg⟩:=hr js {s3 with heap:=s3.heap.push {cls:=.type "slice",data:=.fields #[vl,vu,.none]}} Y H3 x v vl vu l u s3.heap.objs.size Q I4 r1 (Heap.IsSliceOf.new ..) pl pu q3;exact tail_any ht hT hg (by with_unfolding_all rfl)
def CF(xs:Lz)(lo hi:Lx):Lz:=(xs.drop (HT.sIx xs.length 0 lo)).take (HT.sIx xs.length xs.length hi-HT.sIx xs.length 0 lo)
theorem sx(xs:Lz)(lo hi:Lx):(CF xs lo hi).length<=xs.length:=by
 unfold CF;rw[length_take,List.length_drop]
 lia
def Ia(K:PySem.W.Frag):R2:=λx y H Q=>∃a b ns ms,x=.ref a/\y=.ref b/\SqT K H a (ns.map V.int)/\SqT K H b (ms.map V.int)/\Q (.bl (HT.lexLt ns ms)) H
def E1(hu:X.A.units<cLine):OpR X (compareOp .Lt) (Ia X.K):=by intro js s Y H x y v u Q I rx ry h;obtain⟨a,b,ns,ms,rfl,rfl,ha,hb,q⟩:=h;cases rx;cases ry;obtain⟨its,r1,p1,_⟩:=I.tuple ha;obtain⟨its2,r2,p2,_⟩:=I.tuple hb;have i1:IntsAre its.toArray.toList ns:=nP r1;have i2:IntsAre its2.toArray.toList ms:=nP r2;exact HT.lt_tupInts p1 p2 i1 i2 hu ⟨.bl (HT.lexLt ns ms),H,I,rfl,q⟩
end
end
section
noncomputable def ixN(n:Nat)(i:Int):Option Nat:=if 0<=i then(if i<n then some i.toNat else none)else if -(n:Int)<= i then some (i+n).toNat else none
def atI{α:Type}(xs:List α)(i:Int):Option α:=(ixN xs.length i).bind λj=>xs[j]?
theorem vb{n:Nat}{i:Int}{j:Nat}(h:ixN n i=some j):seqIndex? i n=some j/\j<n/\-(n:Int)<= i/\i<n:=by
 unfold ixN at h;by_cases h0:0<=i
 .rw[if_pos h0]at h;by_cases h1:i<n
  .rw[if_pos h1]at h;have e:i.toNat=j:=Option.some.inj h;exact⟨by rw[seqIndex_of h0 h1,e],by lia,by lia,h1⟩
  .rw[if_neg h1]at h;cases h
 .rw[if_neg h0]at h;by_cases h1:-(n:Int)<= i
  .rw[if_pos h1]at h;have e:(i+n).toNat=j:=Option.some.inj h;exact⟨by rw[seqIndex_neg () h1,e],by lia,h1,by lia⟩
  .rw[if_neg h1]at h;cases h
def qz{α:Type}{xs:List α}{i:Int}{v:α}(h:atI xs i=some v):∃j,seqIndex? i xs.length=some j/\xs[j]?=some v/\j<xs.length/\-(xs.length:Int)<= i/\i<xs.length:=by
 unfold atI at h;cases e:ixN xs.length i with
 |none=>rw[e]at h;cases h
 |some j=>rw[e]at h;obtain⟨h1,h2,h3,h4⟩:=vb e;exact⟨j,h1,h,h2,h3,h4⟩
def mf(b:Expr):Prop:=∀o i,subscripted b false o i=operate [o,i] (getItem o i)
def IxR(X:Cx)(r:R2):Prop:=
 ∀(value slice:Expr) (js:Lo) (s:Shared) (Y:St) (H:Hp) (x y:V) (v u:Value) (Q:VK),Inv X js Y H s->bT x v->bT y u->r x y H Q ->
  subscripted slice false v u=operate [v,u] (getItem v u)->wpAny (model X.prog X.w) X.A (subscriptTail value slice v u) (EP X js Y Q) X.xe s
def MtR(X:Cx)(id:String)(r:V->Lz->Hp->VK->Prop):Prop:=
 ∀(js:Lo) (s:Shared) (Y:St) (H:Hp) (x:V) (xs:Lz) (v:Value) (us:Lr) (Q:VK),Inv X js Y H s->bT x v->aY xs us->r x xs H Q ->
  wpAny (model X.prog X.w) X.A (call (.builtin id) (v::us)) (EP X js Y Q) X.xe s
section
variable{X:Cx}{a b:Expr}{ta tb:TE}{pos:Pos}
def IxR.or{r r':R2}(h:IxR X r)(h':IxR X r'):IxR X (λx y H Q=>r x y H Q\/r' x y H Q):=by
 intro value slice js s Y H x y v u Q I rx ry q hs;rcases q with q|q
 .exact h value slice js s Y H x y v u Q I rx ry q hs
 .exact h' value slice js s Y H x y v u Q I rx ry q hs
def Ii{r:R2}(hr:IxR X r)(ha:PE X a ta)(hb:PE X b tb)(hs:mf b):PE X (.Subscript a b pos) (tOp r ta tb):=by intro js s Y H Q I h;exact Subscript_ (GO ha hb I h λv u s2 x y H2 I2 rx ry q=>hr a b js s2 Y H2 x y v u Q I2 rx ry q (hs _ _))
def ED(K:PySem.W.Frag):R2:=λx y H Q=>∃p xs i v,x=.ref p/\y=.int i/\SqL K H p xs/\atI xs i=some v/\Q v H
def EB(K:PySem.W.Frag):R2:=λx y H Q=>∃p xs i v,x=.ref p/\y=.int i/\SqT K H p xs/\atI xs i=some v/\Q v H
def EC:R2:=λx y H Q=>∃z i c,x=.str z/\y=.int i/\z.length<=sizeLine/\atI z.cps.toList i=some c/\Q (.str ⟨#[c]⟩) H
theorem Cf:IxR X (ED X.K):=by
 intro value slice js s Y H x y v u Q I rx ry h hs;obtain⟨p,xs,i,z,rfl,rfl,hq,he,q⟩:=h;cases rx;obtain⟨t,rfl⟩:=ry;obtain⟨its,r,pl,hz⟩:=I.list hq;obtain⟨j,h1,h2,h3,h4,h5⟩:=qz he;obtain⟨w,ew,rw'⟩:=r.get h2;have hl:=r.length;have hn:=nE;have fin:EP X js Y Q w s:=⟨z,H,I,rw',q⟩
 by_cases h0:0<=i
 .have hj:i.toNat=j:=by rw[seqIndex_of h0 h5]at h1;exact Option.some.inj h1
  exact item_listR pl.isList h0 () (by rw[hj];simpa using ew) fin hs
 .have hj:(i+(its.toArray.size:Int)).toNat=j:=by rw[seqIndex_neg () h4]at h1;rw[size_toArray,<- hl];exact Option.some.inj h1
  exact subscriptTail_builtinR pl.isList.typeIs slot_list_getitem.lookup
   (wpAny_getItem_list_neg pl.isList () (by rw[size_toArray]<;>lia) () (by rw[hj];simpa using ew) ⟨rfl,fin⟩) hs
def F5:IxR X (EB X.K):=by
 intro value slice js s Y H x y v u Q I rx ry h hs;obtain⟨p,xs,i,z,rfl,rfl,hq,he,q⟩:=h;cases rx;obtain⟨t,rfl⟩:=ry;obtain⟨its,r,pl,hz⟩:=I.tuple hq;obtain⟨j,h1,h2,h3,h4,h5⟩:=qz he;obtain⟨w,ew,rw'⟩:=r.get h2;have hl:=r.length;have hn:=nE;have fin:EP X js Y Q w s:=⟨z,H,I,rw',q⟩
 exact subscriptTail_builtinR pl.typeIs slot_tuple_getitem.lookup
  (getItem_tuple pl () () (by rw[size_toArray,<- hl];exact h1) (by simpa using ew) ⟨rfl,fin⟩) hs
theorem F7:IxR X EC:=by
 intro value slice js s Y H x y v u Q I rx ry h hs;obtain⟨z,i,c,rfl,rfl,hz,he,q⟩:=h;obtain⟨t,rfl⟩:=rx;obtain⟨t',rfl⟩:=ry;obtain⟨j,h1,h2,h3,h4,h5⟩:=qz he;have hl:z.cps.toList.length=z.length:=by simp[Str.length]
 rw[hl]at h1 h4 h5;have hn:=nE;exact tail_any (typeIs_str s z t) slot_str_getitem.lookup (getItem_str (c:=c) (by
  have e1:decide (i < -(2 ^ 63:Int))=false:=decide_eq_false ();have e2:decide (i >= 2 ^ 63)=false:=decide_eq_false ();rw[e1,e2,Bool.or_false]) (by rw[h1];simpa using h2) ⟨.str ⟨#[c]⟩,H,I.tok _,⟨_,rfl⟩,q⟩) hs
def rIx(K:PySem.W.Frag):R2:=λx y H Q=>ED K x y H Q\/EB K x y H Q\/EC x y H Q
def F8:IxR X (rIx X.K):=Cf.or (F5.or F7)
def t5(its:Lr)(n j:Nat)(u:Value):Obj.mapSeq (·.setIfInBounds j u) {cls:=.type "list",data:=.seq its.toArray n}={cls:=.type "list",data:=.seq (its.set j u).toArray n}:=by simp[Obj.mapSeq]
def Inv.lst{js:Lo}{Y:St}{H:Hp}{s:Shared}{p:Addr}{xs:Lz}(I:Inv X js Y H s)(h:H p=some (.lst xs)) :
  ∃(its:Lr) (n:Nat),aY xs its/\s.heap.get? p=some {cls:=.type "list",data:=.seq its.toArray n}/\xs.length<=sizeLine:=by
 obtain⟨z,its,n,r,e⟩:=I.hok p _ h;exact⟨its,n,r,e,z⟩
def Inv.lstUpd{js:Lo}{Y:St}{H:Hp}{s:Shared}{p:Addr}{xs ys:Lz}{its its':Lr}{n n':Nat}{f:Obj->Obj}(I:Inv X js Y H s)(h:H p=some (.lst xs))
  (ho:s.heap.get? p=some {cls:=.type "list",data:=.seq its.toArray n}) (hf:f {cls:=.type "list",data:=.seq its.toArray n}={cls:=.type "list",data:=.seq its'.toArray n'}) (r:aY ys its') (hz:ys.length<=sizeLine) (t:Nat) :
  Inv X js Y (upd H p (.lst ys)) {s with heap:=s.heap.update p f,toks:=t}:=by
 have e:(s.heap.update p f).get? p=some {cls:=.type "list",data:=.seq its'.toArray n'}:=by rw[Heap.get?_update_self f ho (by rw[hf]<;>rfl),hf]
 refine I.write (by rw[h];trivial) (.inl rfl) (λb u hb q=>(get?_update_other _ _ (Ne.symm hb)).trans q) ⟨_,e⟩ ?_;exact⟨hz,its',n',r,e⟩
def H_:V->V->V->Hp->(LA)->Prop:=λo i v H Q=>∃p xs k j,o=.ref p/\i=.int k/\H p=some (.lst xs)/\ixN xs.length k=some j/\Q (upd H p (.lst (xs.set j v)))
def xF:JL X H_:=by
 intro js s Y H o i v ov iv u Q I ro ri rv h;obtain⟨p,xs,k,j,rfl,rfl,hp,hj,q⟩:=h;cases ro;obtain⟨t,rfl⟩:=ri;obtain⟨its,n,r,ho,hz⟩:=I.lst hp;obtain⟨h1,h2,h3,h4⟩:=vb hj;have hl:=r.length;have hn:=nE;have I':Inv X js Y (upd H p (.lst (xs.set j v))) {s with heap:=s.heap.update p (Obj.mapSeq (·.setIfInBounds j u))}:=
  I.lstUpd hp ho (t5 its n j u) (r.set rv j) (by rw[length_set];exact hz) s.toks
 by_cases h0:0<=k
 .have hk:k.toNat=j:=by rw[seqIndex_of h0 h4]at h1;exact Option.some.inj h1
  exact PySem.W.ki_setAt ho h0 () (by rw[size_toArray,<- hl];exact h4) (by rw[hk];exact⟨_,I',q⟩)
 .have hk:(k+(its.toArray.size:Int)).toNat=j:=by rw[seqIndex_neg () h3]at h1;rw[size_toArray,<- hl];exact Option.some.inj h1
  exact PySem.W.ki_setBack ho () (by rw[size_toArray,<- hl];exact h3) () (by rw[hk];exact⟨_,I',q⟩)
theorem pO(lo hi:Lx)(n:Nat):(sliceBounds lo hi none n).1=((HT.sIx n 0 lo:Nat):Int)/\(sliceBounds lo hi none n).2.1=((HT.sIx n n hi:Nat):Int)/\(sliceBounds lo hi none n).2.2=1:=by
 refine⟨?_,?_,rfl⟩
 .cases lo with
  |none=>simp[sliceBounds,HT.sIx]
  |some i=>
   simp only[sliceBounds,HT.sIx,Option.getD_none,show(1:Int)>0 by decide,if_true];by_cases h:i<0
   .simp only[h,if_true]<;>lia
   .simp only[h,if_false]<;>lia
 .cases hi with
  |none=>simp[sliceBounds,HT.sIx]
  |some i=>
   simp only[sliceBounds,HT.sIx,Option.getD_none,show(1:Int)>0 by decide,if_true];by_cases h:i<0
   .simp only[h,if_true]<;>lia
   .simp only[h,if_false]<;>lia
def n8(its:Lr)(lo hi:Lx):slicePick its.toArray lo hi none=((its.drop (HT.sIx its.length 0 lo)).take (HT.sIx its.length its.length hi-HT.sIx its.length 0 lo)).toArray:=by obtain⟨h1,h2,h3⟩:=pO lo hi its.toArray.size;unfold slicePick;rw[h1,h2,h3];simp only[sliceRange_one,pick_run]<;>rfl
def Kw(K:PySem.W.Frag):V->Lx->Lx->Hp->VK->Prop:=λx lo hi H Q=>∃a xs,x=.ref a/\SqL K H a xs/\∀p,H p=none->Q (.ref p) (upd H p (.lst (CF xs lo hi)))
theorem A9:SlR X (Kw X.K):=by intro js s Y H x v vl vu lo hi sl Q I rx hs pl pu h;obtain⟨a,xs,rfl,hx,q⟩:=h;cases rx;obtain⟨its,r,ht,hz⟩:=I.list hx;have hlen:=r.length;refine⟨"list",_,slot_list_getitem.lookup,ht.isList.typeIs,?_⟩;refine wpAny_getItem_list_slice ht.isList hs pl pu .none () ?_ (by rw[size_toArray]<;>lia);rw[n8,<- hlen];refine⟨.ref s.heap.objs.size,_,I.laid (t':=s.toks) (λb ob q=>get?_push_of_some _ q) (Nat.le_refl _) ?_,rfl,q _ (I.hok.fresh (Nat.le_refl _))⟩;exact⟨Nat.le_trans (sx xs lo hi) hz,_,0,(r.drop (HT.sIx xs.length 0 lo)).take (HT.sIx xs.length xs.length hi-HT.sIx xs.length 0 lo),get?_push_size _ rfl⟩
theorem qv:e_ X (.builtin "len") (λxs H Q=>∃p ys,xs=[.ref p]/\(SqL X.K H p ys\/SqT X.K H p ys)/\Q (.int ys.length) H):=by
 intro js s Y H xs us Q I r h;obtain⟨p,ys,rfl,hq,q⟩:=h;obtain⟨u,rfl,rx⟩:=eY r;cases rx;have hn:=nE;rcases hq with hq|hq
 .obtain⟨its,r',pl,hz⟩:=I.list hq;have hlen:=r'.length;exact Calls.call_len_list pl.isList (by simp<;>lia) ⟨.int ys.length,H,I.tok _,⟨s.toks+1,by rw[size_toArray,hlen]⟩,q⟩
 .obtain⟨its,r',pl,hz⟩:=I.tuple hq;have hlen:=r'.length;exact len_tuple pl (by simp<;>lia) ⟨.int ys.length,H,I.tok _,⟨s.toks+1,by rw[size_toArray,hlen]⟩,q⟩
def qu:e_ X (.type "list") (λxs H Q=>∃p ys,xs=[.ref p]/\(SqL X.K H p ys\/SqT X.K H p ys)/\∀l,H l=none->Q (.ref l) (upd H l (.lst ys))):=by
 intro js s Y H xs us Q I r h;obtain⟨p,ys,rfl,hq,q⟩:=h;obtain⟨u,rfl,rx⟩:=eY r;cases rx;have fin:∀(its:Lr),aY ys its->ys.length<=sizeLine->∀(h':Heap) (c':Nat),(∀b o',s.heap.get? b=some o'->h'.get? b=some o')->
   h'.get? s.heap.objs.size=some {cls:=.type "list",dict:=none,data:=.seq its.toArray c',slots:=#[]}->EP X js Y Q (.ref s.heap.objs.size) {s with heap:=h'}:=λits r' hz h' c' kp e=>
  ⟨.ref s.heap.objs.size,_,I.laid (t':=s.toks) kp (Nat.le_refl _) (show cO X.prog X.w _ h' _ (.lst ys)from⟨hz,its,c',r',e⟩),rfl,q _ (I.hok.fresh (Nat.le_refl _))⟩
 rcases hq with hq|hq
 .obtain⟨its,r',pl,hz⟩:=I.list hq;have hlen:=r'.length;obtain⟨o,ho,hc,n,hd⟩:=pl.isList;exact call_list_seq p (.inl rfl) ho hc hd (λh' c' kp e=>fin its r' hz h' c' kp e) (by simp<;>lia)
 .obtain⟨its,r',pl,hz⟩:=I.tuple hq;have hlen:=r'.length;obtain⟨o,ho,hc,n,hd⟩:=pl;exact call_list_seq p (.inr rfl) ho hc hd (λh' c' kp e=>fin its r' hz h' c' kp e) (by simp<;>lia)
def oj:e_ X (.type "tuple") (λxs H Q=>∃p ys,xs=[.ref p]/\((SqL X.K H p ys/\∀l,H l=none->Q (.ref l) (upd H l (.tup ys)))\/(SqT X.K H p ys/\Q (.ref p) H))):=by
 intro js s Y H xs us Q I r h;obtain⟨p,ys,rfl,h⟩:=h;obtain⟨u,rfl,rx⟩:=eY r;cases rx;rcases h with⟨hq,q⟩ |⟨hq,q⟩
 .obtain⟨its,r',pl,hz⟩:=I.list hq;have hlen:=r'.length;refine call_tuple_list pl.isList (λh' kp=>?_) (by simp<;>lia);have I1:Inv X js Y H {s with heap:=h'}:=I.kept (t':=s.toks) kp;have I2:Inv X js Y (upd H h'.objs.size (.tup ys)) {s with heap:=h'.push {cls:=.type "tuple",data:=.seq its.toArray}}:=
   I1.laid (t':=s.toks) (λb o e=>get?_push_of_some _ e) (Nat.le_refl _) (show cO X.prog X.w _ _ _ (.tup ys)from⟨hz,its,r',IsTup.new _ _⟩)
  exact⟨.ref h'.objs.size,_,I2,rfl,q _ (I1.hok.fresh (Nat.le_refl _))⟩
 .obtain⟨its,r',pl,hz⟩:=I.tuple hq;exact call_tuple_same pl ⟨.ref p,H,I,rfl,q⟩
def tyV(K:PySem.W.Frag)(T:String)(x:V)(H:Hp):Prop:=match x with
 |.str _=>T="str"
 |.int _=>T="int"
 |.ref p=>(T="list" /\ ∃xs,SqL K H p xs)\/(T="tuple" /\ ∃o,K.lookup p=some o/\o.cls=.type "tuple" /\ o.dict=none)\/
   (T="dict" /\((∃kvs,H p=some (.dK kvs))\/ ∃kvs,H p=some (.dT kvs)))\/(T="set" /\ ∃S n,H p=some (.set S n))
 |_=>False
def D9{js:Lo}{Y:St}{H:Hp}{s:Shared}{T:String}{x:V}{v:Value}(I:Inv X js Y H s)(r:bT x v)(ty:tyV X.K T x H) :
  s.TypeIs v T/\∀a,v=.ref a->∃ob,s.heap.get? a=some ob/\ob.dict=none:=by
 cases x with
 |str z=>obtain⟨t,rfl⟩:=r;cases(show T="str" from ty);exact⟨typeIs_str s z t,λ_ e=>nomatch e⟩
 |int i=>obtain⟨t,rfl⟩:=r;cases(show T="int" from ty);exact⟨typeIs_int s i t,λ_ e=>nomatch e⟩
 |ref p=>
  cases r;rcases ty with⟨rfl,xs,hq⟩ |⟨rfl,o,hk,hc,hd⟩ |⟨rfl,hk⟩ |⟨rfl,S,n,hk⟩
  .obtain⟨its,_,pl,_⟩:=I.list hq;refine⟨pl.isList.typeIs,λa e=>?_⟩;cases e;obtain⟨o,n,e,c,hd,_⟩:=pl;exact⟨o,e,hd⟩
  .refine⟨⟨o,I.kIn p o hk,hc⟩,λa e=>?_⟩;cases e;exact⟨o,I.kIn _ o hk,hd⟩
  .have z:∃o,s.heap.get? p=some o/\o.ExactDict:=by
    rcases hk with⟨kvs,hk⟩ |⟨kvs,hk⟩
    .obtain⟨_,_,_,_,o,_,_,e,ex,_⟩:=I.hok p _ hk;exact⟨o,e,ex⟩
    .obtain⟨_,_,_,_,o,_,_,e,ex,_⟩:=I.hok p _ hk;exact⟨o,e,ex⟩
   obtain⟨o,e,ex⟩:=z;refine⟨⟨o,e,ex.1⟩,λa e2=>?_⟩;cases e2;exact⟨o,e,ex.2.1⟩
  .obtain⟨o,_,_,_,e,ex,_⟩:=I.hok p _ hk;refine⟨⟨o,e,ex.1⟩,λa e2=>?_⟩;cases e2;exact⟨o,e,ex.2.1⟩
 |_=>exact False.elim ty
def tBM(K:PySem.W.Frag)(T:String)(r:V->Lz->Hp->VK->Prop)(to:TE)(t:TA):TE:=λY H Q=>to Y H λx H1=>tyV K T x H1/\t Y H1 λxs H2=>r x xs H2 Q
variable{o e:Expr}{es:List Expr}{to:TE}{t:TA}{name:Str}{apos cpos:Pos}{T id:String}{r:V->Lz->Hp->VK->Prop}
def uX(pa:PlainAttrs T)(slot:Slot T name id)(hty:typeOf (.builtin id)=pure (.type "method_descriptor"))(hm:MtR X id r)(ho:PE X o to)(ha:PA X (e::es) t)
  (hbase:attributeBase o name X.env (eval o X.env)=eval o X.env:=by rfl)
  (hfew:((backTo cpos (starEach (e::es) X.env)).all (λx=>!x.1) && (backToKw cpos (keywordEach [] X.env)).all (λx=>x.1.isSome)
   && decide ((e::es).length+([]:List Keyword).length+(if([]:List Keyword).isEmpty then 0 else 1)<30))=true:=by rfl)
  (hline:(apos.endLine==cpos.line)=true:=by rfl) (hs:starEach (e::es) X.env=(false,eval e X.env)::starEach es X.env:=by rfl) (hplain:(backTo cpos (starEach es X.env)).any (·.1)=false:=by rfl) :
  PE X (.Call (.Attribute o name apos) (e::es) [] cpos) (tBM X.K T r to t):=by
 intro js s Y H Q I h;refine wpAny_Call_method_late hbase hfew hline rfl (thn (ho js s Y H _ I h) λv s1 zz=>?_);obtain⟨x,H1,I1,r1,ty,q1⟩:=zz;obtain⟨h1,h2⟩:=D9 I1 r1 ty;refine⟨T,id,pa,slot,hty,h1,h2,?_⟩;have hA:=ha cpos js s1 Y H1 _ I1 q1;rw[hs]at hA ⊢;refine Calls.callWith_builtin (by show(false ||(backTo cpos (starEach es X.env)).any (·.1))=false;rw[hplain]<;>rfl) (Calls.evalArgs_plain ?_);exact thn hA λus s2 ⟨vs,H2,I2,r2,q2⟩=>hm js s2 Y H2 x vs v us Q I2 r1 r2 q2
end
end
section
def MtM(X:Cx)(id:String)(r:V->Lz->Hp->VK->Prop):Prop:=
 ∀(js:Lo) (s:Shared) (Y:St) (H:Hp) (x:V) (xs:Lz) (v:Value) (us:Lr) (Q:VK),Inv X js Y H s->bT x v->aY xs us->r x xs H Q ->
  wpAny (model X.prog X.w) X.A (call (.builtin id) (v::us)) (EP X js Y Q) X.xe s
def aY.one{x:V}{us:Lr}(h:aY [x] us):∃u,us=[u]/\bT x u:=by
 cases h with
 |cons r t=>cases t;exact⟨_,rfl,r⟩
def aY.eraseIdx:∀{xs:Lz}{us:Lr} (i:Nat),aY xs us->aY (xs.eraseIdx i) (us.eraseIdx i)
 |_,_,_,.nil=>.nil
 |_,_,0,.cons _ t=>t
 |_,_,i+1,.cons r t=>.cons r (aY.eraseIdx i t)
def oY{α:Type}:∀(l:List α) (i:Nat),(l.eraseIdx i).length<=l.length
 | [],_=>Nat.le_refl _
 |_::_,0=>le_succ _
 |_::r,i+1=>Nat.succ_le_succ (oY r i)
section
variable{X:Cx}{js:Lo}{Y:St}{H:Hp}{s:Shared}{l b:Addr}{xs ys zs:Lz}
def Inv.lset{its its':Lr}{n:Nat}{f:Ly->Ly}{t':Nat}(I:Inv X js Y H s)(hH:H l=some (.lst xs))
  (e:s.heap.get? l=some {cls:=.type "list",data:=.seq its.toArray n}) (hf:f its.toArray=its'.toArray) (hv:aY ys its') (hz:ys.length<=sizeLine) :
  Inv X js Y (upd H l (.lst ys)) {s with heap:=s.heap.update l (Obj.mapSeq f),toks:=t'}:=by
 have q:=PySem.IsL.update e f;rw[hf]at q;refine I.write (by rw[hH];exact trivial) (.inl rfl) (λb' u hb hu=>(get?_update_other s.heap (Obj.mapSeq f) (Ne.symm hb)).trans hu) ⟨_,q⟩ ?_;exact⟨hz,its',_,hv,q⟩
def Inv.lnew{its:Lr}{t':Nat}(I:Inv X js Y H s)(hv:aY ys its)(hz:ys.length<=sizeLine) :
  Inv X js Y (upd H s.heap.objs.size (.lst ys)) {s with heap:=s.heap.push {cls:=.type "list",data:=.seq its.toArray},toks:=t'}:=
 I.laid (λ_ _ q=>get?_push_of_some _ q) (Nat.le_refl _) ⟨hz,its,0,hv,get?_push_size _ rfl⟩
def Inv.fresh(I:Inv X js Y H s):H s.heap.objs.size=none:=I.hok.fresh (Nat.le_refl _)
def Inv.lstM(I:Inv X js Y H s)(hH:H l=some (.lst xs)):xs.length<=sizeLine/\∃(its:Lr) (n:Nat),aY xs its/\xs.length=its.length/\s.heap.get? l=some {cls:=.type "list",data:=.seq its.toArray n}:=by obtain⟨z,its,n,r,e⟩:=I.hok l _ hH;exact⟨z,its,n,r,r.length,e⟩
end
section
variable{X:Cx}
def BB:V->Lz->Hp->VK->Prop:=λx vs H Q=>∃l xs y,x=.ref l/\vs=[y]/\H l=some (.lst xs)/\xs.length<sizeLine/\Q .non (upd H l (.lst (xs++[y])))
theorem kS:MtM X "list.append" BB:=by
 intro js s Y H x vs v us Q I rx rv h;obtain⟨l,xs,y,rfl,rfl,hH,hz,q⟩:=h;cases rx;obtain⟨u,rfl,ru⟩:=rv.one;obtain⟨z,its,n,r,hl,e⟩:=I.lstM hH;refine call_meets F.slot_list_append ⟨_,e,rfl⟩ F.entry_list_append (F.args_list_append_2 _ _) (PySem.list_append l its.toArray n u (by rw[size_toArray];lia)) ⟨e,?_⟩;refine⟨.non,_,I.lset (its':=its++[u]) hH e () (r.append (.cons ru .nil)) ?_,rfl,q⟩;rw[length_append,List.length_singleton]
 lia
def EA:V->Lz->Hp->VK->Prop:=λx vs H Q=>∃l xs i k y,x=.ref l/\vs=[.int i]/\H l=some (.lst xs)/\-(2 ^ 63)<= i/\i<2 ^ 63/\seqIndex? i xs.length=some k/\xs[k]?=some y/\Q y (upd H l (.lst (xs.eraseIdx k)))
theorem yR:MtM X "list.pop" EA:=by
 intro js s Y H x vs v us Q I rx rv h;obtain⟨l,xs,i,k,y,rfl,rfl,hH,h1,h2,hk,hy,q⟩:=h;cases rx;obtain⟨u,rfl,ru⟩:=rv.one;obtain⟨t,rfl⟩:=ru;obtain⟨z,its,n,r,hl,e⟩:=I.lstM hH;obtain⟨w,hw,rw'⟩:=r.get hy;refine call_meets F.slot_list_pop ⟨_,e,rfl⟩ F.entry_list_pop (F.args_list_pop_2 _ _)
  (MeetsSeq.list_pop_at l its.toArray n i t k w (fitsIndex_both h1 h2) (by rw[size_toArray,<- hl];exact hk) (by rw[<- Array.getElem?_toList];exact hw) (by rw[size_toArray];lia)) ⟨e,?_⟩
 refine⟨y,_,I.lset (its':=its.eraseIdx k) hH e ?_ (r.eraseIdx k) ?_,rw',q⟩
 .show its.toArray.eraseIdxIfInBounds k=(its.eraseIdx k).toArray;rw[List.eraseIdxIfInBounds_toArray]
 .have:=oY xs k
  lia
end
end
end L2
namespace Att
open PySem PySem.W PySem.Calls PyProof.Rows
def lW{P:Params}{h:Heap}:∀(ns:Lq) (vs:Lr),WellAll P h vs (ns.map WData.int)->IntsAre vs ns:=by
 intro ns
 induction ns with
 |nil=>intro vs w;cases w;exact .nil
 |cons n ns ih=>
  intro vs w;cases w with
  |cons a b=>cases a;exact .cons _ _ (ih _ b)
theorem vW{l:OpenLaw}{n:Nat}(hn:l.most=some n){P:Params}{h:Heap}{args:List WData}{vals:Lr}
  (hpre:l.row.toRowW.claim.pre args=true) (hwl:WellAll P h vals args) :
  ∃a vs ns,vals=[Value.ref a]/\args=[WData.list (ns.map WData.int)]/\h.get? a=some {cls:=.type "list",data:=.seq vs.toArray}/\IntsAre vs ns/\ns.length<=n:=by
 have hsh:WShape.hasAll [] args [.list .int]=true:=(pre_splitW hpre).1;have hc:l.pre.holds [] {args:=args}=true:=(pre_splitW hpre).2;obtain⟨d,r,rfl,h1,h2⟩:=hasAllW_cons hsh;obtain rfl:=hasAllW_nil h2;obtain⟨xs,rfl,h3⟩:=hasW_list h1;obtain⟨ns,rfl⟩:=items_int h3;have hlen:ns.length<=n:=by
  unfold OpenLaw.pre at hc;have h4:(WTm.not (.lt (.lit (.int (n:Int))) (.len (.arg 0)))).holds [] {args:=[.list (ns.map .int)]}=true:=by have h4:=(holds_andW hc).1;rw[hn]at h4;exact h4
  have h5:=condW_of h4 (w_not (w_lt w_lit (w_len_list (w_arg rfl))));rw[length_map]at h5;refine Nat.le_of_not_lt λq=>?_;have q':(n:Int) <((ns.length:Nat):Int):=by lia
  first
   |(rw[decide_eq_true q']at h5;exact absurd h5 ())
   |(simp at h5;lia)
 cases hwl with
 |cons w1 w2=>
  cases w2;cases w1 with
  |list ho hall=>exact⟨_,_,ns,rfl,rfl,ho,lW ns _ hall,hlen⟩
def we(l:OpenLaw)(args:List WData):l.row.toRowW.claim.post args (.bool true) args=true:=
 postW_of
  (show WShape.has [] (.bool true) .bool=true by first|rfl|decide|simp[WShape.has])
  (show(WTm.eq .res (.lit (.bool true))).value [] {args:=args,res:=some (.bool true),after:=args}=some (.bool (true==true))from w_eq_bool (w_res rfl) w_lit) rfl
def attach_call{l:OpenLaw}{n:Nat}{q:Program}{loose:Lw}{XP:(Lk)->Heap->Prop}{YP:World->Heap->Prop}{d:DefRec}
  (hn:l.most=some n) (hdf:d.params.defaults=[])
  (call:∀ (w:World) (s₀ s₁:Shared) (mg mb:Lk) (fa:Addr) (o:Obj) (pm cd doc:Value) (a:Addr) (vs:Lr) (ns:Lq),
   Ground q loose [] XP w s₀ mg mb s₁.heap->YP w s₁.heap ->
   s₁.heap.get? fa=some o->o.data=.func (docDef d.name d.params d.body d.scope pm cd doc)->s₁.heap.CodeRec cd d.name->mg d.name=some (.ref fa)->
   s₁.heap.get? a=some {cls:=.type "list",data:=.seq vs.toArray}->IntsAre vs ns->ns.length<=n->s₁.gens=#[]->
   codeAny (model l.prog w) callerA (.call (.ref fa) ⟨[.ref a],[]⟩) (λr s'=>r=.ok (.ret (.bool true))/\OldK s₁.heap s'.heap/\s'.os=s₁.os/\AllBare s'.gens) s₁) :
  WalkO q loose XP YP l.row.toRowW d [] (λf vs=>PySem.call f vs):=by
 intro w s₀ s₁ mg mb G Li fa o pm cd doc dV kV ho hd hcd hD hmg hg args vals as hpre hlay hrd hwl hlo;obtain rfl:dV=.none:=Dflts.none hD hdf;obtain rfl:kV=.none:=Dflts.noKw hD;obtain⟨a,vs,ns,rfl,rfl,hobj,hints,hlen⟩:=vW hn hpre hwl;refine enter_call (codeAny_mono (call w s₀ s₁ mg mb fa o pm cd doc a vs ns G Li ho (fd_plain hd) hcd hmg hobj hints hlen hg) λr s' hq=>?_);obtain⟨rfl,h2,h3,h4⟩:=hq;exact⟨.inl ⟨.bool true,.bool true,[],rfl,λ_=>rfl,.bool true,we l _,λ_=>⟨Pairwise.nil,λ_ hm=>(nomatch hm)⟩⟩,h2,h3,h4⟩
end Att
namespace L2
open PySem PySem.Spec PyProof.Rows
section
def ox:∀{vs:Lr}{ns:Lq},IntsAre vs ns->aY (ns.map V.int) vs
 |_,_,.nil=>.nil
 |_,_,.cons n t h=>.cons ⟨t,rfl⟩ (ox h)
def G4(H:Hp):Prop:=∀b,H b=none\/∃o xs,H b=some (.frz o (.lst xs))
theorem y9{P:Program}{w:World}{K:PySem.W.Frag}{mg mb:Lk}{CX:CXT}{k:Nat}{fa a:Addr}{fd:FuncData}{x:Str}{sp:Sp}{s₁:Shared}{vs:Lr}{ns:Lq}
  (KX:K.In s₁.heap) (hns:s₁.heap.Ns mainGlobals mg) (hb:s₁.heap.Ns builtinsNs mb) (hbb:∀x:Str,x≠"__name__" -> mb x=bootBuiltins x) (hlim:s₁.heap.NoLimit) (hg:s₁.gens=#[])
  (ha:s₁.heap.get? a=some {cls:=.type "list",data:=.seq vs.toArray}) (hi:IntsAre vs ns) (hl:ns.length<=sizeLine) (hr:eX k callerA)
  (F:∀base:Heap,K.In base->base.Ns mainGlobals mg->dR P w K mg base CX k fa fd [x] sp) (hbind:∀(s:Shared) (u:Value),BindsTo s fd ⟨[u],[]⟩ [(x,u)])
  (hsp:∀H:Hp,G4 H->SqL K H a (ns.map V.int)->sp [.ref a] H (λv _=>v=.bl true) λ_ _ _=>False)
  (hCX:∀H e s',CX [] H s₁ (λ_ _ _=>False) e s'->False) :
  codeAny (model P w) callerA (.call (.ref fa) ⟨[.ref a],[]⟩) (λr s'=>r=.ok (.ret (.bool true))/\OldK s₁.heap s'.heap/\s'.os=s₁.os/\AllBare s'.gens) s₁:=by
 have rv:=ox hi;have lenV:=hi.length;have core:∀H:Hp,G4 H->SqL K H a (ns.map V.int)->HOk P w H s₁.heap->(∀b,H b≠none->b=a)->(H a≠none->K.lookup a=none)->
   codeAny (model P w) callerA (.call (.ref fa) ⟨[.ref a],[]⟩) (λr s'=>r=.ok (.ret (.bool true))/\OldK s₁.heap s'.heap/\s'.os=s₁.os/\AllBare s'.gens) s₁:=by
  intro H hO hS hok hA hK;have base_of:∀{b:Addr}{o:Obj},s₁.heap.get? b=some o->H b=none->(qe s₁.heap H).get? b=some o:=λe n=>zo e n;have noA:∀{b:Addr}{o:Obj}{es:Array DictEntry}{ep:Nat},s₁.heap.get? b=some o->o.data=.dict es ep->H b=none:=λ{b o es ep} e d=>by
   cases q:H b with
   |none=>rfl
   |some u=>have e':b=a:=hA b (by rw[q];simp);subst e';rw[ha]at e;cases e;have d':Data.seq vs.toArray _=Data.dict es ep:=d;cases d'
  have nsK:∀{b:Addr}{m:Lk},s₁.heap.Ns b m->(qe s₁.heap H).Ns b m:=λ{b m} ⟨o,es,ep,e,d,r⟩=>⟨o,es,ep,base_of e (noA e d),d,r⟩
  have hKb:K.In (qe s₁.heap H):=λb o e=>base_of (KX b o e) (by
   cases q:H b with
   |none=>rfl
   |some u=>
    have e':b=a:=hA b (by rw[q];simp);subst e';rw[hK (by rw[q];simp)]at e;cases e)
  have hM:Mod K mg (qe s₁.heap H):=⟨hKb,nsK hns,⟨mb,nsK hb,hbb⟩,let⟨mc,h1,h2⟩:=hlim;⟨mc,nsK h1,h2⟩⟩
  have e0:uA P w K mg (qe s₁.heap H) callerA [] s₁ H:=⟨rfl,hM,λb o e=>BX e,Nat.le_of_eq (wP _ _),trivial,λb hb=>absurd (show b ∈([]:Lu)from hb) (),hok,.of_eq hg⟩
  refine codeAny_mono ((F _ hKb (nsK hns)).run callerA [] s₁ H ⟨[.ref a],[]⟩ [.ref a] [.ref a] _ _ hr e0 (hbind s₁ (.ref a)) (.cons rfl .nil) (hsp H hO hS)) λr s' h=>?_;cases r with
  |error e=>exact(hCX H e s' h).elim
  |ok fl=>
   cases fl with
   |next|brk|cont=>exact False.elim h
   |ret u=>
    obtain⟨v,H',os,bare,un,hok',r',q⟩:=h;have q':v=.bl true:=q;subst q';obtain rfl:u=Value.bool true:=r';refine⟨rfl,OldK.of_keep λb o e=>?_,os,bare⟩;cases q:H b with
    |none=>exact un.keep b o e q (by intro z;exact absurd (show b ∈([]:Lu)from z) ()) ()
    |some u=>
     rcases hO b with z |⟨ob,xs,z⟩
     .rw[q]at z;cases z
     .have z2:=un.frzs b ob _ z;obtain⟨e1,_⟩:=hok b _ z;obtain⟨e2,_⟩:=hok' b _ z2;rw[e]at e1;cases e1;exact e2
 cases hk:K.lookup a with
 |some o=>have e:=KX a o hk;rw[ha]at e;cases e;refine core (λ_=>none) (λ_=>.inl rfl) (.inr ⟨_,vs.toArray,_,hk,rfl,rfl,rfl,by rw[size_toArray,lenV];exact hl,by lia⟩) (λb u z=>by lia) (λb z=>absurd rfl z) λz=>absurd rfl z
 |none=>
  refine core (λb=>if b=a then some (.frz {cls:=.type "list",data:=.seq vs.toArray} (.lst (ns.map V.int)))else none) (λb=>?_) (.inl (.inr ⟨{cls:=.type "list",data:=.seq vs.toArray},if_pos rfl⟩)) (λb u z=>?_) (λb z=>?_) λ_=>hk
  .by_cases hb:b=a
   .exact .inr ⟨_,_,if_pos hb⟩
   .exact .inl (if_neg hb)
  .by_cases hb:b=a
   .have z':=(if_pos hb).symm.trans z;cases z';subst hb;exact⟨ha,by rw[length_map];exact hl,vs,_,rv,ha⟩
   .lia
  .lia
end
section
def AU{l:PySem.W.OpenLaw}{n k:Nat}{q:Program}{loose:Lw}{XP:(Lk)->Heap->Prop}{YP:World->Heap->Prop}{d:DefRec}{K:Params->PySem.W.Frag}{CX:World->CXT}{sp:World->Sp}{x:Str}
  (hn:l.most=some n) (hn2:n<=sizeLine) (hdf:d.params.defaults=[]) (hr:eX k callerA)
  (hY:∀(w:World) (h:Heap),YP w h->(K w.params).In h)
  (F:∀ (w:World) (mg:Lk) (fa:Addr) (h:Heap),(K w.params).In h->h.Ns mainGlobals mg->mg d.name=some (.ref fa) ->
   ∃fd:FuncData,(∀(s:Shared) (u:Value),BindsTo s fd ⟨[u],[]⟩ [(x,u)])/\
    ∀base:Heap,(K w.params).In base->base.Ns mainGlobals mg->dR l.prog w (K w.params) mg base (CX w) k fa fd [x] (sp w))
  (hsp:∀(w:World) (H:Hp) (a:Addr) (ns:Lq),ns.length<=n->G4 H->SqL (K w.params) H a (ns.map V.int)->sp w [.ref a] H (λv _=>v=.bl true) λ_ _ _=>False)
  (hCX:∀(w:World) (H:Hp) (s:Shared) (e:Value) (s':Shared),CX w [] H s (λ_ _ _=>False) e s'->False) :
  PySem.W.WalkO q loose XP YP l.row.toRowW d [] (λf vs=>PySem.call f vs):=by
 refine Att.attach_call hn hdf λw s₀ s₁ mg mb fa o pm cd doc a vs ns G Li ho hd hcd hmg hobj hints hlen hg=>?_;have KX:=hY w _ Li;obtain⟨fd,hb,hF⟩:=F w mg fa _ KX G.T.g hmg;exact y9 KX G.T.g G.T.b G.T.builtins G.T.nolimit hg hobj hints (Nat.le_trans hlen hn2) hr hF hb (λH hO hS=>hsp w H a ns hlen hO hS) λH e s'=>hCX w H s₁ e s'
end
section
noncomputable def Cj(s:Stmt)(j:Nat):Stmt:=match s with
 |.ClassDef _ _ _ body _ _ _ _ _ _ _=>body.getD j (.Pass ⟨0,0,0,0⟩)
 |_=>.Pass ⟨0,0,0,0⟩
def fG(s:Stmt):Arguments:=match s with
 |.FunctionDef _ a _ _ _ _ _ _ _ _=>a
 |_=>{posonlyargs:=[],args:=[],vararg:=none,kwonlyargs:=[],kw_defaults:=[],kwarg:=none,defaults:=[]}
def cN(s:Stmt):List Stmt:=match s with
 |.FunctionDef _ _ b _ _ _ _ _ _ _=>b
 |_=>[]
noncomputable def aU(s:Stmt):Scope:=match s with
 |.FunctionDef _ _ _ _ _ _ sc _ _ _=>sc
 |_=>{kind:=.function,names:=[],isGenerator:=false,isCoroutine:=false}
structure Fun(K:PySem.W.Frag)(x qual:Str)(st:Stmt)(f:Addr)(fd:FuncData):Prop where
 ex:∃(oc:Value) (od:Option Addr) (kV doc pm:Value) (an:Option Addr) (cdv ct:Value) (osl:Array (Option Value)),
  fd=PySem.W.fnOf x qual (fG st) (cN st) (aU st) .none kV doc pm an cdv ct/\K.lookup f=some ⟨oc,od,.func fd,osl⟩/\PySem.W.codeIn K cdv qual=true
 kp:PySem.W.keepIn K (.ref f)=true
section
variable{P:Program}{w:World}{K:PySem.W.Frag}{mg:Lk}{base:Heap}
def Fun.binds{x qual:Str}{st:Stmt}{f:Addr}{fd:FuncData}{ps:Lw}(F:Fun K x qual st f fd)
  (h:∀(kV doc pm:Value) (an:Option Addr) (cdv ct:Value) (us:Lr),us.length=ps.length->bindArgs (PySem.W.fnOf x qual (fG st) (cN st) (aU st) .none kV doc pm an cdv ct) ⟨us,[]⟩=pure (ps.zip us)):gM K fd ps []:=by
 obtain⟨oc,od,kV,doc,pm,an,cdv,ct,osl,rfl,lk,hcd⟩:=F.ex;exact .all (h kV doc pm an cdv ct)
end
end
end L2
set_option maxHeartbeats 4000000
namespace L2
open PySem PySem.Spec PyProof.Rows
section
variable{κ:Type} [DecidableEq κ]
noncomputable def my(kvs:List (κ×V))(k:κ):Option V:=(kvs.find? λkv=>decide (kv.1=k)).map (·.2)
noncomputable def iZ(kvs:List (κ×V))(k:κ)(v:V):List (κ×V):=
 if(kvs.any λkv=>decide (kv.1=k))=true then kvs.map (λkv=>if kv.1=k then(kv.1,v)else kv)else kvs++[(k,v)]
def mt{p:κ×V}{r:List (κ×V)}{k:κ}(e:p.1=k):my (p::r) k=some p.2:=by simp[my,find?_cons,e]
def mw{p:κ×V}{r:List (κ×V)}{k:κ}(e:¬p.1=k):my (p::r) k=my r k:=by simp[my,find?_cons,e]
def qF(k:κ):∀kvs:List (κ×V),(kvs.any λkv=>decide (kv.1=k))=(my kvs k).isSome
 | []=>rfl
 |p::r=>by
  rw[any_cons];by_cases e:p.1=k
  .simp only[mt e,decide_eq_true e,Bool.true_or,Option.isSome_some]
  .rw[mw e,decide_eq_false e,Bool.false_or];exact qF k r
theorem lO(kvs:List (κ×V))(k:κ)(v:V):(iZ kvs k v).length<=kvs.length+1:=by
 unfold iZ;split
 .rw[length_map];lia
 .rw[length_append,length_cons,length_nil];lia
def putK_new{kvs:List (κ×V)}{k:κ}(v:V)(h:my kvs k=none):iZ kvs k v=kvs++[(k,v)]:=by unfold iZ;rw[qF,h];exact if_neg ()
def KV.val{kvs:List (κ×V)}{vs:List (κ×Value)}(r:KV kvs vs)(k:κ):lX (my kvs k) (valueAt vs k):=by
 unfold KV at r
 induction r with
 |nil=>exact True.intro
 | @cons p q ps qs h t ih=>
  obtain⟨h1,h2⟩:=h;by_cases e:p.1=k
  .have e':q.1=k:=h1.symm.trans e;have b:valueAt (q::qs) k=some q.2:=by simp[valueAt,find?_cons,e']
   rw[mt e,b];exact h2
  .have e':¬q.1=k:=λz=>e (h1.trans z);have b:valueAt (q::qs) k=valueAt qs k:=by simp[valueAt,find?_cons,e']
   rw[mw e,b];exact ih
def KV.any{kvs:List (κ×V)}{vs:List (κ×Value)}(r:KV kvs vs)(k:κ):(kvs.any λkv=>decide (kv.1=k))=vs.any λkv=>decide (kv.1=k):=by
 unfold KV at r
 induction r with
 |nil=>rfl
 |cons h t ih=>rw[any_cons,any_cons,ih,h.1]
def KV.repl{kvs:List (κ×V)}{vs:List (κ×Value)}(r:KV kvs vs)(k:κ){y:V}{u:Value}(ry:bT y u) :
  KV (kvs.map λkv=>if kv.1=k then(kv.1,y)else kv) (vs.map λkv=>if kv.1=k then(kv.1,u)else kv):=by
 unfold KV at r ⊢
 induction r with
 |nil=>exact .nil
 | @cons p q ps qs h t ih=>
  rw[map_cons,map_cons];refine .cons ?_ ih;obtain⟨h1,h2⟩:=h;by_cases e:p.1=k
  .rw[if_pos e,if_pos (h1.symm.trans e)];exact⟨h1,ry⟩
  .rw[if_neg e,if_neg (λz=>e (h1.trans z))];exact⟨h1,h2⟩
def KV.put{kvs:List (κ×V)}{vs:List (κ×Value)}(r:KV kvs vs)(k:κ){y:V}{u:Value}(ry:bT y u):KV (iZ kvs k y) (stored vs k u):=by
 unfold iZ stored;rw[r.any k];by_cases e:(vs.any λkv=>decide (kv.1=k))=true
 .rw[if_pos e,if_pos e];exact r.repl k ry
 .rw[if_neg e,if_neg e];exact Paired.snoc r ⟨rfl,ry⟩
def KV.length{kvs:List (κ×V)}{vs:List (κ×Value)}(r:KV kvs vs):kvs.length=vs.length:=Paired.length r
end
def zd{P:Program}{w:World}{k:Key}{u:Value}(r:bT (kV k) u):(eP P w).is k u=true:=by
 cases k with
 |inl i=>obtain⟨t,e⟩:=(show ∃t,u=Value.int i t from r);subst e;exact rF P w i t
 |inr x=>obtain⟨t,e⟩:=(show ∃t,u=Value.str x t from r);subst e;exact rE P w x t
section
variable{P:Program}{w:World}{H:Hp}{h:Heap}{a:Addr}
def HZ{u:HO}(ok:HOk P w H h)(e:Rd H a u):cO P w H h a u:=e.ok ok
def Jl{kvs:List (Key×V)}(ok:HOk P w H h)(e:Rd H a (.dK kvs)):kvs.length<=sizeLine/\(a==sysModules)=false/\∃vs,KV kvs vs/\h.DictOf (eP P w) a vs:=
 show cO P w H h a (.dK kvs)from HZ ok e
def Jm{kvs:List (Key×V)}(ok:HOk P w H h)(e:H a=some (.dK kvs)):kvs.length<=sizeLine/\(a==sysModules)=false/\∃vs,KV kvs vs/\h.DictOf (eP P w) a vs:=Jl ok (.inl e)
end
section
variable{X:Cx}{js:Lo}{Y:St}{H:Hp}{s:Shared}{a:Addr}{y v:V}{u r:Value}{o:Option V}{A:Around}{E:Lj}
def Inv.big(I:Inv X js Y H s):sysModules<s.heap.objs.size:=by have h:mainGlobals<s.heap.objs.size:=(I.mod.glob.keeps I.bk).lt;exact Nat.lt_trans () h
def CD{h':Heap}{t':Nat}{ob:HO}(I:Inv X js Y H s)(mu:Mut (H a))(hs:SameBut a s.heap h')(he:∃q,h'.get? a=some q)(new:cO X.prog X.w (upd H a ob) h' a ob) :
  Inv X js Y (upd H a ob) {s with heap:=h',toks:=t'}:=
 I.write (x:=a) (e:=a) mu (.inl rfl) (λb q hb z=>(hs.2 b hb).trans z) he new
def GD{P:Program}{w:World}{H':Hp}{h':Heap}{kvs:List (Key×V)}{vs:List (Key×Value)}(z:kvs.length<=sizeLine)(hd:(a==sysModules)=false)(rel:KV kvs vs)(dd:h'.DictOf (eP P w) a vs) :
  cO P w H' h' a (.dK kvs):=⟨z,hd,vs,rel,dd⟩
end
def G5(i:Expr):Prop:=∀ov iv,subscripted i false ov iv=operate [ov,iv] (getItem ov iv)
def A3{prog:Program}{w:World}{A:Around}{E:Lj}{s:Shared}{env:Env}{value slice:Expr}{pos:Pos}{T id:String}{Q:Lj}
  (hl:typeLookup (.type T) "__getitem__"=pure (some (.builtin id))) (hs:G5 slice)
  (h:wpAny (model prog w) A (eval value env) (λo s₁=>wpAny (model prog w) A (eval slice env) (λi s₂=>s₂.TypeIs o T/\wpAny (model prog w) A (getItem o i) Q E s₂) E s₁) E s) :
  wpAny (model prog w) A (eval (.Subscript value slice pos) env) Q E s:=by
 refine Subscript_ (wpAny_mono h (λo s₁ h₁=>wpAny_mono h₁ (λi s₂ h₂=>?_) λ_ _ x=>x) λ_ _ x=>x);obtain⟨hT,h₂⟩:=h₂;unfold subscriptTail;refine wpAny_bind ?_;rw[getitemInPython_of_ne hT.not_modules];refine wpAny_bind (wpAny_specialOf hT hl ?_);have fin:wpAny (model prog w) A (subscripted slice false o i) (λr s₃=>wpAny (model prog w) A (letTemporaryGo value o r >>= λ_=>pure r) Q E s₃) E s₂:=by rw[hs o i];exact wpAny_operating (wpAny_mono h₂ (λr s₃ h₃=>wpAny_bind (wpAny_letTemporaryGo (wpAny_pure h₃))) λ_ _ x=>x)
 first
  |exact wpAny_pure (wpAny_bind fin)
  |exact wpAny_bind (wpAny_pure (wpAny_bind fin))
  |exact wpAny_bind fin
def Am{P:Program}{w:World}{H:Hp}(h:Heap)(hb:sysModules<h.objs.size):cO P w H (h.push {cls:=.type "dict",data:=.dict #[]}) h.objs.size (.dK []):=
 ⟨zero_le _,beq_eq_false_iff_ne.mpr (Ne.symm (Nat.ne_of_lt hb)),[],.nil,Heap.DictOf.new h⟩
def pI:List (TE×TE)->St->Hp->(List (V×V)->LA)->Prop
 | [],_,H,Q=>Q [] H
 |(tk,tv)::r,Y,H,Q=>tk Y H λx H1=>tv Y H1 λy H2=>pI r Y H2 λps H3=>Q ((x,y)::ps) H3
abbrev VV:List (V×V)->List (Value×Value)->Prop:=Paired λp q=>bT p.1 q.1/\bT p.2 q.2
def PPs(X:Cx)(pos:Pos)(keys:List (Option Expr))(values:List Expr)(trs:List (TE×TE)):Prop:=
 ∀(js:Lo) (s:Shared) (Y:St) (H:Hp) (Q:List (V×V)->LA),Inv X js Y H s->pI trs Y H Q ->
  wpAny (model X.prog X.w) X.A (evalPairs (pairTrees keys values X.env pos)) (λvs s'=>∃ps H',Inv X js Y H' s'/\VV ps vs/\Q ps H') X.xe s
def BH{X:Cx}{pos:Pos}:PPs X pos [] [] []:=λjs s Y H Q I h=>pairTrees_nil_walk ⟨[],H,I,.nil,h⟩
def i4{X:Cx}{pos:Pos}{k v:Expr}{ks:List (Option Expr)}{vs:List Expr}{tk tv:TE}{trs:List (TE×TE)}(hk:PE X k tk)(hv:PE X v tv)(hr:PPs X pos ks vs trs) :
  PPs X pos (some k::ks) (v::vs) ((tk,tv)::trs):=λjs s Y H Q I h=>
 pairTrees_cons_walk (thn (hk js s Y H _ I h) λu s1 ⟨x,H1,I1,rx,q1⟩=>thn (hv js s1 Y H1 _ I1 q1) λw2 s2 ⟨y,H2,I2,ry,q2⟩=>
  thn (hr js s2 Y H2 _ I2 q2) λws s3 ⟨ps,H3,I3,rel,q3⟩=>⟨(x,y)::ps,H3,I3,.cons ⟨rx,ry⟩ rel,q3⟩)
def ja(kvs more:List (Key×V)):List (Key×V):=more.foldl (λacc kv=>iZ acc kv.1 kv.2) kvs
def KV.merge:∀{more:List (Key×V)}{rs:List (Key×Value)}{kvs:List (Key×V)}{vs:List (Key×Value)},KV more rs->KV kvs vs->KV (ja kvs more) (merged vs rs):=by
 intro more rs kvs vs r;unfold KV at r
 induction r generalizing kvs vs with
 |nil=>intro q;exact q
 | @cons p q ps qs h t ih=>
  intro r0;have e:KV (iZ kvs p.1 p.2) (stored vs q.1 q.2):=by have:=r0.put p.1 h.2;rw[<- h.1];exact this
  exact ih e
theorem jA:∀(more kvs:List (Key×V)),(ja kvs more).length<=kvs.length+more.length
 | [],kvs=>by show kvs.length<=kvs.length+0;lia
 |p::r,kvs=>by have h1:=jA r (iZ kvs p.1 p.2);have h2:=lO kvs p.1 p.2;show(ja (iZ kvs p.1 p.2) r).length<=_;rw[length_cons];lia
def nZ{P:Program}{w:World}:∀{kvs:List (Key×V)}{ws:List (Value×Value)},VV (kvs.map λkv=>(kV kv.1,kv.2)) ws->∃rs,Carries (eP P w) ws rs/\KV kvs rs
 | [],_,r=>by rw[map_nil]at r;cases r;exact⟨[],True.intro,.nil⟩
 |p::kvs,_,r=>by
  rw[map_cons]at r;cases r with
  | @cons a b as bs h t=>obtain⟨rs,c,q⟩:=nZ (P:=P) (w:=w) t;obtain⟨b1,b2⟩:=b;exact⟨(p.1,b2)::rs,⟨zd h.1,rfl,c⟩,.cons ⟨rfl,h.2⟩ q⟩
def HN(trs:List (TE×TE)):TE:=λY H Q=>∀p,H p=none->pI trs Y (upd H p (.dK [])) λps H2=>H2 p=some (.dK [])/\∃kvs:List (Key×V),ps=kvs.map (λkv=>(kV kv.1,kv.2))/\kvs.length<=15/\Q (.ref p) (upd H2 p (.dK (ja [] kvs)))
theorem BO{X:Cx}{pos:Pos}{keys:List (Option Expr)}{values:List Expr}{trs:List (TE×TE)}(h:PPs X pos keys values trs)(hall:keys.all (·.isSome)=true)(hl:keys.length=values.length)(h0:keys≠[])
  (h15:keys.length<=15):PE X (.Dict keys values pos) (HN trs):=by
 intro js s Y H Q I q;have hn:=I.hok.fresh (Nat.le_refl s.heap.objs.size);have I1:=I.laid (a:=s.heap.objs.size) (o:=.dK []) (h':=s.heap.push {cls:=.type "dict",data:=.dict #[]}) (t':=s.toks) (λ_ _ q=>get?_push_of_some _ q) (Nat.le_refl _) (Am s.heap I.big);refine wpAny_Dict_walk (knd:=eP X.prog X.w) hall hl h0 h15 (thn (h js _ Y _ _ I1 (q _ hn)) λws s2 zz=>?_);obtain⟨ps,H2,I2,rel,e,kvs,ep,lk,q2⟩:=zz;subst ep;obtain⟨rs,c,rk⟩:=nZ (P:=X.prog) (w:=X.w) rel;obtain⟨z,hd,vs0,r0,dd⟩:=Jm I2.hok e;cases r0;refine⟨rs,c,dd,λh' dd' hs=>⟨.ref s.heap.objs.size,_,?_,rfl,q2⟩⟩;have hz:(ja [] kvs).length<=sizeLine:=by have h1:=jA kvs [];rw[length_nil]at h1;rw[sizeLine_eq];lia
 have he:∃q,h'.get? s.heap.objs.size=some q:=let⟨q,_,_,hq,_⟩:=dd';⟨q,hq⟩
 exact CD I2 (by rw[e];exact True.intro) hs he (GD hz hd (rk.merge .nil) dd')
end L2
namespace PR
open PySem
inductive Fl where
 |own|frz|bor|lnt|mod
 deriving DecidableEq
inductive PV where
 |non
 |bl (b:Bool)
 |int (i:Int)
 |str (x:Str)
 |lst (f:Fl) (xs:List PV)
 |tup (xs:List PV)
 |obj (f:Fl) (c:Nat) (ks:List Nat) (vs:List PV)
 |exc (c:Nat)
 |box (k:Nat) (xs:List PV)
abbrev LB:=List PV
mutual
noncomputable def PV.LM(g:Fl->Fl):PV->PV
 |.non=>.non
 |.bl b=>.bl b
 |.int i=>.int i
 |.str x=>.str x
 |.lst f xs=>.lst (g f) (mapL g xs)
 |.tup xs=>.tup (mapL g xs)
 |.obj f c ks vs=>.obj (g f) c ks (mapL g vs)
 |.exc c=>.exc c
 |.box k xs=>.box k (mapL g xs)
noncomputable def mapL(g:Fl->Fl):LB->LB
 | []=>[]
 |x::xs=>x.LM g::mapL g xs
end
mutual
noncomputable def PV.has(p:Fl->Bool):PV->Bool
 |.non|.bl _|.int _|.str _=>false
 |.lst f xs=>p f||hasL p xs
 |.tup xs=>hasL p xs
 |.obj f _ _ vs=>p f||hasL p vs
 |.exc _=>false
 |.box _ xs=>hasL p xs
noncomputable def hasL(p:Fl->Bool):LB->Bool
 | []=>false
 |x::xs=>x.has p||hasL p xs
end
noncomputable def Fl.LJ:Fl->Bool
 |.lnt=>true
 |_=>false
def Fl.LK:Fl->Bool
 |.bor=>true
 |_=>false
def Fl.LD:Fl->Fl
 |.own=>.lnt
 |f=>f
def Fl.LG:Fl->Fl
 |.own=>.frz
 |f=>f
def Fl.LF:Fl->Fl
 |.lnt=>.bor
 |f=>f
inductive Res(α:Type) where
 |ok (a:α)
 |exc (c:Nat)
 |stuck
abbrev LC:=Res PV
noncomputable def Res.bind{α β:Type}:Res α->(α->Res β)->Res β
 |.ok a,k=>k a
 |.exc c,_=>.exc c
 |.stuck,_=>.stuck
@[simp] def Res.LO{α β:Type}(a:α)(k:α->Res β):(Res.ok a).bind k=k a:=by simp only[Res.bind]
@[simp] def Res.exc_bind{α β:Type}(c:Nat)(k:α->Res β):(Res.exc c:Res α).bind k=.exc c:=rfl
@[simp] def Res.stuck_bind{α β:Type}(k:α->Res β):(Res.stuck:Res α).bind k=.stuck:=rfl
abbrev En:=List (Option PV)
abbrev ME:=En->LC
abbrev MT:=En->Res Bool
abbrev MA:=En->Res (LB)
inductive Out where
 |next (e:En)
 |ret (v:PV)
 |brk (e:En)
 |cont (e:En)
 |exc (c:Nat) (e:En)
 |stuck
abbrev MS:=En->Out
noncomputable def mC(v:PV):ME:=λ_=>.ok v
abbrev LP(i:Int):ME:=mC (.int i)
def aa(i:Nat):ME:=λenv=>match env[i]? with
 |some (some v)=>.ok (v.LM Fl.LD)
 |_=>.stuck
def am:MA:=λ_=>.ok []
def ae(a:ME)(r:MA):MA:=λenv=>(a env).bind λx=>(r env).bind λxs=>.ok (x::xs)
def mUn(f:PV->LC)(a:ME):ME:=λenv=>(a env).bind f
def mOp(f:PV->PV->LC)(a b:ME):ME:=λenv=>(a env).bind λx=>(b env).bind λy=>f x y
noncomputable def f8(g:Int->Int->PV):PV->PV->LC
 |.int i,.int j=>.ok (g i j)
 |_,_=>.stuck
noncomputable def gu(C:Int->Int->Bool)(g:Int->Int->PV):PV->PV->LC
 |.int i,.int j=>if C i j then .ok (g i j)else .stuck
 |_,_=>.stuck
noncomputable def p3:PV->Res Bool
 |.non=>.ok false
 |.bl b=>.ok b
 |.int i=>.ok (i != 0)
 |.lst _ xs|.tup xs=>.ok (!xs.isEmpty)
 |_=>.stuck
def aA(a:ME):MT:=λenv=>(a env).bind fun
 |.bl b=>.ok b
 |_=>.stuck
def et(a:ME):MT:=λenv=>(a env).bind p3
def nA(a:MT):MT:=λenv=>(a env).bind λb=>.ok (!b)
def jy(a b:MT):MT:=λenv=>(a env).bind λx=>if x then b env else .ok false
def jb(a b:MT):MT:=λenv=>(a env).bind λx=>if x then .ok true else b env
def t8(c:MT)(a b:ME):ME:=λenv=>(c env).bind λx=>if x then a env else b env
def ba:MS:=.next
def aw(a b:MS):MS:=λenv=>match a env with
 |.next e=>b e
 |o=>o
noncomputable def mBr(c:MT)(a b:MS):MS:=λenv=>match c env with
 |.ok true=>a env
 |.ok false=>b env
 |.exc k=>.exc k env
 |.stuck=>.stuck
def PV.LL(v:PV):Bool:=!v.has Fl.LJ
noncomputable def dB(env:List (Option PV)):Bool:=match env[0]? with
 |some (some (PV.obj _ _ _ _))=>true
 |_=>false
def aH(i:Nat)(env:En):Bool:=if i=0 then !dB env else true
def aG(i:Nat)(e:ME):MS:=λenv=>match e env with
 |.ok v=>if v.LL&&aH i env then .next (env.set i (some v))else .stuck
 |.exc k=>.exc k env
 |.stuck=>.stuck
def bN(e:ME):MS:=λenv=>match e env with
 |.ok v=>if v.LL then .ret v else .stuck
 |.exc k=>.exc k env
 |.stuck=>.stuck
noncomputable def dI(i:Nat):MS:=λenv=>match env[i]? with
 |some (some v)=>.ret v
 |_=>.stuck
def jc(e:ME):MS:=λenv=>match e env with
 |.ok _=>.next env
 |.exc k=>.exc k env
 |.stuck=>.stuck
def fQ(i:Nat):MS:=λenv=>match env[i]? with
 |some (some v)=>.next (env.set i (some (v.LM Fl.LG)))
 |_=>.stuck
noncomputable def oh(body:PV->MS):LB->En->Out
 | [],env=>.next env
 |x::xs,env=>match body x env with
  |.next e|.cont e=>oh body xs e
  |.brk e=>.next e
  |o=>o
end PR
namespace PR
open PySem PySem.Spec L2
structure Tb where
 K:PySem.W.Frag
 nc:Nat
 cls:Nat->Addr
 att:Nat->Str
 inj:∀i j,att i=att j->i=j
 xcl:Nat->Addr
 dk:Nat->Lw:=λ_=>[]
 bx:Nat->Hp->Addr->Lz->Prop:=λk H a vs=>∃o,H a=some (.frz o (.dK (((dk k).map Sum.inr).zip vs)))/\(dk k).length=vs.length
 bxs:∀k (H H':Hp) a vs,(∀b o u,H b=some (.frz o u)->H' b=some (.frz o u))->bx k H a vs->bx k H' a vs:=by exact λ_ _ _ _ _ h ⟨o,q,l⟩=>⟨o,h _ _ _ q,l⟩
 tb:Addr->Option (Ly):=λ_=>none
def K_(C a:Addr):HO:=.ext λh=>∃o,h.get? a=some o/\o.cls=.ref C
def KL(K:PySem.W.Frag)(a:Addr)(xs:Lz):Prop:=∃(o:Obj) (its:Ly) (n:Nat),K.lookup a=some o/\o.cls=.type "list" /\ o.dict=none/\o.data=.seq its n/\its.size<=sizeLine/\aY xs its.toList
def sL:Fl->Addr->Lu->Lu->Prop
 |.own,a,fp',fp=>fp=a::fp'
 |_,_,fp',fp=>fp'=[]/\fp=[]
def G9(F B L:Lp):Fl->Lp
 |.own,_=>True
 |.frz,a=>F a
 |.bor,a=>B a
 |.lnt,a=>L a
 |.mod,_=>False
def n4(T:Tb)(F B L:Lp)(H:Hp):Fl->Addr->Lz->Prop
 |.own,a,vs=>H a=some (.lst vs)
 |.lnt,a,vs=>L a/\H a=some (.lst vs)
 |.frz,a,vs=>F a/\Rd H a (.lst vs)
 |.bor,a,vs=>B a/\Rd H a (.lst vs)
 |.mod,a,vs=>KL T.K a vs
def n4.sq(h:n4 T F B L H f a vs):SqL T.K H a vs:=by
 cases f with
 |own=>exact SqL.of h
 |lnt=>exact SqL.of h.2
 |frz|bor=>exact .inl h.2
 |mod=>exact .inr h
mutual
def Rel(T:Tb)(F B L:Lp)(H:Hp):PV->V->Lu->Prop
 |.non,v,fp=>v=.non/\fp=[]
 |.bl b,v,fp=>v=.bl b/\fp=[]
 |.int i,v,fp=>v=.int i/\fp=[]
 |.str x,v,fp=>v=.str x/\fp=[]
 |.lst f xs,v,fp=>∃a vs fp',v=.ref a/\n4 T F B L H f a vs/\RelL T F B L H xs vs fp'/\sL f a fp' fp
 |.tup xs,v,fp=>∃a vs,v=.ref a/\SqT T.K H a vs/\RelL T F B L H xs vs fp
 |.obj f c ks xs,v,fp=>∃a dx vs fp',v=.ref a/\H a=some (.ins (T.cls c) dx ((ks.map T.att).zip vs))/\(ks.length=xs.length/\c<T.nc)/\RelL T F B L H xs vs fp'/\sL f a fp' fp/\G9 F B L f a
 |.exc c,v,fp=>∃a,v=.ref a/\H a=some (K_ (T.xcl c) a)/\fp=[]
 |.box k xs,v,fp=>∃a vs,v=.ref a/\T.bx k H a vs/\RelL T F B L H xs vs fp
def RelL(T:Tb)(F B L:Lp)(H:Hp):LB->Lz->Lu->Prop
 | [],vs,fp=>vs=[]/\fp=[]
 |x::xs,vs,fp=>∃v ws f1 f2,vs=v::ws/\Rel T F B L H x v f1/\RelL T F B L H xs ws f2/\fp=f1++f2
end
def ii:HO->Prop
 |.tup _|.frz _ _|.ext _=>True
 |_=>False
section
variable{T:Tb}{F F' B B' L L':Lp}{H H':Hp}
def Rd.tr(h:∀o,H a=some o->H' a=some o)(q:Rd H a u):Rd H' a u:=by
 rcases q with q |⟨o,q⟩
 .exact .inl (h _ q)
 .exact .inr ⟨o,h _ q⟩
def SqT.tr(h:∀o,H a=some o->ii o->H' a=some o)(q:SqT K H a vs):SqT K H' a vs:=by
 rcases q with(q |⟨o,q⟩)|q
 .exact .inl (.inl (h _ q True.intro))
 .exact .inl (.inr ⟨o,h _ q True.intro⟩)
 .exact .inr q
def RelL.length:∀{xs:LB}{vs:Lz}{fp:Lu},RelL T F B L H xs vs fp->xs.length=vs.length
 | [],_,_,h=>by rw[h.1];rfl
 |x::xs,_,_,h=>by obtain⟨v,ws,f1,f2,rfl,_,h2,_⟩:=h;simp[RelL.length h2]
theorem sL.all{P:Lp}(h:sL f a fp' fp)(hp:∀b∈fp,P b):(f=.own->P a)/\∀b∈fp',P b:=by
 cases f with
 |own=>
  obtain rfl:fp=a::fp':=h
  grind
 |_=>exact⟨λz=>(nomatch z),by rw[h.1];exact λ_ z=>nomatch z⟩
structure Mp(T:Tb)(g:Fl->Fl)(p:Fl->Bool)(E:Lu->Lu)(C F B L:Lp)(H:Hp)(F' B' L':Lp)(H':Hp):Prop where
 hl:∀f a vs,p f=false->(f=.own->C a)->n4 T F B L H f a vs->n4 T F' B' L' H' (g f) a vs
 hb:∀f a,p f=false->(f=.own->C a)->G9 F B L f a->G9 F' B' L' (g f) a/\∀o,H a=some o->H' a=some o
 hf:∀f a x y,sL f a x y->sL (g f) a (E x) (E y)
 he:E []=[]
 ha:∀x y,E (x++y)=E x++E y
 hx:∀a o,H a=some o->ii o->H' a=some o
mutual
def Mp.rel(M:Mp T g p E C F B L H F' B' L' H') :
  ∀{x:PV}{v:V}{fp:Lu},x.has p=false->(∀a∈fp,C a)->Rel T F B L H x v fp->Rel T F' B' L' H' (x.LM g) v (E fp)
 |.non,_,_,_,_,h|.bl _,_,_,_,_,h|.int _,_,_,_,_,h|.str _,_,_,_,_,h=>by unfold Rel at h;simp only[PV.LM];unfold Rel;exact⟨h.1,by rw[h.2,M.he]⟩
 |.lst f xs,_,fp,hp,hc,h=>by unfold Rel at h;obtain⟨a,vs,fp',e,h1,h2,h3⟩:=h;simp only[PV.has,or_eq_false_iff]at hp;obtain⟨c1,c2⟩:=h3.all hc;simp only[PV.LM];unfold Rel;exact⟨a,vs,E fp',e,M.hl f a vs hp.1 c1 h1,Mp.rels M hp.2 c2 h2,M.hf f a fp' fp h3⟩
 |.tup xs,_,fp,hp,hc,h=>by unfold Rel at h;obtain⟨a,vs,e,h1,h2⟩:=h;simp only[PV.LM];unfold Rel;exact⟨a,vs,e,SqT.tr (λo q z=>M.hx a o q z) h1,Mp.rels M hp hc h2⟩
 |.obj f c ks xs,_,fp,hp,hc,h=>by unfold Rel at h;obtain⟨a,dx,vs,fp',e,h1,hk,h2,h3,h4⟩:=h;simp only[PV.has,or_eq_false_iff]at hp;obtain⟨c1,c2⟩:=h3.all hc;obtain⟨q1,q2⟩:=M.hb f a hp.1 c1 h4;simp only[PV.LM];unfold Rel;have r:=Mp.rels M hp.2 c2 h2;exact⟨a,dx,vs,E fp',e,q2 _ h1,⟨by rw[r.length,hk.1,h2.length],hk.2⟩,r,M.hf f a fp' fp h3,q1⟩
 |.exc c,_,fp,_,_,h=>by unfold Rel at h;obtain⟨a,e,h1,rfl⟩:=h;simp only[PV.LM];unfold Rel;exact⟨a,e,M.hx a _ h1 True.intro,M.he⟩
 |.box k xs,_,fp,hp,hc,h=>by unfold Rel at h;obtain⟨a,vs,e,h1,h2⟩:=h;simp only[PV.LM];unfold Rel;exact⟨a,vs,e,T.bxs k H H' a vs (λb o u q=>M.hx b _ q True.intro) h1,Mp.rels M hp hc h2⟩
def Mp.rels(M:Mp T g p E C F B L H F' B' L' H') :
  ∀{xs:LB}{vs:Lz}{fp:Lu},hasL p xs=false->(∀a∈fp,C a)->RelL T F B L H xs vs fp->RelL T F' B' L' H' (mapL g xs) vs (E fp)
 | [],_,_,_,_,h=>by unfold RelL at h;simp only[mapL];unfold RelL;exact⟨h.1,by rw[h.2,M.he]⟩
 |x::xs,_,fp,hp,hc,h=>by unfold RelL at h;obtain⟨v,ws,f1,f2,e,h1,h2,rfl⟩:=h;simp only[hasL,or_eq_false_iff]at hp;simp only[mapL];unfold RelL;exact⟨v,ws,E f1,E f2,e,Mp.rel M hp.1 (λb hb=>hc b (mem_append_left _ hb)) h1,Mp.rels M hp.2 (λb hb=>hc b (mem_append_right _ hb)) h2,M.ha f1 f2⟩
end
mutual
def l9:∀x:PV,x.LM (λf=>f)=x
 |.non|.bl _|.int _|.str _|.exc _=>rfl
 |.lst f xs|.tup xs|.obj f c ks xs|.box k xs=>by simp only[PV.LM,mapL_id xs]
def mapL_id:∀xs:LB,mapL (λf=>f) xs=xs
 | []=>rfl
 |x::xs=>by simp only[mapL,l9 x,mapL_id xs]
end
mutual
def nQ:∀x:PV,x.has (λ_=>false)=false
 |.non|.bl _|.int _|.str _|.exc _=>rfl
 |.lst f xs=>by simp only[PV.has,has_noL xs,Bool.or_false]
 |.tup xs=>by simp only[PV.has,has_noL xs]
 |.obj f c ks xs=>by simp only[PV.has,has_noL xs,Bool.or_false]
 |.box k xs=>by simp only[PV.has,has_noL xs]
def has_noL:∀xs:LB,hasL (λ_=>false) xs=false
 | []=>rfl
 |x::xs=>by simp only[hasL,nQ x,has_noL xs,Bool.or_false]
end
def C9(hF:∀a,F a->F' a)(hB:∀a,B a->B' a)(hL:∀a,L a->L' a)(hx:∀a o,H a=some o->(F a\/B a\/L a\/ii o)->H' a=some o):Mp T (λf=>f) (λ_=>false) (λx=>x) (λa=>∀o,H a=some o->H' a=some o) F B L H F' B' L' H':=
 ⟨λf a vs _ c h=>by
  cases f with
  |own=>exact c rfl _ h
  |frz=>exact⟨hF a h.1,Rd.tr (λo q=>hx a o q (.inl h.1)) h.2⟩
  |bor=>exact⟨hB a h.1,Rd.tr (λo q=>hx a o q (.inr (.inl h.1))) h.2⟩
  |lnt=>exact⟨hL a h.1,hx a _ h.2 (.inr (.inr (.inl h.1)))⟩
  |mod=>exact h,λf a _ c h=>by
  cases f with
  |own=>exact⟨True.intro,c rfl⟩
  |frz=>exact⟨hF a h,λo q=>hx a o q (.inl h)⟩
  |bor=>exact⟨hB a h,λo q=>hx a o q (.inr (.inl h))⟩
  |lnt=>exact⟨hL a h,λo q=>hx a o q (.inr (.inr (.inl h)))⟩
  |mod=>exact h.elim,λ_ _ _ _ h=>h,rfl,λ_ _=>rfl,λa o q z=>hx a o q (.inr (.inr (.inr z)))⟩
def Rel.tr(hF:∀a,F a->F' a)(hB:∀a,B a->B' a)(hL:∀a,L a->L' a)(hx:∀a o,H a=some o->(F a\/B a\/L a\/ii o)->H' a=some o)(hp:∀a∈fp,∀o,H a=some o->H' a=some o)(h:Rel T F B L H x v fp):Rel T F' B' L' H' x v fp:=by
 have:=(C9 hF hB hL hx).rel (nQ x) hp h
 rwa [l9]at this
def RelL.tr(hF:∀a,F a->F' a)(hB:∀a,B a->B' a)(hL:∀a,L a->L' a)(hx:∀a o,H a=some o->(F a\/B a\/L a\/ii o)->H' a=some o)(hp:∀a∈fp,∀o,H a=some o->H' a=some o)(h:RelL T F B L H x v fp):RelL T F' B' L' H' x v fp:=by
 have:=(C9 hF hB hL hx).rels (has_noL x) hp h
 rwa [mapL_id]at this
def Ext(H H':Hp):Prop:=∀a o,H a=some o->H' a=some o
def Ext.refl:Ext H H:=λ_ _ h=>h
def Ext.trans(a:Ext H H1)(b:Ext H1 H2):Ext H H2:=λc o h=>b c o (a c o h)
def Ext.upd(h:H a=none):Ext H (L2.upd H a o):=λb u e=>by rw[aR (cG e h)];exact e
def Ext.free(x:Ext H H')(h:H' a=none):H a=none:=by
 cases e:H a with
 |none=>rfl
 |some o=>rw[x a o e]at h;cases h
def Rel.ext(e:Ext H H')(hF:∀a,F a->F' a)(h:Rel T F B L H x v fp):Rel T F' B L H' x v fp:=
 Rel.tr hF (λ_ h=>h) (λ_ h=>h) (λa o q _=>e a o q) (λa _ o q=>e a o q) h
def RelL.ext(e:Ext H H')(hF:∀a,F a->F' a)(h:RelL T F B L H xs vs fp):RelL T F' B L H' xs vs fp:=
 RelL.tr hF (λ_ h=>h) (λ_ h=>h) (λa o q _=>e a o q) (λa _ o q=>e a o q) h
def Chg:HO->Prop
 |.lst _|.ins _ _ _=>True
 |_=>False
mutual
def Rel.chg:∀{x:PV}{v:V}{fp:Lu},Rel T F B L H x v fp->∀a∈fp,∃o,H a=some o/\Chg o
 |.non,_,_,h|.bl _,_,_,h|.int _,_,_,h|.str _,_,_,h=>by unfold Rel at h;rw[h.2];exact λ_ z=>nomatch z
 |.lst f xs,_,fp,h=>by
  unfold Rel at h;obtain⟨a,vs,fp',e,hl,hr,hf⟩:=h;cases f with
  |own=>
   obtain rfl:fp=a::fp':=hf;intro b hb;rcases mem_cons.mp hb with rfl|hb
   .exact⟨_,hl,True.intro⟩
   .exact RelL.chg hr b hb
  |frz|bor|lnt|mod=>obtain⟨rfl,rfl⟩:=hf;exact λ_ z=>nomatch z
 |.tup xs,_,fp,h=>by unfold Rel at h;obtain⟨a,vs,e,hl,hr⟩:=h;exact RelL.chg hr
 |.obj f c ks xs,_,fp,h=>by
  unfold Rel at h;obtain⟨a,dx,vs,fp',e,hl,hk,hr,hf,ha⟩:=h;cases f with
  |own=>
   obtain rfl:fp=a::fp':=hf;intro b hb;rcases mem_cons.mp hb with rfl|hb
   .exact⟨_,hl,True.intro⟩
   .exact RelL.chg hr b hb
  |frz|bor|lnt|mod=>obtain⟨rfl,rfl⟩:=hf;exact λ_ z=>nomatch z
 |.exc c,_,fp,h=>by unfold Rel at h;obtain⟨a,e,hl,rfl⟩:=h;exact λ_ z=>nomatch z
 |.box k xs,_,fp,h=>by unfold Rel at h;obtain⟨a,vs,e,hl,hr⟩:=h;exact RelL.chg hr
def RelL.chg:∀{xs:LB}{vs:Lz}{fp:Lu},RelL T F B L H xs vs fp->∀a∈fp,∃o,H a=some o/\Chg o
 | [],_,_,h=>by unfold RelL at h;rw[h.2];exact λ_ z=>nomatch z
 |x::xs,_,_,h=>by
  unfold RelL at h;obtain⟨v,ws,f1,f2,_,h1,h2,rfl⟩:=h;intro b hb;rcases mem_append.mp hb with hb|hb
  .exact Rel.chg h1 b hb
  .exact RelL.chg h2 b hb
end
def Rel.there(h:Rel T F B L H x v fp)(a:Addr)(ha:a∈fp):∃o,H a=some o:=let⟨o,q,_⟩:=h.chg a ha;⟨o,q⟩
def RelL.there(h:RelL T F B L H xs vs fp)(a:Addr)(ha:a∈fp):∃o,H a=some o:=let⟨o,q,_⟩:=h.chg a ha;⟨o,q⟩
def B2:Mp T Fl.LD (λ_=>false) (λ_=>[]) L F B L H F B L H:=
 ⟨λf a vs _ c h=>by
  cases f with
  |own=>exact⟨c rfl,h⟩
  | _=>exact h,λf a _ c h=>⟨by
  cases f with
  |own=>exact c rfl
  |_=>exact h,λ_ q=>q⟩,λf a x y h=>by cases f<;>exact⟨rfl,rfl⟩,rfl,λ_ _=>rfl,λ_ _ q _=>q⟩
def Rel.LD(hp:∀a∈fp,L a)(h:Rel T F B L H x v fp):Rel T F B L H (x.LM Fl.LD) v []:=B2.rel (nQ x) hp h
end
end PR
namespace L2
open PySem PySem.Spec
def PE.wk(h:PE X e t)(w:∀Y H Q,t' Y H Q->t Y H Q):PE X e t':=λjs s Y H Q I q=>h js s Y H Q I (w Y H Q q)
def PA.wk(h:PA X e t)(w:∀Y H Q,t' Y H Q->t Y H Q):PA X e t':=λpos js s Y H Q I q=>h pos js s Y H Q I (w Y H Q q)
def PT.wk(h:PT X e t)(w:∀Y H Q,t' Y H Q->t Y H Q):PT X e t':=λjs s Y H Q I q=>h js s Y H Q I (w Y H Q q)
def PW.wk(h:PW X e t)(w:∀Y H Q,t' Y H Q->t Y H Q):PW X e t':=λwh js s Y H Q I q=>h wh js s Y H Q I (w Y H Q q)
def PS.wk(h:PS X e t)(w:∀D Y H,t' D Y H->t D Y H):PS X e t':=λjs s Y H D I q=>h js s Y H D I (w D Y H q)
def PSs.wk(h:PSs X e t)(w:∀D Y H,t' D Y H->t D Y H):PSs X e t':=λjs s Y H D I q=>h js s Y H D I (w D Y H q)
end L2
namespace PR
open PySem PySem.Spec L2
structure Zn where
 H0:Hp
 F0:Lp
 fp0:Lp
 B:Lp
 pin:Option V:=none
abbrev NoL:Lp:=λ_=>False
def CU(T:Tb)(H:Hp)(f:Lp):Prop:=∀a ps,T.tb a=some ps->H a=some (.tbl ps)/\¬f a
structure cI(T:Tb)(Z:Zn)(F:Lp)(H:Hp):Prop where
 bo:(∀a,Z.B a->(∃o,Z.H0 a=some o)/\¬Z.fp0 a)/\CU T Z.H0 Z.fp0
 keep:∀a o,Z.H0 a=some o->¬Z.fp0 a->H a=some o
 f0:∀a,Z.F0 a->F a
 fn:∀a,F a->Z.F0 a\/Z.H0 a=none\/Z.fp0 a
 ft:∀a,F a->∃o,H a=some o
structure aC(T:Tb)(Z:Zn)(F:Lp)(H:Hp)(Y:St)(env:En)(fp:Nat->Lu):Prop where
 hp:cI T Z F H
 len:Y.length=env.length
 rel:∀(i:Nat) (pv:PV),env[i]?=some (some pv)->∃v,Y[i]?=some (some v)/\Rel T F Z.B NoL H pv v (fp i)
 nd:∀i,(fp i).Nodup
 dj:∀i j,i≠j->∀a∈fp i,a∉fp j
 dis:∀i,∀a∈fp i,¬F a/\∃o,H a=some o
 new:∀i,∀a∈fp i,Z.H0 a=none\/Z.fp0 a
 ch:∀i,∀a∈fp i,∃o,H a=some o/\Chg o
 pn:∀v,Z.pin=some v->Y[0]?=some (some v)/\dB env=true
def Own(fp:Nat->Lu):Lp:=λa=>∃i,a∈fp i
structure Gr(F:Lp)(H:Hp)(F':Lp)(H':Hp):Prop where
 ext:Ext H H'
 mono:∀a,F a->F' a
 only:∀a,F' a->F a\/H a=none
 dom:∀a,F' a->∃o,H' a=some o
def Gr.refl(h:∀a,F a->∃o,H a=some o):Gr F H F H:=⟨Ext.refl,λ_ h=>h,λ_ h=>.inl h,h⟩
def Gr.trans(a:Gr F H F1 H1)(b:Gr F1 H1 F2 H2):Gr F H F2 H2:=
 ⟨a.ext.trans b.ext,λc h=>b.mono c (a.mono c h),λc h=>(b.only c h).elim (a.only c) λz=>.inr (a.ext.free z),b.dom⟩
def Gr.same(h:∀a,F a->∃o,H a=some o)(e:Ext H H'):Gr F H F H':=⟨e,λ_ h=>h,λ_ h=>.inl h,λa q=>let⟨o,z⟩:=h a q;⟨o,e a o z⟩⟩
section
variable{T:Tb}{Z:Zn}{F F':Lp}{H H':Hp}{Y:St}{env:En}{fp:Nat->Lu}
def cI.tb(S:cI T Z F H)(h:T.tb a=some ps):H a=some (.tbl ps):=let⟨h1,h2⟩:=S.bo.2 a ps h;S.keep a _ h1 h2
def aC.tbo(S:aC T Z F H Y env fp)(e:Ext H H')(hn:∀ a,f a->H a=none \/ Own fp a):CU T H' f:=λa ps h=>⟨e a _ (S.hp.tb h),λz=>by
 have q:=S.hp.tb h;rcases hn a z with n |⟨i,hi⟩
 .rw[q]at n;cases n
 .obtain⟨o,h1,h2⟩:=S.ch i a hi;rw[q]at h1;cases h1;exact h2⟩
def cI.grow(S:cI T Z F H)(g:Gr F H F' H'):cI T Z F' H':=
 ⟨S.bo,λa o h n=>g.ext a o (S.keep a o h n),λa h=>g.mono a (S.f0 a h),λa h=>by
  rcases g.only a h with z|z
  .exact S.fn a z
  .refine .inr ?_;by_cases q:Z.fp0 a
   .exact .inr q
   .refine .inl ?_;cases w:Z.H0 a with
    |none=>rfl
    |some o=>rw[S.keep a o w q]at z;exact(nomatch z),g.dom⟩
def aC.grow(S:aC T Z F H Y env fp)(g:Gr F H F' H'):aC T Z F' H' Y env fp:=
 ⟨S.hp.grow g,S.len,λi pv h=>let ⟨v,q1,q2⟩:=S.rel i pv h;⟨v,q1,q2.ext g.ext g.mono⟩,S.nd,S.dj,λi a h=>by
  obtain⟨n,o,q⟩:=S.dis i a h;refine⟨λz=>?_,o,g.ext a o q⟩;rcases g.only a z with z|z
  .exact n z
  .rw[q]at z;exact(nomatch z),S.new,λi a h=>let⟨o,q,c⟩:=S.ch i a h;⟨o,g.ext a o q,c⟩,S.pn⟩
end
def GE(T:Tb)(W:Nat->St->LA)(B F L:Lp)(Y:St)(H:Hp)(Q:VK):LC->Prop
 |.ok pv=>∀v H' F' f,Gr F H F' H'->Rel T F' B L H' pv v f->(∀a∈f,¬F' a)->f.Nodup->(∀a∈f,H a=none)->Q v H'
 |.exc c=>∀H',Ext H H'->W c Y H'
 |.stuck=>False
def GA(T:Tb)(W:Nat->St->LA)(B F L:Lp)(Y:St)(H:Hp)(Q:Lz->LA):Res (LB)->Prop
 |.ok pvs=>∀vs H' F' f,Gr F H F' H'->RelL T F' B L H' pvs vs f->(∀a∈f,¬F' a)->f.Nodup->(∀a∈f,H a=none)->Q vs H'
 |.exc c=>∀H',Ext H H'->W c Y H'
 |.stuck=>False
def GT(W:Nat->St->LA)(F:Lp)(Y:St)(H:Hp)(Q:Bool->LA):Res Bool->Prop
 |.ok b=>∀H' F',Gr F H F' H'->Q b H'
 |.exc c=>∀H',Ext H H'->W c Y H'
 |.stuck=>False
def tE(T:Tb)(W:Nat->St->LA)(m:ME):TE:=λY H Q=>∃Z F env fp,aC T Z F H Y env fp/\GE T W Z.B F (Own fp) Y H Q (m env)
def tA(T:Tb)(W:Nat->St->LA)(m:MA):TA:=λY H Q=>∃Z F env fp,aC T Z F H Y env fp/\GA T W Z.B F (Own fp) Y H Q (m env)
def tT(T:Tb)(W:Nat->St->LA)(m:MT):TT:=λY H Q=>∃Z F env fp,aC T Z F H Y env fp/\GT W F Y H Q (m env)
abbrev SE(X:Cx)(T:Tb)(W:Nat->St->LA)(e:Expr)(m:ME):Prop:=PE X e (tE T W m)
abbrev SA(X:Cx)(T:Tb)(W:Nat->St->LA)(es:List Expr)(m:MA):Prop:=PA X es (tA T W m)
abbrev ST(X:Cx)(T:Tb)(W:Nat->St->LA)(e:Expr)(m:MT):Prop:=PT X e (tT T W m)
section
variable{X:Cx}{T:Tb}{W:Nat->St->LA}{Z:Zn}{F F' B L:Lp}{H H':Hp}{Y:St}{env:En}{fp:Nat->Lu}
def GE.scal{Q:VK}{pv:PV}{v:V}(q:GE T W B F L Y H Q (.ok pv))(g:Gr F H F' H')(r:Rel T F' B L H' pv v []):Q v H':=
 q v H' F' [] g r (λ_ z=>(nomatch z)) nodup_nil (λ_ z=>(nomatch z))
def mG{v:V}{pv:PV}(h:PE X e (tC v))(r:∀F B L H,Rel T F B L H pv v []):SE X T W e (mC pv):=PE.wk h λY H Q ⟨Z,F,env,fp,S,q⟩=>q.scal (Gr.refl S.hp.ft) (r _ _ _ _)
def ak{i j pos}:SE X T W (.Constant (.int i) j pos) (mC (.int i)):=mG yj λ_ _ _ _=>by exact⟨rfl,rfl⟩
def lH{b j pos}:SE X T W (.Constant (.bool b) j pos) (mC (.bl b)):=mG Ij λ_ _ _ _=>by exact⟨rfl,rfl⟩
def fV{j pos}:SE X T W (.Constant .none j pos) (mC .non):=mG yi λ_ _ _ _=>by exact⟨rfl,rfl⟩
def br{x j pos}:SE X T W (.Constant (.str x) j pos) (mC (.str x)):=mG iH λ_ _ _ _=>by unfold Rel;exact⟨rfl,rfl⟩
def Ej(hN:X.N[i]?=some x)(hv:Vis X.env.scope x)(hd:Nd x:=by decide)(hcd:Nc x:=by decide):SE X T W (.Name x pos) (aa i):=
 PE.wk (fg hN hv hd hcd) λY H Q hz1=>by
  obtain⟨Z,F,env,fp,S,q⟩:=hz1;unfold aa at q;split at q
  .rename_i pv e
   obtain⟨v,e1,r⟩:=S.rel i pv e;refine⟨v,e1,q.scal (Gr.refl S.hp.ft) ?_⟩;exact Rel.LD (λa h=>⟨i,h⟩) (Rel.tr (λ_ h=>h) (λ_ h=>h) (λ_ h=>h.elim) (λa o q _=>q) (λa _ o q=>q) r)
  .exact q.elim
def tE.bind(S:aC T Z F H Y env fp)(hx:∀c,m env=.exc c->∀H',Ext H H'->W c Y H')(hs:m env≠.stuck)
  (k:∀pv v H' F' f,m env=.ok pv->Gr F H F' H'->Rel T F' Z.B (Own fp) H' pv v f->(∀a∈f,¬F' a)->f.Nodup->(∀a∈f,H a=none)->Q v H'):tE T W m Y H Q:=by
 refine⟨Z,F,env,fp,S,?_⟩;cases e:m env with
 |ok pv=>exact λv H' F' f g r h1 h2 h3=>k pv v H' F' f e g r h1 h2 h3
 |exc c=>exact hx c e
 |stuck=>exact hs e
def tE.bq(S:aC T Z F H Y env fp)(k:∀pv v H' F' f,m env=.ok pv->Gr F H F' H'->Rel T F' Z.B (Own fp) H' pv v f->(∀a∈f,¬F' a)->f.Nodup->(∀a∈f,H a=none)->Q v H')(hx:∀c,m env=.exc c->∀H',Ext H H'->W c Y H':=by exact λc e=>by rw[e]at q;exact q)(hs:m env≠.stuck:=by exact λe=>by rw[e]at q;exact q):tE T W m Y H Q:=tE.bind S hx hs k
def tA.bind(S:aC T Z F H Y env fp)(hx:∀c,m env=.exc c->∀H',Ext H H'->W c Y H')(hs:m env≠.stuck)
  (k:∀pvs vs H' F' f,m env=.ok pvs->Gr F H F' H'->RelL T F' Z.B (Own fp) H' pvs vs f->(∀a∈f,¬F' a)->f.Nodup->(∀a∈f,H a=none)->Q vs H'):tA T W m Y H Q:=by
 refine⟨Z,F,env,fp,S,?_⟩;cases e:m env with
 |ok pv=>exact λv H' F' f g r h1 h2 h3=>k pv v H' F' f e g r h1 h2 h3
 |exc c=>exact hx c e
 |stuck=>exact hs e
def tA.bq(S:aC T Z F H Y env fp)(k:∀pvs vs H' F' f,m env=.ok pvs->Gr F H F' H'->RelL T F' Z.B (Own fp) H' pvs vs f->(∀a∈f,¬F' a)->f.Nodup->(∀a∈f,H a=none)->Q vs H')(hx:∀c,m env=.exc c->∀H',Ext H H'->W c Y H':=by exact λc e=>by rw[e]at q;exact q)(hs:m env≠.stuck:=by exact λe=>by rw[e]at q;exact q):tA T W m Y H Q:=tA.bind S hx hs k
def tT.bind(S:aC T Z F H Y env fp)(hx:∀c,m env=.exc c->∀H',Ext H H'->W c Y H')(hs:m env≠.stuck)
  (k:∀b H' F',m env=.ok b->Gr F H F' H'->Q b H'):tT T W m Y H Q:=by
 refine⟨Z,F,env,fp,S,?_⟩;cases e:m env with
 |ok pv=>exact λH' F' g=>k pv H' F' e g
 |exc c=>exact hx c e
 |stuck=>exact hs e
def ah:SA X T W [] am:=PA.wk gO λY H Q ⟨Z,F,env,fp,S,q⟩=>q [] H F [] (Gr.refl S.hp.ft) (by exact⟨rfl,rfl⟩) (λ_ z=>(nomatch z)) nodup_nil (λ_ z=>(nomatch z))
def ac(ha:SE X T W e m)(hr:SA X T W es ms)(hs:starEach (e::es) X.env=(false,eval e X.env)::starEach es X.env:=by rfl):SA X T W (e::es) (ae m ms):=
 PA.wk (dP ha hr hs) λY H Q hz1=>by
  obtain⟨Z,F,env,fp,S,q⟩:=hz1;unfold ae at q;walk_at "a";refine tA.bind (S.grow g1) (λc e=>by rw[e]at q;exact λH' x=>q H' (g1.ext.trans x)) (λe=>by rw[e]at q;exact q) λxs vs H2 F2 f2 e2 g2 r2 n2 d2 w2=>?_;rw[e2]at q;have new1:∀a∈f1,¬F2 a:=λa ha z=>by
   rcases g2.only a z with z|z
   .exact n1 a ha z
   .obtain⟨o,ho⟩:=r1.there a ha;rw[ho]at z;cases z
  refine q (v::vs) H2 F2 (f1++f2) (g1.trans g2) (by exact⟨v,vs,f1,f2,rfl,r1.ext g2.ext g2.mono,r2,rfl⟩) (λa ha=>?_) ?_ (λa ha=>?_)
  .rcases mem_append.mp ha with ha|ha
   .exact new1 a ha
   .exact n2 a ha
  .refine nodup_append.mpr ⟨d1,d2,λa ha b hb z=>?_⟩;subst z;obtain⟨o,ho⟩:=r1.there a ha;rw[w2 a hb]at ho;cases ho
  .rcases mem_append.mp ha with ha|ha
   .exact w1 a ha
   .exact g1.ext.free (w2 a ha)
def aq(f:LB->LC)(ms:MA):ME:=λenv=>(ms env).bind f
def Mir(T:Tb)(W:Nat->St->LA)(f:LB->LC)(r:Lz->Hp->VK->Prop):Prop:=
 ∀(B F L:Lp) (Y:St) (H:Hp) (Q:VK) (F':Lp) (H':Hp) (xs:LB) (vs:Lz) (fx:Lu),Gr F H F' H'->RelL T F' B L H' xs vs fx->(∀a∈fx,¬F' a)->fx.Nodup->(∀a∈fx,H a=none)->
  GE T W B F L Y H Q (f xs)->r vs H' Q
def tA.mir(hm:Mir T W f r)(h:tE T W (aq f ms) Y H Q):tA T W ms Y H λvs H1=>r vs H1 Q:=by obtain⟨Z,F,env,fp,S,q⟩:=h;unfold aq at q;refine tA.bq S λxs vs H1 F1 f1 e1 g1 r1 n1 d1 w1=>?_;rw[e1]at q;exact hm Z.B F (Own fp) Y H Q F1 H1 xs vs f1 g1 r1 n1 d1 w1 q
def fK{id:String}{x:Str}{es:List Expr}{f:LB->LC}{r:Lz->Hp->VK->Prop}(hc:e_ X (.builtin id) r)(hmir:Mir T W f r)(hg:Gl X x)(hm:X.mg x=none)(hv:bootBuiltins x=some (.builtin id))(ha:SA X T W (e::es) ms)
  (hn:x≠"__name__":=by decide) (hdb:Nd x:=by decide)
  (he:starEach (e::es) X.env=(false,eval e X.env)::starEach es X.env:=by rfl) (hpl:(backTo pos (starEach es X.env)).any (·.1)=false:=by rfl):SE X T W (.Call (.Name x p) (e::es) [] pos) (aq f ms):=
 PE.wk (mX hc hg hm hv ha hn hdb he hpl) λY H Q h=>tA.mir hmir h
def oK{id:String}{x:Str}{es:List Expr}{f:LB->LC}{r:Lz->Hp->VK->Prop}(hc:e_ X (.type id) r)(hmir:Mir T W f r)(hg:Gl X x)(hm:X.mg x=none)(hv:bootBuiltins x=some (.type id))(ha:SA X T W (e::es) ms)
  (hn:x≠"__name__":=by decide) (hdb:Nd x:=by decide)
  (he:starEach (e::es) X.env=(false,eval e X.env)::starEach es X.env:=by rfl) (hpl:(backTo pos (starEach es X.env)).any (·.1)=false:=by rfl):SE X T W (.Call (.Name x p) (e::es) [] pos) (aq f ms):=
 PE.wk (kL hc hg hm hv ha hn hdb he hpl) λY H Q h=>tA.mir hmir h
def kC(T:Tb)(W:Nat->St->LA)(f:PV->PV->LC)(r:R2):Prop:=
 ∀(B F L:Lp) (Y:St) (H:Hp) (Q:VK) (F':Lp) (H':Hp) (x y:PV) (v u:V) (fx fy:Lu),Gr F H F' H'->Rel T F' B L H' x v fx->Rel T F' B L H' y u fy->(∀a∈fx++fy,¬F' a)->(fx++fy).Nodup->(∀a∈fx++fy,H a=none)->
  GE T W B F L Y H Q (f x y)->r v u H' Q
def tE.mir2(hm:kC T W f r)(h:tE T W (mOp f ma mb) Y H Q):tOp r (tE T W ma) (tE T W mb) Y H Q:=by
 obtain⟨Z,F,env,fp,S,q⟩:=h;unfold mOp at q;walk_at "a";refine tE.bind (S.grow g1) (λc e=>by rw[e]at q;exact λH' x=>q H' (g1.ext.trans x)) (λe=>by rw[e]at q;exact q) λy u H2 F2 f2 e2 g2 r2 n2 d2 w2=>?_;rw[e2]at q;have new1:∀a∈f1,¬F2 a:=λa ha z=>by
  rcases g2.only a z with z|z
  .exact n1 a ha z
  .obtain⟨o,ho⟩:=r1.there a ha;rw[ho]at z;cases z
 refine hm Z.B F (Own fp) Y H Q F2 H2 x y v u f1 f2 (g1.trans g2) (r1.ext g2.ext g2.mono) r2 (λa ha=>?_) ?_ (λa ha=>?_) q
 .rcases mem_append.mp ha with ha|ha
  .exact new1 a ha
  .exact n2 a ha
 .refine nodup_append.mpr ⟨d1,d2,λa ha b hb z=>?_⟩;subst z;obtain⟨o,ho⟩:=r1.there a ha;rw[w2 a hb]at ho;cases ho
 .rcases mem_append.mp ha with ha|ha
  .exact w1 a ha
  .exact g1.ext.free (w2 a ha)
def lG(ho:OpR X (binaryOp op) r)(hm:kC T W f r)(ha:SE X T W a ma)(hb:SE X T W b mb):SE X T W (.BinOp a op b pos) (mOp f ma mb):=
 PE.wk (Ih ho ha hb) λY H Q h=>tE.mir2 hm h
def mJ(ho:OpR X (compareOp op) r)(hm:kC T W f r)(ha:SE X T W a ma)(hb:SE X T W b mb)(hk:behindInMarks op b=false):SE X T W (.Compare a [op] [b] pos) (mOp f ma mb):=
 PE.wk (BP ho ha hb hk) λY H Q h=>tE.mir2 hm h
def HS(hr:IxR X r)(hm:kC T W f r)(ha:SE X T W a ma)(hb:SE X T W b mb)(hs:mf b):SE X T W (.Subscript a b pos) (mOp f ma mb):=
 PE.wk (Ii hr ha hb hs) λY H Q h=>tE.mir2 hm h
def nu(hg:∀i j F B L H,Rel T F B L H (g' i j) (g i j) []):kC T W (f8 g') (rI0 g):=by
  intro B F L Y H Q F' H' x y v u fx fy gr rx ry _ _ _ q;cases x<;>cases y<;>first
    |exact q.elim
    | (unfold Rel at rx ry
       exact⟨_,_,rx.1,ry.1,q.scal gr (hg _ _ _ _ _ _)⟩)
def rJ(hc:∀i j,C' i j=true->C i j)(hg:∀i j F B L H,Rel T F B L H (g' i j) (g i j) []):kC T W (gu C' g') (rI C g):=by
  intro B F L Y H Q F' H' x y v u fx fy gr rx ry _ _ _ q;cases x<;>cases y<;>first
    |exact q.elim
    | (unfold Rel at rx ry
       simp only[gu]at q;split at q
       . rename_i hh
         exact⟨_,_,rx.1,ry.1,hc _ _ hh,q.scal gr (hg _ _ _ _ _ _)⟩
       . exact q.elim)
def fN:Rel T F B L H (.int i) (.int i) []:=by exact⟨rfl,rfl⟩
def j0:Rel T F B L H (.bl i) (.bl i) []:=by exact⟨rfl,rfl⟩
def Kv:Rel T F B L H .non .non []:=by unfold Rel;exact⟨rfl,rfl⟩
def eM:PV->PV->LC:=f8 λi j=>.int (i-j)
def cK:PV->PV->LC:=gu (λi j=>decide ((-(2 ^ 64)<i/\i<2 ^ 64)\/(-(2 ^ 64)<j/\j<2 ^ 64))) λi j=>.int (i*j)
def dM:PV->PV->LC:=gu (λ_ j=>decide (0<j)) λi j=>.int (i%j)
def eO:PV->PV->LC:=gu (λ_ j=>decide (0<j/\j<1073741824)) λi j=>.int (i / j)
def rA:PV->PV->LC:=gu (λi j=>decide (0<=j/\j<=1000000/\i.natAbs<2 ^ 64)) λi j=>.int (i ^ j.toNat)
def pLt:PV->PV->LC:=f8 λi j=>.bl (decide (i<j))
def pLe:PV->PV->LC:=f8 λi j=>.bl (decide (i<=j))
def pGt:PV->PV->LC:=f8 λi j=>.bl (decide (j<i))
def pGe:PV->PV->LC:=f8 λi j=>.bl (decide (j<=i))
variable{a b:Expr}{ma mb:ME}{pos:Pos}
def cz(ha:SE X T W a ma)(hb:SE X T W b mb):SE X T W (.BinOp a .Sub b pos) (mOp eM ma mb):=lG EW (nu λ_ _ _ _ _ _=>fN) ha hb
def c_(ha:SE X T W a ma)(hb:SE X T W b mb):SE X T W (.BinOp a .Mult b pos) (mOp cK ma mb):=lG EZ (rJ (λi j h=>(by simpa using h:(-(2 ^ 64)<i/\i<2 ^ 64)\/(-(2 ^ 64)<j/\j<2 ^ 64))) λ_ _ _ _ _ _=>fN) ha hb
def cq(ha:SE X T W a ma)(hb:SE X T W b mb):SE X T W (.BinOp a .Mod b pos) (mOp dM ma mb):=lG E0 (rJ (λ_ _ h=>of_decide_eq_true h) λ_ _ _ _ _ _=>fN) ha hb
def eK(ha:SE X T W a ma)(hb:SE X T W b mb):SE X T W (.BinOp a .FloorDiv b pos) (mOp eO ma mb):=lG BT (rJ (λi j h=>(by simpa using h:0<j/\j<1073741824)) λ_ _ _ _ _ _=>fN) ha hb
def tq(ha:SE X T W a ma)(hb:SE X T W b mb):SE X T W (.BinOp a .Pow b pos) (mOp rA ma mb):=lG EY (rJ (λi j h=>(by simpa using h:0<=j/\j<=1000000/\i.natAbs<2 ^ 64)) λ_ _ _ _ _ _=>fN) ha hb
end
def GS(T:Tb)(W:Nat->St->LA)(Z:Zn)(D:Ends):Out->Prop
 |.next e=>∀F H Y fp,aC T Z F H Y e fp->D.nx Y H
 |.ret pv=>∀F H v f,cI T Z F H->Rel T F Z.B NoL H pv v f->f.Nodup->(∀a∈f,¬F a)->(∀a∈f,Z.H0 a=none\/Z.fp0 a)->D.rt v H
 |.brk e=>∀F H Y fp,aC T Z F H Y e fp->D.bk Y H
 |.cont e=>∀F H Y fp,aC T Z F H Y e fp->D.ct Y H
 |.exc c e=>∀F H Y fp,aC T Z F H Y e fp->W c Y H
 |.stuck=>False
def tS(T:Tb)(W:Nat->St->LA)(m:MS):TS:=λD Y H=>∃Z F env fp,aC T Z F H Y env fp/\GS T W Z D (m env)
abbrev SS(X:Cx)(T:Tb)(W:Nat->St->LA)(st:Stmt)(m:MS):Prop:=PS X st (tS T W m)
abbrev SSs(X:Cx)(T:Tb)(W:Nat->St->LA)(sts:List Stmt)(m:MS):Prop:=PSs X sts (tS T W m)
def yU{p:Fl->Bool}(hL:p .lnt=false->∀a,L a->L' a)(hB:p .bor=false->∀a,B a->B' a):Mp T (λf=>f) p (λx=>x) (λ_=>True) F B L H F B' L' H:=
 ⟨λf a vs q _ h=>by
  cases f with
  |lnt=>exact⟨hL q a h.1,h.2⟩
  |bor=>exact⟨hB q a h.1,h.2⟩
  | _=>exact h,λf a q _ h=>⟨by
  cases f with
  |lnt=>exact hL q a h
  |bor=>exact hB q a h
  |_=>exact h,λ_ q=>q⟩,λ_ _ _ _ h=>h,rfl,λ_ _=>rfl,λ_ _ q _=>q⟩
def Rel.noL(hp:x.has Fl.LJ=false)(h:Rel T F B L H x v fo):Rel T F B L' H x v fo:=by
 have:=(yU (p:=Fl.LJ) (L':=L') (λz=>(nomatch z)) (λ_ _ q=>q)).rel hp (λ_ _=>True.intro) h
 rwa [l9]at this
def RelL.noL(hp:hasL Fl.LJ x=false)(h:RelL T F B L H x v fo):RelL T F B L' H x v fo:=by
 have:=(yU (p:=Fl.LJ) (L':=L') (λz=>(nomatch z)) (λ_ _ q=>q)).rels hp (λ_ _=>True.intro) h
 rwa [mapL_id]at this
section
variable{X:Cx}{T:Tb}{W:Nat->St->LA}{Z:Zn}{F F' B L:Lp}{H H':Hp}{Y:St}{env:En}{fp:Nat->Lu}{D:Ends}
def cT(fp:Nat->Lu)(i:Nat)(f:Lu):Nat->Lu:=λj=>if j=i then f else fp j
theorem aC.put(S:aC T Z F H Y env fp){i:Nat}{pv:PV}{v:V}{f:Lu}(r:Rel T F Z.B NoL H pv v f)(nd:f.Nodup)(nf:∀a∈f,¬F a)(new:∀a∈f,Z.H0 a=none\/Z.fp0 a)(dj:∀a∈f,∀j,j≠i->a∉fp j)(ho:aH i env=true) :
  aC T Z F H (Y.set i (some v)) (env.set i (some pv)) (cT fp i f):=by
 refine⟨S.hp,by rw[length_set,length_set,S.len],λj pv' e=>?_,λj=>?_,λj k hjk a ha=>?_,λj a ha=>?_,λj a ha=>?_,λj a ha=>?_,λw hw=>?_⟩
 .grind[cT,aC,cI,Gr]
 .unfold cT;split
  .exact nd
  .exact S.nd j
 .grind[cT,aC,cI,Gr]
 .unfold cT at ha;by_cases h1:j=i
  .rw[if_pos h1]at ha;exact⟨nf a ha,r.there a ha⟩
  .rw[if_neg h1]at ha;exact S.dis j a ha
 .unfold cT at ha;by_cases h1:j=i
  .rw[if_pos h1]at ha;exact new a ha
  .rw[if_neg h1]at ha;exact S.new j a ha
 .unfold cT at ha;by_cases h1:j=i
  .rw[if_pos h1]at ha;exact r.chg a ha
  .rw[if_neg h1]at ha;exact S.ch j a ha
 .obtain⟨h1,h2⟩:=S.pn w hw;have hi:i≠0:=λz=>by rw[z]at ho;simp[aH,h2]at ho
  refine⟨by simp_all,?_⟩;unfold dB at h2 ⊢;rw[getElem?_set_ne hi];exact h2
def aC.putN(S:aC T Z F H Y env fp)(g:Gr F H F' H'){i:Nat}{pv:PV}{v:V}{f:Lu}(ho:aH i env=true)(r:Rel T F' Z.B L H' pv v f)(hl:pv.LL=true)(nf:∀a∈f,¬F' a)(nd:f.Nodup)(w:∀a∈f,H a=none) :
  aC T Z F' H' (Y.set i (some v)) (env.set i (some pv)) (cT fp i f):=by
 refine(S.grow g).put (Rel.noL (by simpa[PV.LL]using hl) r) nd nf (λa ha=>?_) (λa ha j _ hj=>?_) ho
 .by_cases q:Z.fp0 a
  .exact .inr q
  .refine .inl ?_;cases e:Z.H0 a with
   |none=>rfl
   |some o=>have:=S.hp.keep a o e q;rw[w a ha]at this;cases this
 .obtain⟨_,o,ho⟩:=S.dis j a hj;rw[w a ha]at ho;cases ho
def aT:SSs X T W [] ba:=PSs.wk BE λD Y H ⟨Z,F,env,fp,S,q⟩=>q F H Y fp S
def ag{rest:List Stmt}(h1:SS X T W st a)(h2:SSs X T W rest b):SSs X T W (st::rest) (aw a b):=
 PSs.wk (j9 h1 h2) λD Y H hz1=>by
  obtain⟨Z,F,env,fp,S,q⟩:=hz1;refine⟨Z,F,env,fp,S,?_⟩;unfold aw at q;cases e:a env with
  |next e'=>rw[e]at q;exact λF' H' σ' fp' S'=>⟨Z,F',e',fp',S',q⟩
  |ret v|brk e'|cont e'|exc c e'|stuck=>rw[e]at q;exact q
def ao(h1:SS X T W st a):SSs X T W [st] a:=uS h1
def bz(hc:ST X T W c mc)(ha:SSs X T W a ma)(hb:SSs X T W b mb):SS X T W (.If c a b pos) (mBr mc ma mb):=
 PS.wk (Ic hc ha hb) λD Y H hz1=>by
  obtain⟨Z,F,env,fp,S,q⟩:=hz1;unfold mBr at q;refine tT.bind S (λc e H' x=>?_) (λe=>by rw[e]at q;exact q) λb H' F' e g=>?_
  .rw[e]at q;exact q F H' Y fp (S.grow (Gr.same S.hp.ft x))
  .cases b with
   |true=>rw[e]at q;exact(if_pos rfl).mpr ⟨Z,F',env,fp,S.grow g,q⟩
   |false=>rw[e]at q;exact(if_neg ()).mpr ⟨Z,F',env,fp,S.grow g,q⟩
def Eg(hN:X.N.Nodup)(hi:X.N[i]?=some x)(hx:Loc X.env.scope x)(he:SE X T W e m)(hs:swapsWith e (some (.Name x pos')) pos.line X.env=pure false:=by rfl)
  (hf:Lce X.fn X.env x:=by first|exact .inl rfl|exact .inr rfl|assumption):SS X T W (.Assign [.Name x pos'] e pos) (aG i m):=
 PS.wk (x9 hN hi hx he hs hf) λD Y H hz1=>by
  obtain⟨Z,F,env,fp,S,q⟩:=hz1;unfold aG at q;refine tE.bind S (λc e H' x=>?_) (λe=>by rw[e]at q;exact q) λpv v H1 F1 f e g r h1 h2 h3=>?_
  .rw[e]at q;exact q F H' Y fp (S.grow (Gr.same S.hp.ft x))
  .rw[e]at q;simp only at q;split at q
   .rename_i hl
    rw[and_eq_true]at hl;exact q F1 H1 _ _ (S.putN g hl.2 r hl.1 h1 h2 h3)
   .exact q.elim
def cI.newE(S:cI T Z F H){f:Lu}(w:∀a∈f,H a=none):∀a∈f,Z.H0 a=none\/Z.fp0 a:=λa ha=>by
 by_cases q:Z.fp0 a
 .exact .inr q
 .refine .inl ?_;cases e:Z.H0 a with
  |none=>rfl
  |some o=>have:=S.keep a o e q;rw[w a ha]at this;cases this
def aJ(he:SE X T W e m):SS X T W (.Return (some e) pos) (bN m):=
 PS.wk (tN he) λD Y H hz1=>by
  obtain⟨Z,F,env,fp,S,q⟩:=hz1;unfold bN at q;refine tE.bind S (λc e H' x=>?_) (λe=>by rw[e]at q;exact q) λpv v H1 F1 f e g r h1 h2 h3=>?_
  .rw[e]at q;exact q F H' Y fp (S.grow (Gr.same S.hp.ft x))
  .rw[e]at q;simp only at q;split at q
   .rename_i hl
    exact q F1 H1 v f (S.hp.grow g) (Rel.noL (by simpa[PV.LL]using hl) r) h2 h1 (S.hp.newE h3)
   .exact q.elim
def cX(hN:X.N[i]?=some x)(hv:Vis X.env.scope x)(hd:Nd x:=by decide)(hcd:Nc x:=by decide):SS X T W (.Return (some (.Name x pos')) pos) (dI i):=
 PS.wk (tN (fg hN hv hd hcd)) λD Y H hz1=>by
  obtain⟨Z,F,env,fp,S,q⟩:=hz1;unfold dI at q;split at q
  .rename_i pv e
   obtain⟨v,e1,r⟩:=S.rel i pv e;exact⟨v,e1,q F H v (fp i) S.hp r (S.nd i) (λa ha=>(S.dis i a ha).1) (S.new i)⟩
  .exact q.elim
def iA(he:SE X T W e m)(hs:swapsWith e none pos.line X.env=pure false:=by rfl):SS X T W (.Expr e pos) (jc m):=
 PS.wk (l7 he hs) λD Y H hz1=>by
  obtain⟨Z,F,env,fp,S,q⟩:=hz1;unfold jc at q;refine tE.bind S (λc e H' x=>?_) (λe=>by rw[e]at q;exact q) λpv v H1 F1 f e g r h1 h2 h3=>?_
  .rw[e]at q;exact q F H' Y fp (S.grow (Gr.same S.hp.ft x))
  .rw[e]at q;exact q F1 H1 Y fp (S.grow g)
def wz(hF:∀a,F a->F' a):Mp T Fl.LG (λ_=>false) (λ_=>[]) F' F B L H F' B L H:=
 ⟨λf a vs _ c h=>by
  cases f with
  |own=>exact⟨c rfl,.inl h⟩
  |frz=>exact⟨hF a h.1,h.2⟩
  | _=>exact h,λf a _ c h=>⟨by
  cases f with
  |own=>exact c rfl
  |frz=>exact hF a h
  |_=>exact h,λ_ q=>q⟩,λf a x y h=>by cases f<;>exact⟨rfl,rfl⟩,rfl,λ_ _=>rfl,λ_ _ q _=>q⟩
def Rel.LG(hF:∀a,F a->F' a)(hp:∀a∈fo,F' a)(h:Rel T F B L H x v fo):Rel T F' B L H (x.LM Fl.LG) v []:=(wz hF).rel (nQ x) hp h
theorem aC.frz(S:aC T Z F H Y env fp){i:Nat}{pv:PV}(e:env[i]?=some (some pv)):aC T Z (λa=>F a\/a∈fp i) H Y (env.set i (some (pv.LM Fl.LG))) (cT fp i []):=by
 have hi:i<env.length:=(List.getElem?_eq_some_iff.mp e).1;refine⟨⟨S.hp.bo,S.hp.keep,λa h=>.inl (S.hp.f0 a h),λa h=>h.elim (S.hp.fn a) λz=>.inr (S.new i a z),λa h=>h.elim (S.hp.ft a) λz=>(S.dis i a z).2⟩,by rw[length_set,S.len],λj pv' e'=>?_,λj=>?_,λj k hjk a ha=>?_,λj a ha=>?_,λj a ha=>?_,λj a ha=>?_,λw hw=>?_⟩
 .by_cases hj:j=i
  .subst hj;rw[getElem?_set_self hi]at e';cases e';obtain⟨v,h1,h2⟩:=S.rel j pv e;refine⟨v,h1,?_⟩;unfold cT;rw[if_pos rfl];exact Rel.LG (λ_ h=>.inl h) (λa h=>.inr h) h2
  .rw[getElem?_set_ne (Ne.symm hj)]at e';obtain⟨w,h1,h2⟩:=S.rel j pv' e';refine⟨w,h1,?_⟩;unfold cT;rw[if_neg hj];exact h2.ext Ext.refl λ_ h=>.inl h
 .unfold cT;split
  .exact nodup_nil
  .exact S.nd j
 .grind[cT,aC,cI,Gr]
 .unfold cT at ha;by_cases h1:j=i
  .rw[if_pos h1]at ha;cases ha
  .rw[if_neg h1]at ha;exact⟨λz=>z.elim (S.dis j a ha).1 λz=>S.dj j i h1 a ha z,(S.dis j a ha).2⟩
 .unfold cT at ha;by_cases h1:j=i
  .simp_all
  .rw[if_neg h1]at ha;exact S.new j a ha
 .unfold cT at ha;by_cases h1:j=i
  .simp_all
  .rw[if_neg h1]at ha;exact S.ch j a ha
 .obtain⟨h1,h2⟩:=S.pn w hw;refine⟨h1,?_⟩;unfold dB at h2 ⊢;by_cases hi0:i=0
  .subst hi0;rw[e]at h2;rw[getElem?_set_self hi];cases pv<;>first|exact h2 |(cases h2;done)|rfl
  .simp_all
def c9{i:Nat}{sts:List Stmt}(h:SSs X T W sts m):SSs X T W sts (aw (fQ i) m):=PSs.wk h λD Y H hz1=>by
 obtain⟨Z,F,env,fp,S,q⟩:=hz1;cases e:env[i]? with
 |none=>simp[aw,fQ,e]at q;exact q.elim
 |some w=>
  cases w with
  |none=>simp[aw,fQ,e]at q;exact q.elim
  |some pv=>simp only[aw,fQ,e]at q;exact⟨Z,_,_,_,S.frz e,q⟩
noncomputable def Zn.re(Z:Zn)(F:Lp)(H:Hp)(fp:Nat->Lu):Zn:=⟨H,F,Own fp,Z.B,Z.pin⟩
def aC.enter(S:aC T Z F H Y env fp):aC T (Z.re F H fp) F H Y env fp:=
 ⟨⟨⟨λa h=>by
   obtain⟨⟨o,h1⟩,h2⟩:=S.hp.bo.1 a h;refine⟨⟨o,S.hp.keep a o h1 h2⟩,λ⟨i,hi⟩=>?_⟩;rcases S.new i a hi with z|z
   .rw[h1]at z;cases z
   .exact h2 z,S.tbo Ext.refl λ_ z=>.inr z⟩,λ_ _ h _=>h,λ_ h=>h,λ_ h=>.inl h,S.hp.ft⟩,S.len,S.rel,S.nd,S.dj,S.dis,λi a ha=>.inr ⟨i,ha⟩,S.ch,S.pn⟩
def cI.leave(S:aC T Z F H Y env fp)(S':cI T (Z.re F H fp) F' H'):cI T Z F' H':=
 ⟨S.hp.bo,λa o h n=>S'.keep a o (S.hp.keep a o h n) λhz1=>by
   obtain⟨i,hi⟩:=hz1;rcases S.new i a hi with z|z
   .rw[h]at z;cases z
   .exact n z,λa h=>S'.f0 a (S.hp.f0 a h),λa h=>by
  rcases S'.fn a h with z|z |⟨i,hi⟩
  .exact S.hp.fn a z
  .refine .inr ?_;by_cases q:Z.fp0 a
   .exact .inr q
   .refine .inl ?_;cases w:Z.H0 a with
    |none=>rfl
    |some o=>have z':H a=none:=z;rw[S.hp.keep a o w q]at z';cases z'
  .exact .inr (S.new i a hi),S'.ft⟩
def aC.newL(S:aC T Z F H Y env fp)(h:(Z.re F H fp).H0 a=none \/(Z.re F H fp).fp0 a):Z.H0 a=none\/Z.fp0 a:=by
 rcases h with z |⟨i,hi⟩
 .by_cases q:Z.fp0 a
  .exact .inr q
  .refine .inl ?_;cases w:Z.H0 a with
   |none=>rfl
   |some o=>have z':H a=none:=z;rw[S.hp.keep a o w q]at z';cases z'
 .exact S.new i a hi
def aC.leave(S:aC T Z F H Y env fp)(S':aC T (Z.re F H fp) F' H' σ' env' fp'):aC T Z F' H' σ' env' fp':=
 ⟨cI.leave S S'.hp,S'.len,S'.rel,S'.nd,S'.dj,S'.dis,λi a ha=>S.newL (S'.new i a ha),S'.ch,S'.pn⟩
abbrev SW(X:Cx)(T:Tb)(W:Nat->St->LA)(e:Expr)(m:MT):Prop:=PW X e (tT T W m)
def tT.test(h:tT T W (aA m) Y H Q):tE T W m Y H λx H'=>∃k,x=.bl k/\Q k H':=by
 obtain⟨Z,F,env,fp,S,q⟩:=h;unfold aA at q;walk_at "a";cases x with
 |bl b=>exact⟨b,r1.1,q H1 F1 g1⟩
 |_=>exact q.elim
def gN(ho:OpR X (compareOp op) r)(hm:kC T W f r)(ha:SE X T W a ma)(hb:SE X T W b mb)(hk:behindInMarks op b=false):ST X T W (.Compare a [op] [b] pos) (aA (mOp f ma mb)):=
 PT.wk (BD ho ha hb hk) λY H Q h=>by obtain⟨Z,F,env,fp,S,q⟩:=tT.test h;exact tE.mir2 hm ⟨Z,F,env,fp,S,q⟩
def pK(h:ST X T W a m):ST X T W (.UnaryOp .Not a pos) (nA m):=PT.wk (EH h) λY H Q hz1=>by obtain⟨Z,F,env,fp,S,q⟩:=hz1;unfold nA at q;refine tT.bind S (λc e=>by rw[e]at q;exact q) (λe=>by rw[e]at q;exact q) λb H1 F1 e1 g1=>?_;rw[e1]at q;exact q H1 F1 g1
def iy(h:ST X T W a m):SW X T W (.BoolOp .And [a] pos) m:=BC h
def fU(h:ST X T W a m):SW X T W (.BoolOp .Or [a] pos) m:=EF h
def jG{rest:List Expr}(h:ST X T W a m)(h2:SW X T W (.BoolOp .And (b::rest) pos) n):SW X T W (.BoolOp .And (a::b::rest) pos) (jy m n):=PW.wk (EG h h2) λY H Q hz1=>by
 obtain⟨Z,F,env,fp,S,q⟩:=hz1;unfold jy at q;refine tT.bind S (λc e=>by rw[e]at q;exact q) (λe=>by rw[e]at q;exact q) λb H1 F1 e1 g1=>?_;rw[e1]at q;cases b with
 |true=>
  refine(if_pos rfl).mpr ⟨Z,F1,env,fp,S.grow g1,?_⟩;cases e2:n env with
  |ok b=>rw[e2]at q;exact λH2 F2 g2=>q H2 F2 (g1.trans g2)
  |exc c=>rw[e2]at q;exact λH' x=>q H' (g1.ext.trans x)
  |stuck=>rw[e2]at q;exact q
 |false=>exact(if_neg ()).mpr (q H1 F1 g1)
def gZ{rest:List Expr}(h:ST X T W a m)(h2:SW X T W (.BoolOp .Or (b::rest) pos) n):SW X T W (.BoolOp .Or (a::b::rest) pos) (jb m n):=PW.wk (Ib h h2) λY H Q hz1=>by
 obtain⟨Z,F,env,fp,S,q⟩:=hz1;unfold jb at q;refine tT.bind S (λc e=>by rw[e]at q;exact q) (λe=>by rw[e]at q;exact q) λb H1 F1 e1 g1=>?_;rw[e1]at q;cases b with
 |false=>
  refine(if_neg ()).mpr ⟨Z,F1,env,fp,S.grow g1,?_⟩;cases e2:n env with
  |ok b=>rw[e2]at q;exact λH2 F2 g2=>q H2 F2 (g1.trans g2)
  |exc c=>rw[e2]at q;exact λH' x=>q H' (g1.ext.trans x)
  |stuck=>rw[e2]at q;exact q
 |true=>exact(if_pos rfl).mpr (q H1 F1 g1)
def SW.st(h:SW X T W e m):ST X T W e m:=PW.pt h
def dX(hK:X.K=T.K)(h:SE X T W a m)(he:∀whole,isTrue a X.env whole=(do let v <- whole;standAt a.pos;holding [v] (truthy v)):=by intro _;rfl):ST X T W a (et m):=PT.wk (xX h he) λY H Q hz1=>by
 obtain⟨Z,F,env,fp,S,q⟩:=hz1;unfold et at q;walk_at "a";rw[hK];cases x with
 |non=>unfold Rel at r1;rw[r1.1];exact⟨false,rfl,q H1 F1 g1⟩
 |bl b=>unfold Rel at r1;rw[r1.1];exact⟨b,rfl,q H1 F1 g1⟩
 |int i=>unfold Rel at r1;rw[r1.1];exact⟨_,rfl,q H1 F1 g1⟩
 |str i=>exact q.elim
 |lst f xs=>
  obtain⟨a,vs,fp',rfl,hl,hr,_⟩:=r1;have hl':SqL T.K H1 a vs:=hl.sq;have e:(!xs.isEmpty)=!vs.isEmpty:=by have:=hr.length;cases xs<;>cases vs<;>simp_all
  exact⟨_,.inl ⟨vs,hl',rfl⟩,by rw[<- e];exact q H1 F1 g1⟩
 |tup xs=>
  obtain⟨a,vs,rfl,hl,hr⟩:=r1;have e:(!xs.isEmpty)=!vs.isEmpty:=by have:=hr.length;cases xs<;>cases vs<;>simp_all
  exact⟨_,.inr (.inl ⟨vs,hl,rfl⟩),by rw[<- e];exact q H1 F1 g1⟩
 |obj f c ks xs|exc c|box k xs=>exact q.elim
def mI(hc:ST X T W c mc)(ha:SE X T W a ma)(hb:SE X T W b mb):SE X T W (.IfExp c a b pos) (t8 mc ma mb):=PE.wk (yk hc ha hb) λY H Q hz1=>by
 obtain⟨Z,F,env,fp,S,q⟩:=hz1;unfold t8 at q;refine tT.bind S (λc e=>by rw[e]at q;exact q) (λe=>by rw[e]at q;exact q) λb H1 F1 e1 g1=>?_;rw[e1]at q;have lift:∀m:ME,GE T W Z.B F (Own fp) Y H Q (m env)->tE T W m Y H1 Q:=λm q=>by
  refine⟨Z,F1,env,fp,S.grow g1,?_⟩;cases e2:m env with
  |ok b=>rw[e2]at q;exact λv H2 F2 f g2 r n d w=>q v H2 F2 f (g1.trans g2) r n d λa ha=>g1.ext.free (w a ha)
  |exc c=>rw[e2]at q;exact λH' x=>q H' (g1.ext.trans x)
  |stuck=>rw[e2]at q;exact q
 cases b with
 |true=>exact(if_pos rfl).mpr (lift ma q)
 |false=>exact(if_neg ()).mpr (lift mb q)
def lL(a b:ME):ME:=λenv=>(a env).bind fun
 |.bl true=>b env
 |.bl false=>.ok (.bl false)
 |_=>.stuck
def y2(a b:ME):ME:=λenv=>(a env).bind fun
 |.bl false=>b env
 |.bl true=>.ok (.bl true)
 |_=>.stuck
def pQ(ha:SE X T W a ma):SE X T W (.BoolOp op [a] pos) ma:=EQ ha
def tE.later(S:aC T Z F H Y env fp)(g1:Gr F H F' H')(q:GE T W Z.B F (Own fp) Y H Q (m env)):tE T W m Y H' Q:=by
 refine⟨Z,F',env,fp,S.grow g1,?_⟩;cases e2:m env with
 |ok b=>rw[e2]at q;exact λv H2 F2 f g2 r n d w=>q v H2 F2 f (g1.trans g2) r n d λa ha=>g1.ext.free (w a ha)
 |exc c=>rw[e2]at q;exact λH' x=>q H' (g1.ext.trans x)
 |stuck=>rw[e2]at q;exact q
def pT{rest:List Expr}(ha:SE X T W a ma)(hb:SE X T W (.BoolOp .And (b::rest) pos) mb):SE X T W (.BoolOp .And (a::b::rest) pos) (lL ma mb):=PE.wk (ET ha hb) λY H Q hz1=>by
 obtain⟨Z,F,env,fp,S,q⟩:=hz1;unfold lL at q;walk_at "a";cases x with
 |bl b=>
  refine⟨b,r1.1,?_⟩;cases b with
  |true=>exact(if_pos rfl).mpr (tE.later S g1 q)
  |false=>exact(if_neg ()).mpr (q.scal g1 j0)
 |_=>exact q.elim
def HR{rest:List Expr}(ha:SE X T W a ma)(hb:SE X T W (.BoolOp .Or (b::rest) pos) mb):SE X T W (.BoolOp .Or (a::b::rest) pos) (y2 ma mb):=PE.wk (Ig ha hb) λY H Q hz1=>by
 obtain⟨Z,F,env,fp,S,q⟩:=hz1;unfold y2 at q;walk_at "a";cases x with
 |bl b=>
  refine⟨b,r1.1,?_⟩;cases b with
  |false=>exact(if_neg ()).mpr (tE.later S g1 q)
  |true=>exact(if_pos rfl).mpr (q.scal g1 j0)
 |_=>exact q.elim
def JM(T:Tb)(W:Nat->St->LA)(f:PV->LC)(r:V->Hp->VK->Prop):Prop:=
 ∀(B F L:Lp) (Y:St) (H:Hp) (Q:VK) (F':Lp) (H':Hp) (x:PV) (v:V) (fx:Lu),Gr F H F' H'->Rel T F' B L H' x v fx->(∀a∈fx,¬F' a)->fx.Nodup->(∀a∈fx,H a=none)->GE T W B F L Y H Q (f x)->r v H' Q
def tE.mir1(hm:JM T W f r)(h:tE T W (mUn f m) Y H Q):tUn r (tE T W m) Y H Q:=by obtain⟨Z,F,env,fp,S,q⟩:=h;unfold mUn at q;walk_at "a";exact hm Z.B F (Own fp) Y H Q F1 H1 x v f1 g1 r1 n1 d1 w1 q
def yq:PV->LC
 |.int i=>.ok (.int (-i))
 |_=>.stuck
def tz(ha:SE X T W a m):SE X T W (.UnaryOp .USub a pos) (mUn yq m):=PE.wk (Ie D8 ha) λY H Q h=>tE.mir1 (λB F L Y H Q F' H' x v fx g r _ _ _ q=>by
 cases x with
 |int i=>unfold Rel at r;exact⟨i,r.1,q.scal g fN⟩
 |_=>exact q.elim) h
noncomputable def bI(k:Nat):List Nat->LB->Option PV
 |j::ks,v::vs=>if j=k then some v else bI k ks vs
 |_,_=>none
def Fl.LI:Fl->Bool
 |.own=>true
 |_=>false
def au(k:Nat):PV->LC
 |.obj f _ ks vs=>match bI k ks vs with
  |some v=>if f.LI&&v.has Fl.LI then .stuck else .ok v
  |none=>.stuck
 |_=>.stuck
mutual
def Rel.LN:∀{x:PV}{v:V}{fp:Lu},x.has Fl.LI=false->Rel T F B L H x v fp->fp=[]
 |.non,_,_,_,h|.bl _,_,_,_,h|.int _,_,_,_,h|.str _,_,_,_,h=>by unfold Rel at h;exact h.2
 |.lst f xs,_,fp,hp,h=>by
  unfold Rel at h;simp only[PV.has,or_eq_false_iff]at hp;obtain⟨a,vs,fp',e,hl,hr,hf⟩:=h;cases f with
  |own=>exact absurd hp.1 ()
  |frz|bor|lnt|mod=>exact hf.2
 |.tup xs,_,fp,hp,h=>by unfold Rel at h;simp only[PV.has]at hp;obtain⟨a,vs,e,hl,hr⟩:=h;exact RelL.LN hp hr
 |.obj f c ks xs,_,fp,hp,h=>by
  unfold Rel at h;simp only[PV.has,or_eq_false_iff]at hp;obtain⟨a,dx,vs,fp',e,hl,hk,hr,hf,ha⟩:=h;cases f with
  |own=>exact absurd hp.1 ()
  |frz|bor|lnt|mod=>exact hf.2
 |.exc c,_,fp,hp,h=>by unfold Rel at h;obtain⟨a,_,_,e⟩:=h;exact e
 |.box k xs,_,fp,hp,h=>by unfold Rel at h;obtain⟨a,vs,e,hl,hr⟩:=h;exact RelL.LN hp hr
def RelL.LN:∀{xs:LB}{vs:Lz}{fp:Lu},hasL Fl.LI xs=false->RelL T F B L H xs vs fp->fp=[]
 | [],_,_,_,h=>by unfold RelL at h;exact h.2
 |x::xs,_,fp,hp,h=>by unfold RelL at h;simp only[hasL,or_eq_false_iff]at hp;obtain⟨v,ws,f1,f2,e,h1,h2,rfl⟩:=h;rw[Rel.LN hp.1 h1,RelL.LN hp.2 h2];rfl
end
theorem RelL.get:∀{xs:LB}{vs:Lz}{fp:Lu}{i:Nat}{x:PV},RelL T F B L H xs vs fp->xs[i]?=some x->∃v f,vs[i]?=some v/\Rel T F B L H x v f/\f.Sublist fp
 | [],_,_,_,_,_,e=>by simp at e
 |y::xs,_,fp,0,x,h,e=>by
  unfold RelL at h
  grind
 |y::xs,_,fp,i+1,x,h,e=>by obtain⟨v,ws,f1,f2,rfl,h1,h2,rfl⟩:=h;obtain⟨w,f,e1,r,s⟩:=RelL.get h2 (by simpa using e);exact⟨w,f,by simpa using e1,r,s.trans (List.sublist_append_right _ _)⟩
def rX:∀{ks:List Nat}{xs:LB}{vs:Lz}{fp:Lu}{x:PV},RelL T F B L H xs vs fp->bI k ks xs=some x->∃v f,((ks.map T.att).zip vs).lookup (T.att k)=some v/\Rel T F B L H x v f/\f.Sublist fp
 | [],_,_,_,_,_,e|j::ks,[],_,_,_,_,e=>by simp[bI]at e
 |j::ks,y::xs,_,fp,x,h,e=>by
  obtain⟨v,ws,f1,f2,rfl,h1,h2,rfl⟩:=h;unfold bI at e;by_cases hj:j=k
  .rw[if_pos hj]at e;cases e;subst hj;exact⟨v,f1,by simp,h1,List.sublist_append_left _ _⟩
  .rw[if_neg hj]at e;obtain⟨w,f,e1,r,s⟩:=rX h2 e;refine⟨w,f,?_,r,s.trans (List.sublist_append_right _ _)⟩;have:(T.att k==T.att j)=false:=by rw[beq_eq_false_iff_ne];exact λz=>hj (T.inj _ _ z).symm
   rw[map_cons,zip_cons_cons,List.lookup_cons,this];exact e1
theorem A2(hK:X.K=T.K)(hf:T.att k=f)(hc:∀c<T.nc,Cls T.K (T.cls c))(hn:∀c<T.nc,gG T.K (T.cls c) f)(h:tE T W (mUn (au k) m) Y H Q):HL X.K (tE T W m) f Y H Q:=by
 obtain⟨Z,F,env,fp,S,q⟩:=h;unfold mUn at q;walk_at "a";cases x with
 |obj fl c ks xs=>
  simp only[Res.LO,au]at q;cases e2:bI k ks xs with
  |none=>rw[e2]at q;exact q.elim
  |some y=>
   rw[e2]at q;dsimp only at q;obtain⟨a,dx,vs,fp',rfl,hl,hk,hr,hfl,_⟩:=r1;obtain⟨w,f',l1,l2,l3⟩:=rX hr e2;have e0:f'=[]:=by
    cases fl with
    |own=>
     simp only[Fl.LI,Bool.true_and]at q;by_cases ho:y.has Fl.LI=true
     .rw[if_pos ho]at q;exact q.elim
     .exact Rel.LN () l2
    |frz|bor|lnt|mod=>obtain⟨rfl,_⟩:=hfl;exact sublist_nil.mp l3
   subst e0;by_cases hb:(fl.LI&&y.has Fl.LI)=true
   .rw[if_pos hb]at q;exact q.elim
   .rw[if_neg hb]at q;rw[hK];exact⟨a,_,dx,_,w,rfl,hl,hc c hk.2,hn c hk.2,by lia,q.scal g1 l2⟩
 |_=>exact q.elim
def Bq(hK:X.K=T.K)(hf:T.att k=f)(hc:∀c<T.nc,Cls T.K (T.cls c))(hn:∀c<T.nc,gG T.K (T.cls c) f)(he:SE X T W e m)(hb:attributeBase e f X.env (eval e X.env)=eval e X.env:=by rfl) :
  SE X T W (.Attribute e f pos) (mUn (au k) m):=PE.wk (ES he hb) λY H Q h=>A2 hK hf hc hn h
end
end PR
namespace L2
open PySem PySem.Spec
def cO.there(x:cO P w H h a o):∃u,h.get? a=some u:=by
 cases o with
 |lst xs=>obtain⟨_,_,_,_,e⟩:=x;exact⟨_,e⟩
 |tup xs=>obtain⟨_,_,_,o,e,_⟩:=x;exact⟨_,e⟩
 |dK kvs|dT kvs=>obtain⟨_,_,_,_,o,_,_,e,_⟩:=x;exact⟨_,e⟩
 |set S n=>obtain⟨o,_,_,_,e,_⟩:=x;exact⟨_,e⟩
 |ins C dx fs=>obtain⟨_,_,_,e,_⟩:=x;exact⟨_,e⟩
 |own y=>exact x
 |xd fs=>obtain⟨_,⟨_,_,_,e,_⟩,_⟩:=x;exact⟨_,e⟩
 |rng lo hi=>obtain⟨_,_,_,e⟩:=x;exact⟨_,e⟩
 |frz ob u=>obtain⟨e,_⟩:=x;exact⟨_,e⟩
 |tbl ps=>obtain⟨_,e,_⟩:=x;exact⟨_,e⟩
 |met f y=>exact⟨_,(show h.get? a=some _ from x)⟩
 |ext φ=>obtain⟨_,q,_⟩:=x;exact q
end L2
namespace PR
open PySem PySem.Spec L2
structure Fly(P:Program)(w:World)(outer:List Env)(H:Hp)(s:Shared)(cls:Value)(H':Hp)(e:Value)(s':Shared):Prop where
 os:s'.os=s.os
 bare:PyProof.Rows.AllBare s'.gens
 un:Un (frs outer) [] H H' s.heap s'.heap
 hok:HOk P w H' s'.heap
 fly:∃x a0 Bh,e=.ref x/\Heap.FlyingW Bh outer x cls a0 s'.heap/\(∀b o u,H' b=some u->s'.heap.get? b=some o->Bh.get? b=some o)/\
  (∀b o o',s'.heap.get? b=some o->s.heap.get? b=some o'->b∉frs outer->Bh.get? b=some o)
def CXP(P:Program)(w:World):CXT:=λouter H s E e s'=>∃cls H',Fly P w outer H s cls H' e s'/\E cls none H'
def XF(X:Cx)(T:Tb)(W:Nat->St->LA):Prop:=∀(js:Lo) (Y:St) (H:Hp) (s:Shared) (c:Nat) (H':Hp) (e:Value) (s':Shared),L2.Inv X js Y H s->Fly X.prog X.w X.stack H s (.ref (T.xcl c)) H' e s'->W c Y H'->X.xe e s'
def XM(X:Cx)(T:Tb)(W:Nat->St->LA):Prop:=∀(js:Lo) (Y:St) (H:Hp) (s:Shared) (c:Nat) (h':Heap) (e:Addr) (vs:Lr),L2.Inv X js Y H s->Heap.MadeExcOf s.heap h' e (.ref (T.xcl c)) vs->W c Y H->X.xe (.ref e) {s with heap:=h'}
section
variable{P:Program}{w:World}{K:PySem.W.Frag}{mg:Lk}{base:Heap}{N:Lw}{qual:Str}{scope:Scope}{f:Addr}{cd:Value}{A:Around}{outer:List Env}{s:Shared}{H:Hp}{E:XK}
def Cp{H:Hp}{h h' Bh:Heap}(ok:HOk P w H h)(k:∀b o u,H b=some u->h.get? b=some o->Bh.get? b=some o)(st:Bh.StaysIn h'):HOk P w H h':=λa o e=>
 (ok a o e).stay (λb u hb q=>by
  rcases hb with rfl|hb
  .exact st _ _ (k b u _ e q)
  .exact st _ _ (k b u _ hb q)) (λ_ q=>q) λ_ _ _ q=>q
def o7(I:L2.Inv X js Y H1 s1)(hst:X.stack=X.env::X.outer)(hex:X.ex=[])(hfrm:X.env.frame=some X.env.locals)
  (hos:os2=s1.os) (hb:PyProof.Rows.AllBare g2) (u2:Un (frs X.stack) [] H1 H2 s1.heap h2) (ok:HOk X.prog X.w H2 h2) (tr:∀b o u,H2 b=some u->h2.get? b=some o->Bh.get? b=some o)
  (ol:∀b o o',h2.get? b=some o->s1.heap.get? b=some o'->b∉frs X.stack->Bh.get? b=some o) (fl:Heap.FlyingW Bh X.outer x cls a0 h') (up:h2.UpToSlots h') :
  Fly X.prog X.w X.outer X.H₀ X.s₀ cls H2 (.ref x) ⟨h',g2,d2,t2,os2⟩:=by
 have u1:=I.base;rw[hex]at u1;have hfs:frs X.stack=X.env.locals::frs X.outer:=by rw[hst];show List.filterMap _ _=_;rw[List.filterMap_cons,hfrm];rfl
 have u:Un (frs X.stack) [] X.H₀ H2 X.s₀.heap h2:=(u1.mono (λb hb=>by rw[hfs];exact mem_cons_of_mem _ hb) λ_ z=>z).trans u2;have neL:∀b o,X.s₀.heap.get? b=some o->b≠X.env.locals:=λb o e=>Nat.ne_of_lt (Nat.lt_of_lt_of_le (lt_size e) I.ok.above);have nst:∀b o,X.s₀.heap.get? b=some o->b∉frs X.outer->b∉frs X.stack:=λb o e hn hb=>by simp_all
 have data:∀b o,X.s₀.heap.get? b=some o->b∈frs X.outer->∀vs,o.data≠.fields vs:=λb o e hb vs z=>by obtain⟨_,o',ho',hd'⟩:=I.ok.funs.mem hb;rw[e]at ho';cases ho';exact hd' vs z
 refine⟨hos.trans I.os,hb,⟨λb o e n hf _=>?_,λb o e n hf _=>?_,u.free,λb o e _=>?_,u.tups,u.frzs,u.tbls⟩,Cp ok tr fl.1,⟨x,a0,Bh,rfl,fl,λb o v e q=>?_,λb o o' e q hf=>?_⟩⟩
 .have q:=u.keep b o e n (nst b o e hf) ();obtain⟨o1,e1⟩:=u1.there b o e ();exact fl.1 b o (ol b o o1 q e1 (nst b o e hf))
 .obtain⟨sl,q⟩:=u.slot b o e n (by rw[hfs];exact mem_cons_of_mem _ hf) ();obtain⟨sl',q'⟩:=up b _ q (data b o e hf);exact⟨sl',q'⟩
 .by_cases hf:b∈frs X.outer
  .obtain⟨_,o2,ho2,_⟩:=fl.2.2.1.mem hf;exact⟨o2,ho2⟩
  .obtain⟨o1,e1⟩:=u1.there b o e ();obtain⟨o2,e2⟩:=u2.there b o1 e1 ();exact⟨o2,fl.1 b o2 (ol b o2 o1 e2 e1 (nst b o e hf))⟩
 .have hlt:=ok.lt e;obtain⟨o2,e2⟩:∃o2,h2.get? b=some o2:=by have x:=ok b v e;exact cO.there x
  have:=fl.1 b o2 (tr b o2 v e e2);rw[q]at this;cases this;exact tr b o v e e2
 .obtain⟨o1,e1⟩:=u1.there b o' q ();obtain⟨o2,e2⟩:=u2.there b o1 e1 ();have hB:=ol b o2 o1 e2 e1 (nst b o' q hf);have:=fl.1 b o2 hB;rw[e]at this;cases this;exact hB
end
section
variable{P:Program}{w:World}{K:PySem.W.Frag}{mg:Lk}{base:Heap}{N:Lw}{qual:Str}{scope:Scope}{f:Addr}{cd:Value}{A:Around}{outer:List Env}{s:Shared}{H:Hp}{E:XK}{T:Tb}
abbrev WD(T:Tb)(E:XK):Nat->St->LA:=λc _ H=>E (.ref (T.xcl c)) none H
def D5:XF (gI (CXP P w) P w K mg base N qual scope f cd A outer s H E) T (WD T E):=by intro js Y H1 s1 c H2 e s2 I fl hW;obtain⟨x,a0,Bh,rfl,fly,tr,ol⟩:=fl.fly;refine wpAny_leaves_onW I.ok.frames rfl fly λh' fly' up=>?_;obtain⟨h2,g2,d2,t2,os2⟩:=s2;exact⟨_,H2,o7 I rfl rfl rfl fl.os fl.bare fl.un fl.hok tr ol fly' up,hW⟩
def cP:XM (gI (CXP P w) P w K mg base N qual scope f cd A outer s H E) T (WD T E):=by
 intro js Y H1 s1 c h2 e vs I mx hW;have hin:∀env ∈(gI (CXP P w) P w K mg base N qual scope f cd A outer s H E).stack,∀b,env.frame=some b->b∈frs (gI (CXP P w) P w K mg base N qual scope f cd A outer s H E).stack:=λenv he b hb=>List.mem_filterMap.mpr ⟨env,he,hb⟩;refine wpAny_leaves_madeW I.ok.frames rfl (λb o q=>PySem.W.of_hideAll _ q) (PySem.W.funFrames_hide I.stack hin) mx λh' t fly' _ _ up=>?_;obtain⟨h1,g1,d1,t1,os1⟩:=s1;have fresh:∀b o,h1.get? b=some o->h2.get? b=some o:=mx.keeps;have nfr:∀b u,H1 b=some u->b∉frs (gI (CXP P w) P w K mg base N qual scope f cd A outer s H E).stack:=λb u e hb=>by rw[I.stkFree b hb]at e;cases e
 refine⟨_,H1,o7 I rfl rfl rfl rfl I.bare (Un.kept fresh) (I.hok.kept fresh) (λb o u e q=>?_) (λb o o' e q hb=>?_) fly' up,hW⟩
 .obtain⟨o1,e1⟩:=cO.there (I.hok b u e);have:=fresh b o1 e1;rw[q]at this;cases this;exact hideAll_get _ e1 (nfr b u e)
 .have:=fresh b o' q;rw[e]at this;cases this;exact hideAll_get _ q hb
end
structure K6(X:Cx)(x:Str)(C:Addr):Prop where
 bm:X.mg x=some (.ref C)
 obj:∃bm N nm q bs hdct sn sub ab col dd k0 k1 k2 k3 k5 mN,X.base.get? C=some (excClassObj nm q C N bs bm hdct sn sub ab col dd k0 k1 k2 k3 k5 "ValueError.__new__")/\X.base.Ns N mN/\mN "__init__"=none /\
  OwnTail X.base [.type "ValueError",.type "Exception",.type "BaseException",.type "object"] bm
section
variable{X:Cx}{T:Tb}{W:Nat->St->LA}
theorem xy(O:K6 X x (T.xcl c))(hx:XM X T W)(hc:X.calm=true)(hg:Gl X x)(ha:SA X T W (e::es) ms)(hne:∀env pvs,ms env=.ok pvs->pvs.length<=100)(hd:Nd x:=by decide)
  (he:starEach (e::es) X.env=(false,eval e X.env)::starEach es X.env:=by rfl) (hpl:(backTo cpos (starEach es X.env)).any (·.1)=false:=by rfl) :
  SS X T W (.Raise (some (.Call (.Name x np) (e::es) [] cpos)) none pos) (λenv=>match ms env with
   |.ok _=>.exc c env
   |.exc k=>.exc k env
   |.stuck=>.stuck):=by
 intro js s Y H D I h;obtain⟨Z,F,env,fp,S,q⟩:=h;dsimp only at q;obtain⟨tl,N,nm,qn,bs,hdct,sn,sub,ab,col,dd,k0,k1,k2,k3,k5,mN,hC,hN,hni,TL⟩:=O.obj;refine wpAny_Raise_call_subT (nm:=nm) (q:=qn) (N:=N) (bs:=bs) (hdct:=hdct) (sn:=sn) (sub:=sub) (ab:=ab) (col:=col) (dd:=dd) (k0:=k0) (k1:=k1) (k2:=k2) (k3:=k3) (k5:=k5)
  PySem.F.excBase_ValueError (TL.hasType PySem.F.excBase_ValueError.hasBase) (I.ok.hd hc) (by rw[he];show(false ||(backTo cpos (starEach es X.env)).any (·.1))=false;rw[hpl];rfl) hni (kj I hg O.bm ⟨rfl,?_⟩ hd)
 have h2:=ha cpos js s Y H (λvs H'=>vs.length <= 100/\W c Y H') I (tA.bind S (λk e H' x=>by rw [e] at q;exact q F H' Y fp (S.grow (Gr.same S.hp.ft x))) (λe=>by rw [e] at q;exact q) λpvs vs H' F' f e g r _ _ _=>by
  rw[e]at q;exact⟨by rw[<- r.length];exact hne env pvs e,q F' H' Y fp (S.grow g)⟩)
 rw[he]at h2 ⊢;refine Calls.evalArgs_plain (wpAny_mono h2 (λvs s₂ h₂=>?_) λ_ _ y=>y);obtain⟨vs',H',I2,rv,hl,hw⟩:=h₂;refine⟨rfl,?_,I2.bk _ _ hC,hN.keeps I2.bk,TL.keeps I2.bk,λh' e' mx=>hx js Y H' s₂ c h' e' vs I2 mx hw⟩;rw[<- rv.length,sizeLine_eq]
 lia
end
def aM(m:LB->LC)(xs:LB):LC:=match m (mapL Fl.LF xs)with
 |.ok v=>if v.has Fl.LK then .stuck else .ok v
 |.exc c=>.exc c
 |.stuck=>.stuck
noncomputable def bA(n:Nat)(m:MS)(args:LB):LC:=match m (args.map some++replicate (n-args.length) none)with
 |.next _=>.ok .non
 |.ret v=>.ok v
 |.exc c _=>.exc c
 |_=>.stuck
def GF(T:Tb)(Z:Zn)(Q:VK)(E:XK):LC->Prop
 |.ok pv=>∀F H v f,cI T Z F H->Rel T F Z.B NoL H pv v f->f.Nodup->(∀a∈f,¬F a)->(∀a∈f,Z.H0 a=none\/Z.fp0 a)->Q v H
 |.exc c=>∀H,(∀a o,Z.H0 a=some o->¬Z.fp0 a->H a=some o)->E (.ref (T.xcl c)) none H
 |.stuck=>False
structure xb(T:Tb)(F B:Lp)(H:Hp)(pvs:LB)(vs:Lz)(f:Lu):Prop where
 rel:RelL T F B NoL H pvs vs f
 nd:f.Nodup
 nf:∀a∈f,¬F a
 bo:(∀a,B a->(∃o,H a=some o)/\a∉f)/\CU T H (·∈f)
 ft:∀a,F a->∃o,H a=some o
def spM(T:Tb)(n:Nat)(m:LB->LC):Sp:=λvs H Q E=>vs.length=n/\∃pvs F B f,xb T F B H pvs vs f/\GF T ⟨H,F,(·∈f),B,none⟩ Q E (m pvs)
theorem RelL.split:∀{xs:LB}{vs:Lz}{f:Lu},RelL T F B L H xs vs f->f.Nodup ->
  ∃g:Nat->Lu,(∀(i:Nat) x v,xs[i]?=some x->vs[i]?=some v->Rel T F B L H x v (g i))/\(∀i,(g i).Nodup)/\(∀i j,i≠j->∀a∈g i,a∉g j)/\∀i a,a∈g i->a∈f
 | [],_,_,_,_=>⟨λ_=>[],λi x v e=>by simp at e,λ_=>nodup_nil,λ_ _ _ _ z=>(nomatch z),λ_ _ z=>(nomatch z)⟩
 |x::xs,_,_,h,nd=>by
  obtain⟨v,ws,f1,f2,rfl,h1,h2,rfl⟩:=h;obtain⟨n1,n2,n3⟩:=nodup_append.mp nd;obtain⟨g,g1,g2,g3,g4⟩:=RelL.split h2 n2;refine⟨λi=>match i with|0=>f1|j+1=>g j,λi y u e1 e2=>?_,λi=>?_,λi j hij a ha=>?_,λi a ha=>?_⟩
  .cases i with
   |zero=>simp at e1 e2;subst e1 e2;exact h1
   |succ i=>exact g1 i y u (by simp_all) (by simp_all)
  .cases i with
   |zero=>exact n1
   |succ i=>exact g2 i
  .grind
  grind
section
variable{P:Program}{w:World}{K:PySem.W.Frag}{mg:Lk}{base:Heap}{T:Tb}
def pC(N:Lw)(R:xb T F B H pvs vs f)(pin:Option V)(hpin:∀v,pin=some v->vs[0]?=some v/\∃fl c ks xs,pvs[0]?=some (.obj fl c ks xs)) :
  ∃fp,aC T ⟨H,F,(·∈f),B,pin⟩ F H (L2.start N vs) (pvs.map some++replicate (N.length-pvs.length) none) fp:=by
 obtain⟨g,g1,g2,g3,g4⟩:=R.rel.split R.nd;have hl:=R.rel.length;refine⟨g,⟨R.bo,λ_ _ h _=>h,λ_ h=>h,λ_ h=>.inl h,R.ft⟩,?_,λi pv e=>?_,g2,g3,λi a ha=>⟨R.nf a (g4 i a ha),R.rel.there a (g4 i a ha)⟩,λi a ha=>.inr (g4 i a ha),λi a ha=>R.rel.chg a (g4 i a ha),λv hv=>?_⟩
 .unfold L2.start;simp[hl]
 .by_cases hi:i<pvs.length
  .rw[getElem?_append_left (by simpa using hi),getElem?_map]at e;obtain⟨x,e1,e2⟩:=map_eq_some_iff.mp e;cases e2;obtain⟨v,_,ev,_⟩:=R.rel.get e1;refine⟨v,?_,g1 i pv v e1 ev⟩;unfold L2.start;rw[getElem?_append_left (by simpa[<- hl]using hi),getElem?_map,ev];rfl
  .rw[getElem?_append_right (by simpa using hi),getElem?_replicate]at e;split at e<;>cases e
 .obtain⟨h1,fl,c,ks,xs,h2⟩:=hpin v hv;have hl0:0<vs.length:=(List.getElem?_eq_some_iff.mp h1).1;have hp0:0<pvs.length:=(List.getElem?_eq_some_iff.mp h2).1;unfold L2.start dB;rw[getElem?_append_left (by simpa using hl0),getElem?_append_left (by simpa using hp0),getElem?_map,getElem?_map,h1,h2];exact⟨rfl,rfl⟩
def Jj(F:Fun K x qual st f fd)(S:gn N ps (aU st))
  (body:∀ (cdv:Value) (A:Around) (outer:List Env) (s:Shared) (H:Hp) (E:XK),eX k (A.deeper (PyProof.Rows.envOfC qual (aU st) s.heap.objs.size f cdv)) ->
   SSs (gI (CXP P w) P w K mg base N qual (aU st) f cdv A outer s H E) T (WD T E) (cN st) m):dR P w K mg base (CXP P w) (k+1) f fd ps (spM T ps.length (bA N.length m)):=by
 obtain⟨oc,od,kV,doc,pm,an,cdv,ct,osl,rfl,lk,hcd⟩:=F.ex;refine Dg lk hcd S (λvs H Q E h=>h.1) λA outer s H vs Q E hr hsp=>⟨_,body cdv A outer s H E hr,?_⟩
 obtain⟨_,pvs,F,B,fl,R,q⟩:=hsp;obtain⟨fp,S0⟩:=pC N R none (λ_ h=>nomatch h);refine⟨_,F,_,fp,S0,?_⟩;unfold bA at q;cases e:m (pvs.map some++replicate (N.length-pvs.length) none)with
 |next e'=>rw[e]at q;exact λF' H' σ' fp' S'=>q F' H' .non [] S'.hp Kv nodup_nil (λ_ z=>(nomatch z)) (λ_ z=>(nomatch z))
 |ret v=>rw[e]at q;exact q
 |brk e'|cont e'=>rw[e]at q;exact q.elim
 |exc c e'=>rw[e]at q;exact λF' H' σ' fp' S'=>q H' S'.hp.keep
 |stuck=>rw[e]at q;exact q.elim
end
def yT(hB:∀a,B a->B' a)(hL:∀a,L a->B' a):Mp T Fl.LF (λ_=>false) (λx=>x) (λ_=>True) F B L H F B' L' H:=
 ⟨λf a vs _ c h=>by
  cases f with
  |bor=>exact⟨hB a h.1,h.2⟩
  |lnt=>exact⟨hL a h.1,.inl h.2⟩
  | _=>exact h,λf a _ c h=>⟨by
  cases f with
  |bor=>exact hB a h
  |lnt=>exact hL a h
  |_=>exact h,λ_ q=>q⟩,λf a x y h=>by cases f<;>exact h,rfl,λ_ _=>rfl,λ_ _ q _=>q⟩
def RelL.LF(hB:∀a,B a->B' a)(hL:∀a,L a->B' a)(h:RelL T F B L H x v fo):RelL T F B' L' H (mapL Fl.LF x) v fo:=(yT hB hL).rels (has_noL x) (λ_ _=>True.intro) h
def Rel.noB(hp:x.has Fl.LK=false)(h:Rel T F B L H x v fo):Rel T F B' L H x v fo:=by
 have:=(yU (p:=Fl.LK) (B':=B') (λ_ _ q=>q) (λz=>(nomatch z))).rel hp (λ_ _=>True.intro) h
 rwa [l9]at this
def RelL.append:∀{xs ys:LB}{vs us:Lz}{f g:Lu},RelL T F B L H xs vs f->RelL T F B L H ys us g->RelL T F B L H (xs++ys) (vs++us) (f++g)
 | [],_,_,_,_,_,h,r=>by obtain⟨rfl,rfl⟩:=h;exact r
 |x::xs,_,_,_,_,_,h,r=>by obtain⟨v,ws,f1,f2,rfl,h1,h2,rfl⟩:=h;exact⟨v,_,f1,_,rfl,h1,RelL.append h2 r,by simp⟩
section
variable{X:Cx}{T:Tb}{W:Nat->St->LA}{Z:Zn}{F F1:Lp}{H H1:Hp}{Y:St}{env:En}{fp:Nat->Lu}
theorem xL
  (G:dR X.prog X.w X.K X.mg X.base (CXP X.prog X.w) k f fd ps (spM T ps.length m)) (hr:eX k X.A) (hb:gM X.K fd ps ds) (hd:aY dvs ds) (hdp:∀F B L H,RelL T F B L H dps dvs []) (hx:XF X T W)
  (S:aC T Z F H Y env fp) (g:Gr F H F1 H1) (r:RelL T F1 Z.B (Own fp) H1 xs vs fx) (nf:∀a∈fx,¬F1 a) (nd:fx.Nodup) (new:∀a∈fx,H a=none) (q:GE T W Z.B F (Own fp) Y H Q (aM m (xs++dps)))
  (I1:L2.Inv X js Y H1 s1) (rv:aY vs us) (hlen:vs.length+dvs.length=ps.length):wpAny (model X.prog X.w) X.A (call (.ref f) us) (EP X js Y Q) X.xe s1:=by
 have r2:aY (vs++dvs) (us++ds):=rv.append hd;have hl:(us++ds).length=ps.length:=by rw[<- r2.length,length_append];exact hlen
 have rr:RelL T F1 Z.B (Own fp) H1 (xs++dps) (vs++dvs) fx:=by
  have:=RelL.append r (hdp F1 Z.B (Own fp) H1)
  rwa [append_nil]at this
 have hBo:∀a,Z.B a->(∃o,H1 a=some o)/\a∉fx:=λa h=>by obtain⟨⟨o,h1⟩,h2⟩:=S.hp.bo.1 a h;have h3:=S.hp.keep a o h1 h2;exact⟨⟨o,g.ext a o h3⟩,λz=>by simp_all⟩
 have hOw:∀a,Own fp a->(∃o,H1 a=some o)/\a∉fx:=λa hz1=>by obtain⟨i,hi⟩:=hz1;obtain⟨_,o,ho⟩:=S.dis i a hi;exact⟨⟨o,g.ext a o ho⟩,λz=>by simp_all⟩
 have R:xb T F1 (λa=>(∃o,H1 a=some o)/\a∉fx) H1 (mapL Fl.LF (xs++dps)) (vs++dvs) fx:=⟨RelL.LF hBo hOw rr,nd,nf,⟨λa h=>h,S.tbo g.ext λa z=>.inl (new a z)⟩,g.dom⟩
 refine wpAny_call (codeAny_mono (G.run X.A X.stack s1 H1 ⟨us,[]⟩ (us ++ ds) (vs ++ dvs) Q (λcls _ H'=>∃ c,cls=.ref (T.xcl c)/\W c Y H') hr I1.env0 (hb s1 us I1.kIn hl) r2
  ⟨by rw[r2.length,hl],_,F1,_,fx,R,?_⟩) λrs s' hq=>?_)
 .unfold aM at q;cases e:m (mapL Fl.LF (xs++dps))with
  |ok v=>
   rw[e]at q;dsimp only at q;intro F2 H2 u f2 hp2 r3 nd2 nf2 new2;by_cases hbr:v.has Fl.LK=true
   .rw[if_pos hbr]at q;exact q.elim
   .rw[if_neg hbr]at q;have hbr':v.has Fl.LK=false:=by lia
    refine q u H2 F2 f2 ⟨λa o h=>hp2.keep a o (g.ext a o h) λz=>(by simp_all),λa h=>hp2.f0 a (g.mono a h),λa h=>?_,hp2.ft⟩ ?_ nf2 nd2 λa ha=>?_
    .rcases hp2.fn a h with z|z|z
     .exact g.only a z
     .exact .inr (g.ext.free z)
     .exact .inr (new a z)
    .exact Rel.tr (λ_ h=>h) (λ_ h=>h) (λ_ h=>h.elim) (λ_ _ h _=>h) (λ_ _ _ h=>h) (Rel.noB (B':=Z.B) hbr' r3)
    .rcases new2 a ha with z|z
     .exact g.ext.free z
     .exact new a z
  |exc c=>rw[e]at q;exact λH' h=>⟨c,rfl,q H' λa o z=>h a o (g.ext a o z) λz'=>by simp_all⟩
  |stuck=>rw[e]at q;exact q.elim
 .cases rs with
  |error e=>obtain⟨cls,H',fl,c,rfl,hw⟩:=hq;exact hx js Y H1 s1 c H' e s' I1 fl hw
  |ok fl=>
   cases fl with
   |ret u=>exact I1.after hq
   |next|brk|cont=>exact False.elim hq
def Bo
  (G:dR X.prog X.w X.K X.mg X.base (CXP X.prog X.w) k f fd ps (spM T ps.length m)) (hr:eX k X.A) (hg:Gl X x) (hm:X.mg x=some (.ref f)) (hk:PySem.W.keepIn X.K (.ref f)=true) (hb:gM X.K fd ps ds) (hd:aY dvs ds) (hdp:∀F B L H,RelL T F B L H dps dvs []) (hx:XF X T W)
  (hn:∀env xs,ms env=.ok xs->xs.length+dvs.length=ps.length) (ha:SA X T W (e::es) ms)
  (hdb:Nd x:=by decide) (he:starEach (e::es) X.env=(false,eval e X.env)::starEach es X.env:=by rfl) (hpl:(backTo pos (starEach es X.env)).any (·.1)=false:=by rfl) :
  SE X T W (.Call (.Name x p) (e::es) [] pos) (aq (λxs=>aM m (xs++dps)) ms):=by
 intro js s Y H Q I h;obtain⟨Z,F,env,fp,S,q⟩:=h;unfold aq at q;refine wpAny_Call_Name_kw (kj I hg hm ?_ hdb);refine callWith_K I.ok.mod.kin hk (thn (ha pos js s Y H (λvs H1=>∀ us s1,L2.Inv X js Y H1 s1->aY vs us->wpAny (model X.prog X.w) X.A (call (.ref f) us) (EP X js Y Q) X.xe s1) I
  (tA.bq S λxs vs H1 F1 f1 e1 g1 r1 n1 d1 w1 us s1 I1 rv=>?_)) λus s1 ⟨vs,H1,I1,r,q1⟩=>⟨I1.kIn,q1 us s1 I1 r⟩) he hpl
 rw[e1]at q;exact xL G hr hb hd hdp hx S g1 r1 n1 d1 w1 q I1 rv (by rw[<- r1.length];exact hn env xs e1)
def eW(X:Cx)(T:Tb)(k:Nat)(mn:Str)(ps:Lw)(ds:Lr)(disp:Nat->Option (LB->LC)):Prop:=
 ∀c m,c<T.nc->disp c=some m->∃f fd,CV X.K (T.cls c) mn f/\gM X.K fd ps ds/\dR X.prog X.w X.K X.mg X.base (CXP X.prog X.w) k f fd ps (spM T ps.length m)
def u9(disp:Nat->Option (LB->LC))(dps:LB)(o:ME)(ms:MA):ME:=λenv=>(o env).bind λov=>match ov with
 |.obj _ c _ _=>match disp c with
  |some m=>(ms env).bind λxs=>aM m ((ov::xs)++ dps)
  |none=>.stuck
 |_=>.stuck
def lN(hm:∀k,T.att k≠mn):∀(ks:List Nat) (vs:Lz),((ks.map T.att).zip vs).lookup mn=none
 | [],_|j::ks,[]=>rfl
 |j::ks,v::vs=>by rw[map_cons,zip_cons_cons,List.lookup_cons,show(mn==T.att j)=false by rw[beq_eq_false_iff_ne];exact(hm j).symm];exact lN hm ks vs
def u8
  (hK:X.K=T.K) (hc:∀c<T.nc,Cls T.K (T.cls c)) (hm:∀k,T.att k≠mn) (D:eW X T k mn ps ds disp) (e:disp c=some m) (r:Rel T F1 B L H1 (.obj fl c ks xs) v f1) (I1:L2.Inv X js Y H1 s1) (ru:bT v u)
  (h:∀a f fd,u=.ref a->PySem.W.keepIn X.K (.ref f)=true->gM X.K fd ps ds->dR X.prog X.w X.K X.mg X.base (CXP X.prog X.w) k f fd ps (spM T ps.length m)->Q (.ref f,[.ref a]) s1) :
  wpAny (model X.prog X.w) X.A (getMethod u mn pl) Q X.xe s1:=by
 obtain⟨a,dx,vs,fp',rfl,hl,hk,hr,_,_⟩:=r;obtain⟨f,fd,M,hb,G⟩:=D c m hk.2 e;obtain rfl:u=Value.ref a:=ru;refine ug I1 hl (by simp_all) M (lN hm _ _) (h a f fd rfl M.kp hb G)
def Bg
  (hK:X.K=T.K) (hc:∀c<T.nc,Cls T.K (T.cls c)) (hm:∀k,T.att k≠mn) (D:eW X T k mn ps ds disp) (hr:eX k X.A) (hd:aY dvs ds) (hdp:∀F B L H,RelL T F B L H dps dvs []) (hx:XF X T W)
  (hn:∀env xs,ms env=.ok xs->xs.length+1+dvs.length=ps.length) (ho:SE X T W o mo) (ha:SA X T W (e::es) ms)
  (hst:starEach (e::es) X.env=(false,eval e X.env)::starEach es X.env:=by rfl) (hpl:(backTo pos (starEach es X.env)).any (·.1)=false:=by rfl)
  (ht:eval (.Call (.Attribute o mn apos) (e::es) [] pos) X.env=(do
   let ov <- eval o X.env
   standAt apos.atName
   let(f,first) <- holding [ov] (getMethod ov mn pl)
   callWith pos f first (backTo pos (starEach (e::es) X.env)) (backToKw pos (keywordEach [] X.env))):=by rfl) :
  SE X T W (.Call (.Attribute o mn apos) (e::es) [] pos) (u9 disp dps mo ms):=by
 intro js s Y H Q I h;obtain⟨Z,F,env,fp,S,q⟩:=h;unfold u9 at q;refine methodCall_KW (thn (ho js s Y H (λv H1=>∃ ov F1 f1,mo env=.ok ov/\Gr F H F1 H1/\Rel T F1 Z.B (Own fp) H1 ov v f1/\(∀ a ∈ f1,¬ F1 a)/\f1.Nodup/\∀ a ∈ f1,H a=none) I
  (tE.bq S λov v H1 F1 f1 e1 g1 r1 n1 d1 w1=>⟨ov,F1,f1,e1,g1,r1,n1,d1,w1⟩)) λu s1 zz=>?_) ht
 obtain⟨v,H1,I1,ru,ov,F1,f1,e1,g1,r1,n1,d1,w1⟩:=zz;rw[e1]at q;simp only[Res.LO]at q;by_cases hobj:∃fl c ks xs m,ov=.obj fl c ks xs/\disp c=some m
 .obtain⟨fl,c,ks,ys,m,rfl,em⟩:=hobj;dsimp only at q;rw[em]at q;refine u8 hK hc hm D em r1 I1 ru λa f fd eu hkp hb G=>?_;subst eu;refine callWith_K I.ok.mod.kin hkp (thn (ha pos js s1 Y H1 (λvs H2=>∀ us s2,L2.Inv X js Y H2 s2->aY vs us->wpAny (model X.prog X.w) X.A (call (.ref f) (.ref a::us)) (EP X js Y Q) X.xe s2) I1
   (tA.bind (S.grow g1) (λc e=>by rw[e]at q;exact λH' x=>q H' (g1.ext.trans x)) (λe=>by rw[e]at q;exact q) λxs vs H2 F2 f2 e2 g2 r2 n2 d2 w2 us s2 I2 rv=>?_)) λus s2 ⟨vs,H2,I2,r,q2⟩=>⟨I2.kIn,q2 us s2 I2 r⟩) hst hpl
  rw[e2]at q;have nn:∀b∈f1,¬F2 b:=λb hb z=>by
   rcases g2.only b z with z|z
   .exact n1 b hb z
   .obtain⟨oo,hoo⟩:=r1.there b hb;rw[hoo]at z;cases z
  refine xL G hr hb hd hdp hx S (g1.trans g2) (by exact⟨v,vs,f1,f2,rfl,r1.ext g2.ext g2.mono,r2,rfl⟩) (λb hb=>?_) ?_ (λb hb=>?_) q I2 (.cons ru rv) ?_
  .rcases mem_append.mp hb with hb|hb
   .exact nn b hb
   .exact n2 b hb
  .refine nodup_append.mpr ⟨d1,d2,λb hb c hc z=>?_⟩;subst z;obtain⟨oo,hoo⟩:=r1.there b hb;rw[w2 b hc]at hoo;cases hoo
  .rcases mem_append.mp hb with hb|hb
   .exact w1 b hb
   .exact g1.ext.free (w2 b hb)
  .have:=hn env xs e2;rw[length_cons,<- r2.length];exact this
 .exfalso;cases ov with
  |obj fl c ks ys=>
   cases em:disp c with
   |none=>simp only[em]at q;exact q
   |some m=>exact hobj ⟨fl,c,ks,ys,m,rfl,em⟩
  |_=>exact q
end
def iR(ms:MA)(n:Nat):Prop:=∀env xs,ms env=.ok xs->xs.length=n
def gz:iR am 0:=λ_ _ h=>by cases h;rfl
def fA(h:iR ms n):iR (ae m ms) (n+1):=λenv xs e=>by
 unfold ae at e;cases e1:m env with
 |ok x=>
  rw[e1]at e;cases e2:ms env with
  |ok ys=>rw[e2]at e;cases e;rw[length_cons,h env ys e2]
  |exc c|stuck=>rw[e2]at e;cases e
 |exc c|stuck=>rw[e1]at e;cases e
noncomputable def a_:PV->Option (LB)
 |.lst _ xs|.tup xs=>some xs
 |_=>none
section
variable{X:Cx}{T:Tb}{W:Nat->St->LA}{Z:Zn}{F F1 B L:Lp}{H H1:Hp}{Y:St}{env:En}{fp:Nat->Lu}{D:Ends}
def Rel.seq(r:Rel T F B L H x v fx)(e:a_ x=some xs):∃a vs fx',v=.ref a/\(SqL T.K H a vs\/SqT T.K H a vs)/\RelL T F B L H xs vs fx'/\fx'.Sublist fx:=by
 cases x with
 |lst f ys=>
  cases e;obtain⟨a,vs,fp',rfl,hl,hr,hf⟩:=r;refine⟨a,vs,fp',rfl,.inl hl.sq,hr,?_⟩;cases f with
  |own=>obtain rfl:fx=a::fp':=hf;exact List.sublist_cons_self _ _
  |frz|bor|lnt|mod=>obtain⟨rfl,rfl⟩:=hf;exact Sublist.refl _
 |tup ys=>cases e;obtain⟨a,vs,rfl,hl,hr⟩:=r;exact⟨a,vs,fx,rfl,.inr hl,hr,Sublist.refl _⟩
 |_=>cases e
theorem GE.newL(q:GE T W B F L Y H Q (.ok (.lst .own ys)))(g:Gr F H F1 H1)(r:RelL T F1 B L H1 ys vs fx)(nf:∀a∈fx,¬F1 a)(nd:fx.Nodup)(new:∀a∈fx,H a=none) :
  ∀p,H1 p=none->Q (.ref p) (upd H1 p (.lst vs)):=λp hp=>by
 refine q (.ref p) (upd H1 p (.lst vs)) F1 (p::fx) (g.trans (Gr.same g.dom (Ext.upd hp))) ?_ (λa ha=>?_) ?_ (λa ha=>?_)
 .unfold Rel;exact⟨p,vs,fx,rfl,bG,r.ext (Ext.upd hp) λ_ h=>h,rfl⟩
 .grind[cT,aC,cI,Gr]
 .refine nodup_cons.mpr ⟨λz=>?_,nd⟩;obtain⟨o,ho⟩:=r.there p z;rw[hp]at ho;cases ho
 .rcases mem_cons.mp ha with rfl|ha
  .exact g.ext.free hp
  .exact new a ha
def GE.newT(q:GE T W B F L Y H Q (.ok (.tup ys)))(g:Gr F H F1 H1)(r:RelL T F1 B L H1 ys vs fx)(nf:∀a∈fx,¬F1 a)(nd:fx.Nodup)(new:∀a∈fx,H a=none) :
  ∀p,H1 p=none->Q (.ref p) (upd H1 p (.tup vs)):=λp hp=>by
 refine q (.ref p) (upd H1 p (.tup vs)) F1 fx (g.trans (Gr.same g.dom (Ext.upd hp))) ?_ nf nd new;exact⟨p,vs,rfl,SqT.of bG,r.ext (Ext.upd hp) λ_ h=>h⟩
theorem small(h:n<=1000):n<=sizeLine:=by rw[sizeLine_eq];lia
def fv(ms:MA):ME:=λenv=>(ms env).bind λxs=>.ok (.lst .own xs)
def kW(ms:MA):ME:=λenv=>(ms env).bind λxs=>.ok (.tup xs)
def Ep(ha:SA X T W es ms)(hn:iR ms n)(hs:n<=1000:=by decide):SE X T W (.List es pos) (fv ms):=PE.wk (ER ha) λY H Q hz1=>by obtain⟨Z,F,env,fp,S,q⟩:=hz1;unfold fv at q;refine tA.bq S λxs vs H1 F1 f1 e1 g1 r1 n1 d1 w1=>?_;rw[e1]at q;exact⟨small (by rw[<- r1.length,hn env xs e1];exact hs),GE.newL q g1 r1 n1 d1 w1⟩
def Ek{x1}(ha:SA X T W es ms)(hn:iR ms n)(hs:n<=1000:=by decide):SE X T W (.Tuple es x1 pos) (kW ms):=PE.wk (yg ha) λY H Q hz1=>by obtain⟨Z,F,env,fp,S,q⟩:=hz1;unfold kW at q;refine tA.bq S λxs vs H1 F1 f1 e1 g1 r1 n1 d1 w1=>?_;rw[e1]at q;exact⟨small (by rw[<- r1.length,hn env xs e1];exact hs),GE.newT q g1 r1 n1 d1 w1⟩
def p1(f:PV->LC):LB->LC
 | [x]=>f x
 |_=>.stuck
def RelL.one(r:RelL T F B L H [x] vs f):∃v,vs=[v]/\Rel T F B L H x v f:=by obtain⟨v,ws,f1,f2,rfl,h1,h2,rfl⟩:=r;obtain⟨rfl,rfl⟩:=h2;exact⟨v,rfl,by rwa [append_nil]⟩
def dS:PV->LC:=λx=>match a_ x with
 |some xs=>.ok (.int xs.length)
 |none=>.stuck
theorem B5(hK:X.K=T.K):Mir T W (p1 dS) (λxs H Q=>∃p ys,xs=[.ref p]/\(SqL X.K H p ys\/SqT X.K H p ys)/\Q (.int ys.length) H):=by
 intro B F L Y H Q F' H' xs vs fx g r _ _ _ q
 match xs,r,q with
 | [x],r,q=>
  obtain⟨v,rfl,r1⟩:=r.one;simp only[p1,dS]at q;cases e:a_ x with
  |none=>rw[e]at q;exact q.elim
  |some ys=>rw[e]at q;obtain⟨a,ws,fx',rfl,hs,hr,_⟩:=r1.seq e;exact⟨a,ws,rfl,by lia,q.scal g (by rw[<- hr.length];exact fN)⟩
 | [],_,q|_::_::_,_,q=>exact q.elim
def cF(hK:X.K=T.K)(hg:Gl X "len")(hm:X.mg "len"=none)(ha:SE X T W e m)(he:starEach [e] X.env=[(false,eval e X.env)]:=by rfl):SE X T W (.Call (.Name "len" p) [e] [] pos) (aq (p1 dS) (ae m am)):=
 fK qv (B5 hK) hg hm PySem.boot_len (ac ha ah he) (he:=he)
def da:PV->LC:=λx=>match a_ x with
 |some xs=>.ok (.lst .own xs)
 |none=>.stuck
def yX(hK:X.K=T.K):Mir T W (p1 da) (λxs H Q=>∃p ys,xs=[.ref p]/\(SqL X.K H p ys\/SqT X.K H p ys)/\∀l,H l=none->Q (.ref l) (upd H l (.lst ys))):=by
 intro B F L Y H Q F' H' xs vs fx g r nf nd new q
 match xs,r,q with
 | [x],r,q=>
  obtain⟨v,rfl,r1⟩:=r.one;simp only[p1,da]at q;cases e:a_ x with
  |none=>rw[e]at q;exact q.elim
  |some ys=>rw[e]at q;obtain⟨a,ws,fx',rfl,hs,hr,sl⟩:=r1.seq e;exact⟨a,ws,rfl,by lia,GE.newL q g hr (λb hb=>nf b (sl.subset hb)) (nd.sublist sl) (λb hb=>new b (sl.subset hb))⟩
 | [],_,q|_::_::_,_,q=>exact q.elim
def cY(hK:X.K=T.K)(hg:Gl X "list")(hm:X.mg "list"=none)(hv:bootBuiltins "list"=some (.type "list"))(ha:SE X T W e m)(he:starEach [e] X.env=[(false,eval e X.env)]:=by rfl):SE X T W (.Call (.Name "list" p) [e] [] pos) (aq (p1 da) (ae m am)):=
 oK qu (yX hK) hg hm hv (ac ha ah he) (he:=he)
def fh:PV->LC:=λx=>match a_ x with
 |some xs=>.ok (.tup xs)
 |none=>.stuck
theorem wB(hK:X.K=T.K):Mir T W (p1 fh) (λxs H Q=>∃p ys,xs=[.ref p]/\((SqL X.K H p ys/\∀l,H l=none->Q (.ref l) (upd H l (.tup ys)))\/(SqT X.K H p ys/\Q (.ref p) H))):=by
 intro B F L Y H Q F' H' xs vs fx g r nf nd new q
 match xs,r,q with
 | [x],r,q=>
  obtain⟨v,rfl,r1⟩:=r.one;simp only[p1,fh]at q;cases x with
  |lst f ys=>
   simp only[a_]at q;obtain⟨a,ws,fp',rfl,hl,hr,hf⟩:=r1;have sl:fp'.Sublist fx:=by
    cases f with
    |own=>obtain rfl:fx=a::fp':=hf;exact List.sublist_cons_self _ _
    |frz|bor|lnt|mod=>obtain⟨rfl,rfl⟩:=hf;exact Sublist.refl _
   exact⟨a,ws,rfl,.inl ⟨by rw[hK];exact hl.sq,GE.newT q g hr (λb hb=>nf b (sl.subset hb)) (nd.sublist sl) (λb hb=>new b (sl.subset hb))⟩⟩
  |tup ys=>have r2:=r1;obtain⟨a,ws,rfl,hs,hr⟩:=r2;exact⟨a,ws,rfl,.inr ⟨by lia,q _ _ _ fx g r1 nf nd new⟩⟩
  |_=>exact q.elim
 | [],_,q|_::_::_,_,q=>exact q.elim
def iW(hK:X.K=T.K)(hg:Gl X "tuple")(hm:X.mg "tuple"=none)(hv:bootBuiltins "tuple"=some (.type "tuple"))(ha:SE X T W e m)(he:starEach [e] X.env=[(false,eval e X.env)]:=by rfl):SE X T W (.Call (.Name "tuple" p) [e] [] pos) (aq (p1 fh) (ae m am)):=
 oK oj (wB hK) hg hm hv (ac ha ah he) (he:=he)
def aB:PV->PV->LC
 |x,.int i=>match a_ x with
  |some xs=>match atI xs i with
   |some y=>if x.has Fl.LI&&y.has Fl.LI then .stuck else .ok y
   |none=>.stuck
  |none=>.stuck
 |_,_=>.stuck
def CS(r:RelL T F B L H xs vs f)(e:atI xs i=some y):∃v f',atI vs i=some v/\Rel T F B L H y v f'/\f'.Sublist f:=by
 unfold atI at e ⊢;rw[<- r.length];cases e1:ixN xs.length i with
 |none=>rw[e1]at e;cases e
 |some j=>rw[e1]at e;exact r.get e
theorem B6(hK:X.K=T.K):kC T W aB (λx y H Q=>ED X.K x y H Q \/(EB X.K x y H Q\/EC x y H Q)):=by
 intro B F L Y H Q F' H' x y v u fx fy g rx ry nf nd new q;cases y with
 |int i=>
  obtain⟨rfl,rfl⟩:=ry;simp only[aB]at q;cases e:a_ x with
  |none=>rw[e]at q;exact q.elim
  |some xs=>
   rw[e]at q;dsimp only at q;obtain⟨a,ws,fx',rfl,hs,hr,sl⟩:=rx.seq e;cases e2:atI xs i with
   |none=>rw[e2]at q;exact q.elim
   |some z=>
    rw[e2]at q;dsimp only at q;obtain⟨w,f',h1,h2,h3⟩:=CS hr e2;have e0:f'=[]:=by
     by_cases ho:x.has Fl.LI=true
     .by_cases hz:z.has Fl.LI=true
      .rw[ho,hz]at q;exact q.elim
      .exact Rel.LN () h2
     .have:=Rel.LN () rx;subst this;exact sublist_nil.mp (h3.trans sl)
    subst e0;by_cases hb:(x.has Fl.LI&&z.has Fl.LI)=true
    .rw[if_pos hb]at q;exact q.elim
    .rw[if_neg hb]at q;rcases hs with hs|hs
     .exact .inl ⟨a,ws,i,w,rfl,rfl,by lia,h1,q.scal g h2⟩
     .exact .inr (.inl ⟨a,ws,i,w,rfl,rfl,by lia,h1,q.scal g h2⟩)
 |_=>exact q.elim
def Et(hK:X.K=T.K)(ha:SE X T W a ma)(hb:SE X T W b mb)(hs:mf b):SE X T W (.Subscript a b pos) (mOp aB ma mb):=
 HS F8 (B6 hK) ha hb hs
abbrev MO:=En->Res (Lx)
def gL:MO:=λ_=>.ok none
def ib(m:ME):MO:=λenv=>(m env).bind fun
 |.int i=>.ok (some i)
 |_=>.stuck
def jN(xs:LB)(lo hi:Lx):LB:=(xs.drop (HT.sIx xs.length 0 lo)).take (HT.sIx xs.length xs.length hi-HT.sIx xs.length 0 lo)
def gy(o:ME)(lo hi:MO):ME:=λenv=>(o env).bind λx=>(lo env).bind λl=>(hi env).bind λh=>match x with
 |.lst _ xs=>.ok (.lst .own (jN xs l h))
 |_=>.stuck
def RelL.drop:∀{xs:LB}{vs:Lz}{f:Lu} (n:Nat),RelL T F B L H xs vs f->∃f',RelL T F B L H (xs.drop n) (vs.drop n) f'/\f'.Sublist f
 |xs,vs,f,0,h=>⟨f,h,Sublist.refl _⟩
 | [],vs,f,n+1,h=>by obtain⟨rfl,rfl⟩:=h;exact⟨[],by simp[RelL],Sublist.refl _⟩
 |x::xs,_,_,n+1,h=>by obtain⟨v,ws,f1,f2,rfl,h1,h2,rfl⟩:=h;obtain⟨f',r,s⟩:=RelL.drop n h2;exact⟨f',by simpa using r,s.trans (List.sublist_append_right _ _)⟩
def RelL.take:∀{xs:LB}{vs:Lz}{f:Lu} (n:Nat),RelL T F B L H xs vs f->∃f',RelL T F B L H (xs.take n) (vs.take n) f'/\f'.Sublist f
 |xs,vs,f,0,h=>⟨[],by simp[RelL],List.nil_sublist _⟩
 | [],vs,f,n+1,h=>by obtain⟨rfl,rfl⟩:=h;exact⟨[],by simp[RelL],Sublist.refl _⟩
 |x::xs,_,_,n+1,h=>by obtain⟨v,ws,f1,f2,rfl,h1,h2,rfl⟩:=h;obtain⟨f',r,s⟩:=RelL.take n h2;refine⟨f1++f',?_,Sublist.append (Sublist.refl _) s⟩;exact⟨v,_,f1,f',rfl,h1,r,rfl⟩
def tO(T:Tb)(W:Nat->St->LA)(m:MO):TO:=λY H Q=>∃Z F env fp,aC T Z F H Y env fp/\match m env with
 |.ok o=>∀H' F',Gr F H F' H'->Q o H'
 |.exc c=>∀H',Ext H H'->W c Y H'
 |.stuck=>False
abbrev SO(X:Cx)(T:Tb)(W:Nat->St->LA)(e:Option Expr)(m:MO):Prop:=PO X e (tO T W m)
def l6:SO X T W none gL:=λjs s Y H Q I ⟨Z,F,env,fp,S,q⟩=>BJ js s Y H Q I (q H F (Gr.refl S.hp.ft))
def gJ(h:SE X T W e m):SO X T W (some e) (ib m):=λjs s Y H Q I ⟨Z,F,env,fp,S,q⟩=>BI h js s Y H Q I (by
 unfold ib at q;refine tE.bind S (λc e=>by rw[e]at q;exact q) (λe=>by simp_all) λx v H1 F1 f1 e1 g1 r1 n1 d1 w1=>?_;rw[e1]at q;cases x with
 |int i=>unfold Rel at r1;exact⟨i,r1.1,q H1 F1 g1⟩
 |_=>exact q.elim)
def g8(hK:X.K=T.K)(he:SE X T W e m)(hl:SO X T W lo ml)(hu:SO X T W hi mh):SE X T W (.Subscript e (.Slice lo hi none p2) pos) (gy m ml mh):=
 PE.wk (yh A9 he hl hu) λY H Q hz1=>by
  obtain⟨Z,F,env,fp,S,q⟩:=hz1;unfold gy at q;walk_at "a";refine⟨Z,F1,env,fp,S.grow g1,?_⟩;cases e2:ml env with
  |exc c=>rw[e2]at q;exact λH' x=>q H' (g1.ext.trans x)
  |stuck=>rw[e2]at q;exact q
  |ok l=>
   rw[e2]at q;intro H2 F2 g2;refine⟨Z,F2,env,fp,(S.grow g1).grow g2,?_⟩;cases e3:mh env with
   |exc c=>rw[e3]at q;exact λH' x=>q H' ((g1.ext.trans g2.ext).trans x)
   |stuck=>rw[e3]at q;exact q
   |ok h=>
    rw[e3]at q;intro H3 F3 g3;cases x with
    |lst f xs=>
     have g:=(g1.trans g2).trans g3;have r3:=(r1.ext (g2.trans g3).ext (g2.trans g3).mono)
     have nf3:∀a∈f1,¬F3 a:=λa ha z=>by
      rcases(g2.trans g3).only a z with z|z
      .exact n1 a ha z
      .obtain⟨o,ho⟩:=r1.there a ha;rw[ho]at z;cases z
     obtain⟨a,ws,fp',rfl,hll,hr,hf⟩:=r3;have sl:fp'.Sublist f1:=by
      cases f with
      |own=>obtain rfl:f1=a::fp':=hf;exact List.sublist_cons_self _ _
      |frz|bor|lnt|mod=>obtain⟨rfl,rfl⟩:=hf;exact Sublist.refl _
     obtain⟨f4,h4,s4⟩:=RelL.drop (HT.sIx xs.length 0 l) hr;obtain⟨f5,h5,s5⟩:=RelL.take (HT.sIx xs.length xs.length h-HT.sIx xs.length 0 l) h4;have sl2:=(s5.trans s4).trans sl;refine⟨a,ws,rfl,by rw[hK];exact hll.sq,?_⟩;unfold CF;rw[<- hr.length];exact GE.newL q g h5 (λb hb=>nf3 b (sl2.subset hb)) (d1.sublist sl2) (λb hb=>w1 b (sl2.subset hb))
    |_=>exact q.elim
def C2(K:PySem.W.Frag):R2:=λx y H Q=>∃l b xs zs,x=.ref l/\y=.ref b/\Rd H l (.lst xs)/\Rd H b (.lst zs)/\xs.length+zs.length<=sizeLine/\∀p,H p=none->Q (.ref p) (upd H p (.lst (xs++zs)))
theorem BU:OpR X (binaryOp .Add) (C2 K):=by
 intro js s Y H x y v u Q I rx ry h;obtain⟨l,b,xs,zs,rfl,rfl,hH,hB,hz,q⟩:=h;cases rx;cases ry;obtain⟨z,its,n,r,e⟩:=hH.ok I.hok;obtain⟨z2,its2,n2,r2,e2⟩:=hB.ok I.hok;have hl:=r.length;have hl2:=r2.length;refine PySem.P.add_list e e2 ?_ (by rw[size_toArray,size_toArray];lia);have ea:its.toArray++its2.toArray=(its++its2).toArray:=by simp
 rw[ea];exact⟨.ref _,_,I.lnew (t':=s.toks) (r.append r2) (by rw[length_append];lia),rfl,q _ I.fresh⟩
noncomputable def aO:PV->PV->LC
 |.int i,.int j=>.ok (.int (i+j))
 |.lst f xs,.lst g ys=>if f=.mod\/g=.mod\/¬xs.length+ys.length<=10000000 then .stuck else .ok (.lst .own (xs++ys))
 |_,_=>.stuck
def n4.rd(h:n4 T F B L H f a vs)(n:f≠.mod):Rd H a (.lst vs):=by
 cases f with
 |own=>exact .inl h
 |lnt=>exact .inl h.2
 |frz|bor=>exact h.2
 |mod=>exact absurd rfl n
def sL.sub(hf:sL f a fp' fx):fp'.Sublist fx:=by
 cases f with
 |own=>obtain rfl:fx=a::fp':=hf;exact List.sublist_cons_self _ _
 |frz|bor|lnt|mod=>obtain⟨rfl,rfl⟩:=hf;exact Sublist.refl _
theorem yV:kC T W aO (λx y H Q=>(rI0 λi j=>.int (i+j)) x y H Q\/C2 T.K x y H Q):=by
 intro B F L Y H Q F' H' x y v u fx fy g rx ry nf nd new q;cases x with
 |int i=>
  cases y with
  |int j=>unfold Rel at rx ry;exact .inl ⟨i,j,rx.1,ry.1,q.scal g fN⟩
  |_=>exact q.elim
 |lst f xs=>
  cases y with
  |lst f' ys=>
   simp only[aO]at q;by_cases hc:f=.mod\/f'=.mod\/¬xs.length+ys.length<=10000000
   .rw[if_pos hc]at q;exact q.elim
   .rw[if_neg hc]at q;obtain⟨a,vs,fp1,rfl,hl1,hr1,hf1⟩:=rx;obtain⟨b,us,fp2,rfl,hl2,hr2,hf2⟩:=ry;have sl:=Sublist.append hf1.sub hf2.sub;refine .inr ⟨a,b,vs,us,rfl,rfl,hl1.rd λz=>hc (.inl z),hl2.rd λz=>hc (.inr (.inl z)),by rw[<- hr1.length,<- hr2.length,sizeLine_eq];lia,?_⟩;exact GE.newL q g (RelL.append hr1 hr2) (λb hb=>nf b (sl.subset hb)) (nd.sublist sl) (λb hb=>new b (sl.subset hb))
  |_=>exact q.elim
 |_=>exact q.elim
def OpR.or(h:OpR X f r)(h':OpR X f r'):OpR X f (λx y H Q=>r x y H Q\/r' x y H Q):=by
 intro js s Y H x y v u Q I rx ry q;rcases q with q|q
 .exact h js s Y H x y v u Q I rx ry q
 .exact h' js s Y H x y v u Q I rx ry q
def aP(ha:SE X T W a ma)(hb:SE X T W b mb):SE X T W (.BinOp a .Add b pos) (mOp aO ma mb):=lG (OpR.or E4 BU) yV ha hb
end
mutual
noncomputable def PV.data:PV->PyData
 |.non=>.none
 |.bl b=>.bool b
 |.int i=>.int i
 |.str x=>.str x
 |.lst _ xs=>.list (dataL xs)
 |.tup xs=>.tuple (dataL xs)
 |.obj _ _ _ _|.exc _|.box _ _=>.dict []
noncomputable def dataL:LB->List PyData
 | []=>[]
 |x::xs=>x.data::dataL xs
end
def shp(x:PV):Bool:=SeqAt.shaped x.data
section
variable{X:Cx}{T:Tb}{W:Nat->St->LA}{Z:Zn}{F F1 B L:Lp}{H H1:Hp}{Y:St}{env:En}{fp:Nat->Lu}{D:Ends}{js:Lo}{s:Shared}
mutual
def Rel.reads(hK:X.K=T.K)(I:L2.Inv X js Y H s):∀{x:PV}{v:V}{f:Lu}{u:Value},Rel T F B L H x v f->bT v u->x.data.canLay0=true->∃as,Reads s.heap u x.data as
 |.non,_,_,_,r,ru,_=>by unfold Rel at r;obtain⟨rfl,_⟩:=r;cases ru;exact⟨[],.none⟩
 |.bl b,_,_,_,r,ru,_=>by unfold Rel at r;obtain⟨rfl,_⟩:=r;cases ru;exact⟨[],.bool b⟩
 |.int i,_,_,_,r,ru,_=>by unfold Rel at r;obtain⟨rfl,_⟩:=r;obtain⟨t,rfl⟩:=ru;exact⟨[],.int i t⟩
 |.str x,_,_,_,r,ru,_=>by unfold Rel at r;obtain⟨rfl,_⟩:=r;obtain⟨t,rfl⟩:=ru;exact⟨[],.str x t⟩
 |.lst f xs,_,_,_,r,ru,hc=>by unfold Rel at r;obtain⟨a,vs,fp',rfl,hl,hr,_⟩:=r;cases ru;obtain⟨its,rv,⟨o,n,ho,hcl,_,hd⟩,_⟩:=I.list (by rw[hK];exact hl.sq);obtain⟨as,ra⟩:=RelL.reads hK I hr rv (by simpa[PV.data,PyData.canLay0]using hc);exact⟨_,.list ho hcl hd (by simpa using ra)⟩
 |.tup xs,_,_,_,r,ru,hc=>by unfold Rel at r;obtain⟨a,vs,rfl,hl,hr⟩:=r;cases ru;obtain⟨its,rv,⟨o,ho,hcl,n,hd⟩,_⟩:=I.tuple (by rw[hK];exact hl);obtain⟨as,ra⟩:=RelL.reads hK I hr rv (by simpa[PV.data,PyData.canLay0]using hc);exact⟨_,.tuple ho hcl hd (by simpa using ra)⟩
 |.obj _ _ _ _,_,_,_,_,_,hc|.exc _,_,_,_,_,_,hc|.box _ _,_,_,_,_,_,hc=>by simp[PV.data,PyData.canLay0]at hc
def RelL.reads(hK:X.K=T.K)(I:L2.Inv X js Y H s):∀{xs:LB}{vs:Lz}{f:Lu}{us:Lr},RelL T F B L H xs vs f->aY vs us->PyData.canLayAll0 (dataL xs)=true->∃as,ReadsAll s.heap us (dataL xs) as
 | [],_,_,_,r,ru,_=>by unfold RelL at r;obtain⟨rfl,_⟩:=r;cases ru;exact⟨[],.nil⟩
 |x::xs,_,_,_,r,ru,hc=>by
  unfold RelL at r;obtain⟨v,ws,f1,f2,rfl,h1,h2,_⟩:=r;cases ru with
  |cons r1 r2=>simp only[dataL,PyData.canLayAll0,and_eq_true]at hc;obtain⟨as,ra⟩:=Rel.reads hK I h1 r1 hc.1;obtain⟨bs,rb⟩:=RelL.reads hK I h2 r2 hc.2;exact⟨_,.cons ra rb⟩
end
def pEq:PV->PV->LC:=λx y=>if shp x&&shp y then .ok (.bl (PyData.eqv x.data y.data))else .stuck
def pNe:PV->PV->LC:=λx y=>if shp x&&shp y then .ok (.bl (!PyData.eqv x.data y.data))else .stuck
def xW(X:Cx)(T:Tb)(g:PyData->PyData->Bool):R2:=λv u H Q=>∃x y F B L fx fy,Rel T F B L H x v fx/\Rel T F B L H y u fy/\shp x=true/\shp y=true/\Q (.bl (g x.data y.data)) H
def yx(hK:X.K=T.K)(hu:X.A.units+64<cLine):OpR X (compareOp .Eq) (xW X T λa b=>PyData.eqv a b):=by intro js s Y H v u v' u' Q I rv ru h;obtain⟨x,y,F,B,L,fx,fy,rx,ry,hx,hy,q⟩:=h;obtain⟨as,ra⟩:=rx.reads hK I rv (SeqAt.canLay_of_shaped hx);obtain⟨bs,rb⟩:=ry.reads hK I ru (SeqAt.canLay_of_shaped hy);exact PyProof.Rows.eq_dataH ra rb hx hy hu ⟨.bl _,H,I,rfl,q⟩
def yu(hK:X.K=T.K)(hu:X.A.units+64<cLine):OpR X (compareOp .NotEq) (xW X T λa b=>!PyData.eqv a b):=by intro js s Y H v u v' u' Q I rv ru h;obtain⟨x,y,F,B,L,fx,fy,rx,ry,hx,hy,q⟩:=h;obtain⟨as,ra⟩:=rx.reads hK I rv (SeqAt.canLay_of_shaped hx);obtain⟨bs,rb⟩:=ry.reads hK I ru (SeqAt.canLay_of_shaped hy);exact PyProof.Rows.ne_dataH ra rb hx hy hu ⟨.bl _,H,I,rfl,q⟩
def kd:kC T W (λx y=>if shp x&&shp y then .ok (.bl (g x.data y.data))else .stuck) (xW X T g):=by
 intro B F L Y H Q F' H' x y v u fx fy gr rx ry nf nd new q;dsimp only at q;by_cases hc:(shp x&&shp y)=true
 .rw[if_pos hc]at q;rw[and_eq_true]at hc;exact⟨x,y,F',B,L,fx,fy,rx,ry,hc.1,hc.2,q.scal gr j0⟩
 .rw[if_neg hc]at q;exact q.elim
variable{a b:Expr}{ma mb:ME}{pos:Pos}
def qT(hK:X.K=T.K)(hu:X.A.units+64<cLine)(ha:SE X T W a ma)(hb:SE X T W b mb):SE X T W (.Compare a [.Eq] [b] pos) (mOp pEq ma mb):=mJ (yx hK hu) kd ha hb (fY _)
def C0(hK:X.K=T.K)(hu:X.A.units+64<cLine)(ha:SE X T W a ma)(hb:SE X T W b mb):SE X T W (.Compare a [.NotEq] [b] pos) (mOp pNe ma mb):=mJ (yu hK hu) (kd (g:=λa b=>!PyData.eqv a b)) ha hb (fY _)
def cu(hK:X.K=T.K)(hu:X.A.units+64<cLine)(ha:SE X T W a ma)(hb:SE X T W b mb):ST X T W (.Compare a [.Eq] [b] pos) (aA (mOp pEq ma mb)):=gN (yx hK hu) kd ha hb (fY _)
def iT(hK:X.K=T.K)(hu:X.A.units+64<cLine)(ha:SE X T W a ma)(hb:SE X T W b mb):ST X T W (.Compare a [.NotEq] [b] pos) (aA (mOp pNe ma mb)):=gN (yu hK hu) (kd (g:=λa b=>!PyData.eqv a b)) ha hb (fY _)
def f7(ha:SE X T W a ma)(hb:SE X T W b mb):ST X T W (.Compare a [.Lt] [b] pos) (aA (mOp pLt ma mb)):=gN Io (nu λ_ _ _ _ _ _=>j0) ha hb (fY _)
def lE(ha:SE X T W a ma)(hb:SE X T W b mb):ST X T W (.Compare a [.Gt] [b] pos) (aA (mOp pGt ma mb)):=gN Ip (nu λ_ _ _ _ _ _=>j0) ha hb (fY _)
def oE(ha:SE X T W a ma)(hb:SE X T W b mb):ST X T W (.Compare a [.GtE] [b] pos) (aA (mOp pGe ma mb)):=gN Iq (nu λ_ _ _ _ _ _=>j0) ha hb (fY _)
def inL(x:PV)(ys:LB):Bool:=ys.any λy=>PyData.eqv y.data x.data
def pIn:PV->PV->LC:=λx y=>match a_ y with
 |some ys=>if shp x&&ys.all shp then .ok (.bl (inL x ys))else .stuck
 |none=>.stuck
def fj:PV->PV->LC:=λx y=>match a_ y with
 |some ys=>if shp x&&ys.all shp then .ok (.bl (!inL x ys))else .stuck
 |none=>.stuck
def nT(hK:X.K=T.K)(I:L2.Inv X js Y H s)(hu:A.units+64<cLine)(rx:Rel T F B L H x v fx)(ry:Rel T F B L H y u fy)(rv:bT v v')(ru:bT u u')(hx:shp x=true)(hy:shp y=true) :
  SeqAt.EqAt A s v' u' (PyData.eqv x.data y.data):=by
 obtain⟨as,ra⟩:=rx.reads hK I rv (SeqAt.canLay_of_shaped hx);obtain⟨bs,rb⟩:=ry.reads hK I ru (SeqAt.canLay_of_shaped hy);exact SeqAt.eqAt_reads _ _ A s v' u' as bs ra rb (SeqAt.canLay_of_shaped hx) (SeqAt.canLay_of_shaped hy) (SeqAt.room_of_shaped hx hu)
theorem kq(hK:X.K=T.K)(I:L2.Inv X js Y H s)(hu:A.units+64<cLine)(rx:Rel T F B L H x v fx)(rv:bT v v')(hx:shp x=true) :
  ∀{ys:LB}{us:Lz}{fy:Lu}{us':Lr},RelL T F B L H ys us fy->aY us us'->ys.all shp=true->∃e:Value->Bool,(∀w∈us',SeqAt.EqAt A s w v' (e w))/\us'.any e=inL x ys:=by
 intro ys us fy us' r rv' hs;have one:∀(ys:LB) (us:Lz) (fy:Lu) (us':Lr),RelL T F B L H ys us fy->aY us us'->ys.all shp=true->∀w∈us',∃b,SeqAt.EqAt A s w v' b/\(b=true->inL x ys=true):=by
  intro ys
  induction ys with
  |nil=>intro us fy us' r rv' _ w hw;obtain⟨rfl,_⟩:=r;cases rv';cases hw
  |cons y ys ih=>
   intro us fy us' r rv' hs w hw;obtain⟨u,ws,f1,f2,rfl,h1,h2,_⟩:=r;cases rv' with
   |cons r1 r2=>
    rw[all_cons,and_eq_true]at hs;rcases mem_cons.mp hw with rfl|hw
    .exact⟨_,nT hK I hu h1 rx r1 rv hs.1 hx,λz=>by simp[inL,z]⟩
    .obtain⟨b,h3,h4⟩:=ih ws f2 _ h2 r2 hs.2 w hw;exact⟨b,h3,λz=>by have:=h4 z;unfold inL at this ⊢;simp[this]⟩
 have some_:∀(ys:LB) (us:Lz) (fy:Lu) (us':Lr),RelL T F B L H ys us fy->aY us us'->ys.all shp=true->inL x ys=true->∃w∈us',SeqAt.EqAt A s w v' true:=by
  intro ys
  induction ys with
  |nil=>intro us fy us' r rv' _ h;simp[inL]at h
  |cons y ys ih=>
   intro us fy us' r rv' hs h;obtain⟨u,ws,f1,f2,rfl,h1,h2,_⟩:=r;cases rv' with
   |cons r1 r2=>
    rw[all_cons,and_eq_true]at hs;by_cases hy:PyData.eqv y.data x.data=true
    .refine⟨_,mem_cons_self,?_⟩;have:=nT hK I hu h1 rx r1 rv hs.1 hx
     rwa [hy]at this
    .have h':inL x ys=true:=by unfold inL at h ⊢;simpa[hy]using h
     grind
 by_cases hin:inL x ys=true
 .obtain⟨w0,hw0,q0⟩:=some_ ys us fy us' r rv' hs hin;refine⟨λw=>@decide (SeqAt.EqAt A s w v' true) (Classical.propDecidable _),λw hw=>?_,?_⟩
  .obtain⟨b,h1,_⟩:=one ys us fy us' r rv' hs w hw;by_cases ht:SeqAt.EqAt A s w v' true
   .lia
   .simp only[ht];cases b with
    |true=>exact absurd h1 ht
    |false=>exact h1
  .rw[hin,any_eq_true];exact⟨w0,hw0,by simp[q0]⟩
 .have hin':inL x ys=false:=by simpa using hin
  refine⟨λ_=>false,λw hw=>?_,by simp_all⟩
  grind
def EE(X:Cx)(T:Tb)(neg:Bool):R2:=λv u H Q=>∃x ys a vs F B L fx fy,u=.ref a/\(SqL T.K H a vs\/SqT T.K H a vs)/\Rel T F B L H x v fx/\RelL T F B L H ys vs fy/\shp x=true/\ys.all shp=true/\Q (.bl (if neg then !inL x ys else inL x ys)) H
theorem yw(hK:X.K=T.K)(hu:X.A.units+66<cLine):OpR X (compareOp .In) (EE X T false):=by
 intro js s Y H v u v' u' Q I rv ru h;obtain⟨x,ys,a,vs,F,B,L,fx,fy,rfl,hs,rx,ry,hx,hy,q⟩:=h;cases ru;have hu1:X.A.in1.units+64<cLine:=by lia
 rcases hs with hs|hs
 .obtain⟨its,r,pl,_⟩:=I.list (by rw[hK];exact hs);obtain⟨e,h1,h2⟩:=kq hK I hu1 rx rv hx ry r hy;refine SeqAt.in_listAt e pl.isList (λw hw=>h1 w (by simp_all)) ⟨.bl _,H,I,rfl,?_⟩;rw[show its.toArray.any e=its.any e by simp,h2];exact q
 .obtain⟨its,r,pl,_⟩:=I.tuple (by rw[hK];exact hs);obtain⟨e,h1,h2⟩:=kq hK I hu1 rx rv hx ry r hy;refine SeqAt.in_tupleAt e pl (λw hw=>h1 w (by simp_all)) ⟨.bl _,H,I,rfl,?_⟩;rw[show its.toArray.any e=its.any e by simp,h2];exact q
def wx(hK:X.K=T.K)(hu:X.A.units+66<cLine):OpR X (compareOp .NotIn) (EE X T true):=by
 intro js s Y H v u v' u' Q I rv ru h;obtain⟨x,ys,a,vs,F,B,L,fx,fy,rfl,hs,rx,ry,hx,hy,q⟩:=h;cases ru;have hu1:X.A.in1.units+64<cLine:=by lia
 rcases hs with hs|hs
 .obtain⟨its,r,pl,_⟩:=I.list (by rw[hK];exact hs);obtain⟨e,h1,h2⟩:=kq hK I hu1 rx rv hx ry r hy;refine SeqAt.notIn_listAt e pl.isList (λw hw=>h1 w (by simp_all)) ⟨.bl _,H,I,rfl,?_⟩;rw[show its.toArray.any e=its.any e by simp,h2];exact q
 .obtain⟨its,r,pl,_⟩:=I.tuple (by rw[hK];exact hs);obtain⟨e,h1,h2⟩:=kq hK I hu1 rx rv hx ry r hy;refine SeqAt.notIn_tupleAt e pl (λw hw=>h1 w (by simp_all)) ⟨.bl _,H,I,rfl,?_⟩;rw[show its.toArray.any e=its.any e by simp,h2];exact q
def tZ:kC T W (λx y=>match a_ y with
 |some ys=>if shp x&&ys.all shp then .ok (.bl (if neg then !inL x ys else inL x ys))else .stuck
 |none=>.stuck) (EE X T neg):=by
 intro B F L Y H Q F' H' x y v u fx fy gr rx ry nf nd new q;dsimp only at q;cases e:a_ y with
 |none=>rw[e]at q;exact q.elim
 |some ys=>
  rw[e]at q;dsimp only at q;by_cases hc:(shp x&&ys.all shp)=true
  .rw[if_pos hc]at q;rw[and_eq_true]at hc;obtain⟨a,ws,f',rfl,hs,hr,_⟩:=ry.seq e;exact⟨x,ys,a,ws,F',B,L,fx,f',rfl,hs,rx,hr,hc.1,hc.2,q.scal gr j0⟩
  .rw[if_neg hc]at q;exact q.elim
def uM(hK:X.K=T.K)(hu:X.A.units+66<cLine)(ha:SE X T W a ma)(hb:SE X T W b mb)(hk:behindInMarks .In b=false:=by with_unfolding_all rfl):SE X T W (.Compare a [.In] [b] pos) (mOp pIn ma mb):=mJ (yw hK hu) (tZ (neg:=false)) ha hb hk
def qL(hK:X.K=T.K)(hu:X.A.units+66<cLine)(ha:SE X T W a ma)(hb:SE X T W b mb)(hk:behindInMarks .In b=false:=by with_unfolding_all rfl):ST X T W (.Compare a [.In] [b] pos) (aA (mOp pIn ma mb)):=gN (yw hK hu) (tZ (neg:=false)) ha hb hk
def jV(hK:X.K=T.K)(hu:X.A.units+66<cLine)(ha:SE X T W a ma)(hb:SE X T W b mb)(hk:behindInMarks .NotIn b=false:=by with_unfolding_all rfl):ST X T W (.Compare a [.NotIn] [b] pos) (aA (mOp fj ma mb)):=gN (wx hK hu) (tZ (neg:=true)) ha hb hk
noncomputable def PV.isNon:PV->Bool
 |.non=>true
 |_=>false
def gP:PV->PV->LC
 |x,.non=>.ok (.bl x.isNon)
 |_,_=>.stuck
def h8:PV->PV->LC
 |x,.non=>.ok (.bl (!x.isNon))
 |_,_=>.stuck
def Rel.isNon(r:Rel T F B L H x v f):decide (v=.non)=x.isNon:=by
 cases x with
 |non|bl b|int i|str i=>unfold Rel at r;rw[r.1];rfl
 |lst f xs=>unfold Rel at r;obtain⟨a,_,_,rfl,_⟩:=r;rfl
 |tup xs=>unfold Rel at r;obtain⟨a,_,rfl,_⟩:=r;rfl
 |obj f c ks xs=>unfold Rel at r;obtain⟨a,_,_,_,rfl,_⟩:=r;rfl
 |exc c=>unfold Rel at r;obtain⟨a,rfl,_⟩:=r;rfl
 |box k xs=>unfold Rel at r;obtain⟨a,vs,rfl,_⟩:=r;rfl
def u6:kC T W gP (λx y H Q=>y=.non/\Q (.bl (decide (x=.non))) H):=by
 intro B F L Y H Q F' H' x y v u fx fy gr rx ry nf nd new q;cases y with
 |non=>unfold Rel at ry;refine⟨ry.1,?_⟩;rw[rx.isNon];exact GE.scal (by simpa[gP]using q) gr j0
 |_=>simp only[gP]at q;exact q.elim
def rG:kC T W h8 (λx y H Q=>y=.non/\Q (.bl (!decide (x=.non))) H):=by
 intro B F L Y H Q F' H' x y v u fx fy gr rx ry nf nd new q;cases y with
 |non=>unfold Rel at ry;refine⟨ry.1,?_⟩;rw[rx.isNon];exact GE.scal (by simpa[h8]using q) gr j0
 |_=>simp only[h8]at q;exact q.elim
def Es(ha:SE X T W a ma)(hb:SE X T W b mb):SE X T W (.Compare a [.Is] [b] pos) (mOp gP ma mb):=mJ yv u6 ha hb (fY _)
def Be(ha:SE X T W a ma)(hb:SE X T W b mb):SE X T W (.Compare a [.IsNot] [b] pos) (mOp h8 ma mb):=mJ uZ rG ha hb (fY _)
def pL(ha:SE X T W a ma)(hb:SE X T W b mb):ST X T W (.Compare a [.Is] [b] pos) (aA (mOp gP ma mb)):=gN yv u6 ha hb (fY _)
def uJ(ha:SE X T W a ma)(hb:SE X T W b mb):ST X T W (.Compare a [.IsNot] [b] pos) (aA (mOp h8 ma mb)):=gN uZ rG ha hb (fY _)
end
abbrev TgM:=PV->En->Option En
abbrev ux:=LB->En->Option En
def tgN(i:Nat):TgM:=λv env=>if aH i env then some (env.set i (some v))else none
def gY:ux:=λvs env=>match vs with
 | []=>some env
 |_=>none
noncomputable def b0(t:TgM)(u:ux):ux:=λvs env=>match vs with
 |v::r=>match t v env with
  |some e=>u r e
  |none=>none
 | []=>none
noncomputable def tgT(n:Nat)(u:ux):TgM:=λv env=>match v with
 |.tup xs=>if xs.length=n then u xs env else none
 |_=>none
structure w_(Z:Zn)(F:Lp)(fp:Nat->Lu)(f:Lu):Prop where
 nd:f.Nodup
 nf:∀a∈f,¬F a
 new:∀a∈f,Z.H0 a=none\/Z.fp0 a
 dj:∀a∈f,∀j,a∉fp j
def w_.nil:w_ Z F fp []:=⟨nodup_nil,λ_ z=>(nomatch z),λ_ z=>(nomatch z),λ_ z=>(nomatch z)⟩
def GG(T:Tb)(Z:Zn)(F:Lp)(H:Hp)(Q:St->LA):Option En->Prop
 |some e=>∀Y fp,aC T Z F H Y e fp->Q Y H
 |none=>False
def tG(T:Tb)(m:TgM):TG:=λv Y H Q=>∃Z F env fp pv f,aC T Z F H Y env fp/\Rel T F Z.B NoL H pv v f/\w_ Z F fp f/\GG T Z F H Q (m pv env)
def tGs(T:Tb)(m:ux):TGs:=λvs Y H Q=>∃Z F env fp pvs f,aC T Z F H Y env fp/\RelL T F Z.B NoL H pvs vs f/\w_ Z F fp f/\GG T Z F H Q (m pvs env)
abbrev SG(X:Cx)(T:Tb)(tg:Expr)(m:TgM):Prop:=PG X tg (tG T m)
abbrev SGs(X:Cx)(T:Tb)(ts:List Expr)(m:ux):Prop:=PGs X ts (tGs T m)
section
variable{X:Cx}{T:Tb}{W:Nat->St->LA}{Z:Zn}{F F1 B L:Lp}{H H1:Hp}{Y:St}{env:En}{fp:Nat->Lu}{D:Ends}
def PG.wk(h:PG X tg t)(w:∀v Y H Q,t' v Y H Q->t v Y H Q):PG X tg t':=λjs s Y H v u Q I r q=>h js s Y H v u Q I r (w v Y H Q q)
def PGs.wk(h:PGs X ts t)(w:∀v Y H Q,t' v Y H Q->t v Y H Q):PGs X ts t':=λjs s Y H v u Q I r q=>h js s Y H v u Q I r (w v Y H Q q)
def Bb(hN:X.N.Nodup)(hi:X.N[i]?=some x)(hx:Loc X.env.scope x)(hf:Lce X.fn X.env x:=by first|exact .inl rfl|exact .inr rfl|assumption):SG X T (.Name x pos) (tgN i):=
 PG.wk (uW hN hi hx hf) λv Y H Q hz1=>by
  obtain⟨Z,F,env,fp,pv,f,S,r,fr,q⟩:=hz1;unfold tgN at q;by_cases ho:aH i env=true
  .rw[if_pos ho]at q;exact q _ _ (S.put r fr.nd fr.nf fr.new (λa ha j _=>fr.dj a ha j) ho)
  .rw[if_neg ho]at q;exact q.elim
def iB:SGs X T [] gY:=PGs.wk BL λvs Y H Q hz1=>by
 obtain⟨Z,F,env,fp,pvs,f,S,r,fr,q⟩:=hz1;cases pvs with
 |nil=>unfold RelL at r;exact⟨r.1,q Y fp S⟩
 |cons x xs=>exact q.elim
def cJ(hN:X.N.Nodup)(hi:X.N[i]?=some x)(hx:Loc X.env.scope x)(h2:SGs X T es u)
  (hs:(assignEach (.Name x pos::es) X.env).map (·.2)=assign (.Name x pos) X.env::(assignEach es X.env).map (·.2):=by rfl)
  (hf:Lce X.fn X.env x:=by first|exact .inl rfl|exact .inr rfl|assumption):SGs X T (.Name x pos::es) (b0 (tgN i) u):=
 PGs.wk (yf (uW hN hi hx hf) h2 hs) λvs Y H Q hz1=>by
  obtain⟨Z,F,env,fp,pvs,f,S,r,fr,q⟩:=hz1;cases pvs with
  |nil=>exact q.elim
  |cons y ys=>
   obtain⟨v,ws,f1,f2,rfl,r1,r2,rfl⟩:=r;obtain⟨n1,n2,n3⟩:=nodup_append.mp fr.nd;by_cases ho:aH i env=true
   case neg=>simp only[b0,tgN,if_neg ho]at q;exact q.elim
   simp only[b0,tgN,if_pos ho]at q;refine⟨v,ws,rfl,Z,F,env.set i (some y),cT fp i f1,ys,f2,S.put r1 n1 (λa ha=>fr.nf a (mem_append_left _ ha)) (λa ha=>fr.new a (mem_append_left _ ha)) (λa ha j _=>fr.dj a (mem_append_left _ ha) j) ho,r2,⟨n2,λa ha=>fr.nf a (mem_append_right _ ha),λa ha=>fr.new a (mem_append_right _ ha),λa ha j=>?_⟩,q⟩;unfold cT;split
   .exact λz=>n3 a z a ha rfl
   .exact fr.dj a (mem_append_right _ ha) j
def jI(hK:X.K=T.K)(hc:X.calm=true)(h:SGs X T es u)(hn:(assignEach es X.env).length=n:=by rfl)(hst:(assignEach es X.env).findIdx? (·.1)=none:=by rfl):SG X T (.Tuple es k pos) (tgT n u):=
 PG.wk (EN hc h hn hst) λv Y H Q hz1=>by
  obtain⟨Z,F,env,fp,pv,f,S,r,fr,q⟩:=hz1;cases pv with
  |tup xs=>
   obtain⟨a,vs,rfl,hl,hr⟩:=r;simp only[tgT]at q;by_cases hx:xs.length=n
   .rw[if_pos hx]at q;exact⟨a,vs,rfl,by lia,by rw[<- hr.length];exact hx,Z,F,env,fp,xs,f,S,hr,fr,q⟩
   .rw[if_neg hx]at q;exact q.elim
  |_=>exact q.elim
abbrev MI:=En->Res (LB)
def ItR(T:Tb)(F B:Lp)(Ow:Lp)(H1:Hp)(J:It)(xs:LB):Prop:=
 ∀H2,(∀a o,H1 a=some o->¬Ow a->H2 a=some o)->(∀(i:Nat) x,xs[i]?=some x->J.go i H2/\∀v H3,J.yld i H2 v H3->Ext H2 H3/\Rel T F B NoL H3 x v [])/\J.stop xs.length H2
def ItR.of0(h:∀H2,(∀a o,H1 a=some o->¬Ow a->H2 a=some o)->(∀(i:Nat) x,xs[i]?=some x->J.go i H2/\∀v H3,J.yld i H2 v H3->H3=H2/\Rel T F B NoL H2 x v [])/\J.stop xs.length H2):ItR T F B Ow H1 J xs:=λH2 hk=>by obtain⟨a,b⟩:=h H2 hk;refine⟨λi x e=>⟨(a i x e).1,λv H3 hy=>?_⟩,b⟩;obtain⟨rfl,r⟩:=(a i x e).2 v H3 hy;exact⟨Ext.refl,r⟩
def GI(T:Tb)(W:Nat->St->LA)(B F Ow:Lp)(Y:St)(H:Hp)(R:It->LA):Res (LB)->Prop
 |.ok xs=>∀J H1 F1,Gr F H F1 H1->ItR T F1 B Ow H1 J xs->R J H1
 |.exc c=>∀H',Ext H H'->W c Y H'
 |.stuck=>False
def tI(T:Tb)(W:Nat->St->LA)(m:MI):TI:=λY H R=>∃Z F env fp,aC T Z F H Y env fp/\GI T W Z.B F (Own fp) Y H R (m env)
abbrev SI(X:Cx)(T:Tb)(W:Nat->St->LA)(tg iter:Expr)(m:MI):Prop:=PI X tg iter (tI T W m)
def yd(hl:PE X l tl):PI X tg l (λY H R=>tl Y H λx H1=>∃a,x=.ref a/\((∃xs,SqL X.K H1 a xs/\R (Itl X.K a) H1)\/ ∃xs,SqT X.K H1 a xs/\R (Itt X.K a) H1)):=by
 intro js s Y H R I h;refine thn (hl js s Y H _ I h) λv s1 hz1=>?_;obtain⟨x,H1,I1,r1,q1⟩:=hz1;obtain⟨a,e,q⟩:=q1;subst e;cases r1;rcases q with⟨xs,hq,q⟩ |⟨xs,hq,q⟩
 .obtain⟨its,rv,p,hz⟩:=I1.list hq;refine wpAny_pyIter_list p.isList ?_;refine⟨s1.heap.objs.size,[s1.heap.objs.size],_,_,H1,rfl,I1.kept (t':=s1.toks) λb o e=>get?_push_of_some _ e,vO a _,⟨_,get?_push_size _ rfl,rfl,rfl⟩,λb hb=>?_,q⟩;have e:b=s1.heap.objs.size:=by simpa using hb
  subst e;exact I1.fpOk (Nat.le_refl _) (I1.hok.fresh (Nat.le_refl _))
 .obtain⟨its,rv,p,hz⟩:=I1.tuple hq;refine wpAny_pyIter_tuple (show s1.heap.IsTuple a its.toArray from p) ?_;refine⟨s1.heap.objs.size,[s1.heap.objs.size],_,_,H1,rfl,I1.kept (t':=s1.toks) λb o e=>get?_push_of_some _ e,sP a _,⟨_,get?_push_size _ rfl,rfl,rfl⟩,λb hb=>?_,q⟩;have e:b=s1.heap.objs.size:=by simpa using hb
  subst e;exact I1.fpOk (Nat.le_refl _) (I1.hok.fresh (Nat.le_refl _))
def fk(xs:LB):Bool:=!hasL Fl.LI xs&&!hasL Fl.LJ xs
def gK(m:ME):MI:=λenv=>(m env).bind λx=>match x with
 |.lst f xs=>if !f.LJ&&fk xs then .ok xs else .stuck
 |.tup xs=>if fk xs then .ok xs else .stuck
 |_=>.stuck
def iK{H2:Hp}{Ow:Lp}(hF:∀a,F1 a->¬Ow a)(hB:∀a,B a->¬Ow a)(hO:∀a o,Ow a->H1 a=some o->Chg o)(hk:∀a o,H1 a=some o->¬Ow a->H2 a=some o){xs:LB}{vs:Lz}(r:RelL T F1 B NoL H1 xs vs []){i:Nat}{x:PV}{v:V}(e:xs[i]?=some x)(ev:vs[i]?=some v):Rel T F1 B NoL H2 x v []:=by
 obtain⟨w,f,e1,r1,sl⟩:=r.get e;rw[ev]at e1;cases e1;obtain rfl:=sublist_nil.mp sl;refine Rel.tr (λ_ h=>h) (λ_ h=>h) (λ_ h=>h) (λa o q h=>hk a o q ?_) (λ_ z=>(nomatch z)) r1;rcases h with h|h|h|h
 .exact hF a h
 .exact hB a h
 .exact h.elim
 .intro z;have:=hO a o z q;cases o with
  |lst _|ins _ _ _=>exact h
  |_=>exact this
def aC.bow(S:aC T Z F H Y env fp):∀a,Z.B a->¬Own fp a:=λa h hz1=>by
 obtain⟨i,hi⟩:=hz1;obtain⟨⟨o,h1⟩,h2⟩:=S.hp.bo.1 a h;rcases S.new i a hi with z|z
 .rw[h1]at z;cases z
 .exact h2 z
def aC.fow(S:aC T Z F H Y env fp):∀a,F a->¬Own fp a:=λa h ⟨i,hi⟩=>(S.dis i a hi).1 h
def aC.oow(S:aC T Z F H Y env fp):∀a o,Own fp a->H a=some o->Chg o:=λa o hz1 e=>by obtain⟨i,hi⟩:=hz1;obtain⟨o',h1,h2⟩:=S.ch i a hi;rw[e]at h1;cases h1;exact h2
def d0(h:fk xs=true)(r:RelL T F B L H xs vs f):f=[]/\RelL T F B NoL H xs vs f:=by simp only[fk,and_eq_true,Bool.not_eq_true']at h;exact⟨RelL.LN h.1 r,RelL.noL h.2 r⟩
def iV(hK:X.K=T.K)(he:SE X T W e m):SI X T W tg e (gK m):=λjs s Y H R I h=>yd he js s Y H R I (by
 obtain⟨Z,F,env,fp,S,q⟩:=h;unfold gK at q;walk_at "a";simp only[Res.LO]at q;have S1:=S.grow g1;rw[hK];cases x with
 |lst f xs=>
  dsimp only at q;by_cases hc:(!f.LJ&&fk xs)=true
  .rw[if_pos hc]at q;rw[and_eq_true]at hc;obtain⟨a,vs,fp',rfl,hl,hr,hf⟩:=r1;obtain⟨rfl,hr'⟩:=d0 hc.2 hr;refine⟨a,rfl,.inl ⟨vs,hl.sq,q _ H1 F1 g1 (ItR.of0 λH2 hk=>?_)⟩⟩;have na:f≠.mod->∀o,H1 a=some o->H2 a=some o:=λhn o ho=>by
    refine hk a o ho ?_;cases f with
    |own=>rintro⟨i,hi⟩;obtain⟨_,o',ho'⟩:=S.dis i a hi;obtain rfl:f1=[a]:=hf;rw[w1 a mem_cons_self]at ho';cases ho'
    |frz=>exact S1.fow a hl.1
    |bor=>exact S1.bow a hl.1
    |lnt=>exact absurd hc.1 ()
    |mod=>exact absurd rfl hn
   have hl2:SqL T.K H2 a vs:=by
    by_cases hn:f=.mod
    .subst hn;exact .inr hl
    .exact .inl (Rd.tr (na hn) (hl.rd hn))
   refine⟨λi x ex=>?_,⟨vs,hl2,by rw[hr.length];exact Nat.le_refl _⟩⟩;obtain⟨v,_,ev,_,_⟩:=hr.get ex;refine⟨⟨vs,v,hl2,ev⟩,λw H3 hy=>⟨hy.1,?_⟩⟩;have e3:=hy.2 vs hl2;exact iK S1.fow S1.bow S1.oow hk hr' ex e3
  .rw[if_neg hc]at q;exact q.elim
 |tup xs=>
  dsimp only at q;by_cases hc:fk xs=true
  .rw[if_pos hc]at q;obtain⟨a,vs,rfl,hl,hr⟩:=r1;obtain⟨rfl,hr'⟩:=d0 hc hr;refine⟨a,rfl,.inr ⟨vs,hl,q _ H1 F1 g1 (ItR.of0 λH2 hk=>?_)⟩⟩;have hl2:SqT T.K H2 a vs:=SqT.tr (λo ho hfx=>hk a o ho λz=>by
    have:=S1.oow a o z ho;cases o with
    |lst _|ins _ _ _=>exact hfx
    |_=>exact this) hl
   refine⟨λi x ex=>?_,⟨vs,hl2,by rw[hr.length];exact Nat.le_refl _⟩⟩;obtain⟨v,_,ev,_,_⟩:=hr.get ex;refine⟨⟨vs,v,hl2,ev⟩,λw H3 hy=>⟨hy.1,?_⟩⟩;exact iK S1.fow S1.bow S1.oow hk hr' ex (hy.2 vs hl2)
  .rw[if_neg hc]at q;exact q.elim
 |_=>exact q.elim)
noncomputable def fe(lo:Int)(n:Nat):LB:=(range n).map λk=>.int (lo+(k:Nat))
def inR(i:Int):Bool:=decide (-(2 ^ 62)<= i/\i<2 ^ 62)
def bH(ms:MA):MI:=λenv=>(ms env).bind λxs=>match xs with
 | [.int n]=>if inR n then .ok (fe 0 n.toNat)else .stuck
 |_=>.stuck
def oX(ms:MA):MI:=λenv=>(ms env).bind λxs=>match xs with
 | [.int i,.int j]=>if inR i&&inR j then .ok (fe i (j-i).toNat)else .stuck
 |_=>.stuck
def vc:ItR T F1 B Ow H1 (Itr lo n) (fe lo n):=by
 apply ItR.of0;intro H2 _;refine⟨λi x ex=>?_,by simp[fe,Itr]⟩;have hi:i<n:=by have:=(List.getElem?_eq_some_iff.mp ex).1;simpa[fe]using this
 refine⟨hi,λv H3 hy=>⟨hy.1,?_⟩⟩;obtain⟨_,rfl⟩:=hy;have:x=.int (lo+(i:Nat)):=by simp[fe,hi]at ex;exact ex.symm
 subst this;exact fN
def cD(hg:Gl X "range")(hm:X.mg "range" = none)(ha:SA X T W [a] ms)(hs:starEach [a] X.env=[(false,eval a X.env)]:=by rfl):SI X T W tg (.Call (.Name "range" p) [a] [] pos) (bH ms):=λjs s Y H R I h=>oO hg hm ha hs js s Y H R I (by
 obtain⟨Z,F,env,fp,S,q⟩:=h;unfold bH at q;refine tA.bq S λxs vs H1 F1 f1 e1 g1 r1 n1 d1 w1=>?_;rw[e1]at q;simp at q;split at q
 .rename_i n
  split at q
  .rename_i hc
   obtain⟨v,rfl,r2⟩:=r1.one;obtain⟨rfl,_⟩:=r2;have hc':-(2 ^ 62)<= n/\n<2 ^ 62:=by simpa[inR]using hc
   exact⟨n,rfl,hc'.1,hc'.2,q _ H1 F1 g1 vc⟩
  .exact q.elim
 .exact q.elim)
def vU(hg:Gl X "range")(hm:X.mg "range"=none)(ha:SA X T W [a,b] ms)(hs:starEach [a,b] X.env=[(false,eval a X.env),(false,eval b X.env)]:=by rfl)(hs2:starEach [b] X.env=[(false,eval b X.env)]:=by rfl) :
  SI X T W tg (.Call (.Name "range" p) [a,b] [] pos) (oX ms):=λjs s Y H R I h=>wn hg hm ha hs hs2 js s Y H R I (by
 obtain⟨Z,F,env,fp,S,q⟩:=h;unfold oX at q;refine tA.bq S λxs vs H1 F1 f1 e1 g1 r1 n1 d1 w1=>?_;rw[e1]at q;simp only[Res.LO]at q;split at q
 .rename_i i j
  split at q
  .rename_i hc
   obtain⟨v,ws,f1,f2,rfl,h1,h2,_⟩:=r1;obtain⟨v2,rfl,h3⟩:=h2.one;obtain⟨rfl,_⟩:=h1;obtain⟨rfl,_⟩:=h3;have hc':(-(2 ^ 62)<= i/\i<2 ^ 62)/\(-(2 ^ 62)<= j/\j<2 ^ 62):=by simpa[inR]using hc
   exact⟨i,j,rfl,⟨hc'.1.1,hc'.1.2,hc'.2.1,hc'.2.2⟩,q _ H1 F1 g1 vc⟩
  .exact q.elim
 .exact q.elim)
def dq(it:MI)(tg:TgM)(body:MS):MS:=λenv=>match it env with
 | .ok xs=>oh (λx e=>match tg x e with
  |some e'=>body e'
  |none=>.stuck) xs env
 |.exc c=>.exc c env
 |.stuck=>.stuck
theorem cj(hp:PassesOwn (model X.prog X.w) X.A X.env X.xe)(hc:X.calm=true)(hi:SI X T W tg iter mi)(hg:SG X T tg g)(hb:SSs X T W body mb)
  (hs:∀x,foldedSetIterable iter X.env x=pure x:=by intro _;rfl):SS X T W (.For tg iter body [] pos) (dq mi g mb):=PS.wk (EI hp hc hi hg hb hs) λD Y H hz1=>by
 obtain⟨Z,F,env,fp,S,q⟩:=hz1;unfold dq at q;refine⟨Z,F,env,fp,S,?_⟩;cases em:mi env with
 |exc c=>rw[em]at q;exact λH' x=>q F H' Y fp (S.grow (Gr.same S.hp.ft x))
 |stuck=>rw[em]at q;exact q
 |ok xs=>
  rw[em]at q;intro J H1 F1 g1 it;have S1:=S.grow g1;generalize hbd:(λ(x:PV) (e:En)=>match g x e with
   |some e'=>mb e'
   |none=>Out.stuck)=bd at q
  refine⟨λi m σ2 H2=>m=xs.length-i/\i<=xs.length/\∃F2 env2 fp2,aC T (Z.re F1 H1 fp) F2 H2 σ2 env2 fp2/\GS T W Z D (oh bd (xs.drop i) env2),⟨xs.length,by simp,zero_le _,F1,env,fp,S1.enter,q⟩,?_⟩;rintro i m σ2 H2 ⟨rfl,hi,F2,env2,fp2,S2,q2⟩;obtain⟨go,stop⟩:=it H2 S2.hp.keep;by_cases hlt:i<xs.length
  .have hx:xs[i]?=some xs[i]:=by simp
   obtain⟨g1',yl⟩:=go i _ hx;refine .inr ⟨g1',λσ3 H3=>∃F3 env3 fp3,aC T (Z.re F1 H1 fp) F3 H3 σ3 env3 fp3/\GS T W Z D (oh bd (xs.drop (i+1)) env3),λσ3 H3 h3=>⟨xs.length-(i+1),by lia,rfl,hlt,h3⟩,λv H3 hy=>?_⟩;obtain⟨ex3,r⟩:=yl v H3 hy;rw[List.drop_eq_getElem_cons hlt]at q2;unfold oh at q2;rw[<- hbd]at q2;dsimp only at q2;refine⟨Z.re F1 H1 fp,F2,env2,fp2,xs[i],[],S2.grow (Gr.same S2.hp.ft ex3),r.ext Ext.refl S2.hp.f0,w_.nil,?_⟩;cases eg:g xs[i] env2 with
   |none=>rw[eg]at q2;exact q2
   |some e'=>
    rw[eg]at q2;dsimp only at q2;intro σ' fp' S';refine⟨Z.re F1 H1 fp,F2,e',fp',S',?_⟩;cases eb:mb e' with
    |next e2|cont e2=>rw[eb]at q2;exact λF3 H3 σ3 fp3 S3=>⟨F3,e2,fp3,S3,by lia⟩
    |brk e2=>rw[eb]at q2;exact λF3 H3 σ3 fp3 S3=>q2 F3 H3 σ3 fp3 (S1.leave S3)
    |ret v=>rw[eb]at q2;exact λF3 H3 v f hp r nd nf new=>q2 F3 H3 v f (cI.leave S1 hp) r nd nf λa ha=>S1.newL (new a ha)
    |exc c e2=>rw[eb]at q2;exact λF3 H3 σ3 fp3 S3=>q2 F3 H3 σ3 fp3 (S1.leave S3)
    |stuck=>rw[eb]at q2;exact q2
  .have e:i=xs.length:=by lia
   subst e;rw[List.drop_length]at q2;exact .inl ⟨stop,q2 F2 H2 σ2 fp2 (S1.leave S2)⟩
end
end PR
namespace L2
open PySem PySem.Spec
noncomputable def fS(cells:List (Str×Addr)):List (Str×NameKind)->List (Str×Addr)->List (Str×Addr)
 | [],acc=>acc
 | (n,k)::r,acc=>if (k == .free)=true then (match cells.lookup n with
  |some c=>fS cells r ((n,c)::acc)
  |none=>fS cells r acc)else fS cells r acc
theorem jO:∀(names:List (Str×NameKind)) (acc:List (Str×Addr)),(∀y∈names,y.2=.free->∃c,env.cells.lookup y.1=some c)->
  (forIn names acc λ(x:Str × NameKind) (cs:List (Str × Addr))=>match x with
   |(name,kind)=>if(kind==.free)=true then do let c <- cellOf env name;pure (ForInStep.yield ((name,c)::cs))else pure (ForInStep.yield cs):Sem (List (Str×Addr)))=pure (fS env.cells names acc)
 | [],acc,_=>by simp[fS]
 |(n,k)::r,acc,h=>by
  rw[List.forIn_cons];by_cases hk:(k==NameKind.free)=true
  .obtain⟨c,hc⟩:=h (n,k) mem_cons_self ();simp only[hk,cellOf];rw[fS,if_pos hk,hc];exact jO r _ λy hy=>h y (mem_cons_of_mem _ hy)
  .simp only[hk];rw[fS,if_neg hk];exact jO r _ λy hy=>h y (mem_cons_of_mem _ hy)
def oi(h:∀y∈scope.names,y.2=.free->∃c,env.cells.lookup y.1=some c):closureFor scope env=pure (fS env.cells scope.names []):=by unfold closureFor;rw[<- jO scope.names [] h];simp
theorem iq{cells:List (Str×Addr)}:∀{names:List (Str×NameKind)}{acc:List (Str×Addr)},(∀p∈acc,cells.lookup p.1=some p.2)->∀p∈fS cells names acc,cells.lookup p.1=some p.2
 | [],_,h=>h
 |(n,k)::r,acc,h=>by
  unfold fS;split
  .split
   .rename_i c hc
    exact iq (by grind)
   .exact iq h
  .exact iq h
def kA:∀{names:List (Str×NameKind)}{acc:List (Str×Addr)}{p:Str×Addr},p∈acc->p∈fS cells names acc
 | [],_,_,h=>h
 |(n,k)::r,acc,p,h=>by
  unfold fS;split
  .split
   .exact kA (mem_cons_of_mem _ h)
   .exact kA h
  .exact kA h
def ji{cells:List (Str×Addr)}{x:Str}{c:Addr}(hc:cells.lookup x=some c):∀{names:List (Str×NameKind)}{acc:List (Str×Addr)},(x,NameKind.free)∈ names->(x,c)∈ fS cells names acc
 | [],_,h=>nomatch h
 |(n,k)::r,acc,h=>by
  unfold fS;rcases mem_cons.mp h with e|h
  .cases e;rw[if_pos (by rfl),hc];exact kA mem_cons_self
  .split
   .split
    .exact ji hc h
    .exact ji hc h
   .exact ji hc h
theorem jz{cells l:List (Str×Addr)}(h:∀p∈l,cells.lookup p.1=some p.2){x:Str}{c:Addr}(m:(x,c)∈ l):l.lookup x=some c:=by
 induction l with
 |nil=>cases m
 |cons p r ih=>
  grind
def io{cells:List (Str×Addr)}{names:List (Str×NameKind)}{x:Str}{c:Addr}(h:(fS cells names []).lookup x=some c):cells.lookup x=some c:=
 iq (acc:=[]) (λ_ z=>nomatch z) (x,c) (PySem.mem_of_lookup h)
def nX:∀(names:List (Str×NameKind)) (a:Nat) (l acc:List (Str×Addr)),cellsFrom a names (l++acc)=cellsFrom a names l++acc
 | [],_,_,_=>rfl
 |(n,k)::r,a,l,acc=>by
  unfold cellsFrom;split
  .exact nX r (a+1) ((n,a)::l) acc
  .exact nX r a l acc
theorem nW:∀{names:List (Str×NameKind)}{a:Nat}{l:List (Str×Addr)}{p:Str×Addr},p∈cellsFrom a names l->p∈l \/(a<=p.2/\(p.1,NameKind.cell)∈ names)
 | [],_,_,_,h=>.inl h
 |(n,k)::r,a,l,p,h=>by
  unfold cellsFrom at h;split at h
  .rename_i hk
   have hk:k=.cell:=by lia
   rcases nW h with h|h
   .grind
   .exact .inr ⟨by lia,mem_cons_of_mem _ h.2⟩
  .rcases nW h with h|h
   .exact .inl h
   .exact .inr ⟨h.1,mem_cons_of_mem _ h.2⟩
theorem qm:∀{names:List (Str×NameKind)}{a:Nat}{l:List (Str×Addr)}{x:Str},((x,NameKind.cell)∈ names \/(l.lookup x).isSome=true)->((cellsFrom a names l).lookup x).isSome=true
 | [],_,_,_,h=>h.resolve_left (λz=>nomatch z)
 |(n,k)::r,a,l,x,h=>by
  unfold cellsFrom;split
  .rename_i hk
   have hk:k=.cell:=by lia
   refine qm ?_
   grind
  .rename_i hk
   refine qm ?_
   grind
theorem nY:∀{names:List (Str×NameKind)}{a:Nat}{l:List (Str×Addr)},(∀p∈l,p.2<a)->(l.Pairwise λx y=>x.2≠y.2)->(cellsFrom a names l).Pairwise λx y=>x.2≠y.2
 | [],_,_,_,h=>h
 |(n,k)::r,a,l,hl,h=>by
  unfold cellsFrom;split
  .refine nY (λp hp=>?_) (pairwise_cons.mpr ⟨λy hy e=>?_,h⟩)
   .grind
   .have e':a=y.2:=e;exact Nat.lt_irrefl _ (Nat.lt_of_lt_of_eq (hl y hy) e')
  .exact nY hl h
theorem nC{α:Type}{x:Str}:∀{l m:List (Str×α)},(l++m).lookup x=(l.lookup x).or (m.lookup x)
 | [],m=>by simp
 |(n,c)::l,m=>by
  grind
abbrev sB(X:Cx)(scope:Scope)(C:Addr):List (Str×Addr):=cellsFrom (C+1) scope.names (fS X.env.cells scope.names [])
theorem kB{X:Cx}{scope:Scope}{C:Addr}{x:Str}{c:Addr}(h:(sB X scope C).lookup x=some c):(C+1<=c/\(x,NameKind.cell)∈ scope.names/\(x,c)∈ cellsFrom (C+1) scope.names [])\/(fS X.env.cells scope.names []).lookup x=some c:=by
 unfold sB at h;rw[show fS X.env.cells scope.names []=[]++ fS X.env.cells scope.names []from rfl,nX,nC]at h;cases e:(cellsFrom (C+1) scope.names []).lookup x with
 |some d=>
  rw[e]at h;cases h;have m:=PySem.mem_of_lookup e;rcases nW m with z|z
  .cases z
  .lia
 |none=>rw[e]at h;exact .inr (by simpa using h)
def GJ(hx:(x,NameKind.cell)∉ scope.names)(h:(fS X.env.cells scope.names []).lookup x=some c):(sB X scope C).lookup x=some c:=by
 unfold sB;rw[show fS X.env.cells scope.names []=[]++ fS X.env.cells scope.names []from rfl,nX,nC];cases e:(cellsFrom (C+1) scope.names []).lookup x with
 |some d=>
  rcases nW (PySem.mem_of_lookup e)with z|z
  .cases z
  .exact absurd z.2 hx
 |none=>simpa using h
theorem rD{M:Model}{A:Around}{E:Lj}{s:Shared}{scope:Scope}{globals:Addr}{closure:List (Str×Addr)}{qual:Str}{func:Option Addr}{code:Value}{outer:Env}{builtins:Addr}{Q:Env->Shared->Prop}
  (hQ:∀ h',h'.Ns s.heap.objs.size (λ_=>none)->(∀ b o,s.heap.get? b=some o->h'.get? b=some o)->(∀ n c,(n,c) ∈ cellsFrom (s.heap.objs.size+1) scope.names []->h'.IsCell c none) ->
   Q (newEnv scope s.heap.objs.size globals (cellsFrom (s.heap.objs.size+1) scope.names closure) qual func code (some outer) builtins) {s with heap:=h'}) :
  wpAny M A (newFunctionEnv scope globals closure [] qual func code (some outer) builtins) Q E s:=by
 simp only[newFunctionEnv,Option.isSome_some,if_true];refine wpAny_bind (wpAny_alloc ?_);refine wpAny_bind (wpAny_layCells _ (λname kind cells=>by lia) _ _ _ _ ?_);have ok:=cellsFrom_ok scope.names (s.heap.push {cls:=.type "dict",data:=.dict #[]}) (s.heap.objs.size+1) [] ⟨λ_ _ hm=>(nomatch hm),Pairwise.nil⟩ ();rw[size_push]at ok;rw[show({s with heap:=s.heap.push {cls:=.type "dict",data:=.dict #[]}}:Shared).heap.objs.size=s.heap.objs.size+1 from size_push ..];refine wpAny_bind ?_;exact wpAny_pure (wpAny_pure (hQ _ ((Heap.Ns.new s.heap (.type "dict")).keeps (pushCells_keeps _ _)) (λb o e=>pushCells_keeps _ _ b o (get?_push_of_some _ e)) λn c hm=>(ok.empty n c hm).1))
def cxC(X:Cx)(scope:Scope)(C:Addr)(N:Lw)(s:Shared)(H:Hp)(ex:Lu):Cx:=
 {X with env:=compEnvC scope (sB X scope C) C X.env,N:=N,s₀:=s,H₀:=H,outer:=X.stack,stack:=X.stack,ex:=ex,fn:=λx=>scope.names.lookup x==some .cell,pn:=[],xe:=λ_ _=>False}
structure fE(X:Cx)(scope:Scope)(caps:List Nat)(N tn:Lw):Prop where
 kind:scope.kind=.function
 cel:∀y∈scope.names,y.2=.cell->scope.names.lookup y.1=some .cell
 names:∀y∈scope.names,y.2=.local->scope.names.lookup y.1=some .local
 free:∀y∈scope.names,y.2=.free->X.env.kindOf y.1=some .cell\/X.env.kindOf y.1=some .free
 eN:N=caps.map (λi=>X.N.getD i "")++ tn
 capN:∀i∈caps,i<X.N.length
 capF:∀i∈caps,∀x,X.N[i]?=some x->(x,NameKind.free)∈ scope.names/\scope.names.lookup x=some .free
 nd:N.Nodup
theorem jY{scope:Scope}{env:Env}{x:Str}{k:NameKind}(h:(relabel scope env).names.lookup x=some k)(hc:k=.cell\/k=.free):(x,NameKind.free)∈ scope.names \/(x,NameKind.cell)∈ scope.names:=by
 have m:=PySem.mem_of_lookup h;obtain⟨⟨n,k0⟩,hm,e⟩:=mem_map.mp m
 grind
theorem jZ{scope:Scope}{env:Env}{x:Str}:∀{names:List (Str×NameKind)},names.lookup x=some .free ->
  (names.map λ(n,k)=>if(k==NameKind.free&&env.scope.kind==.function&&env.kindOf n==some .cell)then(n,NameKind.cell)else(n,k)).lookup x=some .cell \/
  (names.map λ(n,k)=>if(k==NameKind.free&&env.scope.kind==.function&&env.kindOf n==some .cell)then(n,NameKind.cell)else(n,k)).lookup x=some .free
 | [],h=>by simp at h
 |(n,k)::r,h=>by
  have ih:=@jZ scope env x r
  grind
section
variable{X:Cx}{scope:Scope}{caps:List Nat}{N tn:Lw}{js:Lo}{Y:St}{H:Hp}{s:Shared}{fp:Lu}{C:Addr}
theorem qj(cs:fE X scope caps N tn)(I:Inv X js Y H s)(hf:∀b∈fp,n5 X js H b)(hlt:∀b∈fp,b<s.heap.objs.size)(hC:s.heap.objs.size<=C):(cxC X scope C N s H fp).Ok where
 mod:=I.ok.mod
 kind:=by exact cs.kind
 glob:=I.ok.glob
 blt:=I.ok.blt
 above:=hC
 inj:=λx y c h1 h2=>by
  have old:∀z,(fS X.env.cells scope.names []).lookup z=some c->c<s.heap.objs.size:=λz hz=>let⟨_,hv⟩:=I.cell z c (io hz);hv.lt
  rcases kB h1 with⟨l1,_,m1⟩|h1<;>rcases kB h2 with⟨l2,_,m2⟩|h2
  .exact name_of_addr (nY (l:=[]) (λ_ z=>nomatch z) Pairwise.nil) m1 m2
  .grind
  .grind
  .exact I.ok.inj x y c (io h1) (io h2)
 has:=λx hx=>by
  have m:(x,NameKind.free)∈ scope.names \/(x,NameKind.cell)∈ scope.names:=by
   rcases hx with h|h
   .exact jY h (.inl rfl)
   .exact jY h (.inr rfl)
  refine isSome_iff_exists.mp (qm ?_);rcases m with m|m
  .obtain⟨c,hc⟩:=I.ok.has x (cs.free _ m rfl);exact .inr (by rw[jz (iq (acc:=[]) λ_ z=>nomatch z) (ji hc m)];rfl)
  .exact .inl m
 cab:=λx c h hc=>by
  have h':(scope.names.lookup x==some NameKind.cell)=true:=h;have hx:scope.names.lookup x=some .cell:=by lia
  have hs:s.heap.objs.size<=C:=hC;have hc:(sB X scope C).lookup x=some c:=hc;obtain⟨d,hd⟩:=isSome_iff_exists.mp (qm (.inl (PySem.mem_of_lookup hx)));unfold sB at hc;rw[show fS X.env.cells scope.names []=[]++ fS X.env.cells scope.names []from rfl,nX,nC,hd]at hc;cases hc;rcases nW (PySem.mem_of_lookup hd)with z|z
  .cases z
  .exact Nat.le_trans hs (Nat.le_trans (le_succ _) z.1)
 hd:=I.ok.hd
 frames:=I.ok.frames
 stk:=.inl rfl
 exf:=λb hb=>⟨Nat.ne_of_lt (Nat.lt_of_lt_of_le (hlt b hb) hC),λx c h=>by
  rcases kB h with⟨l1,_,_⟩|h
  .exact λz=>absurd (Nat.lt_of_lt_of_le (hlt b hb) (Nat.le_trans hC (Nat.le_trans (le_succ _) l1))) ()
  .exact(hf b hb).2.2.2.2.1 x c (io h)⟩
 bs:=I.bs
 bsz:=Nat.le_trans I.ok.bsz I.sz
 noex:=λb o e hb=>by
  rcases(hf b hb).2.2.2.1 with z|z
  .exact I.ok.noex b o e z
  .exact absurd (Nat.lt_of_lt_of_le (lt_size e) (Nat.le_trans I.ok.bsz z)) (Nat.lt_irrefl _)
 exfs:=λb hb hs=>by
  rcases mem_cons.mp (I.stkSub b hs)with z|z
  .exact(hf b hb).2.1 z
  .exact(hf b hb).2.2.1 z
 funs:=I.stack
 frf:=I.stkFree
noncomputable def qp(caps:List Nat)(k:Nat)(Y:St):St:=caps.map (λi=>(Y[i]?).join)++ replicate k none
theorem zg(cs:fE X scope caps N tn)(I:Inv X js Y H s)(hf:∀b∈fp,n5 X js H b)(hlt:∀b∈fp,b<s.heap.objs.size)
  (hns:h₁.Ns (s.heap.objs.size+1) λ_=>none) (hD:h₁.get? s.heap.objs.size=some {cls:=.type "list",data:=.seq ([]:Lr).toArray}) (old:∀b o,s.heap.get? b=some o->h₁.get? b=some o)
  (hcl:∀n c,(n,c)∈ cellsFrom (s.heap.objs.size+1+1) scope.names []->h₁.IsCell c none) :
  Inv (cxC X scope (s.heap.objs.size+1) N s H fp) [] (qp caps tn.length Y) (upd H s.heap.objs.size (.lst [])) {s with heap:=h₁,toks:=t}:=by
 have fresh:∀b,s.heap.objs.size<=b->H b=none:=λb hb=>I.hok.fresh hb;have neD:s.heap.objs.size+1≠s.heap.objs.size:=Nat.succ_ne_self _;have ltc:∀x c,(fS X.env.cells scope.names []).lookup x=some c->∃v,s.heap.IsCell c v:=λx c h=>I.cell x c (io h);refine⟨qj cs I hf hlt (le_succ _),rfl,I.bare,Un.laid old (Nat.le_refl _) (fresh _ (Nat.le_refl _)),⟨_,hns,λi y v h1 h2 h3=>?_⟩,λx c h=>?_,?_,λx c h=>?_,λp hp=>absurd (show p ∈([]:Lo)from hp) (),?_,?_⟩
 .have hi:i<caps.length:=by
   unfold qp at h2;by_cases hi:i<caps.length
   .exact hi
   .rw[getElem?_append_right (by simpa using hi),getElem?_replicate]at h2;split at h2<;>cases h2
  unfold qp at h2;rw[getElem?_append_left (by simpa using hi),getElem?_map]at h2;obtain⟨j,hj,e2⟩:=map_eq_some_iff.mp h2;have hjc:j∈caps:=List.mem_of_getElem? hj;have hjN:=cs.capN j hjc;have hy:X.N[j]?=some y:=by
   have h1':N[i]?=some y:=h1;rw[cs.eN,getElem?_append_left (by simpa using hi),getElem?_map,hj]at h1';have:X.N.getD j ""=y:=by simpa using h1'
   rw[<- this];simp[hjN]
  have hσ:Y[j]?=some (some v):=by
   cases e:Y[j]? with
   |none=>rw[e]at e2;cases e2
   |some w=>rw[e]at e2;simp at e2;rw[e2]
  obtain⟨m0,hn0,hl⟩:=I.loc;obtain⟨hm,hlk⟩:=cs.capF j hjc y hy;have hk:=cs.free _ hm rfl;have hvis:Vis X.env.scope y:=by
   rcases hk with z|z
   .exact .inr (.inl z)
   .exact .inr (.inr z)
  obtain⟨u,ru,lk⟩:=hl j y v hy hσ hvis;refine⟨u,ru,.inr ?_⟩;rcases lk with⟨z,_⟩ |⟨_,c,hc,hcell⟩
  .lia
  .refine⟨jZ (scope:=scope) hlk,c,GJ (λz=>?_) (jz (iq (acc:=[]) λ_ z=>nomatch z) (ji hc hm)),hcell.keeps old⟩;have:=cs.cel _ z rfl;rw[hlk]at this;cases this
 .rcases kB h with⟨_,_,m⟩|h
  .exact⟨none,hcl x c m⟩
  .obtain⟨v,hv⟩:=ltc x c h;exact⟨v,hv.keeps old⟩
 .show upd H _ _ (s.heap.objs.size+1)=none;rw[aR neD];exact fresh _ (le_succ _)
 .rcases kB h with⟨l1,_,_⟩|h2
  .rw[aR (Nat.ne_of_gt (Nat.lt_of_lt_of_le (Nat.lt_succ_of_lt (Nat.lt_succ_self _)) l1))];exact .inl (fresh _ (Nat.le_trans (Nat.le_succ_of_le (le_succ _)) l1))
  .obtain⟨v,hv⟩:=ltc x c h2;rw[aR (Nat.ne_of_lt hv.lt)];exact(I.freeC x c (io h2)).imp (λz=>z) λq=>⟨Bool.eq_false_iff.mpr λe=>Nat.lt_irrefl _ (Nat.lt_of_lt_of_le hv.lt ((qj cs I hf hlt (le_succ _)).cab x c e h)),q.2⟩
 .exact I.hok.laid old (Nat.le_refl _) ⟨zero_le _,[],_,.nil,hD⟩
 .show(qp caps tn.length Y).length=N.length;rw[cs.eN];simp[qp]
end
end L2
namespace PR
open PySem PySem.Spec L2
section
def Fl.LH:Fl->Fl
 |.own|.lnt=>.bor
 |f=>f
def PV.LH(x:PV):PV:=x.LM Fl.LH
def wA(hB:∀a,B a->B' a)(hL:∀a,L a->B' a):Mp T Fl.LH (λ_=>false) (λ_=>[]) B' F B L H F B' L' H:=
 ⟨λf a vs _ c h=>by
  cases f with
  |own=>exact⟨c rfl,.inl h⟩
  |bor=>exact⟨hB a h.1,h.2⟩
  |lnt=>exact⟨hL a h.1,.inl h.2⟩
  | _=>exact h,λf a _ c h=>⟨by
  cases f with
  |own=>exact c rfl
  |bor=>exact hB a h
  |lnt=>exact hL a h
  |_=>exact h,λ_ q=>q⟩,λf a x y h=>by cases f<;>exact⟨rfl,rfl⟩,rfl,λ_ _=>rfl,λ_ _ q _=>q⟩
def Rel.LH(hB:∀a,B a->B' a)(hL:∀a,L a->B' a)(hp:∀a∈fo,B' a)(h:Rel T F B L H x v fo):Rel T F B' L' H (x.LM Fl.LH) v []:=(wA hB hL).rel (nQ x) hp h
mutual
def jP:∀x:PV,(x.LM Fl.LH).has Fl.LI=false
 |.non|.bl _|.int _|.str _=>rfl
 |.lst f xs=>by simp only[PV.LM,PV.has,borrow_ownL xs,Bool.or_false];cases f<;>rfl
 |.tup xs=>by simp only[PV.LM,PV.has,borrow_ownL xs]
 |.obj f c ks xs=>by simp only[PV.LM,PV.has,borrow_ownL xs,Bool.or_false];cases f<;>rfl
 |.exc _=>rfl
 |.box k xs=>by simp only[PV.LM,PV.has,borrow_ownL xs]
def borrow_ownL:∀xs:LB,hasL Fl.LI (mapL Fl.LH xs)=false
 | []=>rfl
 |x::xs=>by simp only[mapL,hasL,jP x,borrow_ownL xs,Bool.or_false]
end
def ItC(T:Tb)(F B L:Lp)(H1:Hp)(J:It)(xs:LB):Prop:=
 ∀H2,Ext H1 H2->(∀(i:Nat) x,xs[i]?=some x->J.go i H2/\∀v H3,J.yld i H2 v H3->Ext H2 H3/\∃f,(∀a∈f,∃o,H1 a=some o)/\Rel T F B L H3 x v f)/\J.stop xs.length H2
def ItC.of0(h:∀H2,Ext H1 H2->(∀(i:Nat) x,xs[i]?=some x->J.go i H2/\∀v H3,J.yld i H2 v H3->H3=H2/\∃f,Rel T F B L H1 x v f)/\J.stop xs.length H2):ItC T F B L H1 J xs:=λH2 hk=>by obtain⟨a,b⟩:=h H2 hk;refine⟨λi x e=>⟨(a i x e).1,λv H3 hy=>?_⟩,b⟩;obtain⟨rfl,f,r⟩:=(a i x e).2 v H3 hy;exact⟨Ext.refl,f,λa ha=>r.there a ha,r.ext hk λ_ h=>h⟩
def GIc(T:Tb)(W:Nat->St->LA)(B F L:Lp)(Y:St)(H:Hp)(R:It->LA):Res (LB)->Prop
 |.ok xs=>∀J H1 F1,Gr F H F1 H1->ItC T F1 B L H1 J xs->R J H1
 |.exc c=>∀H',Ext H H'->W c Y H'
 |.stuck=>False
def tIc(T:Tb)(W:Nat->St->LA)(m:MI):TI:=λY H R=>∃Z F env fp,aC T Z F H Y env fp/\GIc T W Z.B F (Own fp) Y H R (m env)
abbrev SIc(X:Cx)(T:Tb)(W:Nat->St->LA)(tg iter:Expr)(m:MI):Prop:=PI X tg iter (tIc T W m)
def bK(m:ME):MI:=λenv=>(m env).bind λx=>match a_ x with
 |some xs=>.ok xs
 |none=>.stuck
section
variable{X:Cx}{T:Tb}{W:Nat->St->LA}{Z:Zn}{F F1 B L:Lp}{H H1:Hp}{Y:St}{env:En}{fp:Nat->Lu}{D:Ends}
def bt(hK:X.K=T.K)(he:SE X T W e m):SIc X T W tg e (bK m):=λjs s Y H R I h=>yd he js s Y H R I (by
 obtain⟨Z,F,env,fp,S,q⟩:=h;unfold bK at q;walk_at "a";simp at q;cases es:a_ x with
 |none=>rw[es]at q;exact q.elim
 |some xs=>
  rw[es]at q;obtain⟨a,vs,f',rfl,hs,hr,_⟩:=r1.seq es;refine⟨a,rfl,?_⟩;rw[hK];rcases hs with hs|hs
  .refine .inl ⟨vs,hs,q _ H1 F1 g1 (ItC.of0 λH2 hx=>?_)⟩;have h2:SqL T.K H2 a vs:=by
    rcases hs with z|z
    .exact .inl (Rd.tr (λo q=>hx a o q) z)
    .exact .inr z
   refine⟨λi x ex=>?_,⟨vs,h2,by rw[hr.length];exact Nat.le_refl _⟩⟩;obtain⟨v,f,ev,rv,_⟩:=hr.get ex;refine⟨⟨vs,v,h2,ev⟩,λw H3 hy=>⟨hy.1,f,?_⟩⟩;have:=hy.2 vs h2;rw[ev]at this;cases this;exact rv
  .refine .inr ⟨vs,hs,q _ H1 F1 g1 (ItC.of0 λH2 hx=>?_)⟩;have h2:SqT T.K H2 a vs:=SqT.tr (λo q _=>hx a o q) hs;refine⟨λi x ex=>?_,⟨vs,h2,by rw[hr.length];exact Nat.le_refl _⟩⟩;obtain⟨v,f,ev,rv,_⟩:=hr.get ex;refine⟨⟨vs,v,h2,ev⟩,λw H3 hy=>⟨hy.1,f,?_⟩⟩;have:=hy.2 vs h2;rw[ev]at this;cases this;exact rv)
def Cg:ItC T F1 B L H1 (Itr lo n) (fe lo n):=by
 apply ItC.of0;intro H2 _;refine⟨λi x ex=>?_,by simp[fe,Itr]⟩;have hi:i<n:=by have:=(List.getElem?_eq_some_iff.mp ex).1;simpa[fe]using this
 refine⟨hi,λv H3 hy=>⟨hy.1,[],?_⟩⟩;obtain⟨_,rfl⟩:=hy;have:x=.int (lo+(i:Nat)):=by simp[fe,hi]at ex;exact ex.symm
 subst this;exact fN
def a5(hg:Gl X "range")(hm:X.mg "range" = none)(ha:SA X T W [a] ms)(hs:starEach [a] X.env=[(false,eval a X.env)]:=by rfl):SIc X T W tg (.Call (.Name "range" p) [a] [] pos) (bH ms):=λjs s Y H R I h=>oO hg hm ha hs js s Y H R I (by
 obtain⟨Z,F,env,fp,S,q⟩:=h;unfold bH at q;refine tA.bq S λxs vs H1 F1 f1 e1 g1 r1 n1 d1 w1=>?_;rw[e1]at q;simp at q;split at q
 .rename_i n
  split at q
  .rename_i hc
   obtain⟨v,rfl,r2⟩:=r1.one;obtain⟨rfl,_⟩:=r2;have hc':-(2 ^ 62)<= n/\n<2 ^ 62:=by simpa[inR]using hc
   exact⟨n,rfl,hc'.1,hc'.2,q _ H1 F1 g1 Cg⟩
  .exact q.elim
 .exact q.elim)
abbrev WF:Nat->St->LA:=λ_ _ _=>False
def STs(X:Cx)(T:Tb)(W:Nat->St->LA)(ifs:List Expr)(m:MT):Prop:=
 ∀(js:Lo) (s:Shared) (Y:St) (H:Hp) (Q:Bool->LA),L2.Inv X js Y H s->tT T W m Y H Q ->
  wpAny (model X.prog X.w) X.A (forIn ifs true λc r=>if r=true then do let ok <- isTrue c X.env (eval c X.env);pure (ForInStep.yield ok)else pure (ForInStep.yield r)) (TP X js Y Q) X.xe s
def bJ:MT:=λ_=>.ok true
def aZ:STs X T W [] bJ:=λjs s Y H Q I ⟨Z,F,env,fp,S,q⟩=>wpAny_tests_nil ⟨H,I,q H F (Gr.refl S.hp.ft)⟩
def bW(h:ST X T W c m):STs X T W [c] m:=λjs s Y H Q I q=>wpAny_tests_one (h js s Y H Q I q)
structure iO(g:TgM)(k:Nat):Prop where
 keep:∀x env e',g x env=some e'->e'.length=env.length/\∀j<k,e'[j]?=env[j]?
 own:∀x env e',g x env=some e'->x.has Fl.LI=false->∀(j:Nat) pv,e'[j]?=some (some pv)->env[j]?=some (some pv)\/ pv.has Fl.LI=false
structure md(g:ux)(k:Nat):Prop where
 keep:∀x env e',g x env=some e'->e'.length=env.length/\∀j<k,e'[j]?=env[j]?
 own:∀x env e',g x env=some e'->hasL Fl.LI x=false->∀(j:Nat) pv,e'[j]?=some (some pv)->env[j]?=some (some pv)\/ pv.has Fl.LI=false
theorem xl(h:k<=i):iO (tgN i) k:=by
 refine⟨λx env e' e=>?_,λx env e' e hx j pv hj=>?_⟩
 .unfold tgN at e;split at e
  .cases e;exact⟨by simp,λj hj=>getElem?_set_ne ()⟩
  .cases e
 .unfold tgN at e;split at e
  .cases e;by_cases hij:i=j
   .subst hij;have hl:i<env.length:=by have:=(List.getElem?_eq_some_iff.mp hj).1;simpa using this
    rw[getElem?_set_self hl]at hj;cases hj;exact .inr hx
   .simp_all
  .cases e
def jS:md gY k:=by
 refine⟨λx env e' e=>?_,λx env e' e _ j pv hj=>?_⟩
 .cases x with
  |nil=>cases e;exact⟨rfl,λ_ _=>rfl⟩
  |cons _ _=>cases e
 .cases x with
  |nil=>cases e;exact .inl hj
  |cons _ _=>cases e
def eD(h1:iO g k)(h2:md u k):md (b0 g u) k:=by
 refine⟨λx env e' e=>?_,λx env e' e hx j pv hj=>?_⟩
 .cases x with
  |nil=>cases e
  |cons y ys=>
   simp only[b0]at e;cases e1:g y env with
   |none=>rw[e1]at e;cases e
   |some e2=>rw[e1]at e;obtain⟨l1,k1⟩:=h1.keep y env e2 e1;obtain⟨l2,k2⟩:=h2.keep ys e2 e' e;exact⟨l2.trans l1,λj hj=>(k2 j hj).trans (k1 j hj)⟩
 .cases x with
  |nil=>cases e
  |cons y ys=>
   simp only[hasL,or_eq_false_iff]at hx;simp only[b0]at e;cases e1:g y env with
   |none=>rw[e1]at e;cases e
   |some e2=>
    rw[e1]at e;rcases h2.own ys e2 e' e hx.2 j pv hj with z|z
    .exact h1.own y env e2 e1 hx.1 j pv z
    .exact .inr z
def lY(h:md u k):iO (tgT n u) k:=by
 refine⟨λx env e' e=>?_,λx env e' e hx j pv hj=>?_⟩
 .cases x with
  |tup xs=>
   simp only[tgT]at e;split at e
   .exact h.keep xs env e' e
   .cases e
  |_=>cases e
 .cases x with
  |tup xs=>
   simp only[tgT]at e;split at e
   .exact h.own xs env e' e hx j pv hj
   .cases e
  |_=>cases e
def bF(caps:List Nat)(k:Nat)(env:En):En:=caps.map (λi=>((env[i]?).join).map PV.LH)++ replicate k none
def e9(g:TgM)(mc:MT)(me:ME)(env:En):LB->Res (LB)
 | []=>.ok []
 |x::xs=>match g x.LH env with
  |none=>.stuck
  |some e=>(mc e).bind λb=>if b then(me e).bind λy=>if y.has Fl.LK||y.has Fl.LJ then .stuck else(e9 g mc me env xs).bind λys=>.ok (y::ys)else e9 g mc me env xs
def aL(caps:List Nat)(k:Nat)(mi:MI)(g:TgM)(mc:MT)(me:ME):ME:=λenv=>(mi env).bind λxs=>if xs.length <= 10000000 then (match e9 g mc me (bF caps k env) xs with
 |.ok ys=>.ok (.lst .own ys)
 |_=>.stuck)else .stuck
end
section
variable{prog:Program}{w:World}{A:Around}{R:Result->Shared->Prop}{s:Shared}
def ql(I:Nat->Shared->Prop)
  (turn:∀ n s,I n s->wpAny (model prog w) A (pyNext it) (λr s₁=>match r with
   |none=>R (.ok .next) s₁
   | some v=>wpAny (model prog w) A (letOwnedTupleGo target it v) (λ_ s₁'=>wpAny (model prog w) A (assign target env v) (λ_ s₂=>
     wpAny (model prog w) A (forIn ifs true λc r=>if r=true then do let ok <- isTrue c env (eval c env);pure (ForInStep.yield ok) else pure (ForInStep.yield r)) (λok s₃=>
      if ok=true then wpAny (model prog w) A (eval elt env) (λx s₄=>
       wpAny (model prog w) A (call (.builtin "list.append") [acc,x]) (λ_ s₅=>∃m,m<n/\I m s₅) (notedBy (model prog w) A env λe s'=>R (.error e) s') s₄) (notedBy (model prog w) A env λe s'=>R (.error e) s') s₃
      else ∃m,m<n/\I m s₃) (notedBy (model prog w) A env λe s'=>R (.error e) s') s₂) (notedBy (model prog w) A env λe s'=>R (.error e) s') s₁') (notedBy (model prog w) A env λe s'=>R (.error e) s') s₁) (notedBy (model prog w) A env λe s'=>R (.error e) s') s)
  (n:Nat) (h:I n s) :
  codeAny (model prog w) A (.compLoop (.ListComp elt [⟨target,iter,ifs,0⟩] scope pos) 0 it acc env) R s:=by
 refine codeAny_loop rfl I (λn s hI=>?_) n h;refine wpAny_noted ?_;rw[compTurn_list];refine wpAny_bind (wpAny_standAt (wpAny_bind (wpAny_mono (turn n s hI) (λr s₁ h₁=>?_) λ_ _ h'=>h')));cases r with
 |none=>exact wpAny_pure h₁
 |some v=>
  refine wpAny_bind (wpAny_mono h₁ (λ_ s₁' h₁'=>?_) λ_ _ h'=>h');refine wpAny_bind (wpAny_mono h₁' (λ_ s₂ h₂=>wpAny_bind (wpAny_mono h₂ (λok s₃ h₃=>?_) λ_ _ h'=>h')) λ_ _ h'=>h');cases ok with
  |false=>exact wpAny_pure ⟨rfl,h₃⟩
  |true=>exact wpAny_bind (wpAny_bind (wpAny_mono h₃ (λx s₄ h₄=>wpAny_bind (wpAny_mono h₄ (λ_ s₅ h₅=>wpAny_pure (wpAny_pure ⟨rfl,h₅⟩)) λ_ _ h'=>h')) λ_ _ h'=>h'))
end
end
section
section
variable{X:Cx}{T:Tb}{W:Nat->St->LA}{Z:Zn}{F F1 B L:Lp}{H H1:Hp}{Y:St}{env:En}{fp:Nat->Lu}{D:Ends}
theorem aC.wk(S:aC T Z F H Y env fp)(hpin:Z.pin=none)(hl:e2.length=env.length)(h:∀(i:Nat) pv,e2[i]?=some (some pv)->env[i]?=some (some pv)):aC T Z F H Y e2 fp:=
 ⟨S.hp,S.len.trans hl.symm,λi pv e=>S.rel i pv (h i pv e),S.nd,S.dj,S.dis,S.new,S.ch,λv hv=>by lia⟩
def aC.LN(S:aC T Z F H Y env fp)(h:∀(i:Nat) pv,env[i]?=some (some pv)->pv.has Fl.LI=false):aC T Z F H Y env (λ_=>[]):=
 ⟨S.hp,S.len,λi pv e=>by
  obtain⟨v,h1,h2⟩:=S.rel i pv e;have:=Rel.LN (h i pv e) h2;rw[this]at h2;exact⟨v,h1,h2⟩,λ_=>nodup_nil,λ_ _ _ _ z=>(nomatch z),λ_ _ z=>(nomatch z),λ_ _ z=>(nomatch z),λ_ _ z=>(nomatch z),S.pn⟩
theorem aC.updD(S:aC T Z F H Y env (λ_=>[]))(hF:¬F Dd)(h0:Z.H0 Dd=none)(hD:H Dd=some o)(hfx:¬ii o):aC T Z F (upd H Dd o') Y env (λ_=>[]):=by
 have ne:∀a u,H a=some u->(F a\/Z.B a\/NoL a\/ii u)->a≠Dd:=(by grind[cT,aC,cI,Gr])
 refine⟨⟨S.hp.bo,λa u e n=>?_,S.hp.f0,S.hp.fn,λa h=>?_⟩,S.len,λi pv e=>?_,S.nd,S.dj,λ_ _ z=>(nomatch z),S.new,λ_ _ z=>(nomatch z),S.pn⟩
 .have:a≠Dd:=λz=>by rw[z,h0]at e;cases e
  rw[aR this];exact S.hp.keep a u e n
 .obtain⟨u,e⟩:=S.hp.ft a h;exact⟨u,by rw[aR (show a≠Dd from λz=>hF ())];exact e⟩
 .obtain⟨v,h1,h2⟩:=S.rel i pv e;refine⟨v,h1,Rel.tr (λ_ h=>h) (λ_ h=>h) (λ_ h=>h) (λa u q h=>?_) (λ_ z=>(nomatch z)) h2⟩;rw[aR (ne a u q h)];exact q
def zC(F:Lp)(H:Hp):Zn:=⟨H,F,λ_=>False,λa=>∃o,H a=some o,none⟩
def wZ(S:aC T Z F H Y env fp)(hD:H Dd=none)(hFD:¬F Dd) :
  aC T (zC F H) F (upd H Dd (.lst [])) (qp caps k Y) (bF caps k env) (λ_=>[]):=by
 have ext:Ext H (upd H Dd (.lst [])):=Ext.upd hD;refine⟨⟨⟨λa h=>⟨h,λz=>z⟩,S.tbo Ext.refl λ_ z=>False.elim z⟩,λa o h _=>ext a o h,λ_ h=>h,λ_ h=>.inl h,λa h=>let⟨o,e⟩:=S.hp.ft a h;⟨o,ext a o e⟩⟩,by simp[qp,bF],λi pv e=>?_,λ_=>nodup_nil,λ_ _ _ _ z=>(nomatch z),λ_ _ z=>(nomatch z),λ_ _ z=>(nomatch z),λ_ _ z=>(nomatch z),λ_ h=>(nomatch h)⟩;unfold bF at e;unfold qp;by_cases hi:i<caps.length
 .rw[getElem?_append_left (by simpa using hi),getElem?_map]at e ⊢;obtain⟨j,hj,e2⟩:=map_eq_some_iff.mp e;rw[hj];obtain⟨pv0,e3,rfl⟩:=map_eq_some_iff.mp e2;have e4:env[j]?=some (some pv0):=by
   cases e5:env[j]? with
   |none=>rw[e5]at e3;cases e3
   |some w=>rw[e5]at e3;simp at e3;rw[e3]
  obtain⟨v,h1,h2⟩:=S.rel j pv0 e4;refine⟨v,by simp[h1],?_⟩;refine Rel.LH (L:=NoL) (λ_ h=>h) (λ_ h=>h.elim) (λa ha=>(S.dis j a ha).2) ?_;exact Rel.tr (λ_ h=>h) (λa h=>let⟨⟨o,h1⟩,h2⟩:=S.hp.bo.1 a h;⟨o,S.hp.keep a o h1 h2⟩) (λ_ h=>h) (λa o q _=>ext a o q) (λa _ o q=>ext a o q) h2
 .rw[getElem?_append_right (by simpa using hi),getElem?_replicate]at e;split at e<;>cases e
set_option maxHeartbeats 1000000 in
theorem ph
  (cs:fE X scope caps N tn) (hc:X.calm=true) (hi:SIc X T W tg iter mi) (hk:iO g caps.length)
  (hb:∀C s H ex,SG (cxC X scope C N s H ex) T tg g/\STs (cxC X scope C N s H ex) T WF ifs mc/\SE (cxC X scope C N s H ex) T WF elt me)
  (hs:∀x,foldedSetIterable iter X.env x=pure x) (I:L2.Inv X js Y H s) (h:tE T W (aL caps tn.length mi g mc me) Y H Q)
  (hfin:∀(Dd C:Addr) (H':Hp) (s6:Shared) (m:Lk),Q (.ref Dd) H'->L2.Inv X js Y H' s6->s6.heap.Ns C m->H' C=none->C≠X.env.locals->C∉X.fs->X.s₀.heap.objs.size<=C->(∀x c,X.env.cells.lookup x=some c->c≠C)->(∀p∈X.pn++js,p.1≠C)->compPost (model X.prog X.w) X.A X.xe use Q' (.ref Dd) C (.ok .next) s6) :
  wpAny (model X.prog X.w) X.A (comprehension (.ListComp elt [⟨tg,iter,ifs,0⟩] scope pos) scope X.env p' (newList []) false (eval iter X.env) use) Q' X.xe s:=by
 obtain⟨Z,F,env,fp,S,q⟩:=h;unfold aL at q;refine wpAny_comprehension_free rfl hs (oi λy hy hf=>I.ok.has y.1 (cs.free y hy hf)) cs.kind cs.names ?_;refine thn (hi js s Y H (λJ H1=>∃F1 xs,mi env=.ok xs/\Gr F H F1 H1/\ItC T F1 Z.B (Own fp) H1 J xs) I ⟨Z,F,env,fp,S,?_⟩) λxv s1 h1=>thn h1 λitv s2 h2=>?_
 .cases em:mi env with
  |ok xs=>exact λJ H1 F1 g1 it=>⟨F1,xs,rfl,g1,it⟩
  |exc c|stuck=>rw[em]at q;exact q
 obtain⟨it,fpi,tn_,J,H2,rfl,I2,Tn,st2,f2,F1,xs,em,g1,itc⟩:=h2;rw[em]at q;simp at q;split at q
 case isFalse=>exact q.elim
 cases ec:e9 g mc me (bF caps tn.length env) xs with
 |exc c|stuck=>rw[ec]at q;exact q.elim
 |ok full=>
 rw[ec]at q;have S2:=S.grow g1;have hlt:∀b∈fpi,b<s2.heap.objs.size:=λb hb=>by obtain⟨o,ho,_⟩:=Tn.obj 0 _ st2 b hb;exact lt_size ho
 refine PySem.wpAny_newObj_type (rD λh₁ hns₁ hsb₁ hcl₁=>?_);generalize hH2:s2.heap.push {cls:=.type "list",dict:=none,data:=.seq ([]:Lr).toArray}=P2 at hns₁ hsb₁ hcl₁ ⊢;have hC:P2.objs.size=s2.heap.objs.size+1:=by rw[<- hH2,size_push]
 have old:∀b o,s2.heap.get? b=some o->h₁.get? b=some o:=λb o e=>hsb₁ b o (hH2▸get?_push_of_some _ e);have hDo:h₁.get? s2.heap.objs.size=some {cls:=.type "list",data:=.seq ([]:Lr).toArray}:=hsb₁ _ _ (hH2▸get?_push_size _ rfl);rw[hC]at hns₁ hcl₁;have inv0:=zg (t:=s2.toks) cs I2 f2 hlt hns₁ hDo old hcl₁;have hDH:H2 s2.heap.objs.size=none:=I2.hok.fresh (Nat.le_refl _);have hDF:¬F1 s2.heap.objs.size:=λz=>by obtain⟨o,e⟩:=g1.dom _ z;rw[hDH]at e;cases e
 have SB:=wZ (caps:=caps) (k:=tn.length) S2 hDH hDF;obtain⟨hgN,hts,hel⟩:=hb (s2.heap.objs.size+1) s2 H2 fpi;have never:∀{α:Type}{t:Sem α}{Qa:α->Shared->Prop}{E':Lj}{s':Shared},wpAny (model X.prog X.w) X.A t Qa (λ_ _=>False) s'->wpAny (model X.prog X.w) X.A t Qa E' s':=λh=>wpAny_mono h (λ_ _ x=>x) λ_ _ z=>z.elim;have fpok:∀{H':Hp}{pins':Lo},(∀p∈pins',p.1∉fpi)->(∀b∈fpi,H' b=none)->∀b∈fpi,n5 (cxC X scope (s2.heap.objs.size+1) N s2 H2 fpi) pins' H' b:=λ{H' pins'} hp hn b hb=>by
  refine⟨hn b hb,Nat.ne_of_lt (Nat.lt_succ_of_lt (hlt b hb)),(qj cs I2 f2 hlt (le_succ _)).exfs b hb,.inl hb,((qj cs I2 f2 hlt (le_succ _)).exf b hb).2,λp hp' z=>?_⟩;rcases mem_append.mp hp' with w|w
  .exact absurd (show p ∈([]:Lo)from w) ()
  .exact hp p w (z▸hb)
 have key:∀s4:Shared,L2.Inv (cxC X scope (s2.heap.objs.size+1) N s2 H2 fpi) [] (qp caps tn.length Y) (upd H2 s2.heap.objs.size (.lst [])) s4->tn_ 0 s4.heap ->
   codeAny (model X.prog X.w) X.A (.compLoop (.ListComp elt [⟨tg,iter,ifs,0⟩] scope pos) 0 (.ref it) (.ref s2.heap.objs.size) (compEnvC scope (sB X scope (s2.heap.objs.size+1)) (s2.heap.objs.size+1) X.env))
    (compPost (model X.prog X.w) X.A X.xe use Q' (.ref s2.heap.objs.size) (s2.heap.objs.size+1)) s4:=by
  intro s4 inv4 st4;refine ql (λn s'=>∃ (i:Nat) (σ':St) (H':Hp) (Fi:Lp) (ys zs:LB) (vs:Lz) (f:Lu),n=xs.length - i/\i <= xs.length/\L2.Inv (cxC X scope (s2.heap.objs.size+1) N s2 H2 fpi) [] σ' H' s'/\tn_ i s'.heap/\(∀ b ∈ fpi,H' b=none) /\
   aC T (zC F1 H2) Fi H' σ' (bF caps tn.length env) (λ_=>[])/\H' s2.heap.objs.size=some (.lst vs)/\RelL T Fi Z.B (Own fp) H' ys vs f/\f.Nodup/\(∀a∈f,¬Fi a/\H2 a=none/\a≠s2.heap.objs.size)/\¬Fi s2.heap.objs.size/\ys.length<=i /\
   e9 g mc me (bF caps tn.length env) (xs.drop i)=.ok zs/\full=ys++zs) ?_ xs.length ?_
  case refine_2=>
   refine⟨0,_,_,F1,[],full,[],[],by simp,zero_le _,inv4,st4,λb hb=>?_,SB,bG,by exact⟨rfl,rfl⟩,nodup_nil,λ_ z=>(nomatch z),hDF,zero_le _,ec,rfl⟩;rw[aR (Nat.ne_of_lt (hlt b hb))];exact(f2 b hb).1
  rintro n s5 ⟨i,σ',H',Fi,ys,zs,vs,f,rfl,hil,inv5,st5,fr5,SI5,hD5,ry,nd5,nf5,nFD,hyl,ecl,efull⟩;have ext5:Ext H2 H':=λa o e=>SI5.hp.keep a o e λz=>z;have gr5:Gr F1 H2 Fi H':=⟨ext5,SI5.hp.f0,λa h=>by
   rcases SI5.hp.fn a h with z|z|z
   .exact .inl z
   .exact .inr z
   .exact z.elim,SI5.hp.ft⟩
  obtain⟨go,stop⟩:=itc H' ext5;by_cases hlt5:i<xs.length
  .have hx:xs[i]?=some xs[i]:=by simp
   obtain⟨g5,yl⟩:=go i _ hx;rw[List.drop_eq_getElem_cons hlt5]at ecl;unfold e9 at ecl;cases eg:g xs[i].LH (bF caps tn.length env)with
   |none=>rw[eg]at ecl;cases ecl
   |some e'=>
   rw[eg]at ecl;dsimp only at ecl;refine thn (Tn.item (cxC X scope (s2.heap.objs.size+1) N s2 H2 fpi) rfl rfl rfl hc i [] s5 σ' H' _ inv5 (fpok (λ_ z=>absurd z ()) fr5) st5 g5) λr s6 hz1=>?_;obtain⟨u,hr,h6⟩:=hz1;subst hr;refine thn h6 λ_ s7 hz1=>?_;obtain⟨v,H7,inv7,rv,yy,st7,fr7⟩:=hz1;obtain⟨ex7,fx,tx,rx⟩:=yl v H7 yy
   replace SI5:=SI5.grow (Gr.same SI5.hp.ft ex7)
   replace ry:=ry.ext ex7 λ_ h=>h
   replace hD5:=ex7 _ _ hD5
   replace gr5:=gr5.trans (Gr.same gr5.dom ex7)
   replace ext5:=gr5.ext
   have pinv:=inv7.pinned (fpok (λ_ z=>absurd z ()) fr7) (Tn.obj _ _ st7);have rxb:Rel T Fi (zC F1 H2).B NoL H7 xs[i].LH v []:=by refine Rel.LH (L:=Own fp) (λ_ h=>h) (λa ⟨j,hj⟩=>(S2.dis j a hj).2) (λa ha=>tx a ha) ?_;exact Rel.tr SI5.hp.f0 (λa h=>let⟨⟨o,h1⟩,h2⟩:=S2.hp.bo.1 a h;⟨o,S2.hp.keep a o h1 h2⟩) (λ_ h=>h) (λa o q _=>q) (λa _ o q=>q) rx
   refine never (thn (hgN _ s7 σ' H7 v u (λσ8 H8=>H8=H7/\∃fp8,aC T (zC F1 H2) Fi H7 σ8 e' fp8) pinv rv ⟨zC F1 H2,Fi,bF caps tn.length env,λ_=>[],xs[i].LH,[],SI5,rxb,w_.nil,?_⟩) λ_ s8 zz=>?_)
   .rw[eg];exact λσ8 fp8 S8=>⟨rfl,fp8,S8⟩
   obtain⟨σ8,H8,inv8,e8,fp8,S8⟩:=zz;subst e8;obtain⟨kl,kk⟩:=hk.keep _ _ _ eg;have capOwn:∀(j:Nat) pv,(bF caps tn.length env)[j]?=some (some pv)->pv.has Fl.LI=false:=λj pv ej=>by
    unfold bF at ej;by_cases hj:j<caps.length
    .rw[getElem?_append_left (by simpa using hj),getElem?_map]at ej;obtain⟨jj,_,e2⟩:=map_eq_some_iff.mp ej;obtain⟨pv0,_,rfl⟩:=map_eq_some_iff.mp e2;exact jP pv0
    .rw[getElem?_append_right (by simpa using hj),getElem?_replicate]at ej;split at ej<;>cases ej
   have S8':aC T (zC F1 H2) Fi H8 σ8 e' (λ_=>[]):=S8.LN λj pv ej=>by
    rcases hk.own _ _ _ eg (jP _) j pv ej with z|z
    .exact capOwn j pv z
    .exact z
   have back:∀{F9:Lp}{H9:Hp},aC T (zC F1 H2) F9 H9 σ8 e' (λ_=>[])->aC T (zC F1 H2) F9 H9 σ8 (bF caps tn.length env) (λ_=>[]):=λS9=>S9.wk rfl kl.symm λj pv ej=>by
    have hj:j<caps.length:=by
     by_cases hj:j<caps.length
     .exact hj
     .unfold bF at ej;rw[getElem?_append_right (by simpa using hj),getElem?_replicate]at ej;split at ej<;>cases ej
    rw[kk j hj];exact ej
   have pinback:∀{H9:Hp}{s9:Shared},L2.Inv (cxC X scope (s2.heap.objs.size+1) N s2 H2 fpi) ([]++ mV fpi s7.heap) σ8 H9 s9->L2.Inv (cxC X scope (s2.heap.objs.size+1) N s2 H2 fpi) [] σ8 H9 s9/\tn_ (i+1) s9.heap/\∀b∈fpi,H9 b=none:=λ{H9 s9} i9=>
    ⟨i9.unpinned,Tn.keep _ _ _ st7 λb hb o e=>(i9.pin (b,o) (mem_append_right _ (mem_append_right _ (iJ hb e)))).1,λb hb=>by
     obtain⟨o,e,_⟩:=Tn.obj _ _ st7 b hb;exact(i9.pin (b,o) (mem_append_right _ (mem_append_right _ (iJ hb e)))).2.1⟩
   cases emc:mc e' with
   |exc c|stuck=>rw[emc]at ecl;cases ecl
   |ok bb=>
   rw[emc]at ecl;simp only[Res.LO]at ecl;refine never (thn (hts _ s8 σ8 H8 (λb H9=>b=bb/\∃F9,Gr Fi H8 F9 H9) inv8 ⟨zC F1 H2,Fi,e',λ_=>[],S8',?_⟩) λok s9 zz=>?_)
   .rw[emc];exact λH9 F9 g9=>⟨rfl,F9,g9⟩
   obtain⟨H9,inv9,eb,F9,g9⟩:=zz;subst eb;have S9:=S8'.grow g9;have ry9:=ry.ext g9.ext g9.mono;have nf9:∀a∈f,¬F9 a:=λa ha z=>by
    rcases g9.only a z with z|z
    .exact(nf5 a ha).1 z
    .obtain⟨o,e⟩:=ry.there a ha;rw[e]at z;cases z
   have nFD9:¬F9 s2.heap.objs.size:=λz=>by
    rcases g9.only _ z with z|z
    .exact nFD z
    .rw[hD5]at z;cases z
   cases ok with
   |false=>obtain⟨i10,st10,fr10⟩:=pinback inv9;exact⟨xs.length-(i+1),by lia,i+1,σ8,H9,F9,ys,zs,vs,f,rfl,hlt5,i10,st10,fr10,back S9,g9.ext _ _ hD5,ry9,nd5,λa ha=>⟨nf9 a ha,(nf5 a ha).2⟩,nFD9,by lia,ecl,efull⟩
   |true=>
    simp only[if_true]at ecl ⊢;cases eme:me e' with
    |exc c|stuck=>rw[eme]at ecl;cases ecl
    |ok y=>
    rw[eme]at ecl;simp only[Res.LO]at ecl;split at ecl
    case isTrue=>cases ecl
    rename_i hyb
    simp at hyb;cases ecr:e9 g mc me (bF caps tn.length env) (xs.drop (i+1))with
    |exc c|stuck=>rw[ecr]at ecl;cases ecl
    |ok zs'=>
    rw[ecr]at ecl;cases ecl;refine never (thn (hel _ s9 σ8 H9 (λv' H10=>∃F10 f10,Gr F9 H9 F10 H10/\Rel T F10 (zC F1 H2).B (Own λ_=>[]) H10 y v' f10/\(∀a∈f10,¬F10 a)/\f10.Nodup/\∀a∈f10,H9 a=none) inv9 ⟨zC F1 H2,F9,e',λ_=>[],S9,?_⟩) λw s10 zz=>?_)
    .rw[eme];exact λv' H10 F10 f10 g10 r10 n10 d10 w10=>⟨F10,f10,g10,r10,n10,d10,w10⟩
    obtain⟨v',H10,inv10,rw10,F10,f10,g10,r10,n10,d10,w10⟩:=zz;have hvl:vs.length<sizeLine:=by
     have h1:=ry.length;have h2:sizeLine=16777216:=sizeLine_eq
     lia
    have hD10:H10 s2.heap.objs.size=some (.lst vs):=g10.ext _ _ (g9.ext _ _ hD5);refine never (thn (kS _ s10 σ8 H10 (.ref s2.heap.objs.size) [v'] (.ref s2.heap.objs.size) [w] (λ_ H11=>H11=upd H10 s2.heap.objs.size (.lst (vs++[v']))) inv10 rfl (.cons rw10 .nil) ⟨s2.heap.objs.size,vs,v',rfl,rfl,hD10,hvl,rfl⟩) λ_ s11 zz=>?_);obtain⟨_,H11,inv11,_,e11⟩:=zz;subst e11;obtain⟨i12,st12,fr12⟩:=pinback inv11;have S10:=S9.grow g10;have nFD10:¬F10 s2.heap.objs.size:=λz=>by
     rcases g10.only _ z with z|z
     .exact nFD9 z
     .rw[g9.ext _ _ hD5]at z;cases z
    have ry10:=ry9.ext g10.ext g10.mono;have ryy:RelL T F10 Z.B (Own fp) (upd H10 s2.heap.objs.size (.lst (vs++[v']))) (ys++[y]) (vs++[v']) (f++f10):=by
     have ry1:Rel T F10 Z.B (Own fp) H10 y v' f10:=Rel.noL hyb.2 (Rel.noB (B':=Z.B) hyb.1 r10);have all:RelL T F10 Z.B (Own fp) H10 (ys++[y]) (vs++[v']) (f++f10):=RelL.append ry10 (by exact⟨v',[],f10,[],rfl,ry1,by exact⟨rfl,rfl⟩,by simp⟩);refine RelL.tr (λ_ h=>h) (λ_ h=>h) (λ_ h=>h) (λa o e h=>?_) (λa ha o e=>?_) all
     .refine(aR λz=>?_).trans e;subst z;rcases h with h|h|h|h
      .exact nFD10 h
      .obtain⟨⟨o',h1⟩,h2⟩:=S2.hp.bo.1 _ h;rw[S2.hp.keep _ o' h1 h2]at hDH;cases hDH
      .obtain⟨j,hj⟩:=h;obtain⟨_,o',ho'⟩:=S2.dis j _ hj;rw[hDH]at ho';cases ho'
      .rw[hD10]at e;cases e;exact h
     .refine(aR λz=>?_).trans e;subst z;rcases mem_append.mp ha with ha|ha
      .lia
      .have:=w10 _ ha;rw[g9.ext _ _ hD5]at this;cases this
    have nf10:∀a∈f,¬F10 a:=λa ha z=>by
     rcases g10.only a z with z|z
     .exact nf9 a ha z
     .obtain⟨o,e⟩:=ry9.there a ha;rw[e]at z;cases z
    refine⟨xs.length-(i+1),by lia,i+1,σ8,_,F10,ys++[y],zs',vs++[v'],f++f10,rfl,hlt5,i12,st12,fr12,back (S10.updD nFD10 hDH hD10 (λz=>z)),bG,ryy,?_,λa ha=>?_,nFD10,by simp;lia,ecr,by rw[efull,append_assoc];rfl⟩
    .refine nodup_append.mpr ⟨nd5,d10,λa ha b hb z=>?_⟩;subst z;obtain⟨o,e⟩:=ry9.there a ha;rw[w10 a hb]at e;cases e
    .rcases mem_append.mp ha with ha|ha
     .exact⟨nf10 a ha,(nf5 a ha).2⟩
     .refine⟨n10 a ha,?_,λz=>?_⟩
      .have:=w10 a ha;exact ext5.free (g9.ext.free this)
      .subst z;have:=w10 _ ha;rw[g9.ext _ _ hD5]at this;cases this
  .have e:i=xs.length:=by lia
   subst e;rw[List.drop_length]at ecl;cases ecl;rw[append_nil]at efull;subst efull;refine thn (Tn.done (cxC X scope (s2.heap.objs.size+1) N s2 H2 fpi) rfl rfl rfl hc xs.length [] s5 σ' H' _ inv5 (fpok (λ_ z=>absurd z ()) fr5) st5 stop) λr s6 hz1=>?_;obtain⟨hr,inv6⟩:=hz1;subst hr;obtain⟨m,hn,_⟩:=id inv6.loc;have hlc:X.env.locals<s2.heap.objs.size+1:=Nat.lt_succ_of_lt I2.lt;have iX:L2.Inv X js Y H' s6:=I2.call' inv6.os inv6.base inv6.hok inv6.bare λb hb=>⟨(f2 b hb).2.2.2.1,(f2 b hb).2.1,(f2 b hb).2.2.2.2.1,(f2 b hb).2.2.2.2.2⟩
   refine hfin _ (s2.heap.objs.size+1) H' s6 m ?_ iX hn inv6.free (Nat.ne_of_gt hlc) (I2.nofs (le_succ _)) (Nat.le_trans I2.sz (le_succ _)) (λx c e z=>?_) (λp hp z=>?_)
   case refine_2=>
    obtain⟨v,hv⟩:=I2.cell x c e;rw[z]at hv;exact absurd hv.lt (Nat.not_lt.mpr (le_succ _))
   case refine_3=>
    have:=lt_size (I2.pin p hp).1;rw[z]at this;exact absurd this (Nat.not_lt.mpr (le_succ _))
   refine q (.ref s2.heap.objs.size) H' Fi (s2.heap.objs.size::f) (g1.trans gr5) ?_ (λa ha=>?_) ?_ (λa ha=>?_)
   .unfold Rel;exact⟨_,vs,f,rfl,hD5,ry,rfl⟩
   .grind
   .exact nodup_cons.mpr ⟨λz=>(nf5 _ z).2.2 rfl,nd5⟩
   .rcases mem_cons.mp ha with rfl|ha
    .exact g1.ext.free hDH
    .exact g1.ext.free (nf5 a ha).2.1
 have st0:tn_ 0 h₁:=Tn.keep _ _ _ st2 λb _ o e=>old b o e;have lp:=key _ inv0 st0;simp only[hC];exact codeAny_compStart_list lp (Tn.self _ 0 _ _ _ st0 lp)
def Bm
  (cs:fE X scope caps N tn) (hc:X.calm=true) (hi:SIc X T W tg iter mi) (hk:iO g caps.length)
  (hb:∀C s H ex,SG (cxC X scope C N s H ex) T tg g/\STs (cxC X scope C N s H ex) T WF ifs mc/\SE (cxC X scope C N s H ex) T WF elt me)
  (hs:∀x,foldedSetIterable iter X.env x=pure x:=by intro _;rfl):SE X T W (.ListComp elt [⟨tg,iter,ifs,0⟩] scope pos) (aL caps tn.length mi g mc me):=by
 intro js s Y H Q I h;refine ph cs hc hi hk hb hs I h λDd C H' s6 m hq iX hn hCn hCl hCf hC0 hCc hCp=>⟨m,hn,λh' hs'=>⟨.ref Dd,H',?_,rfl,hq⟩⟩
 exact iX.turned (t':=s6.toks) (λb o hb e=>(hs'.2 b hb).trans e) hCn hCl (.inr hC0) hCc hCp
def A5
  (cs:fE X scope caps N tn) (hc:X.calm=true) (hN:X.N.Nodup) (hy:X.N[i]?=some y) (hx:Loc X.env.scope y) (hi:SIc X T W tg iter mi) (hk:iO g caps.length)
  (hb:∀C s H ex,SG (cxC X scope C N s H ex) T tg g/\STs (cxC X scope C N s H ex) T WF ifs mc/\SE (cxC X scope C N s H ex) T WF elt me)
  (hsw:swapsWith (.ListComp elt [⟨tg,iter,ifs,0⟩] scope pos) (some (.Name y py)) spos.line X.env=pure true:=by rfl)
  (hs:∀x,foldedSetIterable iter X.env x=pure x:=by intro _;rfl)
  (hf:X.fn y=true\/X.env.scope.names.lookup y=some .local:=by first|exact .inl rfl|exact .inr rfl|assumption) :
  SS X T W (.Assign [.Name y py] (.ListComp elt [⟨tg,iter,ifs,0⟩] scope pos) spos) (aG i (aL caps tn.length mi g mc me)):=by
 intro js s Y H D I h;obtain⟨Z,F,env,fp,S,q⟩:=h;unfold aG at q;rw[exec_Assign_Name_used _ _ _ _ hsw];refine wpAny_bind (wpAny_standAt (wpAny_bind ?_));refine wpAny_bind (wpAny_mono (ph (Q':=λ_ s'=>SP X js D .next s') (Q:=λv H1=>D.nx (Y.set i (some v)) H1) cs hc hi hk hb hs I ?_ λDd C H' s6 m hq iX hn hCn hCl hCf hC0 hCc hCp=>?_) (λ_ s' hq=>wpAny_pure (wpAny_pure hq)) λ_ _ e=>e)
 .refine tE.bind S (λc e H' x=>?_) (λe=>by rw[e]at q;exact q) λpv v H1 F1 f e g r h1 h2 h3=>?_
  .rw[e]at q;exact q F H' Y fp (S.grow (Gr.same S.hp.ft x))
  .rw[e]at q;simp only at q;split at q
   .rename_i hl
    rw[and_eq_true]at hl;exact q F1 H1 _ _ (S.putN g hl.2 r hl.1 h1 h2 h3)
   .exact q.elim
 .refine wpAny_assign_Name (oC (v:=.ref Dd) iX hN hy hx rfl (λs7 i7 ⟨a,hsa,ha⟩=>?_) hf);have hCa:C≠a:=by
   rcases ha with ha|ha
   .rw[ha];exact hCl
   .exact λz=>hCc y a ha z.symm
  refine⟨m,hn.sameBut hsa hCa,λh' hs'=>⟨_,H',?_,hq⟩⟩;exact i7.turned (t':=s7.toks) (λb o hb e=>(hs'.2 b hb).trans e) hCn hCl (.inr hC0) hCc hCp
end
def GFI(T:Tb)(Z:Zn)(v0:V)(Q:VK)(E:XK):LC->Prop
 |.ok pv=>∀F H f,cI T Z F H->Rel T F Z.B NoL H pv v0 f->f.Nodup->(∀a∈f,¬F a)->(∀a∈f,Z.H0 a=none\/Z.fp0 a)->Q .non H
 |.exc c=>∀H,(∀a o,Z.H0 a=some o->¬Z.fp0 a->H a=some o)->E (.ref (T.xcl c)) none H
 |.stuck=>False
def spI(T:Tb)(n:Nat)(m:LB->LC):Sp:=λvs H Q E=>vs.length=n/\∃v0 pvs F B f,vs[0]?=some v0/\xb T F B H pvs vs f/\(∃fl c ks xs,pvs[0]?=some (.obj fl c ks xs))/\GFI T ⟨H,F,(·∈f),B,some v0⟩ v0 Q E (m pvs)
noncomputable def ju(n:Nat)(m:MS)(args:LB):LC:=match m (args.map some++replicate (n-args.length) none)with
 |.next e=>match e[0]? with
  |some (some o)=>.ok o
  |_=>.stuck
 |.exc c _=>.exc c
 |_=>.stuck
section
variable{P:Program}{w:World}{K:PySem.W.Frag}{mg:Lk}{base:Heap}{T:Tb}
def Gg(F:Fun K x qual st f fd)(S:gn N ps (aU st))
  (body:∀ (cdv:Value) (A:Around) (outer:List Env) (s:Shared) (H:Hp) (E:XK),eX k (A.deeper (PyProof.Rows.envOfC qual (aU st) s.heap.objs.size f cdv)) ->
   SSs (gI (CXP P w) P w K mg base N qual (aU st) f cdv A outer s H E) T (WD T E) (cN st) m):dR P w K mg base (CXP P w) (k+1) f fd ps (spI T ps.length (ju N.length m)):=by
 obtain⟨oc,od,kV,doc,pm,an,cdv,ct,osl,rfl,lk,hcd⟩:=F.ex;refine Dg lk hcd S (λvs H Q E h=>h.1) λA outer s H vs Q E hr hsp=>⟨_,body cdv A outer s H E hr,?_⟩
 obtain⟨_,v0,pvs,F,B,fl,hv0,R,hob,q⟩:=hsp;obtain⟨fp,S0⟩:=pC N R (some v0) (λv hv=>by simp_all);refine⟨_,F,_,fp,S0,?_⟩;unfold ju at q;cases e:m (pvs.map some++replicate (N.length-pvs.length) none)with
 |next e'=>
  rw[e]at q;dsimp only at q;intro F' H' σ' fp' S';obtain⟨h1,_⟩:=S'.pn v0 rfl;cases e0:e'[0]? with
  |none=>rw[e0]at q;exact q.elim
  |some o0=>
   cases o0 with
   |none=>rw[e0]at q;exact q.elim
   |some o=>rw[e0]at q;obtain⟨v,h2,r⟩:=S'.rel 0 o e0;rw[h1]at h2;cases h2;exact q F' H' (fp' 0) S'.hp r (S'.nd 0) (λa ha=>(S'.dis 0 a ha).1) (S'.new 0)
 |ret v|brk e'|cont e'=>rw[e]at q;exact q.elim
 |exc c e'=>rw[e]at q;exact λF' H' σ' fp' S'=>q H' S'.hp.keep
 |stuck=>rw[e]at q;exact q.elim
end
section
variable{X:Cx}{T:Tb}{W:Nat->St->LA}{Z:Zn}{F F1 B L:Lp}{H H1:Hp}{Y:St}{env:En}{fp:Nat->Lu}{D:Ends}
theorem Ex
  (M:Mk X.K (T.cls c) f) (hcn:c<T.nc) (G:dR X.prog X.w X.K X.mg X.base (CXP X.prog X.w) k f fd ps (spI T ps.length m)) (hr:eX (k+1) X.A) (hb:gM X.K fd ps ds) (hd:aY dvs ds) (hdp:∀F B L H,RelL T F B L H dps dvs []) (hx:XF X T W)
  (S:aC T Z F H Y env fp) (g:Gr F H F1 H1) (r:RelL T F1 Z.B (Own fp) H1 xs vs fx) (nf:∀a∈fx,¬F1 a) (nd:fx.Nodup) (new:∀a∈fx,H a=none) (q:GE T W Z.B F (Own fp) Y H Q (aM m (.obj .own c [] []::(xs++dps))))
  (I1:L2.Inv X js Y H1 s1) (rv:aY vs us) (hlen:vs.length+dvs.length+1=ps.length):wpAny (model X.prog X.w) X.A (call (.ref (T.cls c)) us) (EP X js Y Q) X.xe s1:=by
 have hxn:H1 (s1.heap.objs.size+1)=none:=I1.hok.fresh (le_succ _);have hdn:H1 s1.heap.objs.size=none:=I1.hok.fresh (Nat.le_refl _);have hne:s1.heap.objs.size≠s1.heap.objs.size+1:=Nat.ne_of_lt (Nat.lt_succ_self _);generalize hH2:upd (upd H1 s1.heap.objs.size (.own (s1.heap.objs.size+1))) (s1.heap.objs.size+1) (.ins (T.cls c) s1.heap.objs.size [])=H2;have ext2:Ext H1 H2:=by rw[<- hH2];exact(Ext.upd hdn).trans (Ext.upd (by rw[aR hne.symm];exact hxn))
 have free2:∀a,H2 a=none->H1 a=none:=λa h=>ext2.free h;have hx2:H2 (s1.heap.objs.size+1)=some (.ins (T.cls c) s1.heap.objs.size []):=by rw[<- hH2];exact bG
 have I2:=L2.Inv.made (C:=T.cls c) I1;rw[hH2]at I2;have r2:aY (V.ref (s1.heap.objs.size+1)::(vs++dvs)) (Value.ref (s1.heap.objs.size+1)::(us++ds)):=.cons rfl (rv.append hd);have hl:(Value.ref (s1.heap.objs.size+1)::us++ds).length=ps.length:=by
  have e:=r2.length;simp at e hlen ⊢
  lia
 have rr:RelL T F1 Z.B (Own fp) H1 (xs++dps) (vs++dvs) fx:=by
  have:=RelL.append r (hdp F1 Z.B (Own fp) H1)
  rwa [append_nil]at this
 have nx:s1.heap.objs.size+1∉fx:=λz=>by obtain⟨o,ho⟩:=r.there _ z;rw[hxn]at ho;cases ho
 have hBo:∀a,Z.B a->(∃o,H2 a=some o)/\a ∉(s1.heap.objs.size+1)::fx:=λa h=>by
  obtain⟨⟨o,h1⟩,h2⟩:=S.hp.bo.1 a h;have h3:=S.hp.keep a o h1 h2;refine⟨⟨o,ext2 a o (g.ext a o h3)⟩,λz=>?_⟩;rcases mem_cons.mp z with z|z
  .rw[z]at h3;rw[g.ext _ _ h3]at hxn;cases hxn
  .simp_all
 have hOw:∀a,Own fp a->(∃o,H2 a=some o)/\a ∉(s1.heap.objs.size+1)::fx:=λa hz1=>by
  obtain⟨i,hi⟩:=hz1;obtain⟨_,o,ho⟩:=S.dis i a hi;refine⟨⟨o,ext2 a o (g.ext a o ho)⟩,λz=>?_⟩;rcases mem_cons.mp z with z|z
  .rw[z]at ho;rw[g.ext _ _ ho]at hxn;cases hxn
  .simp_all
 have nF:¬F1 (s1.heap.objs.size+1):=λz=>by obtain⟨o,ho⟩:=g.dom _ z;rw[hxn]at ho;cases ho
 have R:xb T F1 (λa=>(∃o,H2 a=some o)/\a ∉(s1.heap.objs.size+1)::fx) H2 (.obj .own c [] []::mapL Fl.LF (xs++dps)) (.ref (s1.heap.objs.size+1)::(vs++dvs)) ((s1.heap.objs.size+1)::fx):=by
  refine⟨?_,nodup_cons.mpr ⟨nx,nd⟩,λa ha=>?_,⟨λa h=>h,S.tbo (g.ext.trans ext2) λa z=>.inl ((mem_cons.mp z).elim (λz=>by rw[z];exact g.ext.free hxn) (new a))⟩,λa h=>let⟨o,ho⟩:=g.dom a h;⟨o,ext2 a o ho⟩⟩
  .unfold RelL;refine⟨_,_,[s1.heap.objs.size+1],fx,rfl,?_,RelL.LF hBo hOw (rr.ext ext2 λ_ h=>h),rfl⟩;exact⟨_,s1.heap.objs.size,[],[],rfl,by simpa using hx2,⟨rfl,hcn⟩,by exact⟨rfl,rfl⟩,rfl,True.intro⟩
  .rcases mem_cons.mp ha with rfl|ha
   .exact nF
   .exact nf a ha
 have newx:∀a ∈(s1.heap.objs.size+1)::fx,H a=none:=λa ha=>by
  rcases mem_cons.mp ha with rfl|ha
  .exact g.ext.free hxn
  .exact new a ha
 refine wpAny_call (y0 I1.kIn M.makes M.init (beq_iff_eq.mp M.fn) (codeAny_mono (G.run _ X.stack _ _ ⟨Value.ref (s1.heap.objs.size+1)::us,[]⟩ (Value.ref (s1.heap.objs.size+1)::(us ++ ds)) _ (λv H3=>v=.non/\Q (.ref (s1.heap.objs.size+1)) H3) (λcls _ H'=>∃ c,cls=.ref (T.xcl c)/\W c Y H') (hr.make (T.cls c) us [])
  (I2.env0.make (T.cls c) us []) (hb _ (Value.ref (s1.heap.objs.size+1)::us) I2.kIn hl) r2 ⟨by rw[r2.length];exact hl,_,_,F1,_,_,rfl,R,⟨.own,c,[],[],rfl⟩,?_⟩) λrs s' hq'=>?_))
 .unfold aM at q;have e0:mapL Fl.LF (PV.obj .own c [] []::(xs++dps))=.obj .own c [] []::mapL Fl.LF (xs++dps):=by simp[mapL,PV.LM,Fl.LF]
  rw[e0]at q;cases e:m (.obj .own c [] []::mapL Fl.LF (xs++dps))with
  |ok v=>
   rw[e]at q;dsimp only at q;intro F3 H3 f3 hp3 r3 nd3 nf3 new3;refine⟨rfl,?_⟩;by_cases hbr:v.has Fl.LK=true
   .rw[if_pos hbr]at q;exact q.elim
   .rw[if_neg hbr]at q;have hbr':v.has Fl.LK=false:=by lia
    refine q _ H3 F3 f3 ⟨λa o h=>hp3.keep a o (ext2 a o (g.ext a o h)) λz=>(by rw[newx a z]at h;cases h),λa h=>hp3.f0 a (g.mono a h),λa h=>?_,hp3.ft⟩ ?_ nf3 nd3 λa ha=>?_
    .rcases hp3.fn a h with z|z|z
     .exact g.only a z
     .exact .inr (g.ext.free (free2 a z))
     .exact .inr (newx a z)
    .exact Rel.tr (λ_ h=>h) (λ_ h=>h) (λ_ h=>h.elim) (λ_ _ h _=>h) (λ_ _ _ h=>h) (Rel.noB (B':=Z.B) hbr' r3)
    .rcases new3 a ha with z|z
     .exact g.ext.free (free2 a z)
     .exact newx a z
  |exc c'=>rw[e]at q;exact λH' h=>⟨c',rfl,q H' λa o z=>h a o (ext2 a o (g.ext a o z)) λz'=>by rw[newx a z']at z;cases z⟩
  |stuck=>rw[e]at q;exact q.elim
 .cases rs with
  |error e=>obtain⟨cls,H',fl,c',rfl,hw⟩:=hq';exact hx js Y H2 _ c' H' e s' I2 fl hw
  |ok fl=>
   cases fl with
   |ret u=>obtain⟨v,H',I3,rv',ev,q3⟩:=I2.after hq';subst ev;exact⟨rv',⟨V.ref (s1.heap.objs.size+1),H',I3,rfl,q3⟩⟩
   |next|brk|cont=>exact False.elim hq'
def Bk
  (M:Mk X.K (T.cls c) f) (hcn:c<T.nc) (G:dR X.prog X.w X.K X.mg X.base (CXP X.prog X.w) k f fd ps (spI T ps.length m)) (hr:eX (k+1) X.A) (hg:Gl X x) (hm:X.mg x=some (.ref (T.cls c))) (hb:gM X.K fd ps ds) (hd:aY dvs ds) (hdp:∀F B L H,RelL T F B L H dps dvs []) (hx:XF X T W)
  (hn:iR ms n) (hps:n+dvs.length+1=ps.length) (ha:SA X T W (e::es) ms)
  (hdb:Nd x:=by decide) (he:starEach (e::es) X.env=(false,eval e X.env)::starEach es X.env:=by rfl) (hpl:(backTo pos (starEach es X.env)).any (·.1)=false:=by rfl) :
  SE X T W (.Call (.Name x p) (e::es) [] pos) (aq (λxs=>aM m (.obj .own c [] []::(xs++dps))) ms):=by
 intro js s Y H Q I h;obtain⟨Z,F,env,fp,S,q⟩:=h;unfold aq at q;refine wpAny_Call_Name_kw (kj I hg hm ?_ hdb);refine callWith_K I.ok.mod.kin M.kp (thn (ha pos js s Y H (λvs H1=>∀ us s1,L2.Inv X js Y H1 s1->aY vs us->wpAny (model X.prog X.w) X.A (call (.ref (T.cls c)) us) (EP X js Y Q) X.xe s1) I
  (tA.bq S λxs vs H1 F1 f1 e1 g1 r1 n1 d1 w1 us s1 I1 rv=>?_)) λus s1 ⟨vs,H1,I1,r,q1⟩=>⟨I1.kIn,q1 us s1 I1 r⟩) he hpl
 rw[e1]at q;exact Ex M hcn G hr hb hd hdp hx S g1 r1 n1 d1 w1 q I1 rv (by rw[<- r1.length,hn env xs e1];exact hps)
theorem aC.mut(S:aC T Z F H Y env fp)(hi:i<env.length)(hv:Y[i]?=some (some v))(ha:a∈fp i)(r:Rel T F Z.B NoL (upd H a o') pv' v f')(nd:f'.Nodup)(nf:∀b∈f',¬F b)
  (new:∀b∈f',Z.H0 b=none\/Z.fp0 b) (dj:∀b∈f',∀j,j≠i->b∉fp j) (ho:i=0->dB env=true->∃fl c ks xs,pv'=.obj fl c ks xs):aC T Z F (upd H a o') Y (env.set i (some pv')) (cT fp i f'):=by
 obtain⟨oa,hoa,hch⟩:=S.ch i a ha;have nFa:¬F a:=(S.dis i a ha).1;have nBa:¬Z.B a:=λz=>S.bow a z ⟨i,ha⟩;have ne:∀b u,H b=some u->(F b\/Z.B b\/NoL b\/ii u)->b≠a:=λb u e h z=>by
  subst z;rcases h with h|h|h|h
  .exact nFa h
  .exact nBa h
  .exact h
  .rw[hoa]at e;cases e;cases oa with
   |lst _|ins _ _ _=>exact h
   |_=>exact hch
 have nz:∀b u,Z.H0 b=some u->¬Z.fp0 b->b≠a:=(by grind[cT,aC,cI,Gr])
 have nj:∀j,j≠i->∀b∈fp j,b≠a:=λj hj b hb z=>by subst z;exact S.dj j i hj _ hb ha
 refine⟨⟨S.hp.bo,λb u e n=>by rw[aR (nz b u e n)];exact S.hp.keep b u e n,S.hp.f0,S.hp.fn,λb h=>?_⟩,by rw[length_set,S.len],λj pv e=>?_,λj=>?_,λj k hjk b hb=>?_,λj b hb=>?_,λj b hb=>?_,λj b hb=>?_,λw hw=>?_⟩
 .obtain⟨u,e⟩:=S.hp.ft b h;exact⟨u,by rw[aR (show b≠a from λz=>nFa ())];exact e⟩
 .by_cases hj:j=i
  .subst hj;rw[getElem?_set_self hi]at e;cases e;refine⟨v,hv,?_⟩;unfold cT;rw[if_pos rfl];exact r
  .rw[getElem?_set_ne (Ne.symm hj)]at e;obtain⟨w,h1,h2⟩:=S.rel j pv e;refine⟨w,h1,?_⟩;unfold cT;rw[if_neg hj];exact Rel.tr (λ_ h=>h) (λ_ h=>h) (λ_ h=>h) (λb u q h=>by rw[aR (ne b u q h)];exact q) (λb hb u q=>by rw[aR (nj j hj b hb)];exact q) h2
 .unfold cT;split
  .exact nd
  .exact S.nd j
 .grind[cT,aC,cI,Gr]
 .unfold cT at hb;by_cases h1:j=i
  .rw[if_pos h1]at hb;exact⟨nf b hb,r.there b hb⟩
  .rw[if_neg h1]at hb;obtain⟨n,u,e⟩:=S.dis j b hb;exact⟨n,u,by rw[aR (nj j h1 b hb)];exact e⟩
 .unfold cT at hb;by_cases h1:j=i
  .rw[if_pos h1]at hb;exact new b hb
  .rw[if_neg h1]at hb;exact S.new j b hb
 .unfold cT at hb;by_cases h1:j=i
  .rw[if_pos h1]at hb;exact r.chg b hb
  .rw[if_neg h1]at hb;obtain⟨u,e,c⟩:=S.ch j b hb;exact⟨u,by rw[aR (nj j h1 b hb)];exact e,c⟩
 .obtain⟨h1,h2⟩:=S.pn w hw;refine⟨h1,?_⟩;by_cases hi0:i=0
  .obtain⟨fl,c,ks,xs,e⟩:=ho hi0 h2;subst hi0 e;unfold dB;rw[getElem?_set_self hi]
  .unfold dB at h2 ⊢;rw[getElem?_set_ne hi0];exact h2
def ig(i k:Nat)(e:ME):MS:=λenv=>match e env with
 | .ok v=>(match env[i]? with
  |some (some (.obj .own c ks vs))=>if v.LL&&!ks.contains k&&decide (ks.length<900)then .next (env.set i (some (.obj .own c (ks++[k]) (vs++[v]))))else .stuck
  |_=>.stuck)
 |.exc c=>.exc c env
 |.stuck=>.stuck
def q8:∀{ks:List Nat}{ws:Lz},ks.contains k=false->ks.length=ws.length->iF (T.att k) y ((ks.map T.att).zip ws)=((ks++[k]).map T.att).zip (ws++[y])
 | [],[],_,_=>rfl
 |j::ks,w::ws,h,hl=>by simp only[List.contains_cons,or_eq_false_iff,beq_eq_false_iff_ne]at h;show iF (T.att k) y ((T.att j,w)::(ks.map T.att).zip ws)=(T.att j,w)::((ks++[k]).map T.att).zip (ws++[y]);unfold iF;rw[if_neg (λz=>h.1 (T.inj _ _ z).symm),q8 h.2 (by simp_all)]
 | [],_::_,_,hl|_::_,[],_,hl=>by simp at hl
theorem Eh(hK:X.K=T.K)(hf:T.att k=f)(hc:∀c<T.nc,Cls T.K (T.cls c))(hn:∀c<T.nc,gG T.K (T.cls c) f)(hN:X.N[i]?=some x)(hv:Vis X.env.scope x)(he:SE X T W e m)
  (hs:swapsWith e (some (.Attribute (.Name x px) f pos')) pos.line X.env=pure false:=by rfl) (hd:Nd x:=by decide) (hcd:Nc x:=by decide) :
  SS X T W (.Assign [.Attribute (.Name x px) f pos'] e pos) (ig i k m):=PS.wk (EJ (pos':=pos') (fg hN hv hd hcd) he hs) λD Y H hz1=>by
 obtain⟨Z,F,env,fp,S,q⟩:=hz1;unfold ig at q;refine tE.bind S (λc e H' x=>?_) (λe=>by rw[e]at q;exact q) λpv v H1 F1 f1 e g r h1 h2 h3=>?_
 .rw[e]at q;exact q F H' Y fp (S.grow (Gr.same S.hp.ft x))
 .rw[e]at q;dsimp only at q;split at q
  .rename_i c ks vs eo
   split at q
   .rename_i hcnd
    simp only[and_eq_true,Bool.not_eq_true']at hcnd;obtain⟨⟨hln,hkn⟩,hkl⟩:=hcnd;have S1:=S.grow g;obtain⟨vo,ho1,ho2⟩:=S1.rel i _ eo;have ho3:=ho2;obtain⟨a,dx,ws,fp',rfl,hl,hk,hr,hfl,_⟩:=ho3;have hfl':fp i=a::fp':=hfl;have hil:i<env.length:=(List.getElem?_eq_some_iff.mp eo).1;refine⟨_,ho1,a,_,dx,_,rfl,hl,by simp_all,by simp_all,?_,?_⟩
    .have:=hr.length;rw[List.length_zip,length_map]
     lia
    .rw[<- hf,q8 hkn (by rw[<- hr.length];exact hk.1)];have ha:a∈fp i:=by simp_all
     have nd:(a::fp').Nodup:=by rw[<- hfl'];exact S1.nd i
     have old:∀b∈f1,∀j,b∉fp j:=λb hb j hj=>by obtain⟨_,o,e⟩:=S.dis j b hj;rw[h3 b hb]at e;cases e
     have hrv:Rel T F1 Z.B NoL H1 pv v f1:=Rel.noL (by simpa[PV.LL]using hln) r;have nea:∀b u,H1 b=some u->(F1 b\/Z.B b\/NoL b\/ii u)->b≠a:=λb u e h z=>by
      subst z;rcases h with h|h|h|h
      .exact(S1.dis i _ ha).1 h
      .exact S1.bow _ h ⟨i,ha⟩
      .exact h
      .rw[hl]at e;cases e;exact h
     refine q F1 _ Y _ (S1.mut (f':=a::(fp'++f1)) hil ho1 ha ?_ ?_ (λb hb=>?_) (λb hb=>?_) (λb hb j hj=>?_) λ_ _=>⟨_,_,_,_,rfl⟩)
     .unfold Rel;have hrr:RelL T F1 Z.B NoL H1 (vs++[pv]) (ws++[v]) (fp'++f1):=RelL.append hr (by exact⟨v,[],f1,[],rfl,hrv,by exact⟨rfl,rfl⟩,by simp⟩);refine⟨a,dx,ws++[v],fp'++f1,rfl,bG,⟨by simp[hk.1],hk.2⟩,?_,rfl,True.intro⟩;refine RelL.tr (λ_ h=>h) (λ_ h=>h) (λ_ h=>h) (λb u e h=>by rw[aR (nea b u e h)];exact e) (λb hb u e=>?_) hrr;refine(aR λz=>?_).trans e
      grind
     .grind
     .grind[cT,aC,cI,Gr]
     .rcases mem_cons.mp hb with rfl|hb
      .exact S1.new i _ ha
      .rcases mem_append.mp hb with hb|hb
       .exact S1.new i b (by simp_all)
       .exact S.hp.newE h3 b hb
     grind[cT,aC,cI,Gr]
   .exact q.elim
  .exact q.elim
theorem aC.mutL{i:Nat}{xs ys:LB}{ws us:Lz}{a:Addr}{v:V}{f' fp':Lu}(S:aC T Z F H Y env fp)(eo:env[i]?=some (some (.lst .own xs)))(hv:Y[i]?=some (some (.ref a)))(hfp:fp i=a::fp')(r:RelL T F Z.B NoL H ys us f')(nd:f'.Nodup)
  (hf:∀b∈f',(b∈fp')\/(¬F b/\(Z.H0 b=none\/Z.fp0 b)/\∀j,b∉fp j)) (hl:H a=some (.lst ws)):aC T Z F (upd H a (.lst us)) Y (env.set i (some (.lst .own ys))) (cT fp i (a::f')):=by
 have ha:a∈fp i:=by simp_all
 have ndi:(a::fp').Nodup:=by rw[<- hfp];exact S.nd i
 have sub:∀b∈fp',b∈fp i:=λb hb=>by simp_all
 have na:∀b∈f',b≠a:=(by grind)
 have hil:i<env.length:=(List.getElem?_eq_some_iff.mp eo).1;have nea:∀b u,H b=some u->(F b\/Z.B b\/NoL b\/ii u)->b≠a:=λb u e h z=>by
  subst z;rcases h with h|h|h|h
  .exact(S.dis i _ ha).1 h
  .exact S.bow _ h ⟨i,ha⟩
  .exact h
  .rw[hl]at e;cases e;exact h
 refine S.mut hil hv ha ?_ (nodup_cons.mpr ⟨λz=>na a z rfl,nd⟩) (λb hb=>?_) (λb hb=>?_) (λb hb j hj=>?_) λh0 h1=>?_
 .unfold Rel;exact⟨a,us,f',rfl,bG,RelL.tr (λ_ h=>h) (λ_ h=>h) (λ_ h=>h) (λb u e h=>by rw[aR (nea b u e h)];exact e) (λb hb u e=>by rw[aR (na b hb)];exact e) r,rfl⟩
 .rcases mem_cons.mp hb with rfl|hb
  .exact(S.dis i _ ha).1
  .rcases hf b hb with h|h
   .exact(S.dis i b (sub b h)).1
   .exact h.1
 .grind[cT,aC,cI,Gr]
 .grind[cT,aC,cI,Gr]
 .subst h0;unfold dB at h1;rw[eo]at h1;cases h1
def aC.lst{i:Nat}{xs:LB}(S:aC T Z F H Y env fp)(eo:env[i]?=some (some (.lst .own xs))):∃a ws fp',Y[i]?=some (some (.ref a))/\H a=some (.lst ws)/\RelL T F Z.B NoL H xs ws fp'/\fp i=a::fp':=by obtain⟨v,h1,h2⟩:=S.rel i _ eo;obtain⟨a,ws,fp',rfl,hl,hr,hf⟩:=h2;exact⟨a,ws,fp',h1,hl,hr,hf⟩
def aC.beside{f1:Lu}(S:aC T Z F H Y env fp)(g:Gr F H F1 H1)(h1:∀ a ∈ f1,¬ F1 a)(h3:∀ a ∈ f1,H a=none):∀ b ∈ f1,¬ F1 b/\(Z.H0 b=none \/ Z.fp0 b)/\∀ j,b ∉ fp j:=λb hb=>⟨h1 b hb,S.hp.newE h3 b hb,λj hj=>by
 obtain⟨_,o,e⟩:=S.dis j b hj;rw[h3 b hb]at e;cases e⟩
def dJ(i:Nat)(e:ME):MS:=λenv=>match e env with
 | .ok v=>(match env[i]? with
  |some (some (.lst .own xs))=>if v.LL&&decide (xs.length<10000000)then .next (env.set i (some (.lst .own (xs++[v]))))else .stuck
  |_=>.stuck)
 | .exc c=>(match env[i]? with
  |some (some (.lst .own _))=>.exc c env
  |_=>.stuck)
 |.stuck=>.stuck
theorem vS{i:Nat}{x:Str}{e:Expr}{m:ME}{pos px apos cpos:Pos}(hK:X.K=T.K)(hN:X.N[i]?=some x)(hv:Vis X.env.scope x)(he:SE X T W e m)
  (hs:swapsWith (.Call (.Attribute (.Name x px) "append" apos) [e] [] cpos) none pos.line X.env=pure false:=by rfl) (hst:starEach [e] X.env=[(false,eval e X.env)]:=by rfl)
  (hfew:Fwe X.env cpos [e]:=by rfl)
  (hline:(apos.endLine==cpos.line)=true:=by rfl) (hd:Nd x:=by decide) (hcd:Nc x:=by decide) :
  SS X T W (.Expr (.Call (.Attribute (.Name x px) "append" apos) [e] [] cpos) pos) (dJ i m):=
 PS.wk (l7 (uX PySem.F.plainAttrs_list PySem.F.slot_list_append PySem.F.type_list_append kS (fg hN hv hd hcd) (ac he ah hst) rfl hfew hline hst) hs) λD Y H hz1=>by
  obtain⟨Z,F,env,fp,S,q⟩:=hz1;unfold dJ at q;cases em:m env with
  |stuck=>rw[em]at q;exact q.elim
  |exc c=>
   rw[em]at q;dsimp only at q;split at q
   .rename_i xs eo
    obtain⟨a,ws,fp',h1,hl,hr,hf⟩:=S.lst eo;refine⟨_,h1,.inl ⟨rfl,ws,by exact SqL.of hl⟩,Z,F,env,fp,S,?_⟩;unfold ae;rw[em];exact λH' x=>q F H' Y fp (S.grow (Gr.same S.hp.ft x))
   .exact q.elim
  |ok v=>
   rw[em]at q;dsimp only at q;split at q
   .rename_i xs eo
    split at q
    .rename_i hc
     simp at hc;obtain⟨a,ws,fp',h1,hl,hr,hf⟩:=S.lst eo;refine⟨_,h1,.inl ⟨rfl,ws,by exact SqL.of hl⟩,Z,F,env,fp,S,?_⟩;unfold ae am;rw[em];intro vs H1 F1 f1 g r n1 d1 w1;obtain⟨u,rfl,ru⟩:=r.one;have S1:=S.grow g;have hl1:=g.ext a _ hl;refine⟨a,ws,u,rfl,rfl,hl1,?_,?_⟩
     .rw[<- hr.length,sizeLine_eq];lia
     .have rone:RelL T F1 Z.B NoL H1 [v] [u] f1:=by unfold RelL;exact⟨u,[],f1,[],rfl,Rel.noL (by simpa[PV.LL]using hc.1) ru,by exact⟨rfl,rfl⟩,by simp⟩
      refine q F1 _ Y _ (S1.mutL (v:=u) eo h1 hf (RelL.append (hr.ext g.ext g.mono) rone) ?_ (λb hb=>?_) hl1)
      .have ndi:(a::fp').Nodup:=by rw[<- hf];exact S.nd i
       refine nodup_append.mpr ⟨(nodup_cons.mp ndi).2,d1,λb hb b' hb' z=>?_⟩;subst z;exact(S.beside g n1 w1 b hb').2.2 i (by simp_all)
      .rcases mem_append.mp hb with hb|hb
       .exact .inl hb
       .exact .inr (S.beside g n1 w1 b hb)
    .exact q.elim
   .exact q.elim
def fq(i:Nat)(k e:ME):MS:=λenv=>match e env with
 | .ok v=>(match env[i]? with
  | some (some (.lst .own xs))=>(match k env with
   | .ok (.int j)=>(match ixN xs.length j with
    |some n=>if v.LL then .next (env.set i (some (.lst .own (xs.set n v))))else .stuck
    |none=>.stuck)
   |_=>.stuck)
  |_=>.stuck)
 |.exc c=>.exc c env
 |.stuck=>.stuck
theorem RelL.set{y:PV}{w:V}{g:Lu}(ry:Rel T F B L H y w g):∀{xs:LB}{vs:Lz}{f:Lu} (n:Nat),RelL T F B L H xs vs f->(f++g).Nodup->∃f',RelL T F B L H (xs.set n y) (vs.set n w) f'/\f'.Nodup/\∀b∈f',b∈f\/b∈g
 | [],vs,f,n,h,nd=>by obtain⟨rfl,rfl⟩:=h;exact⟨[],by simp[RelL],nodup_nil,λ_ z=>(nomatch z)⟩
 |x::xs,_,_,0,h,nd=>by
  obtain⟨v,ws,f1,f2,rfl,h1,h2,rfl⟩:=h;obtain⟨n1,n2,n3⟩:=nodup_append.mp nd;obtain⟨m1,m2,m3⟩:=nodup_append.mp n1;refine⟨g++f2,?_,(by grind),λb hb=>?_⟩
  .rw[List.set_cons_zero,List.set_cons_zero];exact⟨w,ws,g,f2,rfl,ry,h2,rfl⟩
  grind
 |x::xs,_,_,n+1,h,nd=>by
  obtain⟨v,ws,f1,f2,rfl,h1,h2,rfl⟩:=h;obtain⟨n1,n2,n3⟩:=nodup_append.mp nd;obtain⟨m1,m2,m3⟩:=nodup_append.mp n1;obtain⟨f',r,d,s⟩:=RelL.set ry n h2 (nodup_append.mpr ⟨m2,n2,λa ha b hb=>n3 a (mem_append_right _ ha) b hb⟩);refine⟨f1++f',?_,nodup_append.mpr ⟨m1,d,λa ha b hb z=>?_⟩,λb hb=>?_⟩
  .rw[List.set_cons_succ,List.set_cons_succ];exact⟨v,_,f1,f',rfl,h1,r,rfl⟩
  .grind
  grind
def fH{i:Nat}{x:Str}{k e:Expr}{mk me:ME}{pos px tpos:Pos}(hN:X.N[i]?=some x)(hv:Vis X.env.scope x)(hk:SE X T W k mk)(he:SE X T W e me)
  (ha:∀ v,assign (.Subscript (.Name x px) k tpos) X.env v=(do
   let ov <- holding [v] (eval (.Name x px) X.env)
   let iv <- holding [v,ov] (eval k X.env)
   standAt tpos
   holding [v,ov,iv] (setItem ov iv v)
   release [v,ov,iv] []):=by intro _;rfl)
  (hs:swapsWithSole [.Subscript (.Name x px) k tpos] e pos.line X.env=pure false:=by rfl) (hw:swappedStores [.Subscript (.Name x px) k tpos] e X.env=pure none:=by rfl)
  (h1:(assignEach [.Subscript (.Name x px) k tpos] X.env).map (·.2)=[assign (.Subscript (.Name x px) k tpos) X.env]:=by rfl) (hd:Nd x:=by decide) (hcd:Nc x:=by decide) :
  SS X T W (.Assign [.Subscript (.Name x px) k tpos] e pos) (fq i mk me):=
 PS.wk (EK he (EO (fg hN hv hd hcd) hk xF ha) hs hw h1) λD Y H hz1=>by
  obtain⟨Z,F,env,fp,S,q⟩:=hz1;unfold fq at q;refine tE.bind S (λc e H' x=>?_) (λe=>by rw[e]at q;exact q) λpv v H1 F1 f1 e g r n1 d1 w1=>?_
  .rw[e]at q;exact q F H' Y fp (S.grow (Gr.same S.hp.ft x))
  .rw[e]at q;dsimp only at q;split at q
   .rename_i xs eo
    have S1:=S.grow g;obtain⟨a,ws,fp',h1,hl,hr,hf⟩:=S1.lst eo;cases ek:mk env with
    |stuck|exc c=>rw[ek]at q;exact q.elim
    |ok kv=>
     rw[ek]at q;refine⟨_,h1,Z,F1,env,fp,S1,?_⟩;rw[ek];intro u H2 F2 f2 g2 r2 _ _ _;cases kv with
     |int j=>
      dsimp only at q;obtain⟨rfl,_⟩:=r2;cases en:ixN xs.length j with
      |none=>rw[en]at q;exact q.elim
      |some n=>
       rw[en]at q;dsimp only at q;split at q
       .rename_i hln
        have S2:=S1.grow g2;have hr2:=hr.ext g2.ext g2.mono;have ndi:(a::fp').Nodup:=by rw[<- hf];exact S.nd i
        have g12:=g.trans g2;have nn:∀b∈f1,¬F2 b:=λb hb z=>by
         rcases g2.only b z with z|z
         .exact n1 b hb z
         .obtain⟨o,ho⟩:=r.there b hb;rw[ho]at z;cases z
        obtain ⟨f',r',nd',sub'⟩:=RelL.set (Rel.noL (L':=NoL) (by simpa [PV.LL] using hln) (r.ext g2.ext g2.mono)) n hr2 (nodup_append.mpr ⟨(nodup_cons.mp ndi).2,d1,λb hb b' hb' z=>by
         subst z;exact(S.beside g12 nn w1 b hb').2.2 i (by simp_all)⟩)
        refine⟨a,ws,j,n,rfl,rfl,g2.ext a _ hl,by rw[<- hr.length];exact en,?_⟩;refine q F2 _ Y _ (S2.mutL (v:=v) eo h1 hf r' nd' (λb hb=>?_) (g2.ext a _ hl));rcases sub' b hb with h|h
        .exact .inl h
        .exact .inr (S.beside g12 nn w1 b h)
       .exact q.elim
     |_=>exact q.elim
   .exact q.elim
end
noncomputable def BY(i:Nat):Str:=⟨#[1114112+i]⟩
def jE(l:Lw)(i:Nat):Str:=match l[i]? with
 |some x=>x
 |none=>BY i
noncomputable def kK(x:Str):Bool:=x.cps.all λc=>decide (c<1114112)
def gT(i:Nat):kK (BY i)=false:=by simp[kK,BY]
def w9(nd:l.Nodup)(h:l.all kK=true)(i j:Nat)(e:jE l i=jE l j):i=j:=by
 have pl:∀(i:Nat) x,l[i]?=some x->kK x=true:=λi x hx=>all_eq_true.mp h x (List.mem_of_getElem? hx);unfold jE at e;cases ei:l[i]? with
 |some x=>
  cases ej:l[j]? with
  |some y=>rw[ei,ej]at e;subst e;obtain⟨h1,e1⟩:=List.getElem?_eq_some_iff.mp ei;obtain⟨h2,e2⟩:=List.getElem?_eq_some_iff.mp ej;exact(getElem_inj nd).mp (e1.trans e2.symm)
  |none=>rw[ei,ej]at e;dsimp only at e;have:=pl i x ei;rw[e,gT]at this;cases this
 |none=>
  cases ej:l[j]? with
  |some y=>rw[ei,ej]at e;dsimp only at e;have:=pl j y ej;rw[<- e,gT]at this;cases this
  |none=>rw[ei,ej]at e;simpa[BY]using e
def sJ(hp:kK m=true)(hm:m∉l)(k:Nat):jE l k≠m:=by
 unfold jE;cases e:l[k]? with
 |some x=>exact λz=>hm (z▸List.mem_of_getElem? e)
 |none=>intro z;rw[<- z,gT]at hp;cases hp
structure Ctx(X:Cx)(T:Tb)(W:Nat->St->LA)(k:Nat):Prop where
 hK:X.K=T.K
 calm:X.calm=true
 room:eX k X.A
 xf:XF X T W
 po:PassesOwn (model X.prog X.w) X.A X.env X.xe
def Ctx.hu(c:Ctx X T W k):X.A.units+64<cLine:=c.room.units
theorem Ctx.hu2(c:Ctx X T W k):X.A.units+66<cLine:=by
 have:=c.room.un
 lia
def vG
  (hr:eX k (A.deeper (PyProof.Rows.envOfC qual scope s.heap.objs.size f cd))):Ctx (gI (CXP P w) P w T.K mg base N qual scope f cd A outer s H E) T (WD T E) k:=⟨rfl,rfl,hr,D5,PassesOwn.leaving⟩
def Ctx.comp(c:Ctx X T W k):Ctx (cxC X scope C N s H ex) T WF k:=⟨c.hK,c.calm,c.room,λ_ _ _ _ _ _ _ _ _ _ h=>h.elim,PassesOwn.never⟩
noncomputable def nU(scD scope:Scope)(NX:Lw)(caps:List Nat)(N tn:Lw):Bool:=
 decide (scope.kind=.function)&&scope.names.all (λy=>decide (y.2=.cell->scope.names.lookup y.1=some .cell))&&scope.names.all (λy=>decide (y.2=.local->scope.names.lookup y.1=some .local)) &&
 scope.names.all (λy=>decide (y.2=.free->scD.names.lookup y.1=some .cell\/scD.names.lookup y.1=some .free))&&decide (N=caps.map (λi=>NX.getD i "")++ tn)&&caps.all (λi=>decide (i<NX.length)) &&
 caps.all (λi=>match NX[i]? with|some x=>decide ((x,NameKind.free)∈ scope.names/\scope.names.lookup x=some .free)|none=>false)&&decide N.Nodup
def CG(h:nU scD scope NX caps N tn=true)(hs:X.env.scope=scD)(hN:X.N=NX):fE X scope caps N tn:=by simp only[nU,and_eq_true,decide_eq_true_eq,all_eq_true]at h;obtain⟨⟨⟨⟨⟨⟨⟨h1,h2⟩,h3⟩,h4⟩,h5⟩,h6⟩,h7⟩,h9⟩:=h;subst hs hN;refine⟨h1,h2,h3,h4,h5,h6,λi hi x hx=>?_,h9⟩;have:=h7 i hi;rw[hx]at this;simpa using this
section
variable{X:Cx}{T:Tb}{W:Nat->St->LA}
def sv{i:Nat}(hN:X.N[i]?=some x:=by rfl)(hv:Vis X.env.scope x:=by first|exact Or.inl rfl|exact Or.inr (Or.inl rfl)|exact Or.inr (Or.inr rfl))(hd:Nd x:=by decide)
  (hcd:Nc x:=by decide):SE X T W (.Name x pos) (aa i):=Ej hN hv hd hcd
noncomputable def tyP:PV->String
 |.non=>"NoneType"
 |.bl _=>"bool"
 |.int _=>"int"
 |.str _=>"str"
 |.lst _ _=>"list"
 |.tup _=>"tuple"
 |_=>""
noncomputable def og(t c:String):Bool:=t==c ||(t=="bool"&&c=="int")
def rB(c:String):PV->LC:=λx=>if tyP x="" then .stuck else .ok (.bl (og (tyP x) c))
def A1(m:ME)(c:String):ME:=λenv=>(m env).bind (rB c)
def G6(K:PySem.W.Frag)(c:String):Prop:=∀t∈["NoneType","bool","int","str","list","tuple"],kitOne K (.type t) (.type c)=some (og t c)
def Ch(hK:X.K=T.K)(hc:G6 T.K c)(I:L2.Inv X js Y H s)(r:Rel T F B L H x v f)(ru:bT v u)(hx:tyP x≠"")
  (h:∀tk,Q (.bool (og (tyP x) c)) {s with toks:=tk}):wpAny (model X.prog X.w) A (call (.builtin "isinstance") [u,.type c]) Q E s:=by
 have kin:T.K.In s.heap:=by rw[<- hK];exact I.kIn
 cases x with
 |non=>unfold Rel at r;obtain⟨rfl,_⟩:=r;cases ru;exact kia_one PySem.W.kitx_none kin True.intro (hc _ ()) (λz=>nomatch z) h
 |bl b=>unfold Rel at r;obtain⟨rfl,_⟩:=r;cases ru;exact kia_one PySem.W.kitx_bool kin True.intro (hc _ ()) (λz=>nomatch z) h
 |int i=>unfold Rel at r;obtain⟨rfl,_⟩:=r;obtain⟨t,rfl⟩:=ru;exact kia_one PySem.W.kitx_int kin True.intro (hc _ ()) (λz=>nomatch z) h
 |str i=>unfold Rel at r;obtain⟨rfl,_⟩:=r;obtain⟨t,rfl⟩:=ru;exact kia_one PySem.W.kitx_str kin True.intro (hc _ ()) (λz=>nomatch z) h
 |lst f xs=>obtain⟨a,vs,fp',rfl,hl,hr,_⟩:=r;cases ru;obtain⟨its,_,⟨o,n,ho,hcl,_,_⟩,_⟩:=I.list (by rw[hK];exact hl.sq);exact kia_one PySem.W.kitx_list kin ⟨_,ho,hcl⟩ (hc _ ()) (λz=>nomatch z) h
 |tup xs=>obtain⟨a,vs,rfl,hl,hr⟩:=r;cases ru;obtain⟨its,_,⟨o,ho,hcl,_⟩,_⟩:=I.tuple (by rw[hK];exact hl);exact kia_one PySem.W.kitx_tuple kin ⟨_,ho,hcl⟩ (hc _ ()) (λz=>nomatch z) h
 |obj f c ks xs|exc c|box k xs=>exact absurd rfl hx
theorem Er(hK:X.K=T.K)(hc:G6 T.K c)(hg:Gl X "isinstance")(hm:X.mg "isinstance"=none)(hb:bootBuiltins "isinstance"=some (.builtin "isinstance"))(hgc:Gl X cn)(hmc:X.mg cn=none)(hvc:bootBuiltins cn=some (.type c))(he:SE X T W e m)
  (hcn:cn≠"__name__":=by decide) (hcd:Nd cn:=by decide) (hst:starEach [e,.Name cn pc] X.env=[(false,eval e X.env),(false,eval (.Name cn pc) X.env)]:=by rfl)
  (hst2:starEach [.Name cn pc] X.env=[(false,eval (.Name cn pc) X.env)]:=by rfl):SE X T W (.Call (.Name "isinstance" p) [e,.Name cn pc] [] pos) (A1 m c):=by
 have ht:PE X (.Name cn pc) (tC (.ty c)):=BQ hgc hmc hvc rfl hcn hcd;have hcall:e_ X (.builtin "isinstance") (λvs H Q=>∃v x F B L f,vs=[v,.ty c]/\Rel T F B L H x v f/\tyP x≠"" /\ Q (.bl (og (tyP x) c)) H):=by
  intro js s Y H vs us Q I rv h;obtain⟨v,x,F,B,L,f,rfl,r,hx,q⟩:=h;cases rv with
  |cons r1 r2=>
   cases r2 with
   |cons r3 r4=>cases r4;cases r3;exact Ch hK hc I r r1 hx λtk=>⟨.bl _,H,I.tok tk,rfl,q⟩
 have hargs:PA X [e,.Name cn pc] (uG (tE T W m) (uG (tC (.ty c)) Ec)):=dP he (dP ht gO hst2) ();refine PE.wk (mX hcall hg hm hb hargs (he:=by lia)) λY H Q hz1=>?_;obtain⟨Z,F,env,fp,S,q⟩:=hz1;unfold A1 at q;walk_at "a";simp only[Res.LO,rB]at q;by_cases hx:tyP x=""
 .rw[if_pos hx]at q;exact q.elim
 .rw[if_neg hx]at q;exact⟨v,x,F1,Z.B,Own fp,f1,rfl,r1,hx,q.scal g1 j0⟩
def kX(f g:PV->PV->LC)(a b c:ME):ME:=λenv=>(a env).bind λx=>(b env).bind λy=>(f x y).bind fun
 |.bl true=>(c env).bind λz=>g y z
 |.bl false=>.ok (.bl false)
 |_=>.stuck
def vQ{f f':Int->Int->Bool}(h:tE T W (kX (f8 λi j=>.bl (f i j)) (f8 λi j=>.bl (f' i j)) ma mb mc) Y H Q) :
  xr (rI0 λi j=>.bl (f i j)) (rI0 λi j=>.bl (f' i j)) (tE T W ma) (tE T W mb) (tE T W mc) Y H Q:=by
 obtain⟨Z,F,env,fp,S,q⟩:=h;unfold kX at q;walk_at "a";refine tE.bind (S.grow g1) (λc e=>by rw[e]at q;exact λH' x=>q H' (g1.ext.trans x)) (λe=>by rw[e]at q;exact q) λy u H2 F2 f2 e2 g2 r2 n2 d2 w2=>?_;rw[e2]at q;cases x<;>cases y<;>first
  |exact q.elim
  |skip
 rename_i i j
 obtain⟨rfl,_⟩:=r1;obtain⟨rfl,_⟩:=r2;refine⟨i,j,rfl,rfl,f i j,rfl,?_⟩;simp only[f8,Res.LO]at q;cases hb:f i j with
 |false=>rw[hb]at q;exact(if_neg ()).mpr (q.scal (g1.trans g2) j0)
 |true=>
  rw[hb]at q;dsimp only at q;refine(if_pos rfl).mpr ?_;refine tE.bind ((S.grow g1).grow g2) (λc e=>by rw[e]at q;exact λH' x=>q H' ((g1.ext.trans g2.ext).trans x)) (λe=>by rw[e]at q;exact q) λz w H3 F3 f3 e3 g3 r3 n3 d3 w3=>?_;rw[e3]at q;cases z with
  |int k=>obtain⟨rfl,_⟩:=r3;exact⟨j,k,rfl,rfl,q.scal ((g1.trans g2).trans g3) j0⟩
  |_=>exact q.elim
def xu{f f':Int->Int->Bool}(ho:OpR X (compareOp op) (rI0 λi j=>.bl (f i j)))(ho':OpR X (compareOp op') (rI0 λi j=>.bl (f' i j)))(ha:SE X T W a ma)(hb:SE X T W b mb)(hc:SE X T W c mc)
  (hm:lastMarks [op,op'] [b,c]=false:=by with_unfolding_all rfl):ST X T W (.Compare a [op,op'] [b,c] pos) (aA (kX (f8 λi j=>.bl (f i j)) (f8 λi j=>.bl (f' i j)) ma mb mc)):=PT.wk (xY ho ho' ha hb hc hm) λY H Q h=>vQ (tT.test h)
end
def xG(hg:Gl X x)(hm:X.mg x=some (.int i t))(hd:Nd x:=by decide):SE X T W (.Name x pos) (mC (.int i)):=
 mG (v:=.int i) (BN hg hm ⟨t,rfl⟩ hd) λ_ _ _ _=>fN
end
end PR
namespace PR
open PySem PySem.Spec
structure La(K:PySem.W.Frag)(C:Addr):Prop where
 ga:PySem.W.findIn K (.ref C) "__getattribute__"=some (some (.builtin "BaseException.__getattribute__"))
 gt:PySem.W.findIn K (.ref C) "__getattr__"=some none
 ca:PySem.W.findIn K (.ref C) "__class__"=some (some (.builtin "object.__class__"))
 sb:mroIn K C (.type "BaseException")=some true
 so:mroIn K C (.type "object")=some true
 cl:(clsIn K C).isSome=true
end PR
namespace PR
open PySem PySem.Spec L2
def fM(F B L:Lp)(H:Hp):RelL T F B L H [] [] []:=by exact⟨rfl,rfl⟩
def bY(disp:Nat->Option (LB->LC))(o:ME)(ms:MA):ME:=λenv=>(o env).bind λov=>match ov with
 |.obj _ c _ _=>match disp c with
  |some m=>(ms env).bind λxs=>aM m (ov::xs)
  |none=>.stuck
 |_=>.stuck
def B_(disp:Nat->Option (LB->LC))(o:ME)(ms:MA):u9 disp [] o ms=bY disp o ms:=by
 funext env;unfold u9 bY;congr 1;funext ov;cases ov with
 |obj f c ks vs=>simp<;>rfl
 |_=>rfl
def jL(c:Nat)(m:LB->LC)(ms:MA):ME:=aq (λxs=>aM m (.obj .own c [] []::xs)) ms
section
variable{X:Cx}{T:Tb}{W:Nat->St->LA}
def xH
  (G:dR X.prog X.w X.K X.mg X.base (CXP X.prog X.w) k f fd ps (spM T ps.length m)) (cx:Ctx X T W kk) (hk:k<=kk) (hg:Gl X x) (hm:X.mg x=some (.ref f)) (hkp:PySem.W.keepIn X.K (.ref f)=true) (hb:gM X.K fd ps [])
  (hn:iR ms n) (hps:n=ps.length) (ha:SA X T W (e::es) ms)
  (hdb:Nd x:=by decide) (he:starEach (e::es) X.env=(false,eval e X.env)::starEach es X.env:=by rfl) (hpl:(backTo pos (starEach es X.env)).any (·.1)=false:=by rfl) :
  SE X T W (.Call (.Name x p) (e::es) [] pos) (aq (aM m) ms):=by
 have h:=Bo (p:=p) G (cx.room.mono hk) hg hm hkp hb .nil fM cx.xf (λenv xs q=>by rw[hn env xs q];exact hps) ha hdb he hpl;simpa using h
def Eo
  (cx:Ctx X T W kk) (hc:∀c<T.nc,Cls T.K (T.cls c)) (hm:∀k,T.att k≠mn) (D:eW X T k mn ps [] disp) (hk:k<=kk)
  (hn:iR ms n) (hps:n+1=ps.length) (ho:SE X T W o mo) (ha:SA X T W (e::es) ms)
  (hst:starEach (e::es) X.env=(false,eval e X.env)::starEach es X.env:=by rfl) (hpl:(backTo pos (starEach es X.env)).any (·.1)=false:=by rfl)
  (ht:eval (.Call (.Attribute o mn apos) (e::es) [] pos) X.env=(do
   let ov <- eval o X.env
   standAt apos.atName
   let(f,first) <- holding [ov] (getMethod ov mn pl)
   callWith pos f first (backTo pos (starEach (e::es) X.env)) (backToKw pos (keywordEach [] X.env))):=by rfl) :
  SE X T W (.Call (.Attribute o mn apos) (e::es) [] pos) (bY disp mo ms):=by
 rw[<- B_];exact Bg cx.hK hc hm D (cx.room.mono hk) .nil fM cx.xf (λenv xs q=>by rw[hn env xs q];exact hps) ho ha hst hpl ht
def Bj
  (cx:Ctx X T W kk) (hc:∀c<T.nc,Cls T.K (T.cls c)) (hm:∀k,T.att k≠mn) (D:eW X T k mn ps [] disp) (hk:k<=kk) (hps:ps.length=1) (ho:SE X T W o mo)
  (ht:eval (.Call (.Attribute o mn apos) [] [] pos) X.env=(do
   let ov <- eval o X.env
   standAt apos.atName
   let(f,first) <- holding [ov] (getMethod ov mn pl)
   callWith pos f first (backTo pos (starEach [] X.env)) (backToKw pos (keywordEach [] X.env))):=by rfl) :
  SE X T W (.Call (.Attribute o mn apos) [] [] pos) (bY disp mo am):=by
 intro js s Y H Q I h;obtain⟨Z,F,env,fp,S,q⟩:=h;unfold bY at q;refine methodCall_KW (thn (ho js s Y H (λv H1=>∃ ov F1 f1,mo env=.ok ov/\Gr F H F1 H1/\Rel T F1 Z.B (Own fp) H1 ov v f1/\(∀ a ∈ f1,¬ F1 a)/\f1.Nodup/\∀ a ∈ f1,H a=none) I
  (tE.bq S λov v H1 F1 f1 e1 g1 r1 n1 d1 w1=>⟨ov,F1,f1,e1,g1,r1,n1,d1,w1⟩)) λu s1 zz=>?_) ht
 obtain⟨v,H1,I1,ru,ov,F1,f1,e1,g1,r1,n1,d1,w1⟩:=zz;rw[e1]at q;simp at q;by_cases hobj:∃fl c ks xs m,ov=.obj fl c ks xs/\disp c=some m
 .obtain⟨fl,c,ks,ys,m,rfl,em⟩:=hobj;dsimp only at q;rw[em]at q;simp only[am]at q;refine u8 cx.hK hc hm D em r1 I1 ru λa f fd eu hkp hb G=>?_;subst eu;refine PySem.W.callWith_K0 I1.kIn hkp ?_;exact xL (xs:=[.obj fl c ks ys]) G (cx.room.mono hk) hb .nil fM cx.xf S g1 (by exact⟨v,[],f1,[],rfl,r1,fM _ _ _ _,by simp⟩) n1 d1 w1 (by simpa using q) I1 (.cons ru .nil) (by simp[hps])
 .exfalso;cases ov with
  |obj fl c ks ys=>
   cases em:disp c with
   |none=>simp only[em]at q;exact q
   |some m=>exact hobj ⟨fl,c,ks,ys,m,rfl,em⟩
  |_=>exact q
def Em
  (M:Mk X.K (T.cls c) f) (hcn:c<T.nc) (G:dR X.prog X.w X.K X.mg X.base (CXP X.prog X.w) k f fd ps (spI T ps.length m)) (cx:Ctx X T W kk) (hk:k+1<=kk) (hg:Gl X x) (hm:X.mg x=some (.ref (T.cls c))) (hb:gM X.K fd ps [])
  (hn:iR ms n) (hps:n+1=ps.length) (ha:SA X T W (e::es) ms)
  (hdb:Nd x:=by decide) (he:starEach (e::es) X.env=(false,eval e X.env)::starEach es X.env:=by rfl) (hpl:(backTo pos (starEach es X.env)).any (·.1)=false:=by rfl) :
  SE X T W (.Call (.Name x p) (e::es) [] pos) (jL c m ms):=by
 have h:=Bk (p:=p) M hcn G (cx.room.mono hk) hg hm hb .nil fM cx.xf hn hps ha hdb he hpl;unfold jL;simpa using h
end
def Cr(X:K.In h)(q:excIn K C [.type "ValueError",.type "Exception",.type "BaseException",.type "object"] "ValueError.__new__"=true) :
  ∃bm N nm q bs hdct sn sub ab col dd k0 k1 k2 k3 k5 mN,h.get? C=some (excClassObj nm q C N bs bm hdct sn sub ab col dd k0 k1 k2 k3 k5 "ValueError.__new__")/\h.Ns N mN/\mN "__init__"=none /\
   OwnTail h [.type "ValueError",.type "Exception",.type "BaseException",.type "object"] bm:=by
 unfold excIn at q;split at q
 .rename_i dd cd sl ho
  split at q
  .rename_i C' bm k0 k1 k2 k3 n k5 hm hs
   simp at q;obtain⟨⟨⟨⟨⟨rfl,rfl⟩,hdel⟩,ht⟩,hok⟩,hni⟩:=q;cases cd;cases sl;dsimp only at hm hdel hok hni hs;subst hm hdel hs;exact⟨bm,_,_,_,_,_,_,_,_,_,dd,k0,k1,k2,k3,k5,_,X _ _ ho,.of_isNs (PySem.W.isNs_of_in X hok),PySem.W.nsMap_none_of_in X hok hni,PySem.W.tail_of_in X ht⟩
  .cases q
 .cases q
def bV(c:Nat)(ms:MA):MS:=λenv=>match ms env with
 |.ok _=>.exc c env
 |.exc k=>.exc k env
 |.stuck=>.stuck
def vR(cx:Ctx X T W k)(hm:X.mg x=some (.ref (T.xcl c)))(hB:T.K.In X.base)
  (hE:excIn T.K (T.xcl c) [.type "ValueError",.type "Exception",.type "BaseException",.type "object"] "ValueError.__new__"=true) (hx:XM X T W) (hg:Gl X x) (hn:iR ms n) (hn2:n<=100) (ha:SA X T W (e::es) ms)
  (hd:Nd x:=by decide)
  (he:starEach (e::es) X.env=(false,eval e X.env)::starEach es X.env:=by rfl) (hpl:(backTo cpos (starEach es X.env)).any (·.1)=false:=by rfl) :
  SS X T W (.Raise (some (.Call (.Name x np) (e::es) [] cpos)) none pos) (bV c ms):=
 xy ⟨hm,Cr hB hE⟩ hx cx.calm hg ha (λenv pvs q=>by rw[hn env pvs q];exact hn2) hd he hpl
structure Scr(fl:Fl):Prop where
 is:fl=.frz\/fl=.mod
def Scr.LD(h:Scr fl):fl.LD=fl:=by rcases h.is with rfl|rfl<;>rfl
def Scr.LF(h:Scr fl):fl.LF=fl:=by rcases h.is with rfl|rfl<;>rfl
def kJ:∀ns:Lq,RelL T F B L H (ns.map PV.int) (ns.map V.int) []
 | []=>fM _ _ _ _
 |n::ns=>by exact⟨_,_,[],[],rfl,fN,kJ ns,rfl⟩
def xB(K:PySem.W.Frag)(tb:Addr->Option (Ly):=λ_=>none):Sp:=λvs H Q _=>(∀b ps,tb b=some ps->H b=some (.tbl ps))/\∃(a:Addr) (ns:Lq),vs=[.ref a]/\SqL K H a (ns.map V.int)/\ns.length<=63/\∀v H',v=.bl true->Q v H'
def FV(G:dR P w T.K mg base (CXP P w) k f fd [x] (spM T 1 m))
  (h:∀(fl:Fl) (ns:Lq),Scr fl->ns.length<=63->m [.lst fl (ns.map .int)]=.ok (.bl true)):dR P w T.K mg base (CXP P w) k f fd [x] (xB T.K T.tb):=by
 refine G.imp λvs H Q E q=>?_;obtain⟨hT,a,ns,rfl,hS,hl,hQ⟩:=q;have hTb:CU T H (· ∈([]:Lu)):=λb ps h=>⟨hT b ps h,λz=>nomatch z⟩
 have fin:∀fl,Scr fl->∀Z:Zn,GF T Z Q E (m [.lst fl (ns.map .int)]):=λfl hf Z=>by rw[h fl ns hf hl];intro F H' v f' _ r _ _ _;exact hQ v H' r.1
 refine⟨rfl,?_⟩;rcases hS with hS|hS
 .refine⟨[.lst .frz (ns.map .int)],(·=a),λ_=>False,[],⟨?_,nodup_nil,λ_ z=>(nomatch z),⟨λ_ z=>False.elim z,hTb⟩,λb hb=>?_⟩,fin _ ⟨.inl rfl⟩ _⟩
  .unfold RelL;refine⟨_,_,[],[],rfl,?_,fM _ _ _ _,rfl⟩;exact⟨a,_,[],rfl,⟨rfl,hS⟩,kJ ns,rfl,rfl⟩
  .subst hb;rcases hS with e |⟨o,e⟩
   .exact⟨_,e⟩
   .exact⟨_,e⟩
 .refine⟨[.lst .mod (ns.map .int)],λ_=>False,λ_=>False,[],⟨?_,nodup_nil,λ_ z=>(nomatch z),⟨λ_ z=>False.elim z,hTb⟩,λ_ z=>z.elim⟩,fin _ ⟨.inr rfl⟩ _⟩;refine⟨_,_,[],[],rfl,?_,fM _ _ _ _,rfl⟩;exact⟨a,_,[],rfl,hS,kJ ns,rfl,rfl⟩
def y8{l:PySem.W.OpenLaw}{k:Nat}{x:Str}{q:Program}{loose:Lw}{XP:(Lk)->Heap->Prop}{YP:World->Heap->Prop}{d:DefRec}{K:Params->PySem.W.Frag}(hn:l.most=some 63)(hdf:d.params.defaults=[])(hr:eX k callerA)
  (hY:∀(w:World) (h:Heap),YP w h->(K w.params).In h)
  (F:∀ (w:World) (mg:Lk) (fa:Addr) (h:Heap),(K w.params).In h->h.Ns mainGlobals mg->mg d.name=some (.ref fa) ->
   ∃fd:FuncData,(∀(s:Shared) (u:Value),BindsTo s fd ⟨[u],[]⟩ [(x,u)])/\∀base:Heap,(K w.params).In base->base.Ns mainGlobals mg->dR l.prog w (K w.params) mg base (CXP l.prog w) k fa fd [x] (xB (K w.params))) :
  PySem.W.WalkO q loose XP YP l.row.toRowW d [] (λf vs=>PySem.call f vs):=
 L2.AU hn () hdf hr hY F (λ_ _ a ns hl _ hS=>⟨λ_ _ z=>(nomatch z),a,ns,rfl,hS,hl,λ_ _ z=>z⟩) λ_ _ _ _ _ ⟨_,_,_,z⟩=>z
def wI:G6 K "tuple":=by intro t ht;simp at ht;rcases ht with rfl|rfl|rfl|rfl|rfl|rfl<;>kernel_rfl
theorem ot:bootBuiltins "isinstance"=some (.builtin "isinstance"):=by decide +kernel
theorem cH:bootBuiltins "list"=some (.type "list"):=by decide +kernel
theorem ir:bootBuiltins "tuple"=some (.type "tuple"):=by decide +kernel
noncomputable def Ad(K:PySem.W.Frag)(C:Addr):Bool:=
 decide (PySem.W.findIn K (.ref C) "__getattribute__"=some (some (.builtin "BaseException.__getattribute__")))&&decide (PySem.W.findIn K (.ref C) "__getattr__"=some none) &&
 decide (PySem.W.findIn K (.ref C) "__class__"=some (some (.builtin "object.__class__")))&&decide (mroIn K C (.type "BaseException")=some true)&&decide (mroIn K C (.type "object")=some true)&&(clsIn K C).isSome &&
 excIn K C [.type "ValueError",.type "Exception",.type "BaseException",.type "object"] "ValueError.__new__"
def Ct(h:Ad K C=true):La K C/\excIn K C [.type "ValueError",.type "Exception",.type "BaseException",.type "object"] "ValueError.__new__"=true:=by simp only[Ad,and_eq_true,decide_eq_true_eq]at h;obtain⟨⟨⟨⟨⟨⟨h1,h2⟩,h3⟩,h4⟩,h5⟩,h6⟩,h7⟩:=h;exact⟨⟨h1,h2,h3,h4,h5,h6⟩,h7⟩
def pick(l:Lu)(i:Nat):Addr:=l.getD i (l.headD 0)
def rm(l:List Bool)(i:Nat):Bool:=l.getD i (l.headD false)
theorem yc{α:Type}{f:Addr->Option α}{g:α->Bool}{l:Lu}{bs:List Bool}{r:Bool->Option α}(hl:l≠[])(h:l.map f=bs.map r)(i:Nat):f (pick l i)=r (rm bs i):=by
 have hlen:l.length=bs.length:=by simpa using congrArg List.length h
 unfold pick rm;rw[getD_eq_getElem?_getD,getD_eq_getElem?_getD];have key:∀j,(l[j]?).map f=(bs[j]?).map r:=λj=>by rw[<- getElem?_map,<- getElem?_map,h]
 cases e:l[i]? with
 |some C=>
  have:=key i;rw[e]at this;cases e2:bs[i]? with
  |some b=>rw[e2]at this;simpa using this
  |none=>rw[e2]at this;simp at this
 |none=>
  have hb:bs[i]?=none:=by
   rw[List.getElem?_eq_none_iff]at e ⊢
   lia
  rw[hb];cases l with
  |nil=>exact absurd rfl hl
  |cons a l=>
   cases bs with
   |nil=>simp at hlen
   |cons b bs=>simpa using key 0
def uE:∀(xs:Lz) (ys:Lr),xs.length=ys.length->(∀(i:Nat) x y,xs[i]?=some x->ys[i]?=some y->bT x y)->aY xs ys
 | [],[],_,_=>.nil
 |x::xs,y::ys,hl,h=>.cons (h 0 x y rfl rfl) (uE xs ys (by simp_all) λi a b e1 e2=>h (i+1) a b (by simpa using e1) (by simpa using e2))
 | [],_::_,hl,_|_::_,[],hl,_=>by simp at hl
def vY(lo:Int)(n:Nat):Lz:=(range n).map λk=>.int (lo+(k:Nat))
section
variable{X:Cx}{T:Tb}{W:Nat->St->LA}{Z:Zn}{F F1 B L:Lp}{H H1:Hp}{Y:St}{env:En}{fp:Nat->Lu}
def xQ(lo:Int)(n:Nat):RelL T F B L H (fe lo n) (vY lo n) []:=by
 have:∀l:List Nat,RelL T F B L H (l.map λk=>PV.int (lo+(k:Nat))) (l.map λk=>V.int (lo+(k:Nat))) []:=by
  intro l
  induction l with
  |nil=>exact fM _ _ _ _
  |cons a l ih=>exact⟨_,_,[],[],rfl,fN,ih,rfl⟩
 exact this _
def wo(hg:Gl X "range")(hm:X.mg "range"=none)(ha:PA X [a] ta)(hs:starEach [a] X.env=[(false,eval a X.env)]:=by rfl) :
  PE X (.Call (.Name "range" p) [a] [] pos) (λY H Q=>ta Y H λvs H1=>∃j:Int,vs=[.int j]/\∀r,H1 r=none->Q (.ref r) (upd H1 r (.rng 0 j))):=by
 intro js s Y H Q I h;refine PyProof.Rows.Call_ (gA I hg hm PyProof.Rows.boot_range (PyProof.Rows.callWith_type1 (thn (ha pos js s Y H _ I h) λus s1 zz=>?_) hs rfl));obtain⟨vs,H1,I1,r1,q1⟩:=zz;obtain⟨j,e,q⟩:=q1;subst e;cases r1 with
 |cons r rr=>cases rr;obtain⟨t,rfl⟩:=r;refine call_range_1 ⟨.ref s1.heap.objs.size,_,I1.laid (λb u e=>get?_push_of_some _ e) (Nat.le_refl _) ?_,rfl,q _ (I1.hok.fresh (Nat.le_refl _))⟩;exact⟨_,_,_,get?_push_size _ rfl⟩
theorem on(hc:X.calm=true):e_ X (.type "list") (λxs H Q=>∃r hi,xs=[.ref r]/\H r=some (.rng 0 hi)/\(0<=hi/\hi<=1000000)/\∀l,H l=none->Q (.ref l) (upd H l (.lst (vY 0 hi.toNat)))):=by
 intro js s Y H xs us Q I rv h;obtain⟨r,hi,rfl,hr,⟨h0,h1⟩,q⟩:=h;obtain⟨u,rfl,rx⟩:=eY rv;cases rx;obtain⟨t,u,v,e⟩:=I.hok r _ hr;have hsz:Builtin.Range.rangeSize 0 hi 1=(hi.toNat:Int):=by unfold Builtin.Range.rangeSize;split<;>lia
 have hsm:Builtin.Range.small 0 hi 1=true:=by unfold Builtin.Range.small;simp only[Builtin.Range.rangeFitsLong,and_eq_true,or_eq_true,show(1:Int)>0 by decide,if_true];refine⟨⟨⟨⟨by decide,by lia⟩,by decide⟩,by lia⟩,.inr ()⟩
 refine call_list_range (I.ok.hd hc) e hsm hsz () λh' tk acc c' kp eS hacc=>?_;refine⟨.ref s.heap.objs.size,_,I.laid (t':=tk) kp (Nat.le_refl _) ?_,rfl,q _ (I.hok.fresh (Nat.le_refl _))⟩;refine⟨?_,acc.toList,c',uE _ _ ?_ λi x y e1 e2=>?_,?_⟩
 .rw[sizeLine_eq];simp[vY];lia
 .simp[vY,hacc.1]
 .have:=hacc.2 i y (by simpa using e2);obtain⟨t,rfl⟩:=this;have hi:i<hi.toNat:=by have:=(List.getElem?_eq_some_iff.mp e1).1;simpa[vY]using this
  simp[vY,hi]at e1;subst e1;exact⟨t,by simp⟩
 .simpa using eS
def jm:LB->LC
 | [.int n]=>if decide (0<=n/\n<=1000000)then .ok (.lst .own (fe 0 n.toNat))else .stuck
 |_=>.stuck
def oI(hc:X.calm=true)(hg:Gl X "list")(hm:X.mg "list"=none)(hv:bootBuiltins "list"=some (.type "list"))(hg2:Gl X "range")(hm2:X.mg "range"=none)(ha:SA X T W [a] ms)
  (hs:starEach [a] X.env=[(false,eval a X.env)]:=by rfl)
  (he:starEach [.Call (.Name "range" p2) [a] [] pos2] X.env=[(false,eval (.Call (.Name "range" p2) [a] [] pos2) X.env)]:=by rfl) :
  SE X T W (.Call (.Name "list" p) [.Call (.Name "range" p2) [a] [] pos2] [] pos) (aq jm ms):=by
 refine PE.wk (kL (on hc) hg hm hv (dP (wo hg2 hm2 ha hs) gO (by rfl))) λY H Q hz1=>?_;obtain⟨Z,F,env,fp,S,q⟩:=hz1;unfold aq at q;refine tA.bq S λpvs vs H1 F1 f1 e1 g1 r1 n1 d1 w1=>?_;rw[e1]at q;simp at q;rcases pvs with _ |⟨x,_ |⟨y,l⟩⟩
 .exact q.elim
 .cases x with
  |int n=>
   obtain⟨v,rfl,rv⟩:=RelL.one r1;obtain⟨rfl,rfl⟩:=rv;simp only[jm]at q;refine⟨n,rfl,λr hr=>?_⟩;by_cases hn:decide (0<=n/\n<=1000000)=true
   .rw[if_pos hn]at q;have g2:Gr F H F1 (upd H1 r (.rng 0 n)):=g1.trans (Gr.same g1.dom (Ext.upd hr));exact⟨r,n,rfl,bG,of_decide_eq_true hn,λl hl=>GE.newL q g2 (xQ 0 n.toNat) (λ_ z=>(nomatch z)) nodup_nil (λ_ z=>(nomatch z)) l hl⟩
   .rw[if_neg hn]at q;exact q.elim
  |_=>exact q.elim
 .cases x<;>exact q.elim
end
noncomputable def bO:LB->Option (Lq)
 | []=>some []
 |.int i::xs=>(bO xs).map (i::·)
 |_::_=>none
def pb(ns:Lq):Nat:=(firstMet (λi=>ns.getD i 0) ns.length).length
def jo:PV->LC
 |.lst _ xs=>match bO xs with
  |some ns=>if decide (ns.length<=1000)then .ok (.int (pb ns))else .stuck
  |none=>.stuck
 |_=>.stuck
section
variable{X:Cx}{T:Tb}{W:Nat->St->LA}{Z:Zn}{F F1 B L:Lp}{H H1:Hp}{Y:St}{env:En}{fp:Nat->Lu}
def cR:∀{xs:LB}{vs:Lz}{f:Lu}{ns:Lq},bO xs=some ns->RelL T F B L H xs vs f->vs=ns.map V.int
 | [],_,_,_,e,r=>by cases e;exact r.1
 |.int i::xs,_,_,ns,e,r=>by
  obtain⟨v,ws,f1,f2,rfl,h1,h2,rfl⟩:=r;simp only[bO]at e;cases e2:bO xs with
  |none=>rw[e2]at e;cases e
  |some ms=>rw[e2]at e;cases e;rw[h1.1,cR e2 h2];rfl
 |.non::_,_,_,_,e,_|.bl _::_,_,_,_,e,_|.str _::_,_,_,_,e,_|.lst _ _::_,_,_,_,e,_|.tup _::_,_,_,_,e,_|.obj _ _ _ _::_,_,_,_,e,_|.exc _::_,_,_,_,e,_|.box _ _::_,_,_,_,e,_=>by simp[bO]at e
def iw:∀{ns:Lq}{its:Lr},aY (ns.map V.int) its->PyProof.Rows.IntsAre its ns
 | [],_,r=>by cases r;exact .nil
 |n::ns,_,r=>by
  cases r with
  |cons h t=>obtain⟨tk,rfl⟩:=h;exact .cons _ _ (iw t)
theorem om(hc:X.calm=true):e_ X (.type "set") (λxs H Q=>∃p ns,xs=[.ref p]/\SqL X.K H p (ns.map V.int)/\ns.length<=1000/\∀r S,H r=none->Q (.ref r) (upd H r (.set S (pb ns)))):=by
 intro js s Y H xs us Q I rv h;obtain⟨p,ns,rfl,hS,hl,q⟩:=h;obtain⟨u,rfl,rx⟩:=eY rv;cases rx;obtain⟨its,r',pl,hz⟩:=I.list hS;have hlen:=r'.length;rw[length_map]at hlen;refine call_set_list (I.ok.hd hc) pl.isList (by simpa using iw r') (by simp;unfold scanBound;lia) λh' tk hs kp=>?_;have e:its.toArray.size=ns.length:=by simp[hlen]
 rw[e]at hs;exact⟨.ref s.heap.objs.size,_,I.laid (t':=tk) (o:=.set (λk'=>(firstMet (λi=>ns.getD i 0) ns.length).any (·==k')) (pb ns)) (λb o e=>kp b o (lt_size e) e) (Nat.le_refl _) hs,rfl,q _ _ (I.hok.fresh (Nat.le_refl _))⟩
theorem oq:e_ X (.builtin "len") (λxs H Q=>∃r S n,xs=[.ref r]/\H r=some (.set S n)/\Q (.int n) H):=by intro js s Y H xs us Q I rv h;obtain⟨r,S,n,rfl,hr,q⟩:=h;obtain⟨u,rfl,rx⟩:=eY rv;cases rx;obtain⟨o,es,ep,t,ho,hex,hd,_,_,hb,hf,hn⟩:=I.hok r _ hr;have hb':es.size<4096:=hb;exact call_len_set ho hex hd hf () ⟨.int n,H,I.tok _,⟨s.toks+1,by rw[hn]⟩,q⟩
theorem GU:bootBuiltins "set"=some (.type "set"):=by decide +kernel
def oJ(hK:X.K=T.K)(hc:X.calm=true)(hg:Gl X "len")(hm:X.mg "len"=none)(hg2:Gl X "set")(hm2:X.mg "set"=none)(he:SE X T W e m)
  (hs:starEach [e] X.env=[(false,eval e X.env)]:=by rfl)
  (hs2:starEach [.Call (.Name "set" p2) [e] [] pos2] X.env=[(false,eval (.Call (.Name "set" p2) [e] [] pos2) X.env)]:=by rfl) :
  SE X T W (.Call (.Name "len" p) [.Call (.Name "set" p2) [e] [] pos2] [] pos) (mUn jo m):=by
 refine PE.wk (mX oq hg hm boot_len (dP (kL (om hc) hg2 hm2 GU (dP he gO (by rw[hs];rfl)) (he:=by rw[hs];rfl)) gO (by rfl))) λY H Q hz1=>?_;obtain⟨Z,F,env,fp,S,q⟩:=hz1;unfold mUn at q;walk_at "a";cases x with
 |lst fl xs=>
  simp only[Res.LO,jo]at q;cases en:bO xs with
  |none=>rw[en]at q;exact q.elim
  |some ns=>
   rw[en]at q;dsimp only at q;obtain⟨a,vs,fp',rfl,hl,hr,_⟩:=r1;by_cases hn:decide (ns.length<=1000)=true
   .rw[if_pos hn]at q;have hv:=cR en hr;subst hv;exact⟨a,ns,rfl,by rw[hK];exact hl.sq,of_decide_eq_true hn,λr S hr=>⟨r,S,_,rfl,bG,q.scal (g1.trans (Gr.same g1.dom (Ext.upd hr))) fN⟩⟩
   .rw[if_neg hn]at q;exact q.elim
 |_=>exact q.elim
end
noncomputable def fP:Lq->Int
 | []=>0
 | [a]=>a
 |a::b::l=>min a (fP (b::l))
def ef:Lq->Int
 | []=>0
 | [a]=>a
 |a::b::l=>max a (ef (b::l))
theorem fO:∀{l:Lq},l≠[]->fP l∈l/\∀x∈l,fP l<=x
 | [],h=>absurd rfl h
 | [a],_=>by simp[fP]
 |a::b::l,_=>by
  obtain⟨h1,h2⟩:=fO (l:=b::l) ();unfold fP
  grind
theorem ke:∀{l:Lq},l≠[]->ef l∈l/\∀x∈l,x<=ef l
 | [],h=>absurd rfl h
 | [a],_=>by simp[ef]
 |a::b::l,_=>by
  obtain⟨h1,h2⟩:=ke (l:=b::l) ();unfold ef;refine⟨?_,λx hx=>?_⟩
  .rcases Int.le_total a (ef (b::l))with h|h
   .rw[Int.max_eq_right h];exact mem_cons_of_mem _ h1
   .rw[Int.max_eq_left h];exact mem_cons_self
  .rcases mem_cons.mp hx with rfl|hx
   .lia
   .exact Int.le_trans (h2 x hx) (Int.le_max_right _ _)
section
variable{X:Cx}{T:Tb}{W:Nat->St->LA}{Z:Zn}{F F1 B L:Lp}{H H1:Hp}{Y:St}{env:En}{fp:Nat->Lu}{js:Lo}{s:Shared}
def gC{h':Heap}{t:Nat}(I:L2.Inv X js Y H s)(k:∀b o,s.heap.get? b=some o->h'.get? b=some o):L2.Inv X js Y H {s with heap:=h',toks:=t}:=I.un (Un.kept k) (I.hok.kept k)
def eQ{its:Lr}{ns:Lq}(r:aY (ns.map V.int) its):∀(i:Nat) (v:Value),its.toArray[i]?=some v->∃t,v=.int (ns.getD i 0) t:=by
 intro i v e;have e':its[i]?=some v:=by simpa using e
 have:∀{ns:Lq}{its:Lr}{i:Nat}{v:Value},aY (ns.map V.int) its->its[i]?=some v->∃t,v=.int (ns.getD i 0) t:=by
  intro ns
  induction ns with
  |nil=>intro its i v r e;cases r;simp at e
  |cons n ns ih=>
   intro its i v r e;cases r with
   |cons h t=>
    obtain⟨tk,rfl⟩:=h;cases i with
    |zero=>simp at e;exact⟨tk,by rw[<- e];rfl⟩
    |succ i=>obtain⟨tk',h'⟩:=ih t (by simpa using e);exact⟨tk',by rw[h'];rfl⟩
 exact this r e'
theorem sF{ns:Lq}(h:0<ns.length):ns.getD (argBest (λi j=>decide (ns.getD i 0<ns.getD j 0)) (ns.length-1)) 0=fP ns:=by
 obtain⟨h1,h2⟩:=argBest_lt (λi=>ns.getD i 0) (ns.length-1);obtain⟨m1,m2⟩:=fO (l:=ns) (by intro z;simp[z]at h);refine Int.le_antisymm ?_ (m2 _ ?_)
 .obtain⟨i,hi,e⟩:=getElem_of_mem m1;have:=h2 i ()
  grind
 .rw[getD_eq_getElem?_getD,getElem?_eq_getElem ()];exact getElem_mem _
theorem sG{ns:Lq}(h:0<ns.length):ns.getD (argBest (λi j=>decide (ns.getD i 0>ns.getD j 0)) (ns.length-1)) 0=ef ns:=by
 obtain⟨h1,h2⟩:=argBest_gt (λi=>ns.getD i 0) (ns.length-1);obtain⟨m1,m2⟩:=ke (l:=ns) (by intro z;simp[z]at h);refine Int.le_antisymm (m2 _ ?_) ?_
 .rw[getD_eq_getElem?_getD,getElem?_eq_getElem ()];exact getElem_mem _
 .obtain⟨i,hi,e⟩:=getElem_of_mem m1;have:=h2 i ()
  grind
theorem iS{n:Nat}{l I:Addr}(hl:l<n)(e:I=n):∀b∈[I,l],b<n+1:=(by grind)
def dZ{h h':Heap}{o:Obj}(hk:∀b u,b∉[h.objs.size]->(h.push o).get? b=some u->h'.get? b=some u):∀b u,h.get? b=some u->h'.get? b=some u:=λb u e=>
 hk b u (λhm=>by
  rcases mem_cons.mp hm with z|z
  .exact absurd (z▸lt_size e) (Nat.lt_irrefl _)
  .cases z) (get?_push_of_some _ e)
theorem qr(hc:X.calm=true):e_ X (.builtin "min") (λxs H Q=>∃p ns,xs=[.ref p]/\(SqL X.K H p (ns.map V.int)\/ SqT X.K H p (ns.map V.int))/\0<ns.length/\Q (.int (fP ns)) H):=by
 intro js s Y H xs us Q I rv h;obtain⟨p,ns,rfl,hq,hn,q⟩:=h;obtain⟨u,rfl,rx⟩:=eY rv;cases rx;have hh:=I.ok.hd hc;have key:∀{its:Lr},aY (ns.map V.int) its->∀{v:Value}{h':Heap}{tk:Nat},its.toArray[argBest (λi j=>decide (ns.getD i 0<ns.getD j 0)) (its.toArray.size-1)]?=some v->(∀b o,s.heap.get? b=some o->h'.get? b=some o)->EP X js Y Q v {s with heap:=h',toks:=tk}:=by
  intro its r v h' tk hv k;have hl:its.toArray.size=ns.length:=by have:=r.length;simpa using this.symm
  rw[hl]at hv;obtain⟨t,rfl⟩:=eQ r _ _ hv;rw[sF hn];exact⟨.int _,H,gC I k,⟨t,rfl⟩,q⟩
 rcases hq with hq|hq
 .obtain⟨its,r,pl,hz⟩:=I.list hq;have hl:its.toArray.size=ns.length:=by have:=r.length;simpa using this.symm
  obtain⟨o,ho,hcl,n,hd⟩:=pl.isList;have hlt:=lt_size ho;refine call_min_walk (wpAny_pyIter_list pl.isList ?_);refine⟨_,_,_,_,_,_,_,rfl,Walks.list (A:=X.A.in1) hh _ p (Nat.ne_of_lt hlt) its.toArray,⟨⟨_,get?_push_size _ rfl,rfl,rfl⟩,pl.isList.push _⟩,λb hb=>?_,by lia,CmpOf.ints_lt (λi=>ns.getD i 0) (eQ r),λv h' tk hP hk=>key r hP (dZ hk)⟩;rw[size_push];exact iS hlt rfl b hb
 .obtain⟨its,r,pl,hz⟩:=I.tuple hq;have hl:its.toArray.size=ns.length:=by have:=r.length;simpa using this.symm
  have pt:s.heap.IsTuple p its.toArray:=pl;obtain⟨o,ho,hcl,n,hd⟩:=pl;have hlt:=lt_size ho;refine call_min_walk (wpAny_pyIter_tuple pt ?_);refine⟨_,_,_,_,_,_,_,rfl,Walks.tuple (A:=X.A.in1) hh _ p (Nat.ne_of_lt hlt) its.toArray,⟨⟨_,get?_push_size _ rfl,rfl,rfl⟩,pt.push _⟩,λb hb=>?_,by lia,CmpOf.ints_lt (λi=>ns.getD i 0) (eQ r),λv h' tk hP hk=>key r hP (dZ hk)⟩;rw[size_push];exact iS hlt rfl b hb
def qt(hc:X.calm=true):e_ X (.builtin "max") (λxs H Q=>∃p ns,xs=[.ref p]/\(SqL X.K H p (ns.map V.int)\/ SqT X.K H p (ns.map V.int))/\0<ns.length/\Q (.int (ef ns)) H):=by
 intro js s Y H xs us Q I rv h;obtain⟨p,ns,rfl,hq,hn,q⟩:=h;obtain⟨u,rfl,rx⟩:=eY rv;cases rx;have hh:=I.ok.hd hc;have key:∀{its:Lr},aY (ns.map V.int) its->∀{v:Value}{h':Heap}{tk:Nat},its.toArray[argBest (λi j=>decide (ns.getD i 0>ns.getD j 0)) (its.toArray.size-1)]?=some v->(∀b o,s.heap.get? b=some o->h'.get? b=some o)->EP X js Y Q v {s with heap:=h',toks:=tk}:=by
  intro its r v h' tk hv k;have hl:its.toArray.size=ns.length:=by have:=r.length;simpa using this.symm
  rw[hl]at hv;obtain⟨t,rfl⟩:=eQ r _ _ hv;rw[sG hn];exact⟨.int _,H,gC I k,⟨t,rfl⟩,q⟩
 rcases hq with hq|hq
 .obtain⟨its,r,pl,hz⟩:=I.list hq;have hl:its.toArray.size=ns.length:=by have:=r.length;simpa using this.symm
  obtain⟨o,ho,hcl,n,hd⟩:=pl.isList;have hlt:=lt_size ho;refine call_max_walk (wpAny_pyIter_list pl.isList ?_);refine⟨_,_,_,_,_,_,_,rfl,Walks.list (A:=X.A.in1) hh _ p (Nat.ne_of_lt hlt) its.toArray,⟨⟨_,get?_push_size _ rfl,rfl,rfl⟩,pl.isList.push _⟩,λb hb=>?_,by lia,CmpOf.ints_gt (λi=>ns.getD i 0) (eQ r),λv h' tk hP hk=>key r hP (dZ hk)⟩;rw[size_push];exact iS hlt rfl b hb
 .obtain⟨its,r,pl,hz⟩:=I.tuple hq;have hl:its.toArray.size=ns.length:=by have:=r.length;simpa using this.symm
  have pt:s.heap.IsTuple p its.toArray:=pl;obtain⟨o,ho,hcl,n,hd⟩:=pl;have hlt:=lt_size ho;refine call_max_walk (wpAny_pyIter_tuple pt ?_);refine⟨_,_,_,_,_,_,_,rfl,Walks.tuple (A:=X.A.in1) hh _ p (Nat.ne_of_lt hlt) its.toArray,⟨⟨_,get?_push_size _ rfl,rfl,rfl⟩,pt.push _⟩,λb hb=>?_,by lia,CmpOf.ints_gt (λi=>ns.getD i 0) (eQ r),λv h' tk hP hk=>key r hP (dZ hk)⟩;rw[size_push];exact iS hlt rfl b hb
def eF(g:Lq->Int):PV->LC:=λx=>match a_ x with
 |some xs=>match bO xs with
  |some ns=>if ns.isEmpty then .stuck else .ok (.int (g ns))
  |none=>.stuck
 |none=>.stuck
theorem rH(hK:X.K=T.K):Mir T W (p1 (eF g)) (λxs H Q=>∃p ns,xs=[.ref p]/\(SqL X.K H p (ns.map V.int)\/ SqT X.K H p (ns.map V.int))/\0<ns.length/\Q (.int (g ns)) H):=by
 intro B F L Y H Q F' H' xs vs fx gr r nf nd new q
 match xs,r,q with
 | [x],r,q=>
  obtain⟨v,rfl,rv⟩:=RelL.one r;simp only[p1,eF]at q;cases e:a_ x with
  |none=>rw[e]at q;exact q.elim
  |some ys=>
   rw[e]at q;dsimp only at q;cases e2:bO ys with
   |none=>rw[e2]at q;exact q.elim
   |some ns=>
    rw[e2]at q;obtain⟨a,us,fx',rfl,hs,hr,_⟩:=rv.seq e;have hu:=cR e2 hr;subst hu;cases ns with
    |nil=>exact q.elim
    |cons n ns=>exact⟨a,_,rfl,by lia,by simp,q.scal gr fN⟩
 | [],_,q=>exact q.elim
 |_::_::_,_,q=>simp only[p1]at q;exact q.elim
theorem ur:bootBuiltins "min"=some (.builtin "min"):=by decide +kernel
theorem Az:bootBuiltins "max"=some (.builtin "max"):=by decide +kernel
def pR(hK:X.K=T.K)(hc:X.calm=true)(hg:Gl X "min")(hm:X.mg "min"=none)(ha:SE X T W e m)(he:starEach [e] X.env=[(false,eval e X.env)]:=by rfl):SE X T W (.Call (.Name "min" p) [e] [] pos) (aq (p1 (eF fP)) (ae m am)):=
 fK (qr hc) (rH hK) hg hm ur (ac ha ah (by rw[he];rfl)) (he:=by rw[he];rfl)
def pS(hK:X.K=T.K)(hc:X.calm=true)(hg:Gl X "max")(hm:X.mg "max"=none)(ha:SE X T W e m)(he:starEach [e] X.env=[(false,eval e X.env)]:=by rfl):SE X T W (.Call (.Name "max" p) [e] [] pos) (aq (p1 (eF ef)) (ae m am)):=
 fK (qt hc) (rH hK) hg hm Az (ac ha ah (by rw[he];rfl)) (he:=by rw[he];rfl)
noncomputable def dN(g:Int->Int->Int):LB->LC
 | [.int i,.int j]=>.ok (.int (g i j))
 |_=>.stuck
def wC{g:Int->Int->Int}{g':Int->Int->Int}(hg:∀i j,g' i j=g i j):Mir T W (dN g) (λxs H Q=>∃i j,xs=[.int i,.int j]/\Q (.int (g' i j)) H):=by
 intro B F L Y H Q F' H' xs vs fx gr r nf nd new q
 match xs,r,q with
 | [x,y],r,q=>
  cases x with
  |int i=>
   cases y with
   |int j=>obtain⟨v,ws,f1,f2,rfl,h1,h2,rfl⟩:=r;obtain⟨u,rfl,h3⟩:=RelL.one h2;obtain⟨rfl,_⟩:=h1;obtain⟨rfl,_⟩:=h3;exact⟨i,j,rfl,by rw[hg];exact q.scal gr fN⟩
   |_=>exact q.elim
  |_=>exact q.elim
 | [],_,q=>exact q.elim
 | [x],_,q=>cases x<;>exact q.elim
 |x::y::z::l,_,q=>cases x<;>cases y<;>exact q.elim
theorem jk(hc:X.calm=true)(hg:Gl X "min")(hm:X.mg "min"=none)(ha:SA X T W [a,b] ms)(he:starEach [a,b] X.env=[(false,eval a X.env),(false,eval b X.env)]:=by rfl)(he2:starEach [b] X.env=[(false,eval b X.env)]:=by rfl) :
  SE X T W (.Call (.Name "min" p) [a,b] [] pos) (aq (dN min) ms):=
 fK (w5 hc) (wC λi j=>by lia) hg hm ur ha (he:=by rw[he,he2]) (hpl:=by rw[he2];rfl)
end
end PR
namespace PR
open PySem PySem.W PyProof.Rows
structure Ord(N:Nat)(lt:Nat->Nat->Bool):Prop where
 tr:∀i j k,i<N->j<N->k<N->lt i j=true->lt j k=true->lt i k=true
 tot:∀i j,i<N->j<N->i≠j->lt i j=false->lt j i=true
 irr:∀i,i<N->lt i i=false
structure Plc(N:Nat)(p:Array Nat):Prop where
 pm:p.toList.Perm (range N)
abbrev at_(p:Array Nat)(i:Nat):Nat:=p.getD i 0
section
variable{N:Nat}{lt:Nat->Nat->Bool}{p:Array Nat}
def Plc.sz(P:Plc N p):p.size=N:=by simpa using P.pm.length_eq
def Plc.get(P:Plc N p)(h:i<N):p[i]?=some (at_ p i):=by
 have:i<p.size:=by rw[P.sz];exact h
 simp[this]
def Plc.bd(P:Plc N p)(h:i<N):at_ p i<N:=by
 have hm:at_ p i∈p.toList:=by have:=P.get h;exact Array.mem_toList_iff.mpr (Array.mem_of_getElem? this)
 simpa using P.pm.mem_iff.mp hm
def Plc.inj(P:Plc N p)(hi:i<N)(hj:j<N)(e:at_ p i=at_ p j):i=j:=by
 have nd:p.toList.Nodup:=P.pm.nodup_iff.mpr nodup_range;have h1:=P.get hi;have h2:=P.get hj;rw[e]at h1;have h1':p.toList[i]?=some (at_ p j):=by simpa using h1
 have h2':p.toList[j]?=some (at_ p j):=by simpa using h2
 obtain⟨a1,b1⟩:=List.getElem?_eq_some_iff.mp h1';obtain⟨a2,b2⟩:=List.getElem?_eq_some_iff.mp h2';exact(getElem_inj nd).mp (b1.trans b2.symm)
def Asc(lt:Nat->Nat->Bool)(p:Array Nat)(n:Nat):Prop:=∀a b,a<b->b<n->lt (at_ p a) (at_ p b)=true
def Dsc(lt:Nat->Nat->Bool)(p:Array Nat)(n:Nat):Prop:=∀a b,a<b->b<n->lt (at_ p b) (at_ p a)=true
theorem Asc.more(O:Ord N lt)(P:Plc N p)(h:Asc lt p n)(h1:1<=n)(hn:n<N)(hl:lt (at_ p (n-1)) (at_ p n)=true):Asc lt p (n+1):=λa b hab hb=>by
 by_cases hbn:b<n
 .exact h a b hab hbn
 .obtain rfl:b=n:=by lia
  by_cases ha:a=b-1
  .rw[ha];exact hl
  .exact O.tr _ _ _ (P.bd ()) (P.bd ()) (P.bd ()) (h a (b-1) () ()) hl
def Dsc.more(O:Ord N lt)(P:Plc N p)(h:Dsc lt p n)(h1:1<=n)(hn:n<N)(hl:lt (at_ p n) (at_ p (n-1))=true):Dsc lt p (n+1):=λa b hab hb=>by
 by_cases hbn:b<n
 .exact h a b hab hbn
 .obtain rfl:b=n:=by lia
  by_cases ha:a=b-1
  .rw[ha];exact hl
  .exact O.tr _ _ _ (P.bd ()) (P.bd ()) (P.bd ()) hl (h a (b-1) () ())
theorem Dsc.rev(P:Plc N p)(h:Dsc lt p n)(hn:n<=N):Asc lt (kas_rev p 0 n) n/\Plc N (kas_rev p 0 n):=by
 have hp:(kas_rev p 0 n).toList.Perm p.toList:=Array.perm_iff_toList_perm.mp (mirror_perm _ _ _ _);have P':Plc N (kas_rev p 0 n):=⟨hp.trans P.pm⟩
 have ix:∀k,k<n->at_ (kas_rev p 0 n) k=at_ p (n-1-k):=λk hk=>by
  have e:=getElem?_mirror_all (i:=0) (by rw[P.sz];exact hn) k;have h1:(kas_rev p 0 n)[k]?=p[0+n-1-k]?:=by unfold kas_rev;rw[e,if_pos ⟨by lia,hk⟩]
  rw[P'.get (),show 0+n-1-k=n-1-k by lia,P.get ()]at h1;exact Option.some.inj h1
 refine⟨λa b hab hb=>?_,P'⟩;rw[ix a (),ix b hb];exact h _ _ () ()
variable{cmp:Nat->Nat->(Bool->Shared->Prop)->Shared->Prop}{s:Shared}
abbrev Cmp(N:Nat)(lt:Nat->Nat->Bool)(cmp:Nat->Nat->(Bool->Shared->Prop)->Shared->Prop)(s:Shared):Prop:=∀(i j:Nat) (C:Bool->Shared->Prop),i<N->j<N->C (lt i j) s->cmp i j C s
theorem ut(O:Ord N lt)(C:Cmp N lt cmp s)(P:Plc N p):∀(f n:Nat) (Q:Nat->Shared->Prop),1<=n->n+f=N->Asc lt p n->(∀m,n<=m->m<=N->Asc lt p m->(m<N->lt (at_ p m) (at_ p (m-1))=true)->Q m s)->(kas_asc p f n).kasWp cmp Q s
 |0,n,Q,h1,hn,ha,k=>k n (Nat.le_refl _) () ha ()
 |f+1,n,Q,h1,hn,ha,k=>by
  refine C _ _ _ (P.bd ()) (P.bd ()) ?_;cases e:lt (at_ p n) (at_ p (n-1))with
  |true=>exact k n (Nat.le_refl _) () ha λ_=>e
  |false=>have hl:=O.tot _ _ (P.bd ()) (P.bd ()) (λz=>by have:=P.inj () () z;lia) e;exact ut O C P f (n+1) Q () () (ha.more O P h1 () hl) λm hm=>k m ()
def Al(O:Ord N lt)(C:Cmp N lt cmp s)(P:Plc N p):∀(f n:Nat) (Q:Array Nat×Nat×Nat->Shared->Prop),1<=n->n+f=N->Dsc lt p n->(∀m,n<=m->m<=N->Dsc lt p m->Q (p,m,0) s)->(kas_desc f p n 0).kasWp cmp Q s
 |0,n,Q,h1,hn,ha,k=>k n (Nat.le_refl _) () ha
 |f+1,n,Q,h1,hn,ha,k=>by
  refine C _ _ _ (P.bd ()) (P.bd ()) ?_;cases e:lt (at_ p n) (at_ p (n-1))with
  |true=>exact Al O C P f (n+1) Q () () (ha.more O P h1 () e) λm hm=>k m ()
  |false=>have hl:=O.tot _ _ (P.bd ()) (P.bd ()) (λz=>by have:=P.inj () () z;lia) e;refine C _ _ _ (P.bd ()) (P.bd ()) ?_;have e2:lt (p.getD (n-1) 0) (p.getD n 0)=true:=hl;rw[e2];exact k n (Nat.le_refl _) () ha
theorem Ar(O:Ord N lt)(C:Cmp N lt cmp s)(P:Plc N p)(h2:2<=N)(Q:Nat×Array Nat->Shared->Prop)(k:∀m p',1<=m->m<=N->Plc N p'->Asc lt p' m->Q (m,p') s):(kas_count N p).kasWp cmp Q s:=by
 unfold kas_count;rw[KasT.kasWp_bind];refine ut O C P (N-1) 1 _ (Nat.le_refl _) () (λa b _ hb=>by lia) λn h1 hn ha hs=>?_;by_cases e:n=N
 .rw[if_pos (by simpa using e)];exact k n p h1 hn P ha
 .rw[if_neg (by simpa using e)];by_cases hn1:n>1
  .rw[if_pos hn1];refine C _ _ _ (P.bd ()) (P.bd ()) ?_;have e2:lt (p.getD 0 0) (p.getD (n-1) 0)=true:=ha 0 (n-1) () ();rw[e2];exact k n p h1 hn P ha
  .rw[if_neg hn1];obtain rfl:n=1:=by lia
   unfold kas_descPart;rw[KasT.kasWp_bind];refine Al O C P (N-2) 2 _ () () (λa b hab hb=>?_) λm hm1 hm2 hd=>?_
   .obtain rfl:a=0:=by lia
    obtain rfl:b=1:=by lia
    exact hs ()
   .dsimp only;rw[if_neg (Nat.lt_irrefl 0)];obtain⟨ha',P'⟩:=hd.rev P hm2;unfold kas_tail3;rw[KasT.kasWp_bind];exact ut O C P' (N-m) m _ () () ha' λn' h1' hn' ha'' _=>k n' _ () hn' P' ha''
theorem mU(O:Ord N lt)(C:Cmp N lt cmp s)(P:Plc N p)(hk:k<N)(ha:Asc lt p k):∀(f l r:Nat) (Q:Nat->Shared->Prop),l<=r->r<=k->r-l<=f->(∀a,a<l->lt (at_ p a) (at_ p k)=true)->(∀a,r<=a->a<k->lt (at_ p k) (at_ p a)=true)->
  (∀m,m<=k->(∀a,a<m->lt (at_ p a) (at_ p k)=true)->(∀a,m<=a->a<k->lt (at_ p k) (at_ p a)=true)->Q m s)->(kas_place p k f l r).kasWp cmp Q s
 |0,l,r,Q,h1,h2,h3,h4,h5,q=>by
  obtain rfl:l=r:=by lia
  exact q l h2 h4 h5
 |f+1,l,r,Q,h1,h2,h3,h4,h5,q=>by
  unfold kas_place;by_cases e:l >= r
  .rw[if_pos e];obtain rfl:l=r:=by lia
   exact q l h2 h4 h5
  .rw[if_neg e];have hm2:l <=(l+r) / 2:=by lia
   refine C _ _ _ (P.bd hk) (P.bd ()) ?_;cases e2:lt (at_ p k) (at_ p ((l+r) / 2))with
   |true=>
    refine mU O C P hk ha f l ((l+r) / 2) Q hm2 () () h4 (λa h6 h7=>?_) q;by_cases hae:a=(l+r) / 2
    .rw[hae];exact e2
    .exact O.tr _ _ _ (P.bd hk) (P.bd ()) (P.bd ()) e2 (ha _ a () h7)
   |false=>
    have hl:=O.tot _ _ (P.bd hk) (P.bd ()) (λz=>by have:=P.inj hk () z;lia) e2;refine mU O C P hk ha f ((l+r) / 2+1) r Q () h2 () (λa h6=>?_) h5 q;by_cases hae:a=(l+r) / 2
    .rw[hae];exact hl
    .exact O.tr _ _ _ (P.bd ()) (P.bd ()) (P.bd hk) (ha a _ () ()) hl
theorem Ay(O:Ord N lt)(C:Cmp N lt cmp s):∀(f k:Nat) (p:Array Nat) (Q:Array Nat->Shared->Prop),Plc N p->Asc lt p k->k+f=N->(∀p',Plc N p'->Asc lt p' N->Q p' s)->(kas_bin f p k).kasWp cmp Q s
 |0,k,p,Q,P,ha,hk,q=>q p P ()
 |f+1,k,p,Q,P,ha,hk,q=>by
  unfold kas_bin;rw[KasT.kasWp_bind];refine mU O C P () ha k 0 k _ (zero_le _) (Nat.le_refl _) () (λ_ z=>absurd z (not_lt_zero _)) (λa h1 h2=>by lia) λm hm h1 h2=>?_;have P':Plc N (bubble p k (k-m)):=⟨(Array.perm_iff_toList_perm.mp (bubble_perm _ _ _)).trans P.pm⟩
  have ix:=getElem?_bubble (src:=k) (by rw[P.sz];lia) (k-m) ();have g:∀i,i<k+1->at_ (bubble p k (k-m)) i=if i=m then at_ p k else if m<i then at_ p (i-1)else at_ p i:=λi hi=>by
   have e:=ix i;rw[P'.get ()]at e;have hkm:k-(k-m)=m:=by lia
   rw[hkm]at e;by_cases c1:i=m
   .rw[if_pos c1];rw[if_pos c1,P.get ()]at e;exact Option.some.inj e
   .rw[if_neg c1]at e ⊢;by_cases c2:m<i
    .rw[if_pos c2];rw[if_pos ⟨c2,by lia⟩,P.get ()]at e;exact Option.some.inj e
    .rw[if_neg c2];rw[if_neg (λz=>c2 z.1),P.get ()]at e;exact Option.some.inj e
  refine Ay O C f (k+1) _ Q P' (λa b hab hb=>?_) () q;rw[g a (),g b hb];by_cases a1:a=m
  .rw[if_pos a1,if_neg (),if_pos ()];exact h2 (b-1) () ()
  .rw[if_neg a1];by_cases a2:m<a
   .rw[if_pos a2,if_neg (),if_pos ()];exact ha _ _ () ()
   .rw[if_neg a2];by_cases b1:b=m
    .rw[if_pos b1];exact h1 a ()
    .rw[if_neg b1];by_cases b2:m<b
     .rw[if_pos b2];by_cases hh:a=b-1
      .lia
      .exact ha _ _ () ()
     .rw[if_neg b2];exact ha _ _ hab ()
theorem A7(O:Ord N lt)(C:Cmp N lt cmp s)(h2:2<=N)(Q:Array Nat->Shared->Prop)(q:∀p,Plc N p->Asc lt p N->Q p s):(kas_sort N).kasWp cmp Q s:=by
 unfold kas_sort;rw[KasT.kasWp_bind];refine Ar O C ⟨by simp⟩ h2 _ λm p' h1 hm P ha=>?_;by_cases e:m<N
 .rw[if_pos e,Nat.max_eq_left h1];exact Ay O C (N-m) m p' Q P ha () q
 .rw[if_neg e];obtain rfl:m=N:=by lia
  exact q p' P ha
end
end PR
namespace PR
open PySem PySem.Spec L2 PyProof.Rows PySem.W
section
variable{prog:Program}{w:World}{A:Around}{E:Lj}{s:Shared}
def m5(vs:Lr)(p:Array Nat):Ly:=(p.toList.map λi=>vs.getD i Value.none).toArray
def wg(N:Nat):Plc N (range N).toArray:=⟨by simp⟩
def lI:m5 vs (range vs.length).toArray=vs.toArray:=by unfold m5;congr 1;refine ext_getElem () λi h1 h2=>?_;simp[h2]
theorem AR{vs:Lr}(h:vs.length<2):(vs.toArray.zip vs.toArray).map (·.2)=vs.toArray:=by
 cases vs with
 |nil=>simp
 |cons v l=>cases l with
  |nil=>simp
  |cons w l=>simp only[List.length_cons]at h;omega
theorem wF{κ:SortKind}(ho:s.heap.get? a=some (seqObj "list" vs.toArray n))(h64:vs.length<64)
  (hK:2<=vs.length->∀s':Shared,(∀b o,b≠a->s.heap.get? b=some o->s'.heap.get? b=some o)->Ord vs.length lt/\(∀Q:SortKind->Shared->Prop,Q κ s'->wpAny (model prog w) A (keyKind' vs.toArray) Q E s')/\Cmp vs.length lt (kas_ask prog w A κ vs) s')
  (h:∀p,Plc vs.length p->Asc lt p vs.length->P (.done (.ret .none)) {s with heap:=sortedHeap s.heap a vs (m5 vs p)}) :
  wpAny (model prog w) A (Builtin.«list.sort» ⟨[.ref a],[]⟩) P E s:=by
 obtain⟨e1,g1⟩:∃e1,(s.heap.update a (Obj.mapSeq λ_=>#[])).get? a=some (seqObj "list" #[] e1):=⟨_,get?_update_seq ho (λ_=>#[])⟩
 have g6:(((s.heap.update a (Obj.mapSeq λ_=>#[])).push (seqObj "tuple" vs.toArray 0)).push (seqObj "list" #[] 0)).get? a=some (seqObj "list" #[] e1):=get?_push_of_some _ (get?_push_of_some _ g1);have kp:∀b o,b≠a->s.heap.get? b=some o->(((s.heap.update a (Obj.mapSeq λ_=>#[])).push (seqObj "tuple" vs.toArray 0)).push (seqObj "list" #[] 0)).get? b=some o:=λb o hb q=>
  get?_push_of_some _ (get?_push_of_some _ ((Heap.get?_update_ne _ _ _ _ hb).trans q))
 rw[list_sort_plain];refine wpAny_bind (listItems_at ho rfl (wpAny_bind (listUpdate_at ho rfl (wpAny_bind (seqEpoch_at g1 rfl (wpAny_bind (wpAny_newTuple (wpAny_bind (wpAny_newList (wpAny_holding ?_))))))))))<;>try (simp;lia)
 dsimp only;by_cases h2:vs.toArray.size<2
 .have h2':vs.length<2:=by simpa using h2
  rw[if_pos h2,if_pos h2];refine wpAny_bind (wpAny_pure ?_);refine wpAny_bind (wpAny_pure ?_);dsimp only;have e3:(arrOf (SortSt.mk' general' (vs.toArray.zip vs.toArray) #[] 7 none)).map (·.2)=m5 vs (range vs.length).toArray:=by rw[lI];exact AR h2'
  rw[e3];refine wpAny_bind (seqEpoch_at g6 rfl (wpAny_bind (listUpdate_at g6 rfl ?_ (zero_le _) (by rw[lI];lia))));simp only[bne_self_eq_false];exact wpAny_pure (h _ (wg _) λx y hxy hy=>by lia)
 .have h2':2<=vs.length:=by simp at h2;lia
  rw[if_neg h2,if_neg h2];obtain⟨O,hk,C⟩:=hK h2' {s with heap:=((s.heap.update a (Obj.mapSeq λ_=>#[])).push (seqObj "tuple" vs.toArray 0)).push (seqObj "list" #[] 0)} kp;refine wpAny_bind (hk _ ?_);refine wpAny_bind (wpAny_mono (kat_run (Q:=λst' s'=>∃ p:Array Nat,arrOf st'=p.map (kas_item (vs.toArray.zip vs.toArray))/\failedOf st'=none/\Plc vs.length p/\Asc lt p vs.length/\s'=_) rfl h2' h64
   (λp st' s' _ a2 a3 a4=>⟨p,a2,a3,a4⟩) (A7 O C h2' _ λp c1 c2=>⟨c1,c2,rfl⟩)) ?_ λ_ _ e=>e)
  rintro⟨⟨⟩,st'⟩ s' ⟨p,har,hf,c1,c2,rfl⟩;have e3:=kat_snds rfl har;rw[e3];refine wpAny_bind (seqEpoch_at g6 rfl (wpAny_bind (listUpdate_at g6 rfl ?_ (zero_le _) (by
   rw[size_toArray,length_map,Array.length_toList,c1.sz,sizeLine_eq];lia))))
  rw[hf];simp only[bne_self_eq_false];exact wpAny_pure (h _ c1 c2)
theorem sY{κ:SortKind}(hl:s.heap.IsList l vs.toArray)(h64:vs.length<64)
  (hK:2<=vs.length->∀s':Shared,(∀b o,s.heap.get? b=some o->s'.heap.get? b=some o)->Ord vs.length lt/\(∀(E:Lj) (Q:SortKind->Shared->Prop),Q κ s'->wpAny (model prog w) A.in1.in1 (keyKind' vs.toArray) Q E s')/\Cmp vs.length lt (kas_ask prog w A.in1.in1 κ vs) s')
  (h:∀p,Plc vs.length p->Asc lt p vs.length->Q (.ref (s.heap.objs.size+1)) {s with heap:=sortedAll s.heap vs (m5 vs p)}) :
  wpAny (model prog w) A (call (.builtin "sorted") [.ref l]) Q E s:=by
 refine Calls.call_function_entry kind_sorted plain_sorted entry_sorted (args_sorted1 _) ?_;have sz:((s.heap.push (seqObj "list" #[] 0)).update s.heap.objs.size (Obj.mapSeq (·++vs.toArray))).objs.size=s.heap.objs.size+1:=(Heap.size_update _ _ _).trans (size_push' _ _);refine wpAny_bind (wpAny_pure (wpAny_bind (collect_list hl (wpAny_bind (wpAny_newList ?_ (by rw[sizeLine_eq];lia))) (by rw[sizeLine_eq];lia))));have g:(((s.heap.push (seqObj "list" #[] 0)).update s.heap.objs.size (Obj.mapSeq (·++vs.toArray))).push (seqObj "list" vs.toArray 0)).get? (s.heap.objs.size+1)=some (seqObj "list" vs.toArray 0):=sz▸get?_push_size _ rfl;have kp:∀b o,s.heap.get? b=some o->(((s.heap.push (seqObj "list" #[] 0)).update s.heap.objs.size (Obj.mapSeq (·++vs.toArray))).push (seqObj "list" vs.toArray 0)).get? b=some o:=λb o q=>
  get?_push_of_some _ ((Heap.get?_update_ne _ _ _ _ (Nat.ne_of_lt (lt_size q))).trans (get?_push_of_some _ q))
 rw[sz];refine wpAny_bind (wpAny_holding (wpAny_call_entry slot_list_sort ⟨_,g,rfl⟩ entry_list_sort ?body (args_list_sort _)));refine wF (κ:=κ) g h64 (λh2 s' k'=>?_) λp c1 c2=>⟨_,rfl,wpAny_pure ⟨_,rfl,h p c1 c2⟩⟩
 obtain⟨O,hk,C⟩:=hK h2 s' λb o q=>k' b o (Nat.ne_of_lt (Nat.lt_succ_of_lt (lt_size q))) (kp b o q);exact⟨O,λQ q=>hk _ Q q,C⟩
noncomputable def f_(x y:Int×Int):Bool:=decide (x.1<y.1) ||(x.1==y.1&&decide (x.2<y.2))
theorem jK(h1:f_ x y=true)(h2:f_ y z=true):f_ x z=true:=by
 simp only[f_]at *
 lia
def rh(x:Int×Int):f_ x x=false:=by simp[f_]
theorem q_(h:x≠y):f_ x y=true\/f_ y x=true:=by
 obtain⟨a,b⟩:=x;obtain⟨c,d⟩:=y;have:a≠c\/b≠d:=by lia
 simp only[f_,or_eq_true,and_eq_true]
 lia
def dL(h:Heap):Lr->Ln->Prop
 | [],[]=>True
 |v::vs,x::ps=>(∃a o n t u,v=.ref a/\h.get? a=some o/\o.cls=.type "tuple" /\ o.data=.seq #[.int x.1 t,.int x.2 u] n)/\dL h vs ps
 |_,_=>False
def dL.len:∀{vs:Lr}{ps:Ln},dL h vs ps->vs.length=ps.length
 | [],[],_=>rfl
 |_::_,_::_,q=>by simp[q.2.len]
def dL.kept(k:∀b o,h.get? b=some o->h'.get? b=some o){vs:Lr}{ps:Ln}(r:dL h vs ps):dL h' vs ps:=by
 induction ps generalizing vs with
 |nil=>cases vs with
  |nil=>trivial
  |cons=>exact r.elim
 |cons x ps i=>cases vs with
  |nil=>exact r.elim
  |cons=>obtain⟨⟨a,o,n,t,u,e1,e2,e3⟩,q⟩:=r;exact⟨⟨a,o,n,t,u,e1,k _ _ e2,e3⟩,i q⟩
def dL.at{vs:Lr}{ps:Ln}(r:dL h vs ps)(i)(hi:i<ps.length):∃a o n t u,vs.getD i Value.none=.ref a/\h.get? a=some o/\o.data=.seq #[.int (ps.getD i (0,0)).1 t,.int (ps.getD i (0,0)).2 u] n:=by
 induction ps generalizing vs i with
 |nil=>simp at hi
 |cons x ps k=>cases vs with
  |nil=>exact r.elim
  |cons v vs=>
   obtain⟨⟨a,o,n,t,u,e1,e2,e3⟩,q⟩:=r;cases i with
   |zero=>exact⟨a,o,n,t,u,by simp[e1],e2,by simpa using e3.2⟩
   |succ i=>have:=k q i (by simp_all);simpa using this
def dL.firsts{vs:Lr}{ps:Ln}(r:dL h vs ps):∃fs,KatTups h vs fs/\fs.length=ps.length/\∀v∈fs,∃i t,v=.int i t:=by
 induction ps generalizing vs with
 |nil=>cases vs with
  |nil=>exact⟨[],.nil,rfl,λv hv=>by cases hv⟩
  |cons=>exact r.elim
 |cons x ps k=>cases vs with
  |nil=>exact r.elim
  |cons=>
   obtain⟨⟨a,o,n,t,u,e1,e2,e3,e4⟩,q⟩:=r;obtain⟨fs,h1,h2,h3⟩:=k q;subst e1;refine⟨_::fs,.cons e2 e3 e4 rfl h1,by simp[h2],λv hv=>?_⟩;rcases mem_cons.mp hv with rfl|hv
   .exact⟨_,_,rfl⟩
   .exact h3 v hv
def wp{ps:Ln}(hd:ps.Nodup):Ord ps.length (λi j=>f_ (ps.getD i (0,0)) (ps.getD j (0,0))):=by
 refine⟨λi j k _ _ _ h1 h2=>jK h1 h2,λi j hi hj hn h=>?_,λi _=>rh _⟩;have:ps.getD i (0,0)≠ ps.getD j (0,0):=by simp only[getD_eq_getElem?_getD,getElem?_eq_getElem hi,getElem?_eq_getElem hj];exact λe=>hn ((getElem_inj hd).mp e)
 rcases q_ this with q|q
 .rw[q]at h;cases h
 .exact q
def oR(h:Q (decide (x<y)) s):wpAny (model prog w) A (oneLt' b (.int x t) (.int y u)) Q E s:=by
 cases b with
 |true=>exact oneLt_int h
 |false=>exact kat_one _ _ (wpAny_lt_int h)
def wq(hp:dL s.heap vs ps):Cmp vs.length (λi j=>f_ (ps.getD i (0,0)) (ps.getD j (0,0))) (kas_ask prog w A (tuples' true) vs) s:=by
 intro i j C hi hj q;rw[hp.len]at hi hj;obtain⟨a,o,n,t,u,e1,e2,e3⟩:=hp.at i hi;obtain⟨a',o',n',t',u',e1',e2',e3'⟩:=hp.at j hj;unfold kas_ask;rw[e1,e1'];dsimp only at q;generalize ps.getD i (0,0)=x at *;generalize ps.getD j (0,0)=y at *;refine kat_lt e2 e3 e2' e3' (kat_cons (wpAny_eqBool_int (kat_go (λh1=>kat_yes (kat_cons (wpAny_eqBool_int (kat_go (λh2=>kat_yes (kat_nil ?_)) λh2=>kat_no (oR ?_))))) λh1=>kat_no (oR ?_))))
 .simp at h1 h2;have:f_ x y=false:=by simp[f_,h1,h2]
  rw[this]at q;exact q
 .simp at h1;have:f_ x y=decide (x.2<y.2):=by simp[f_,h1]
  rw[this]at q;exact q
 .have:f_ x y=decide (x.1<y.1):=by simp[f_,h1]
  rw[this]at q;exact q
theorem tP(hp:dL s.heap vs ps)(h2:2<=vs.length){Q:SortKind->Shared->Prop}(q:Q (tuples' true) s):wpAny (model prog w) A (keyKind' vs.toArray) Q E s:=by obtain⟨fs,h1,hl,hi⟩:=hp.firsts;refine kat_kind (T:=.type "int") h1 (by rw[hl,<- hp.len];lia) (λv hv=>?_) rfl q;obtain⟨i,t,rfl⟩:=hi v hv;exact Looks.of_pure rfl
def pN(hl:s.heap.IsList l vs.toArray)(h64:vs.length<64)(hp:dL s.heap vs ps)(hd:ps.Nodup)
  (h:∀p,Plc vs.length p->Asc (λi j=>f_ (ps.getD i (0,0)) (ps.getD j (0,0))) p vs.length->Q (.ref (s.heap.objs.size+1)) {s with heap:=sortedAll s.heap vs (m5 vs p)}) :
  wpAny (model prog w) A (call (.builtin "sorted") [.ref l]) Q E s:=
 sY hl h64 (λh2 s' k=>⟨hp.len▸wp hd,λE Q q=>tP (hp.kept k) h2 q,wq (hp.kept k)⟩) h
end
end PR
namespace PR
open PySem PySem.Spec L2 PyProof.Rows
noncomputable def uc(x:Int):Lq->Lq
 | []=>[x]
 |y::l=>if x<=y then x::y::l else y::uc x l
def iU:Lq->Lq
 | []=>[]
 |x::l=>uc x (iU l)
def lc(x:Int):∀l,(uc x l).Perm (x::l)
 | []=>.refl _
 |y::l=>by
  unfold uc;split
  .exact .refl _
  .exact((lc x l).cons y).trans (.swap x y l)
def d9:∀l,(iU l).Perm l
 | []=>.refl _
 |x::l=>(lc x _).trans ((d9 l).cons x)
theorem rT(x:Int):∀{l:Lq},l.Pairwise (·<=·)->(uc x l).Pairwise (·<=·)
 | [],_=>by simp[uc]
 |y::l,h=>by
  obtain⟨h1,h2⟩:=pairwise_cons.mp h;unfold uc;split
  .refine pairwise_cons.mpr ⟨λz hz=>?_,h⟩;rcases mem_cons.mp hz with rfl|hz
   .assumption
   .have:=h1 z hz;lia
  .refine pairwise_cons.mpr ⟨λz hz=>?_,rT x h2⟩;rcases mem_cons.mp ((lc x l).mem_iff.mp hz)with rfl|hz
   .lia
   .exact h1 z hz
def kI:∀l,(iU l).Pairwise (·<=·)
 | []=>.nil
 |x::l=>rT x (kI l)
def mF{l l':Lq}(h1:l'.Perm l)(h2:l'.Pairwise (·<=·)):l'=iU l:=
 List.Perm.eq_of_pairwise (λa b _ _ x y=>Int.le_antisymm x y) h2 (kI l) (h1.trans (d9 l).symm)
def ua(x:Int×Int):Ln->Ln
 | []=>[x]
 |y::l=>if f_ x y then x::y::l else y::ua x l
def bw:Ln->Ln
 | []=>[]
 |x::l=>ua x (bw l)
def k_(x:Int×Int):∀l,(ua x l).Perm (x::l)
 | []=>.refl _
 |y::l=>by
  unfold ua;split
  .exact .refl _
  .exact((k_ x l).cons y).trans (.swap x y l)
def b5:∀l,(bw l).Perm l
 | []=>.refl _
 |x::l=>(k_ x _).trans ((b5 l).cons x)
def rS(x:Int×Int):∀{l:Ln},x∉l->l.Pairwise (λa b=>f_ a b=true)->(ua x l).Pairwise (λa b=>f_ a b=true)
 | [],_,_=>by simp[ua]
 |y::l,hn,h=>by
  obtain⟨h1,h2⟩:=pairwise_cons.mp h;unfold ua;split
  .refine pairwise_cons.mpr ⟨λz hz=>?_,h⟩;rcases mem_cons.mp hz with rfl|hz
   .assumption
   .exact jK ‹_› (h1 z hz)
  .refine pairwise_cons.mpr ⟨λz hz=>?_,rS x (λz=>hn (mem_cons_of_mem _ z)) h2⟩;rcases mem_cons.mp ((k_ x l).mem_iff.mp hz)with rfl|hz
   .rcases q_ (y:=z) (λe=>hn (e▸mem_cons_self))with q|q
    .exact q
    .contradiction
   .exact h1 z hz
def oF:∀{l:Ln},l.Nodup->(bw l).Pairwise (λa b=>f_ a b=true)
 | [],_=>.nil
 |x::l,h=>by obtain⟨h1,h2⟩:=nodup_cons.mp h;exact rS x (λz=>h1 ((b5 l).mem_iff.mp z)) (oF h2)
def sZ(hd:l.Nodup)(h1:l'.Perm l)(h2:l'.Pairwise (λa b=>f_ a b=true)):l'=bw l:=
 List.Perm.eq_of_pairwise (λa b _ _ x y=>by
  have:=jK x y;rw[rh]at this;cases this) h2 (oF hd) (h1.trans (b5 l).symm)
def wc{α:Type}(l:List α)(d:α):(range l.length).map (λi=>l.getD i d)=l:=by refine ext_getElem () λi h1 h2=>?_;simp[h2]
theorem wf{ps:Ln}{p:Array Nat}(hd:ps.Nodup)(P:Plc ps.length p)(a:Asc (λi j=>f_ (ps.getD i (0,0)) (ps.getD j (0,0))) p ps.length):p.toList.map (λi=>ps.getD i (0,0))=bw ps:=by
 refine sZ hd (by have:=P.pm.map (λi=>ps.getD i (0,0));rwa [wc]at this) ?_;refine List.pairwise_iff_getElem.mpr λi j hi hj hij=>?_;have hs:=P.sz;have hi':i<p.size:=by simpa using hi
 have hj':j<p.size:=by simpa using hj
 have:=a i j hij ();simpa[at_,hi',hj']using this
def PrH(K:PySem.W.Frag)(H:Hp):Lz->Ln->Prop
 | [],[]=>True
 |v::vs,x::ps=>(∃a,v=.ref a/\SqT K H a [.int x.1,.int x.2])/\PrH K H vs ps
 |_,_=>False
def PrH.len{K:PySem.W.Frag}{H:Hp}:∀{vs:Lz}{ps:Ln},PrH K H vs ps->vs.length=ps.length
 | [],[],_=>rfl
 |_::_,_::_,q=>by simp[q.2.len]
section
variable{X:Cx}{T:Tb}{W:Nat->L2.St->LA}{Z:Zn}{F F1 B L:Lp}{H H1:Hp}{Y:L2.St}{env:En}{fp:Nat->Lu}{js:Lo}{s:Shared}
def PrH.at(I:L2.Inv X js Y H s):∀{vs:Lz}{its:Lr}{ps:Ln},PrH X.K H vs ps->aY vs its->dL s.heap its ps
 | [],_,[],_,r=>by cases r;trivial
 |_::_,_,_::_,⟨⟨a,e,h⟩,q⟩,r=>by
  cases r with
  |cons h1 h2=>
   subst e;cases h1;refine⟨?_,q.at I h2⟩;obtain⟨its,r,pl,_⟩:=I.tuple h;obtain⟨u,r2,rfl,⟨t,rfl⟩,r3⟩:∃u r2,its=u::r2/\bT _ u/\aY _ r2:=by cases r with|cons a b=>exact⟨_,_,rfl,a,b⟩
   obtain⟨u',rfl,⟨t',rfl⟩⟩:=eY r3;obtain⟨o,ho,hcl,n,hd⟩:=pl;exact⟨a,o,n,t,t',rfl,ho,hcl,hd⟩
def xi{vs:Lz}{its:Lr}(r:aY vs its)(q:List Nat)(hq:∀i∈q,i<vs.length):aY (q.map λi=>vs.getD i .non) (q.map λi=>its.getD i Value.none):=by
 induction q with
 |nil=>exact .nil
 |cons i q ih=>
  refine .cons ?_ (ih λj hj=>hq j (mem_cons_of_mem _ hj));have hi:=hq i mem_cons_self;have:∀{vs:Lz}{its:Lr}{i:Nat},aY vs its->i<vs.length->bT (vs.getD i .non) (its.getD i Value.none):=by
   intro vs its i r
   induction r generalizing i with
   |nil=>intro h;simp at h
   |cons a b ih=>
    intro h;cases i with
    |zero=>simpa using a
    |succ i=>simpa using ih (by simpa using h)
  exact this r hi
def qc:∀{ns:Lq}{its:Lr},PyProof.Rows.IntsAre its ns->aY (ns.map V.int) its:=by
 intro ns its h
 induction h with
 |nil=>exact .nil
 |cons=>exact .cons ⟨_,rfl⟩ ‹_›
theorem sC:e_ X (.builtin "sorted") (λxs H Q=>∃ p ys,xs=[.ref p]/\SqL X.K H p ys/\ys.length < 64 /\
    ((∃ ns,ys=ns.map V.int/\∀ l,H l=none->Q (.ref l) (upd H l (.lst ((iU ns).map V.int)))) \/
     (∃ps,PrH X.K H ys ps/\ps.Nodup/\∀l (q:List Nat),H l=none->q.Perm (range ys.length)->q.map (λi=>ps.getD i (0,0))=bw ps->Q (.ref l) (upd H l (.lst (q.map λi=>ys.getD i .non)))))):=by
  intro js s Y H xs us Q I rv h;obtain⟨p,ys,rfl,hq,h64,h⟩:=h;obtain⟨u,rfl,rx⟩:=eY rv;cases rx;obtain⟨its,r,pl,hz⟩:=I.list hq;have hlen:=r.length;have hfr:=I.hok.fresh (le_succ s.heap.objs.size);rcases h with⟨ns,rfl,q⟩ |⟨ps,hp,hd,q⟩
  . refine sorted_ints pl.isList (iw r) () λout ns' a1 a2 a3=>?_;obtain⟨c,hc⟩:=sortedAll_at s.heap its out;have e:=mF a2 a3;subst e;refine⟨.ref (s.heap.objs.size+1),_,I.laid (λb o=>sortedAll_old) (le_succ _) ?_,rfl,q _ hfr⟩;refine⟨?_,out.toList,c,qc a1,by simpa using hc⟩;rw[sizeLine_eq];simp[(d9 ns).length_eq]at h64 ⊢;lia
  . refine pN pl.isList () (hp.at I r) hd λp P a=>?_;obtain⟨c,hc⟩:=sortedAll_at s.heap its (m5 its p);have hl:=hp.len;have pm:p.toList.Perm (range ys.length):=by rw[hlen];exact P.pm
    refine⟨.ref (s.heap.objs.size+1),_,I.laid (λb o=>sortedAll_old) (le_succ _) ?_,rfl,q _ p.toList hfr pm (wf hd () ())⟩;refine⟨?_,_,c,xi r p.toList (λi hi=>by simpa using pm.mem_iff.mp hi),hc⟩;rw[sizeLine_eq];simp[P.sz];lia
end
end PR
namespace PR
open PySem PySem.Spec L2
noncomputable def prV(x:Int×Int):PV:=.tup [.int x.1,.int x.2]
noncomputable def mZ:PV->Option (Int×Int)
 |.tup [.int a,.int b]=>some (a,b)
 |_=>none
def i5:LB->Option (Ln)
 | []=>some []
 |x::xs=>match mZ x,i5 xs with
  |some y,some ys=>some (y::ys)
  |_,_=>none
def d5:PV->LC
 | .lst _ xs=>if decide (xs.length < 64) then (match bO xs with
  |some ns=>.ok (.lst .own ((iU ns).map .int))
  |none=>match i5 xs with
   |some ps=>if decide ps.Nodup then .ok (.lst .own ((bw ps).map prV))else .stuck
   |none=>.stuck)else .stuck
 |_=>.stuck
section
variable{X:Cx}{T:Tb}{W:Nat->St->LA}{Z:Zn}{F F1 B L:Lp}{H H1:Hp}{Y:St}{env:En}{fp:Nat->Lu}
def wt(e:mZ x=some y):x=prV y:=by
 unfold mZ at e;split at e
 .cases e;rfl
 .cases e
def mY:∀{xs:LB}{vs:Lz}{f:Lu}{ps:Ln},i5 xs=some ps->RelL T F B L H xs vs f->PrH T.K H vs ps/\f=[]
 | [],_,_,_,e,r=>by cases e;obtain⟨rfl,rfl⟩:=r;exact⟨trivial,rfl⟩
 |x::xs,_,_,ps,e,r=>by
  obtain⟨v,ws,f1,f2,rfl,h1,h2,rfl⟩:=r;unfold i5 at e;cases e1:mZ x with
  |none=>rw[e1]at e;cases e
  |some y=>
   cases e2:i5 xs with
   |none=>rw[e1,e2]at e;cases e
   |some ys=>rw[e1,e2]at e;cases e;obtain⟨q,rfl⟩:=mY e2 h2;have:=wt e1;subst this;obtain⟨a,us,rfl,hs,hr⟩:=h1;obtain⟨v1,w1,g1,g2,rfl,k1,k2,rfl⟩:=hr;obtain⟨v2,rfl,k3⟩:=RelL.one k2;obtain⟨rfl,rfl⟩:=k1;obtain⟨rfl,rfl⟩:=k3;exact⟨⟨⟨a,rfl,hs⟩,q⟩,rfl⟩
def PrH.rel:∀{vs:Lz}{ps:Ln},PrH T.K H vs ps->RelL T F B L H (ps.map prV) vs []
 | [],[],_=>fM _ _ _ _
 |_::_,x::ps,⟨⟨a,e,h⟩,q⟩=>by subst e;refine⟨_,_,[],[],rfl,?_,q.rel,rfl⟩;refine⟨a,_,rfl,h,?_⟩;refine⟨_,_,[],[],rfl,fN,?_,rfl⟩;exact⟨_,_,[],[],rfl,fN,fM _ _ _ _,rfl⟩
def PrH.get:∀{vs:Lz}{ps:Ln},PrH K H vs ps->∀i,i<vs.length->∃a,vs.getD i .non=.ref a/\SqT K H a [.int (ps.getD i (0,0)).1,.int (ps.getD i (0,0)).2]
 |_::_,_::_,⟨h,q⟩,0,_=>by simpa using h
 |_::_,_::_,⟨_,q⟩,i+1,hi=>by simpa using q.get i (by simp_all)
 | [],[],_,_,hi=>by simp at hi
def PrH.map(h:PrH K H vs ps)(q:List Nat)(hq:∀i∈q,i<vs.length):PrH K H (q.map λi=>vs.getD i .non) (q.map λi=>ps.getD i (0,0)):=by
 induction q with
 |nil=>trivial
 |cons i q ih=>exact⟨h.get i (hq i mem_cons_self),ih λj hj=>hq j (mem_cons_of_mem _ hj)⟩
def Bz(ns:Lq):RelL T F B L H (ns.map PV.int) (ns.map V.int) []:=by
 induction ns with
 |nil=>exact fM _ _ _ _
 |cons a l ih=>exact⟨_,_,[],[],rfl,fN,ih,rfl⟩
def RelL.len2:∀{xs:LB}{vs:Lz}{f:Lu},RelL T F B L H xs vs f->xs.length=vs.length
 | [],_,_,r=>by rw[r.1];rfl
 |x::xs,_,_,r=>by obtain⟨v,ws,f1,f2,rfl,_,h2,_⟩:=r;simp[h2.len2]
theorem tY(hK:X.K=T.K):Mir T W (p1 d5) (λxs H Q=>∃ p ys,xs=[.ref p]/\SqL X.K H p ys/\ys.length < 64 /\
    ((∃ ns,ys=ns.map V.int/\∀ l,H l=none->Q (.ref l) (upd H l (.lst ((iU ns).map V.int)))) \/
     (∃ps,PrH X.K H ys ps/\ps.Nodup/\∀l (q:List Nat),H l=none->q.Perm (range ys.length)->q.map (λi=>ps.getD i (0,0))=bw ps->Q (.ref l) (upd H l (.lst (q.map λi=>ys.getD i .non)))))):=by
  intro B F L Y H Q F' H' xs vs fx g r nf nd new q
  match xs,r,q with
  | [x],r,q=>
    obtain⟨v,rfl,r1⟩:=r.one;simp only[p1]at q;cases x with
    |lst f xs=>
      obtain⟨a,ws,fp',rfl,hl,hr,_⟩:=r1;simp only[d5]at q;by_cases hn:decide (xs.length<64)=true
      . rw[if_pos hn]at q;refine⟨a,ws,rfl,by rw[hK];exact hl.sq,by rw[<- hr.len2];exact of_decide_eq_true hn,?_⟩;cases e1:bO xs with
        |some ns=>rw[e1]at q;exact .inl ⟨ns,cR e1 hr,GE.newL q g (Bz _) (λ_ h=>by cases h) .nil (λ_ h=>by cases h)⟩
        |none=>
          rw[e1]at q;cases e2:i5 xs with
          |none=>rw[e2]at q;exact q.elim
          |some ps=>
            rw[e2]at q;dsimp only at q;by_cases hd:decide ps.Nodup=true
            . rw[if_pos hd]at q;obtain⟨hp,rfl⟩:=mY e2 hr;refine .inr ⟨ps,by lia,of_decide_eq_true hd,λl q' hl' pm e=>?_⟩;have h2:=hp.map q' λi hi=>by simpa using pm.mem_iff.mp hi
              rw[e]at h2;exact GE.newL q g h2.rel (λ_ h=>by cases h) .nil (λ_ h=>by cases h) l hl'
            . rw[if_neg hd]at q;exact q.elim
      . rw[if_neg hn]at q;exact q.elim
    |_=>exact q.elim
  | [],_,q=>exact q.elim
  |_::_::_,_,q=>simp only[p1]at q;exact q.elim
theorem w8:bootBuiltins "sorted"=some (.builtin "sorted"):=by decide +kernel
def g7(hK:X.K=T.K)(hg:Gl X "sorted")(hm:X.mg "sorted"=none)(ha:SE X T W e m)(he:starEach [e] X.env=[(false,eval e X.env)]:=by rfl):SE X T W (.Call (.Name "sorted" p) [e] [] pos) (aq (p1 d5) (ae m am)):=
 fK sC (tY hK) hg hm w8 (ac ha ah (by rw[he];rfl)) (he:=by rw[he];rfl)
end
section
variable{X:Cx}{T:Tb}{W:Nat->St->LA}{Z:Zn}{F:Lp}{H:Hp}{Y:St}{env:En}{fp:Nat->Lu}
def eJ(hg:Gl X x)(hm:∃t,X.mg x=some (.int i t))(hd:Nd x:=by decide):SE X T W (.Name x pos) (mC (.int i)):=by obtain⟨t,h⟩:=hm;exact xG hg h hd
end
noncomputable def jx{α:Type}(n:Nat)(y:α)(xs:List α):List α:=xs.take n++y::xs.drop n
def EU:PV->PV->LC:=gu (λ_ j=>decide (0<=j)) λi j=>.int (i / 2 ^ j.toNat)
def yt:PV->PV->LC:=f8 λi j=>.int (Builtin.bitAnd i j)
def eH(ns:Lq):Bool:=ns.all λv=>decide (-1000000<=v/\v<=1000000)
def ka:PV->LC:=λx=>match a_ x with
 |some xs=>match bO xs with
  |some ns=>if decide (ns.length<=1000)&&eH ns then .ok (.int ns.sum)else .stuck
  |none=>.stuck
 |none=>.stuck
theorem pY(ns:Lq):∀n,n<=ns.length->preSum (λi=>ns.getD i 0) n=(ns.take n).sum
 |0,_=>rfl
 |n+1,h=>by have hn:n<ns.length:=h;have e:preSum (λi=>ns.getD i 0) (n+1)=preSum (λi=>ns.getD i 0) n+ns.getD n 0:=rfl;rw[e,pY ns n (),take_add_one,getElem?_eq_getElem hn,Option.toList_some,sum_append,List.sum_singleton];simp[hn]
theorem oA:∀{ns:Lq},eH ns=true->-(1000000*ns.length:Int)<= ns.sum/\ns.sum<=1000000*ns.length
 | [],_=>by simp
 |n::ns,h=>by
  simp only[eH,all_cons,and_eq_true]at h;have:=oA (by simpa[eH]using h.2);simp
  lia
def s_(h:eH ns=true)(k:Nat):eH (ns.take k)=true:=by simp only[eH,all_eq_true]at h ⊢;exact λx hx=>h x (mem_of_mem_take hx)
section
variable{X:Cx}{T:Tb}{W:Nat->St->LA}{Z:Zn}{F F1 B L:Lp}{H H1:Hp}{Y:St}{env:En}{fp:Nat->Lu}{js:Lo}{s:Shared}{a b:Expr}{ma mb:ME}{pos:Pos}
def El(ha:SE X T W a ma)(hb:SE X T W b mb):SE X T W (.BinOp a .RShift b pos) (mOp EU ma mb):=lG EX (rJ (λ_ _ h=>of_decide_eq_true h) λ_ _ _ _ _ _=>fN) ha hb
def Bp(ha:SE X T W a ma)(hb:SE X T W b mb):SE X T W (.BinOp a .BitAnd b pos) (mOp yt ma mb):=lG E2 (nu λ_ _ _ _ _ _=>fN) ha hb
theorem qq(hc:X.calm=true):e_ X (.builtin "sum") (λxs H Q=>∃p ns,xs=[.ref p]/\(SqL X.K H p (ns.map V.int)\/ SqT X.K H p (ns.map V.int))/\ns.length<=1000/\eH ns=true/\Q (.int ns.sum) H):=by
 intro js s Y H xs us Q I rv h;obtain⟨p,ns,rfl,hq,hn,hsm,q⟩:=h;obtain⟨u,rfl,rx⟩:=eY rv;cases rx;have hh:=I.ok.hd hc;have fit:∀m,m=ns.length->∀j,j<m->InLong (ns.getD j 0)/\InLong (preSum (λi=>ns.getD i 0) (j+1)):=λm e j hj=>by
  subst e;have h1:ns.getD j 0∈ns:=by simp[hj]
  simp only[eH,all_eq_true]at hsm;have h2:=hsm _ h1;have h3:=oA (s_ (k:=j+1) (show eH ns=true by simpa[eH]using hsm));rw[pY ns (j+1) hj];have h4:(ns.take (j+1)).length<=1000:=by simp;lia
  unfold InLong
  lia
 have key:∀{its:Lr},aY (ns.map V.int) its->∀{h':Heap}{tk t':Nat},(∀b o,s.heap.get? b=some o->h'.get? b=some o)->EP X js Y Q (.int (preSum (λi=>ns.getD i 0) its.toArray.size) t') {s with heap:=h',toks:=tk}:=by
  intro its r h' tk t' k;have hl:its.toArray.size=ns.length:=by have:=r.length;simpa using this.symm
  rw[hl,pY ns _ (Nat.le_refl _),take_length];exact⟨.int _,H,gC I k,⟨t',rfl⟩,q⟩
 rcases hq with hq|hq
 .obtain⟨its,r,pl,hz⟩:=I.list hq;have hl:its.toArray.size=ns.length:=by have:=r.length;simpa using this.symm
  obtain⟨o,ho,hcl,n,hd⟩:=pl.isList;have hlt:=lt_size ho;refine call_sum_walk (wpAny_pyIter_list pl.isList ?_);refine⟨_,_,_,_,_,_,(λi=>ns.getD i 0),rfl,Walks.list (A:=X.A.in1) hh _ p (Nat.ne_of_lt hlt) its.toArray,⟨⟨_,get?_push_size _ rfl,rfl,rfl⟩,pl.isList.push _⟩,λb hb=>?_,eQ r,fit _ hl,λh' tk t' hk=>key r (dZ hk)⟩;rw[size_push];exact iS hlt rfl b hb
 .obtain⟨its,r,pl,hz⟩:=I.tuple hq;have hl:its.toArray.size=ns.length:=by have:=r.length;simpa using this.symm
  have pt:s.heap.IsTuple p its.toArray:=pl;obtain⟨o,ho,hcl,n,hd⟩:=pl;have hlt:=lt_size ho;refine call_sum_walk (wpAny_pyIter_tuple pt ?_);refine⟨_,_,_,_,_,_,(λi=>ns.getD i 0),rfl,Walks.tuple (A:=X.A.in1) hh _ p (Nat.ne_of_lt hlt) its.toArray,⟨⟨_,get?_push_size _ rfl,rfl,rfl⟩,pt.push _⟩,λb hb=>?_,eQ r,fit _ hl,λh' tk t' hk=>key r (dZ hk)⟩;rw[size_push];exact iS hlt rfl b hb
theorem B3(hK:X.K=T.K):Mir T W (p1 ka) (λxs H Q=>∃p ns,xs=[.ref p]/\(SqL X.K H p (ns.map V.int)\/ SqT X.K H p (ns.map V.int))/\ns.length<=1000/\eH ns=true/\Q (.int ns.sum) H):=by
 intro B F L Y H Q F' H' xs vs fx gr r nf nd new q
 match xs,r,q with
 | [x],r,q=>
  obtain⟨v,rfl,rv⟩:=RelL.one r;simp only[p1,ka]at q;cases e:a_ x with
  |none=>rw[e]at q;exact q.elim
  |some ys=>
   rw[e]at q;dsimp only at q;cases e2:bO ys with
   |none=>rw[e2]at q;exact q.elim
   |some ns=>
    rw[e2]at q;dsimp only at q;obtain⟨a,us,fx',rfl,hs,hr,_⟩:=rv.seq e;have hu:=cR e2 hr;subst hu;split at q
    .rename_i hc
     simp at hc;exact⟨a,_,rfl,by lia,hc.1,hc.2,q.scal gr fN⟩
    .exact q.elim
 | [],_,q=>exact q.elim
 |_::_::_,_,q=>simp only[p1]at q;exact q.elim
theorem GR:bootBuiltins "sum"=some (.builtin "sum"):=by decide +kernel
def mH(hK:X.K=T.K)(hc:X.calm=true)(hg:Gl X "sum")(hm:X.mg "sum"=none)(ha:SE X T W e m)(he:starEach [e] X.env=[(false,eval e X.env)]:=by rfl):SE X T W (.Call (.Name "sum" p) [e] [] pos) (aq (p1 ka) (ae m am)):=
 fK (qq hc) (B3 hK) hg hm GR (ac ha ah (by rw[he];rfl)) (he:=by rw[he];rfl)
end
structure Sup(K:PySem.W.Frag)(C f:Addr):Prop where
 ga:specialIn K (.ref C) "__getattribute__"=some (some (.builtin "type.__getattribute__"))
 rd:readsIn K C (.type "type")=true
 fc:findCls K (.ref C) (.type "type") "__init__"=some (.val (.ref f))
 kp:PySem.W.keepIn K (.ref f)=true
def iQ(m:LB->LC)(ms:MA):MS:=λenv=>match (env[(0:Nat)]?:Option (Option PV))with
 |some (some (.obj .own c ks vs))=>match ms env with
  |.ok xs=>if hasL Fl.LJ xs then .stuck else match m (.obj .own c ks vs::mapL Fl.LF xs)with
   |.ok (.obj fl c' ks' vs')=>if(PV.obj fl c' ks' vs').has Fl.LK then .stuck else .next (env.set 0 (some (.obj fl c' ks' vs')))
   |_=>.stuck
  |.exc c=>.exc c env
  |.stuck=>.stuck
 |_=>.stuck
section
variable{X:Cx}{T:Tb}{W:Nat->St->LA}{Z:Zn}{F F1 F3:Lp}{H H1 H3:Hp}{Y:St}{env:En}{fp:Nat->Lu}
theorem aC.sup(S:aC T Z F H Y env fp)(h0:Y[0]?=some (some v0))(hl:0<env.length)
  (nx:∀a∈fx,Z.H0 a=none\/Z.fp0 a) (nj:∀a∈fx,∀i,a∉fp i) (nF:∀a∈fx,¬F a) (cx:∀a∈fx,∃o,H a=some o/\Chg o)
  (hp3:cI T ⟨H,F,(·∈fp 0++fx),B',some v0⟩ F3 H3) (r:Rel T F3 B' NoL H3 o v0 f3) (hb:o.has Fl.LK=false) (nd3:f3.Nodup) (nf3:∀a∈f3,¬F3 a) (new3:∀a∈f3,H a=none\/a∈fp 0++fx)
  (ho:∃fl c ks xs,o=.obj fl c ks xs):aC T Z F3 H3 Y (env.set 0 (some o)) (cT fp 0 f3):=by
 have zfree:∀a,H a=none->Z.H0 a=none\/Z.fp0 a:=λa z=>by
  by_cases q:Z.fp0 a
  .exact .inr q
  .refine .inl ?_;cases w:Z.H0 a with
   |none=>rfl
   |some o=>rw[S.hp.keep a o w q]at z;exact(nomatch z)
 have inn:∀a∈fp 0++fx,Z.H0 a=none\/Z.fp0 a:=λa h=>by
  rcases mem_append.mp h with h|h
  .exact S.new 0 a h
  .exact nx a h
 have jn:∀j,j≠0->∀a∈fp j,a∉fp 0++fx:=λj hj a ha z=>by
  rcases mem_append.mp z with z|z
  .exact S.dj j 0 hj a ha z
  .exact nj a z j ha
 have chgn:∀a∈fp 0++fx,∃o,H a=some o/\Chg o:=λa h=>by
  rcases mem_append.mp h with h|h
  .exact S.ch 0 a h
  .exact cx a h
 have rel':Rel T F3 Z.B NoL H3 o v0 f3:=Rel.noB hb r;refine⟨⟨S.hp.bo,λa u e n=>hp3.keep a u (S.hp.keep a u e n) λz=>?_,λa h=>hp3.f0 a (S.hp.f0 a h),λa h=>?_,hp3.ft⟩,by rw[length_set,S.len],λj pv e=>?_,λj=>?_,λj k hjk b hb=>?_,λj b hb=>?_,λj b hb=>?_,λj b hb=>?_,λw hw=>?_⟩
 .rcases inn a z with q|q
  .rw[e]at q;cases q
  .exact n q
 .rcases hp3.fn a h with z|z|z
  .exact S.hp.fn a z
  .exact .inr (zfree a z)
  .exact .inr (inn a z)
 .by_cases hj:j=0
  .subst hj;rw[getElem?_set_self hl]at e;cases e;refine⟨v0,h0,?_⟩;unfold cT;exact rel'
  .rw[getElem?_set_ne (Ne.symm hj)]at e;obtain⟨w,h1,h2⟩:=S.rel j pv e;refine⟨w,h1,?_⟩;unfold cT;rw[if_neg hj];refine Rel.tr (λa h=>hp3.f0 a h) (λ_ h=>h) (λ_ h=>h) (λb u q h=>hp3.keep b u q λz=>?_) (λb hb u q=>hp3.keep b u q (jn j hj b hb)) h2;rcases h with h|h|h|h
   .rcases mem_append.mp z with z|z
    .exact(S.dis 0 b z).1 h
    .exact nF b z h
   .obtain⟨⟨o',e1⟩,e2⟩:=S.hp.bo.1 b h;rcases inn b z with q'|q'
    .lia
    .exact e2 q'
   .exact h
   .obtain⟨o',e1,e2⟩:=chgn b z;have q1:H b=some u:=q;rw[q1]at e1;cases e1;cases u with
    |lst _|ins _ _ _=>exact h
    |_=>exact e2
 .unfold cT;split
  .exact nd3
  .exact S.nd j
 .grind[cT,aC,cI,Gr]
 .unfold cT at hb;by_cases h1:j=0
  .rw[if_pos h1]at hb;exact⟨nf3 b hb,r.there b hb⟩
  .rw[if_neg h1]at hb;obtain⟨n,u,e⟩:=S.dis j b hb;refine⟨λz=>?_,u,hp3.keep b u e (jn j h1 b hb)⟩;rcases hp3.fn b z with q|q|q
   .exact n q
   .lia
   .exact jn j h1 b hb q
 .unfold cT at hb;by_cases h1:j=0
  .rw[if_pos h1]at hb;rcases new3 b hb with q|q
   .exact zfree b q
   .exact inn b q
  .rw[if_neg h1]at hb;exact S.new j b hb
 .unfold cT at hb;by_cases h1:j=0
  .rw[if_pos h1]at hb;exact r.chg b hb
  .rw[if_neg h1]at hb;obtain⟨u,e,c⟩:=S.ch j b hb;exact⟨u,hp3.keep b u e (jn j h1 b hb),c⟩
 .obtain⟨h1,h2⟩:=S.pn w hw;refine⟨h1,?_⟩;obtain⟨fl,c,ks,xs,e⟩:=ho;subst e;unfold dB;rw[getElem?_set_self hl]
theorem Ef
  (cx:Ctx X T W kk) (U:Sup X.K C f) (G:dR X.prog X.w X.K X.mg X.base (CXP X.prog X.w) k f fd ps (spI T ps.length m)) (hk:k<=kk) (hg:Gl X x) (hm:X.mg x=some (.ref C)) (hb:gM X.K fd ps [])
  (hN:X.N[0]?=some y) (hv:Vis X.env.scope y) (hn:iR ms n) (hps:n+1=ps.length) (ha:SA X T W es ms)
  (hdb:Nd x:=by decide) (hdy:Nd y:=by decide) (hcy:Nc y:=by decide)
  (hst:starEach (.Name y px::es) X.env=(false,eval (.Name y px) X.env)::starEach es X.env:=by rfl) (hpl:(backTo pos (starEach es X.env)).any (·.1)=false:=by rfl)
  (ht:eval (.Call (.Attribute (.Name x p) "__init__" apos) (.Name y px::es) [] pos) X.env=(do
   let ov <- eval (.Name x p) X.env
   standAt apos.atName
   let(f,first) <- holding [ov] (getMethod ov "__init__" pl)
   callWith pos f first (backTo pos (starEach (.Name y px::es) X.env)) (backToKw pos (keywordEach [] X.env))):=by rfl)
  (hs:swapsWith (.Call (.Attribute (.Name x p) "__init__" apos) (.Name y px::es) [] pos) none pos'.line X.env=pure false:=by rfl) :
  SS X T W (.Expr (.Call (.Attribute (.Name x p) "__init__" apos) (.Name y px::es) [] pos) pos') (iQ m ms):=by
 have pe:PE X (.Call (.Attribute (.Name x p) "__init__" apos) (.Name y px::es) [] pos) (λY H Q=>∃ Z F env fp,aC T Z F H Y env fp/\(match iQ m ms env with
   |.next e=>∀F' H' fp',aC T Z F' H' Y e fp'->Q .non H'
   |.exc c e=>∀F' H' fp',aC T Z F' H' Y e fp'->W c Y H'
   |_=>False)):=by
  intro js s Y H Q I h;obtain⟨Z,F,env,fp,S,q⟩:=h;refine methodCall_KW (kj I hg hm ?_ hdb) ht;refine PySem.W.method_cls I.kIn U.ga (PySem.W.cls_value I.kIn U.rd U.fc rfl ?_);have I':=I.tok (s.toks+1);unfold iQ at q;cases e0:env[0]? with
  |none=>rw[e0]at q;exact q.elim
  |some o0=>
  cases o0 with
  |none=>rw[e0]at q;exact q.elim
  |some ov=>
  obtain⟨v0,hv0,r0⟩:=S.rel 0 ov e0;have hl0:0<env.length:=(List.getElem?_eq_some_iff.mp e0).1;rw[e0]at q;by_cases hob:∃c ks vs,ov=.obj .own c ks vs
  case neg=>
   exfalso;cases ov with
   |obj fl c ks vs=>
    cases fl with
    |own=>exact hob ⟨_,_,_,rfl⟩
    |_=>exact q
   |_=>exact q
  obtain⟨c,ks,vs0,rfl⟩:=hob;dsimp only at q;have pa:=dP (fg hN hv hdy hcy) ha hst;refine callWith_K I'.ok.mod.kin U.kp (thn (pa pos js _ Y H (λvs H1=>∀ us s1,L2.Inv X js Y H1 s1->aY vs us->wpAny (model X.prog X.w) X.A (call (.ref f) us) (EP X js Y Q) X.xe s1) I'
   ⟨v0,hv0,tA.bind S (λc e=>?_) (λe=>by lia) λxs vs H1 F1 f1 e1 g1 r1 n1 d1 w1 us s1 I1 rv=>?_⟩) λus s1 ⟨vs,H1,I1,r,q1⟩=>⟨I1.kIn,q1 us s1 I1 r⟩) hst hpl
  .rw[e]at q;exact λH' x=>q F H' fp (S.grow (Gr.same S.hp.ft x))
  rw[e1]at q;dsimp only at q;by_cases hln:hasL Fl.LJ xs=true
  .lia
  rw[if_neg hln]at q;have hln':hasL Fl.LJ xs=false:=by lia
  have S1:=S.grow g1;obtain⟨v0',hv0',r0'⟩:=S1.rel 0 _ e0;rw[hv0]at hv0';cases hv0';have xn:∀a∈f1,∀i,a∉fp i:=λa ha i hi=>by obtain⟨_,o,e⟩:=S.dis i a hi;rw[w1 a ha]at e;cases e
  have xz:∀a∈f1,Z.H0 a=none\/Z.fp0 a:=λa ha=>by
   by_cases q:Z.fp0 a
   .exact .inr q
   .refine .inl ?_;cases w:Z.H0 a with
    |none=>rfl
    |some o=>have:=w1 a ha;rw[S.hp.keep a o w q]at this;cases this
  have hBo:∀a,Z.B a->(∃o,H1 a=some o)/\a∉fp 0++f1:=λa h=>by
   obtain⟨⟨o,h1⟩,h2⟩:=S.hp.bo.1 a h;have h3:=S.hp.keep a o h1 h2;refine⟨⟨o,g1.ext a o h3⟩,λz=>?_⟩;rcases mem_append.mp z with z|z
   .exact S.bow a h ⟨0,z⟩
   .simp_all
  have R:xb T F1 (λa=>(∃o,H1 a=some o)/\a∉fp 0++f1) H1 (.obj .own c ks vs0::mapL Fl.LF xs) (v0::vs) (fp 0++f1):=by
   refine⟨?_,nodup_append.mpr ⟨S.nd 0,d1,λa ha b hb z=>by simp_all⟩,λa ha=>?_,⟨λa h=>h,S.tbo g1.ext λa z=>(mem_append.mp z).elim (λz=>.inr ⟨0,z⟩) λz=>.inl (w1 a z)⟩,g1.dom⟩
   .unfold RelL;refine⟨v0,vs,fp 0,f1,rfl,Rel.tr (λ_ h=>h) hBo (λ_ h=>h) (λ_ _ q _=>q) (λ_ _ _ q=>q) r0',?_,rfl⟩;exact RelL.LF hBo (λ_ h=>h.elim) (RelL.noL (L':=NoL) hln' r1)
   .rcases mem_append.mp ha with ha|ha
    .exact(S1.dis 0 a ha).1
    .exact n1 a ha
  have r2:aY (v0::vs) us:=rv;have hl:us.length=ps.length:=by rw[<- r2.length,length_cons,<- r1.length,hn env xs e1];exact hps
  refine wpAny_call (codeAny_mono (G.run X.A X.stack s1 H1 ⟨us,[]⟩ us (v0::vs) Q (λcls _ H'=>∃ c,cls=.ref (T.xcl c)/\W c Y H') (cx.room.mono hk) I1.env0 (by simpa using hb s1 us I1.kIn (by simpa using hl)) r2
   ⟨by rw[r2.length,hl],v0,_,F1,_,_,rfl,R,⟨.own,c,ks,vs0,rfl⟩,?_⟩) λrs s' hq=>?_)
  .cases e:m (.obj .own c ks vs0::mapL Fl.LF xs)with
   |ok o=>
    rw[e]at q;cases o with
    |obj fl c' ks' vs'=>
     dsimp only at q;by_cases hbr:(PV.obj fl c' ks' vs').has Fl.LK=true
     .lia
     .rw[if_neg hbr]at q;have hbr':(PV.obj fl c' ks' vs').has Fl.LK=false:=by lia
      intro F3 H3 f3 hp3 r3 nd3 nf3 new3;exact q F3 H3 _ (S1.sup hv0 hl0 xz xn n1 r1.chg hp3 r3 hbr' nd3 nf3 new3 ⟨_,_,_,_,rfl⟩)
    |_=>exact q.elim
   |exc c|stuck=>rw[e]at q;exact q.elim
  .cases rs with
   |error e=>obtain⟨cls,H',fl,c,rfl,hw⟩:=hq;exact cx.xf js Y H1 s1 c H' e s' I1 fl hw
   |ok fl=>
    cases fl with
    |ret u=>exact I1.after hq
    |next|brk|cont=>exact False.elim hq
 exact PS.wk (l7 pe hs) λD Y H hz1=>by
  obtain⟨Z,F,env,fp,S,q⟩:=hz1;refine⟨Z,F,env,fp,S,?_⟩;cases e:iQ m ms env with
  |next e'|exc c e'=>rw[e]at q;exact λF' H' fp' S'=>q F' H' Y fp' S'
  |ret v=>
   exfalso;revert e;unfold iQ;split
   .lia
   .simp
  |brk e'=>
   exfalso;revert e;unfold iQ;split
   .lia
   .simp
  |cont e'=>
   exfalso;revert e;unfold iQ;split
   .lia
   .simp
  |stuck=>rw[e]at q;exact q
end
end PR
namespace PR
open PySem PySem.Spec L2 PyProof.Rows
def jJ(lo c:Int)(n:Nat):LB:=(range n).map λk=>.int (lo+(k:Nat)*c)
def n9(i j c:Int):Nat:=(Builtin.Range.rangeSize i j c).toNat
def inM(i:Int):Bool:=decide (-1000000<=i/\i<=1000000)
def oW(ms:MA):MI:=λenv=>(ms env).bind λxs=>match xs with
 | [.int i,.int j,.int c]=>if inM i&&inM j&&inM c&&decide (c≠0)then .ok (jJ i c (n9 i j c))else .stuck
 |_=>.stuck
def AN(lo c:Int)(n:Nat):It:=⟨λi _=>i<n,λi H x H'=>H'=H/\x=.int (lo+(i:Nat)*c),λi _=>n<=i⟩
theorem qG{P:Program}{w:World}{K:PySem.W.Frag}(it:Addr)(lo c:Int)(n:Nat):uw P w K tg (AN lo c n) [it] it (λi h=>IsRangeIter h it (lo+(i:Nat)*c) ((n:Int)-(i:Nat)) c) where
 mem:=by simp
 obj:=λi h st b hb=>by
  have e:b=it:=by simpa using hb
  subst e;exact⟨_,st,λv z=>by lia⟩
 keep:=λi h h' st k=>k it () _ st
 item:=by intro X hP hw hK hc i js s Y H E I hf st hg;subst hP hw hK;obtain⟨f0,f1,f2,f3,f4,f5⟩:=hf it ();have W:=Walks.range (prog:=X.prog) (w:=X.w) (I.ok.hd hc) it lo c n;refine W.item i s _ _ hg st λv h' tk hv st' kk=>?_;obtain⟨t,rfl⟩:=hv;have I1:L2.Inv X js Y H {s with heap:=h',toks:=tk}:=I.turned (λb o hb e=>kk b o (by simpa using hb) e) f0 f1 f3 f4 f5;exact⟨_,rfl,vg st' rfl rfl () ⟨.int (lo+(i:Nat)*c),H,I1,⟨t,rfl⟩,⟨rfl,rfl⟩,st',λb hb=>(hf b hb).1⟩⟩
 done:=by intro X hP hw hK hc i js s Y H E I hf st hg;obtain⟨f0,f1,f2,f3,f4,f5⟩:=hf it ();exact wpAny_pyNext_range_end (I.ok.hd hc) st (by have:n<=i:=hg;lia) λh' eb=>⟨rfl,I.turned (t':=s.toks) (λb o hb e=>eb b o hb e) f0 f1 f3 f4 f5⟩
 self:=λ_ _ _ _ _ st h=>wpAny_pyIter_rangeiter st h
theorem lF(ha:-1000000<=a/\a<=1000000)(hb:-1000000<=b/\b<=1000000)(hc:-1000000<=c/\c<=1000000)(h0:c≠0):0<=Builtin.Range.rangeSize a b c/\Builtin.Range.rangeSize a b c<=3000000:=by
 unfold Builtin.Range.rangeSize;split
 .rename_i hp
  split
  .have h1:0 <=(b-a-1) / c:=Int.ediv_nonneg () ();have h2:(b-a-1) / c<=b-a-1:=Int.ediv_le_self _ ()
   lia
  .lia
 .rename_i hp
  split
  .have h1:0 <=(a-b-1) / (-c):=Int.ediv_nonneg () ();have h2:(a-b-1) / (-c)<= a-b-1:=Int.ediv_le_self _ ()
   lia
  .lia
theorem A8(ha:-1000000<=a/\a<=1000000)(hb:-1000000<=b/\b<=1000000)(hc:-1000000<=c/\c<=1000000)(h0:c≠0):Builtin.Range.small a b c=true:=by
 have hz:=lF ha hb hc h0;unfold Builtin.Range.small;simp only[Builtin.Range.rangeFitsLong,and_eq_true,or_eq_true];refine⟨⟨⟨⟨by lia,by lia⟩,by lia⟩,by lia⟩,.inr ?_⟩;split
 .simp;lia
 .simp;lia
section
variable{X:Cx}{T:Tb}{W:Nat->L2.St->LA}{Z:Zn}{F F1 B L:Lp}{H H1:Hp}{Y:L2.St}{env:En}{fp:Nat->Lu}{D:Ends}
theorem wd{js:Lo}{s:Shared}{R:It->LA}{E:Lj}{lo hi c:Int}{t u v:Tok}{tk:Nat}(I:L2.Inv X js Y H s)(ha:-1000000<=lo/\lo<=1000000)(hb:-1000000<=hi/\hi<=1000000)(hc:-1000000<=c/\c<=1000000)(h0:c≠0)
  (q:R (AN lo c (n9 lo hi c)) H):wpAny (model X.prog X.w) X.A (pyIter (.ref s.heap.objs.size)) (PIE X js Y tg R) E {s with heap:=s.heap.push {cls:=.type "range",data:=.fields #[.int lo t,.int hi u,.int c v]},toks:=tk}:=by
 refine wpAny_pyIter_range (IsRange.new ..) (A8 ha hb hc h0) ?_;have I1:L2.Inv X js Y H {s with heap:=s.heap.push {cls:=.type "range",data:=.fields #[.int lo t,.int hi u,.int c v]},toks:=tk}:=I.kept λb o e=>get?_push_of_some _ e;refine ⟨(s.heap.push { cls:=.type "range", data:=.fields #[.int lo t,.int hi u,.int c v] }).objs.size,[(s.heap.push { cls:=.type "range", data:=.fields #[.int lo t,.int hi u,.int c v] }).objs.size],_,_,H,rfl,
  I1.kept (t':=tk) λb o e=>get?_push_of_some _ e,qG _ lo c (n9 lo hi c),?_,λb hb=>?_,q⟩
 .have e1:lo+((0:Nat):Int)*c=lo:=by simp
  have e2:((n9 lo hi c:Nat):Int)-((0:Nat):Int)=Builtin.Range.rangeSize lo hi c:=by
   have:=(lF ha hb hc h0).1;unfold n9
   lia
  rw[e1,e2];exact get?_push_size _ rfl
 .have e:b=(s.heap.push {cls:=.type "range",data:=.fields #[.int lo t,.int hi u,.int c v]}).objs.size:=by simpa using hb
  subst e;exact I1.fpOk (Nat.le_refl _) (I1.hok.fresh (Nat.le_refl _))
def Jc(ta:TA):TI:=λY H R=>ta Y H λvs H1=>∃i j c:Int,vs=[.int i,.int j,.int c]/\(-1000000<=i/\i<=1000000)/\(-1000000<=j/\j<=1000000)/\(-1000000<=c/\c<=1000000)/\c≠0/\R (AN i c (n9 i j c)) H1
theorem wm(hg:Gl X "range")(hm:X.mg "range"=none)(ha:PA X [a,b,c] ta)(hs:starEach [a,b,c] X.env=[(false,eval a X.env),(false,eval b X.env),(false,eval c X.env)]:=by rfl)
  (hs2:starEach [b,c] X.env=[(false,eval b X.env),(false,eval c X.env)]:=by rfl):PI X tg (.Call (.Name "range" p) [a,b,c] [] pos) (Jc ta):=by
 intro js s Y H R I h;refine Call_ (gA I hg hm boot_range (PyProof.Rows.callWith_type1 (thn (ha pos js s Y H _ I h) λus s1 zz=>?_) (by rw[hs,hs2]) (by rw[hs2];rfl)));obtain⟨vs,H1,I1,r1,q1⟩:=zz;obtain⟨i,j,k,e,q1,q2,q3,q4,q⟩:=q1;subst e;cases r1 with
 |cons r rr=>
  cases rr with
  |cons r' rr=>
   cases rr with
   |cons r'' rr=>cases rr;obtain⟨t,rfl⟩:=r;obtain⟨t',rfl⟩:=r';obtain⟨t'',rfl⟩:=r'';exact call_range_3 q4 (wd I1 q1 q2 q3 q4 q) (.inl (PyProof.noPylong_small ()))
def zf{lo c:Int}{n:Nat}{Ow:Lp}:ItR T F1 B Ow H1 (AN lo c n) (jJ lo c n):=by
 apply ItR.of0;intro H2 _;refine⟨λi x ex=>?_,by simp[jJ,AN]⟩;have hi:i<n:=by have:=(List.getElem?_eq_some_iff.mp ex).1;simpa[jJ]using this
 refine⟨hi,λv H3 hy=>⟨hy.1,?_⟩⟩;obtain⟨_,rfl⟩:=hy;have:x=.int (lo+(i:Nat)*c):=by simp[jJ,hi]at ex;exact ex.symm
 subst this;exact fN
def sT(r:RelL T F B L H [.int i,.int j,.int c] vs f):vs=[.int i,.int j,.int c]:=by obtain⟨v,ws,f1,f2,rfl,h1,h2,_⟩:=r;obtain⟨v2,ws,f1,f2,rfl,h3,h4,_⟩:=h2;obtain⟨v3,rfl,h5⟩:=h4.one;rw[h1.1,h3.1,h5.1]
def oG(hg:Gl X "range")(hm:X.mg "range"=none)(ha:SA X T W [a,b,c] ms)(hs:starEach [a,b,c] X.env=[(false,eval a X.env),(false,eval b X.env),(false,eval c X.env)]:=by rfl)
  (hs2:starEach [b,c] X.env=[(false,eval b X.env),(false,eval c X.env)]:=by rfl):SI X T W tg (.Call (.Name "range" p) [a,b,c] [] pos) (oW ms):=λjs s Y H R I h=>wm hg hm ha hs hs2 js s Y H R I (by
 obtain⟨Z,F,env,fp,S,q⟩:=h;unfold oW at q;refine tA.bq S λxs vs H1 F1 f1 e1 g1 r1 n1 d1 w1=>?_;rw[e1]at q;simp only[Res.LO]at q;split at q
 .rename_i i j k
  split at q
  .rename_i hc
   simp only[inM,and_eq_true,decide_eq_true_eq]at hc;exact⟨i,j,k,sT r1,hc.1.1.1,hc.1.1.2,hc.1.2,hc.2,q _ H1 F1 g1 zf⟩
  .exact q.elim
 .exact q.elim)
end
end PR
namespace PR
open PySem PySem.Spec L2
section
noncomputable def whL(c:MT)(b:MS):Nat->MS
 |0,_=>.stuck
 |k+1,env=>match c env with
  |.ok true=>match b env with
   |.next e|.cont e=>whL c b k e
   |.brk e=>.next e
   |.ret v=>.ret v
   |.exc x e=>.exc x e
   |.stuck=>.stuck
  |.ok false=>.next env
  |.exc x=>.exc x env
  |.stuck=>.stuck
def kU(c:MT)(b:MS):MS:=whL c b 100000
section
variable{X:Cx}{T:Tb}{W:Nat->St->LA}
def mD(hp:PassesOwn (model X.prog X.w) X.A X.env X.xe)(hc:ST X T W c mc)(hb:SSs X T W body mb):SS X T W (.While c body [] pos) (kU mc mb):=
 PS.wk (xZ hp hc hb) λD Y H hz1=>by
  obtain⟨Z,F,env,fp,S,q⟩:=hz1;refine⟨λm σ' H'=>∃F' env' fp',aC T Z F' H' σ' env' fp'/\GS T W Z D (whL mc mb m env'),⟨100000,F,env,fp,S,q⟩,?_⟩;rintro m σ' H' ⟨F',env',fp',S',q'⟩;cases m with
  |zero=>exact q'.elim
  |succ k=>
   unfold whL at q';refine tT.bind S' (λc e H2 x=>?_) (λe=>by rw[e]at q';exact q') λb H1 F1 e g=>?_
   .rw[e]at q';exact q' F' H2 σ' fp' (S'.grow (Gr.same S'.hp.ft x))
   .cases b with
    |false=>rw[e]at q';exact(if_neg ()).mpr (q' F1 H1 σ' fp' (S'.grow g))
    |true=>
     rw[e]at q';dsimp only at q';refine(if_pos rfl).mpr ⟨λσ2 H2=>∃F2 env2 fp2,aC T Z F2 H2 σ2 env2 fp2/\GS T W Z D (whL mc mb k env2),λσ2 H2 h=>⟨k,Nat.lt_succ_self k,h⟩,Z,F1,env',fp',S'.grow g,?_⟩;cases eb:mb env' with
     |next e2|cont e2=>rw[eb]at q';exact λF3 H3 σ3 fp3 S3=>⟨F3,e2,fp3,S3,q'⟩
     |brk e2|ret v|exc c e2|stuck=>rw[eb]at q';exact q'
end
noncomputable def fT:LB->Option (List Bool)
 | []=>some []
 |.bl b::xs=>(fT xs).map (b::·)
 |_=>none
def kb(f:List Bool->Bool):PV->LC
 |.lst _ xs=>match fT xs with
  |some bs=>.ok (.bl (f bs))
  |none=>.stuck
 |_=>.stuck
def qA(bs:List Bool):Bool:=bs.all id
def lC(bs:List Bool):Bool:=bs.any id
section
variable{X:Cx}{T:Tb}{W:Nat->St->LA}{Z:Zn}{F F1 B L:Lp}{H H1:Hp}{Y:St}{env:En}{fp:Nat->Lu}{js:Lo}{s:Shared}
def pp:∀{xs:LB}{vs:Lz}{f:Lu}{bs:List Bool},fT xs=some bs->RelL T F B L H xs vs f->vs=bs.map V.bl
 | [],_,_,_,e,h=>by simp only[fT,Option.some.injEq]at e;subst e;rw[h.1];rfl
 |.bl b::xs,_,_,bs,e,h=>by
  simp only[fT]at e;cases e2:fT xs with
  |none=>rw[e2]at e;cases e
  |some ms=>rw[e2]at e;cases e;obtain⟨v,ws,f1,f2,rfl,h1,h2,_⟩:=h;rw[h1.1,pp e2 h2];rfl
 |.non::_,_,_,_,e,_|.int _::_,_,_,_,e,_|.str _::_,_,_,_,e,_|.lst _ _::_,_,_,_,e,_|.tup _::_,_,_,_,e,_|.obj _ _ _ _::_,_,_,_,e,_|.exc _::_,_,_,_,e,_|.box _ _::_,_,_,_,e,_=>by simp[fT]at e
def Ax:∀{bs:List Bool}{its:Lr},aY (bs.map V.bl) its->∀(i:Nat) (v:Value),its.toArray[i]?=some v->v=.bool (bs.getD i false)
 | [],_,r,i,v,e=>by cases r;simp at e
 |b::bs,_,r,i,v,e=>by
  cases r with
  |cons r1 r2=>
   cases i with
   |zero=>simp at e;subst e;exact r1
   |succ i=>exact Ax r2 i v (by simpa using e)
def Bu(bs:List Bool)(n:Nat)(h:n=bs.length):(range n).all (λi=>bs.getD i false)=qA bs:=by
 subst h;unfold qA;rw[Bool.eq_iff_iff,all_eq_true,all_eq_true];refine⟨λz x hx=>?_,λz i hi=>?_⟩
 .obtain⟨i,hi,e⟩:=getElem_of_mem hx;have:=z i (mem_range.mpr hi);rw[<- e];simpa[hi]using this
 .have hi':=mem_range.mp hi;have:=z bs[i] (getElem_mem hi');simpa[hi']using this
def Bt(bs:List Bool)(n:Nat)(h:n=bs.length):(range n).any (λi=>bs.getD i false)=lC bs:=by
 subst h;unfold lC;rw[Bool.eq_iff_iff,any_eq_true,any_eq_true];refine⟨λ⟨i,hi,z⟩=>?_,λ⟨x,hx,z⟩=>?_⟩
 .have hi':=mem_range.mp hi;exact⟨bs[i],getElem_mem hi',by simpa[hi']using z⟩
 .obtain⟨i,hi,e⟩:=getElem_of_mem hx;exact⟨i,mem_range.mpr hi,by rw[<- e]at z;simpa[hi]using z⟩
def pj{bs:List Bool}{its:Lr}(r:aY (bs.map V.bl) its):TruthOf X.prog X.w A (λi v=>its.toArray[i]?=some v) (λi=>bs.getD i false):=λi v s Q E hP hQ=>by rw[Ax r i v hP];exact wpAny_truthy_bool hQ
def qx(hc:X.calm=true):e_ X (.builtin "all") (λxs H Q=>∃p bs,xs=[.ref p]/\SqL X.K H p (bs.map V.bl)/\Q (.bl (qA bs)) H):=by
 intro js s Y H xs us Q I rv h;obtain⟨p,bs,rfl,hq,q⟩:=h;obtain⟨u,rfl,rx⟩:=eY rv;cases rx;have hh:=I.ok.hd hc;obtain⟨its,r,pl,hz⟩:=I.list hq;have hl:its.toArray.size=bs.length:=by have:=r.length;simpa using this.symm
 obtain⟨o,ho,hcl,n,hd⟩:=pl.isList;have hlt:=lt_size ho;have key:∀{h':Heap}{tk:Nat},(∀b o,s.heap.get? b=some o->h'.get? b=some o)->EP X js Y Q (.bool (qA bs)) {s with heap:=h',toks:=tk}:=λk=>⟨.bl _,H,gC I k,rfl,q⟩
 refine call_all_walk (wpAny_pyIter_list pl.isList ?_);refine⟨_,_,_,_,_,_,(λi=>bs.getD i false),rfl,Walks.list (A:=X.A.in1) hh _ p (Nat.ne_of_lt hlt) its.toArray,⟨⟨_,get?_push_size _ rfl,rfl,rfl⟩,pl.isList.push _⟩,pj r,λh' tk hk=>?_⟩;rw[Bu bs _ hl];exact key (dZ hk)
def qw(hc:X.calm=true):e_ X (.builtin "any") (λxs H Q=>∃p bs,xs=[.ref p]/\SqL X.K H p (bs.map V.bl)/\Q (.bl (lC bs)) H):=by
 intro js s Y H xs us Q I rv h;obtain⟨p,bs,rfl,hq,q⟩:=h;obtain⟨u,rfl,rx⟩:=eY rv;cases rx;have hh:=I.ok.hd hc;obtain⟨its,r,pl,hz⟩:=I.list hq;have hl:its.toArray.size=bs.length:=by have:=r.length;simpa using this.symm
 obtain⟨o,ho,hcl,n,hd⟩:=pl.isList;have hlt:=lt_size ho;have key:∀{h':Heap}{tk:Nat},(∀b o,s.heap.get? b=some o->h'.get? b=some o)->EP X js Y Q (.bool (lC bs)) {s with heap:=h',toks:=tk}:=λk=>⟨.bl _,H,gC I k,rfl,q⟩
 refine call_any_walk (wpAny_pyIter_list pl.isList ?_);refine⟨_,_,_,_,_,_,(λi=>bs.getD i false),rfl,Walks.list (A:=X.A.in1) hh _ p (Nat.ne_of_lt hlt) its.toArray,⟨⟨_,get?_push_size _ rfl,rfl,rfl⟩,pl.isList.push _⟩,pj r,λh' tk hk=>?_⟩;rw[Bt bs _ hl];exact key (dZ hk)
def u7(hK:X.K=T.K)(f:List Bool->Bool):Mir T W (p1 (kb f)) (λxs H Q=>∃p bs,xs=[.ref p]/\SqL X.K H p (bs.map V.bl)/\Q (.bl (f bs)) H):=by
 intro B F L Y H Q F' H' xs vs fx gr r nf nd new q
 match xs,r,q with
 | [x],r,q=>
  obtain⟨v,rfl,rv⟩:=RelL.one r;simp only[p1]at q;cases x with
  |lst fl ys=>
   simp only[kb]at q;cases e2:fT ys with
   |none=>rw[e2]at q;exact q.elim
   |some bs=>rw[e2]at q;obtain⟨a,us,fp',rfl,hl,hr,_⟩:=rv;have hu:=pp e2 hr;subst hu;exact⟨a,_,rfl,by rw[hK];exact hl.sq,q.scal gr j0⟩
  |_=>exact q.elim
 | [],_,q=>exact q.elim
 |_::_::_,_,q=>simp only[p1]at q;exact q.elim
theorem GW:bootBuiltins "all"=some (.builtin "all"):=by decide +kernel
theorem GV:bootBuiltins "any"=some (.builtin "any"):=by decide +kernel
def Eu(hK:X.K=T.K)(hc:X.calm=true)(hg:Gl X "all")(hm:X.mg "all"=none)(ha:SE X T W e m)(he:starEach [e] X.env=[(false,eval e X.env)]:=by rfl):SE X T W (.Call (.Name "all" p) [e] [] pos) (aq (p1 (kb qA)) (ae m am)):=
 fK (qx hc) (u7 hK qA) hg hm GW (ac ha ah (by rw[he];rfl)) (he:=by rw[he];rfl)
def xI(hK:X.K=T.K)(hc:X.calm=true)(hg:Gl X "any")(hm:X.mg "any"=none)(ha:SE X T W e m)(he:starEach [e] X.env=[(false,eval e X.env)]:=by rfl):SE X T W (.Call (.Name "any" p) [e] [] pos) (aq (p1 (kb lC)) (ae m am)):=
 fK (qw hc) (u7 hK lC) hg hm GV (ac ha ah (by rw[he];rfl)) (he:=by rw[he];rfl)
end
end
section
open AutoSeq1 (wpAny_loadPart')
section
variable{prog:Program}{w:World}{A:Around}{E:Lj}{s:Shared}
theorem lA(ft:TypeCalled T nI iI)
  (c1:checkTypeCall T ⟨us,kw⟩=pure .unit) (c2:checkBuiltinCall nI ⟨.type T::us,kw⟩=pure .unit) (eN:entryFor table nI=some Bn) (eI:entryFor table iI=some Bi) (g:Meets (Bn ⟨.type T::us,kw⟩) S)
  (h:S A.in1 (wants Q1 E) s) (nx:∀ob s1,Q1 ob s1->s1.TypeIs ob T/\argsOk iI ⟨ob::us,kw⟩/\∃Si,Meets (Bi ⟨ob::us,kw⟩) Si/\Si A.in1 (wants (λr s2=>r=.none/\Q ob s2) E) s1) :
  wpAny (model prog w) A (call (.type T) us kw) Q E s:=by
 obtain⟨cc,tt,hmro⟩:=ft.mro;have hmade:=ft.made;have hsub:=ft.sub;have h1:=ft.notType;have h2:=ft.canCreate;refine wpAny_call (codeAny_of_tree (show wpAny _ _ (callAny (.type T) _) _ _ _ from wpAny_pure ⟨Code.quiet_builtin _ (by decide +kernel),codeAny_builtin F.entry_type_call ?_⟩))
 repeat (any_goals (first|assumption|wp_step|fail))
 refine codeAny_mono (codeAny_call_builtin ft.plain eN (wpAny_of_eq c2 (g prog w A.in1 _ s h))) λr s1 hr=>?_;cases r with
 |error e=>exact hr
 |ok fl=>
  cases fl with
  |ret ob=>
   obtain⟨hT,hok,Si,gi,hsi⟩:=nx _ _ hr;have hli:=ft.init.lookup;have hbi:=ft.init.bind ob
   repeat (any_goals (first|assumption|wp_step|fail))
   refine codeAny_mono (codeAny_call_builtin ft.init.plain eI (ft.init.check _ _ _ _ _ _ _ _ hT hok (gi prog w A.in1 _ s1 hsi))) λr2 s2 hr2=>?_;cases r2 with
   |error e=>exact hr2
   |ok fl2=>
    cases fl2 with
    |ret r=>
     obtain⟨rfl,hq⟩:=hr2
     repeat (any_goals (first|assumption|wp_step|fail))
    |_=>exact hr2.elim
  |_=>exact hr.elim
def Dc(hl:typeLookup (.type T) "__init__"=pure (some (.builtin "object.__init__")))(hm:Bind.madeBy (.type T)=pure (some nI))(hne:(some nI != some "object.__new__")=true) :
  Meets (Builtin.«object.__init__» ⟨[self,a],kw⟩) (λ_ R s=>s.TypeIs self T/\R (.ok (.ret .none)) s):=by
 refine Meets.of_wp λpr w A R s0 hs=>?_;obtain⟨hT,hq⟩:=hs
 repeat (any_goals (first|assumption|wp_step|fail))
 exact⟨_,rfl,hq⟩
def cK1(a v:Value):checkTypeCall "enumerate" ⟨[a],[("start",v)]⟩=pure .unit:=by kernel_rfl
def cK2(a v:Value):checkBuiltinCall "enumerate.__new__" ⟨[.type "enumerate",a],[("start",v)]⟩=pure .unit:=by kernel_rfl
def cK3(a b v:Value):argsOk "object.__init__" ⟨[a,b],[("start",v)]⟩:=by
 unfold argsOk
 kernel_rfl
abbrev itO(n:String)(l:Addr):Obj:={cls:=.type n,data:=.fields #[.ref l,.int 0 0]}
noncomputable abbrev enO(it:Addr)(i:Int):Obj:={cls:=.type "enumerate",data:=.fields #[.none,.bool false,.ref it,rawInt i,.none,.none]}
def pE(n:String)(l:Addr)(s:Shared):Prop:=∀(pr:Program) (w:World) (A:Around) (Q:Lj) (E:Lj),Q (.ref s.heap.objs.size) {s with heap:=s.heap.push (itO n l)}->wpAny (model pr w) A (pyIter (.ref l)) Q E s
def Jk(n:String)(l:Addr)(t:Tok) :
  Meets (Builtin.«enumerate.__new__» ⟨[.type "enumerate",.ref l],[("start",.int 1 t)]⟩) (λ_ R s=>pE n l s/\R (.ok (.ret (.ref (s.heap.push (itO n l)).objs.size))) {s with heap:=(s.heap.push (itO n l)).push (enO s.heap.objs.size 1)}):=
 .of_wp λpr w A R s0 h=>by
  obtain⟨hp,g,d,tk,os⟩:=s0;obtain⟨hI,h⟩:=h;have hsub:=sub_enumerate;have hJ:∀{Q:Lj}{E:Lj},Q (.ref hp.objs.size) ⟨hp.push (itO n l),g,d,tk,os⟩->wpAny (model pr w) A.in1 (pyIter (.ref l)) Q E ⟨hp,g,d,tk,os⟩:=λ{Q E} q=>hI pr w A.in1 Q E q;have hJ':∀{Q:Lj}{E:Lj},Q (.ref hp.objs.size) ⟨hp.push (itO n l),g,d,tk,os⟩->wpAny (model pr w) A (pyIter (.ref l)) Q E ⟨hp,g,d,tk,os⟩:=λ{Q E} q=>hI pr w A Q E q
  wp_walk
  refine wpAny_stack_any λst=>wpAny_pure ?_;split<;>try (rename_i c _ _ _ _ _;cases(c==Value.type "enumerate"))
  all_goals (wp_walk using hJ,hJ')
  all_goals exact⟨_,rfl,h⟩
def GK(hI:pE n l s)(h:Q (.ref (s.heap.objs.size+1)) {s with heap:=(s.heap.push (itO n l)).push (enO s.heap.objs.size 1)}) :
  wpAny (model prog w) A (call (.type "enumerate") [.ref l] [("start",.int 1 t)]) Q E s:=by
 have hz:(s.heap.push (itO n l)).objs.size=s.heap.objs.size+1:=size_push ..
 refine lA (Q1:=λob s1=>s1.TypeIs ob "enumerate" /\ Q ob s1) F.called_enumerate (cK1 _ _) (cK2 _ _) F.entry_enumerate_new F.entry_object_init (Jk n l t) ⟨hI,?_⟩ λob s1 hq=>⟨hq.1,cK3 ob _ _,_,Dc F.called_enumerate.init.lookup F.called_enumerate.made (),hq.1,rfl,hq.2⟩
 rw[hz];have:=get?_push_size (s.heap.push (itO n l)) (o:=enO s.heap.objs.size 1) rfl;rw[hz]at this;exact⟨⟨_,this,rfl⟩,h⟩
def yM(hit:s.heap.IsTupleIter it t i)(ht:s.heap.IsTuple t items)(hx:items[i]?=some x)
  (hQ:∀h',h'.IsTupleIter it t (i+1)->SameBut it s.heap h'->Q x {s with heap:=h'}):wpAny (model prog w) A (Builtin.SmallTypes.nextOf (.ref it)) Q E s:=by
 obtain⟨o,ho,hc,hd⟩:=id hit;obtain⟨o2,ho2,_,n2,hd2⟩:=ht;refine wpAny_bind (wpAny_callSpecial?_slot hit.typeIs F.slot_tuple_iterator_next (wpAny_call_entry F.slot_tuple_iterator_next hit.typeIs F.entry_tuple_iterator_next ?_ (F.args_tuple_iterator_next_1 _)));refine(show wpAny _ _ (field (.ref it) 0 >>= _) _ _ s from wpAny_bind (wpAny_field ho hd (x:=.ref t) rfl ?_));refine(show wpAny _ _ (if(Value.ref t==Value.none)=true then _ else _) _ _ s from ?_);refine(show wpAny _ _ (field (.ref it) 1 >>= _) _ _ s from wpAny_bind (wpAny_field ho hd rfl ?_));refine(show wpAny _ _ (seqItems? (.ref t) >>= _) _ _ s from wpAny_bind (wpAny_seqItems ho2 hd2 ?_));simp only[toNat_natCast,hx];refine wpAny_bind (wpAny_setField ho hd () (wpAny_pure ⟨x,rfl,wpAny_pure (hQ _ ⟨_,Heap.get?_update_self _ ho (Obj.isFreed_of_fields (Obj.data_mapFields hd _)),(Obj.cls_mapFields ..).trans hc,by rw[Obj.data_mapFields hd];simp[rawInt]⟩ (SameBut.update ..))⟩))
theorem B0(hh:A.handled=none)(hit:s.heap.IsTupleIter it t i)(ht:s.heap.IsTuple t items)(hx:items[i]?=none)
  (hE:∀h' e,ExtBut it s.heap h'->(∃o,h'.get? e=some o/\o.cls=.type "StopIteration")->E (.ref e) {s with heap:=h'}):wpAny (model prog w) A (Builtin.SmallTypes.nextOf (.ref it)) Q E s:=by
 obtain⟨o,ho,hc,hd⟩:=id hit;obtain⟨o2,ho2,_,n2,hd2⟩:=ht;refine wpAny_bind (wpAny_callSpecial?_slot hit.typeIs F.slot_tuple_iterator_next (wpAny_call_entry F.slot_tuple_iterator_next hit.typeIs F.entry_tuple_iterator_next ?_ (F.args_tuple_iterator_next_1 _)));refine(show wpAny _ _ (field (.ref it) 0 >>= _) _ _ s from wpAny_bind (wpAny_field ho hd (x:=.ref t) rfl ?_));refine(show wpAny _ _ (if(Value.ref t==Value.none)=true then _ else _) _ _ s from ?_);refine(show wpAny _ _ (field (.ref it) 1 >>= _) _ _ s from wpAny_bind (wpAny_field ho hd rfl ?_));refine(show wpAny _ _ (seqItems? (.ref t) >>= _) _ _ s from wpAny_bind (wpAny_seqItems ho2 hd2 ?_));simp only[toNat_natCast,hx];refine wpAny_bind (wpAny_rule (wpAny_bind (wpAny_setField ho hd () (show wpAny _ _ (newExc (.type "StopIteration") [] >>= _) _ _ _ from wpAny_bind ?_))));refine wpAny_bind (wpAny_newObj_type (wpAny_bind (wpAny_of_eq (a:=Value.none) (by first|rfl |(simp;rfl)) (wpAny_newObj_type ?_ (by size_fits)))) (by size_fits));refine wpAny_bind (wpAny_handled ?_)
 first|rw[show A.in1.handled=none from hh]|rw[hh]|skip
 exact wpAny_bind (wpAny_pure (wpAny_throw (hE _ _ (((SameBut.update ..).extBut.push _).push _) ⟨_,get?_push_size _ rfl,rfl⟩)))
inductive jR(h:Heap)(it l:Addr)(its:Ly)(i:Nat):Prop
 |lst (a:h.IsListIter it l i) (b:h.IsList l its)
 |tup (a:h.IsTupleIter it l i) (b:h.IsTuple l its)
def jR.at(x:jR h it l its i)(k1:∀o,h.get? it=some o->h'.get? it=some o)(k2:∀o,h.get? l=some o->h'.get? l=some o):jR h' it l its i:=by
 rcases x with⟨⟨o,e,r⟩,⟨o2,e2,r2⟩⟩ |⟨⟨o,e,r⟩,⟨o2,e2,r2⟩⟩
 .exact .lst ⟨o,k1 o e,r⟩ ⟨o2,k2 o2 e2,r2⟩
 .exact .tup ⟨o,k1 o e,r⟩ ⟨o2,k2 o2 e2,r2⟩
def jR.obj(x:jR h it l its i):∃o,h.get? it=some o/\∀v,o.data≠.cell v:=by
 rcases x with⟨⟨o,e,_,d⟩,_⟩ |⟨⟨o,e,_,d⟩,_⟩
 .exact⟨o,e,λv z=>by lia⟩
 .exact⟨o,e,λv z=>by lia⟩
def BZ(hi:jR s.heap it l its i)(hne:l≠it)(hx:its[i]?=some x)(hQ:∀h',jR h' it l its (i+1)->SameBut it s.heap h'->Q x {s with heap:=h'}) :
  wpAny (model prog w) A (Builtin.SmallTypes.nextOf (.ref it)) Q E s:=by
 rcases hi with⟨a,b⟩ |⟨a,b⟩
 .exact wpAny_nextOf_list_item a b hx λh' q sb=>hQ h' (.lst q (b.extBut sb.extBut hne)) sb
 .exact yM a b hx λh' q sb=>hQ h' (.tup q (b.extBut sb.extBut hne)) sb
def FK(hh:A.handled=none)(hi:jR s.heap it l its i)(hx:its[i]?=none)
  (hE:∀h' e,ExtBut it s.heap h'->(∃o,h'.get? e=some o/\o.cls=.type "StopIteration")->E (.ref e) {s with heap:=h'}):wpAny (model prog w) A (Builtin.SmallTypes.nextOf (.ref it)) Q E s:=by
 rcases hi with⟨a,b⟩ |⟨a,b⟩
 .exact wpAny_nextOf_list_end hh a b hx hE
 .exact B0 hh a b hx hE
theorem Cv{Q:Lj}(he:IsEnum s.heap e it k old)(hi:jR s.heap it l its i)(hne:e≠it)(hli:l≠it)(hle:l≠e)(hx:its[i]?=some x)
  (hQ:∀ h',IsEnumOut h' e it (k+1) x s.heap.objs.size->jR h' it l its (i+1)->h'.get? s.heap.objs.size=some { cls:=.type "tuple", data:=.seq #[.int k s.toks,x] }->h'.objs.size=s.heap.objs.size+1 ->
   (∀b o,b≠e->b≠it->s.heap.get? b=some o->h'.get? b=some o)->Q (.ref s.heap.objs.size) {s with heap:=h',toks:=s.toks+1}) :
  wpAny (model prog w) A (Builtin.«enumerate.__next__» ⟨[.ref e],[]⟩) (λfin s'=>∃v,fin=.done (.ret v)/\Q v s') E s:=by
 obtain⟨hp,g,d,tk,os⟩:=s;refine(show wpAny _ _ (field (.ref e) 2 >>= _) _ _ _ from wpAny_bind (wpAny_field he rfl rfl ?_));refine wpAny_bind (BZ hi hli hx λh1 i1 s1=>?_)
 replace s1:SameBut it hp h1:=s1
 have e1:IsEnum h1 e it k old:=(s1.2 e hne).trans he;refine(show wpAny _ _ (field (.ref e) 3 >>= _) _ _ ⟨h1,g,d,tk,os⟩from wpAny_bind (wpAny_field e1 rfl rfl ?_));refine(show wpAny _ _ (field (.ref e) 4 >>= _) _ _ ⟨h1,g,d,tk,os⟩from wpAny_bind (wpAny_field e1 rfl rfl ?_));refine(show wpAny _ _ (mkInt k >>= _) _ _ ⟨h1,g,d,tk,os⟩from wpAny_bind (wpAny_mkInt ?_));refine(show wpAny _ _ (setField (.ref e) 3 (rawInt (k+1)) >>= _) _ _ ⟨h1,g,d,tk+1,os⟩from wpAny_bind (wpAny_setField_rec e1 () λh2 e2 s2=>?_))
 replace s2:SameBut e h1 h2:=s2
 replace e2:IsEnum h2 e it (k+1) old:=e2
 refine(show wpAny _ _ (setField (.ref e) 4 .none >>= _) _ _ ⟨h2,g,d,tk+1,os⟩from wpAny_bind (wpAny_setField_rec e2 () λh3 e3 s3=>?_))
 replace s3:SameBut e h2 h3:=s3
 replace e3:IsEnum h3 e it (k+1) old:=e3
 refine(show wpAny _ _ (newTuple [.int k tk,x] >>= _) _ _ ⟨h3,g,d,tk+1,os⟩from wpAny_bind (wpAny_newTuple ?_));have e4:IsEnum (h3.push {cls:=.type "tuple",data:=.seq #[.int k tk,x]}) e it (k+1) old:=get?_push_of_some _ e3;generalize hh4:h3.push {cls:=.type "tuple",data:=.seq #[.int k tk,x]}=h4 at e4;have z3:h3.objs.size=hp.objs.size:=by rw[s3.1,s2.1,s1.1]
 have lte:e<hp.objs.size:=lt_size he;have t4:h4.get? hp.objs.size=some {cls:=.type "tuple",data:=.seq #[.int k tk,x]}:=by rw[<- hh4,<- z3];exact get?_push_size _ rfl
 have z4:h4.objs.size=hp.objs.size+1:=by rw[<- hh4,size_push,z3]
 have k4:∀b o,b≠e->h1.get? b=some o->h4.get? b=some o:=λb o hb q=>by rw[<- hh4];exact get?_push_of_some _ (s3.extBut b o hb (s2.extBut b o hb q))
 refine(show wpAny _ _ (Builtin.SmallTypes.ownedTupleIsFree (.ref e) >>= _) _ _ ⟨h4,g,d,tk+1,os⟩from ?_);rw[z3];refine wpAny_bind ?_;refine wpAny_bind (wpAny_field e4 rfl rfl (wpAny_pure ?_));refine wpAny_bind (wpAny_rule (wpAny_bind (wpAny_field e4 rfl (x:=old) rfl (wpAny_bind (wpAny_setField_rec e4 () λh5 e5 s5=>?_)))))
 replace s5:SameBut e h4 h5:=s5
 replace e5:IsEnum h5 e it (k+1) x:=e5
 refine(show wpAny _ _ (Builtin.SmallTypes.ownedTupleHandOut (.ref e) (.ref hp.objs.size) >>= _) _ _ ⟨h5,g,d,tk+1,os⟩from wpAny_bind ?_);refine wpAny_bind (wpAny_setField_rec e5 () λh6 e6 s6=>?_)
 replace s6:SameBut e h5 h6:=s6
 replace e6:IsEnumOut h6 e it (k+1) x hp.objs.size:=e6
 refine wpAny_setField_rec e6 () λh7 e7 s7=>?_
 replace s7:SameBut e h6 h7:=s7
 replace e7:IsEnumOut h7 e it (k+1) x hp.objs.size:=e7
 have up:∀b o,b≠e->h4.get? b=some o->h7.get? b=some o:=λb o hb q=>s7.extBut b o hb (s6.extBut b o hb (s5.extBut b o hb q));refine wpAny_bind (wpAny_letGo (wpAny_pure ⟨_,rfl,hQ h7 e7 (i1.at (λo q=>up it o hne.symm (k4 it o hne.symm q)) λo q=>up l o hle (k4 l o hle q)) (up _ _ (Nat.ne_of_gt lte) t4) (by rw[s7.1,s6.1,s5.1,z4]) λb o hb hb2 q=>up b o hb (k4 b o hb (s1.extBut b o hb2 q))⟩))
def BK(he:IsEnum s.heap e it k old)(hi:jR s.heap it l its i)(hne:e≠it)(hli:l≠it)(hle:l≠e)(hx:its[i]?=some x)
  (hQ:∀ h',IsEnumOut h' e it (k+1) x s.heap.objs.size->jR h' it l its (i+1)->h'.get? s.heap.objs.size=some { cls:=.type "tuple", data:=.seq #[.int k s.toks,x] }->h'.objs.size=s.heap.objs.size+1 ->
   (∀b o,b≠e->b≠it->s.heap.get? b=some o->h'.get? b=some o)->Q (some (.ref s.heap.objs.size)) {s with heap:=h',toks:=s.toks+1}):wpAny (model prog w) A (pyNext (.ref e)) Q E s:=by
 have hT:s.TypeIs (.ref e) "enumerate":=⟨_,he,rfl⟩
 exact wpAny_bind (wpAny_attempt (wpAny_callSpecial?_slot hT F.slot_enumerate_next (wpAny_call_entry F.slot_enumerate_next hT F.entry_enumerate_next (Cv he hi hne hli hle hx λh' a b c d q=>wpAny_pure (hQ h' a b c d q)) (F.args_enumerate_next_1 _))))
def EL(hh:A.handled=none)(he:IsEnum s.heap e it k old)(hi:jR s.heap it l its i)(hx:its[i]?=none)
  (hQ:∀h',ExtBut it s.heap h'->Q none {s with heap:=h'}):wpAny (model prog w) A (pyNext (.ref e)) Q E s:=by
 have hT:s.TypeIs (.ref e) "enumerate":=⟨_,he,rfl⟩
 refine wpAny_bind (wpAny_attempt (wpAny_callSpecial?_slot hT F.slot_enumerate_next (wpAny_call_entry F.slot_enumerate_next hT F.entry_enumerate_next ?_ (F.args_enumerate_next_1 _))));refine(show wpAny _ _ (field (.ref e) 2 >>= _) _ _ _ from wpAny_bind (wpAny_field he rfl rfl ?_));refine wpAny_bind (FK hh hi hx λh' y q ⟨o,ho,hc⟩=>?_);exact wpAny_bind (wpAny_isInstance ⟨o,ho,hc⟩ isSubtype_stop (wpAny_pure (hQ _ q)))
end
section
variable{X:Cx}{T:Tb}{W:Nat->St->LA}{Z:Zn}{F F1 B L:Lp}{H H1:Hp}{Y:St}{env:En}{js:Lo}{s:Shared}
def o5{fp:Lu}{vs:Lz}(I:L2.Inv X js Y H s)(hf:∀b∈fp,n5 X js H b)(k:∀b o,b∉fp->s.heap.get? b=some o->h'.get? b=some o)(hp:s.heap.objs.size<=a)(new:cO X.prog X.w (upd H a (.tup vs)) h' a (.tup vs)) :
  L2.Inv X js Y (upd H a (.tup vs)) {s with heap:=h',toks:=t'}:=by
 have hn:H a=none:=I.hok.fresh hp;have nit:∀b u,H b=some u->b∉fp:=λb u e z=>by rw[(hf b z).1]at e;cases e
 refine I.step (g':=s.gens) (d':=s.drawn) (λb hb=>?_) (λb o _ _ hc e _=>k b o hc e) (λb o _ _ hc e _=>⟨o.slots,k b o hc e⟩) (λb o _ e n=>?_) (λb o hc e=>⟨o,k b o hc e⟩)
  (λb xs e=>by rw[aR (cG e hn)];exact e) (λb o u e=>by rw[aR (cG e hn)];exact e) (λb ps e=>⟨#[],by rw[aR (cG e hn),e];simp⟩) (λm hm=>?_) (λb u e=>?_) I.bare
 .obtain⟨_,q1,_,q3,q4,q5⟩:=hf b hb;exact⟨q3,q1,q4,q5⟩
 .rw[aR (Nat.ne_of_lt (Nat.lt_of_lt_of_le (lt_size e) hp))];exact n
 .obtain⟨o,es,ep,ho,r⟩:=hm;exact⟨o,es,ep,k _ o (λz=>(hf _ z).2.1 rfl) ho,r⟩
 .by_cases hb:b=a
  .subst hb;rw[bG]at e;cases e;exact new
  .rw[aR hb]at e;refine(I.hok b u e).stay (λc v hc q=>k c v ?_ q) (λc q=>by rw[aR (cG q hn)];exact q) λc xs _ q=>by rw[aR (cG q hn)];exact q
   rcases hc with z|z
   .rw[z];exact nit b u e
   .exact nit c _ z
def Sq(tp:Bool)(K:PySem.W.Frag)(H:Hp)(l:Addr)(xs:Lz):Prop:=match tp with
 |true=>SqT K H l xs
 |false=>SqL K H l xs
def AO(tp:Bool)(h:Heap)(it l:Addr)(i:Nat):Prop:=match tp with
 |true=>h.IsTupleIter it l i
 |false=>h.IsListIter it l i
def Ite(tp:Bool)(K:PySem.W.Frag)(st:Int)(l:Addr):It:=
 ⟨λi H=>∃xs x,Sq tp K H l xs/\xs[i]?=some x,λi H v H'=>∃p y,H p=none/\v=.ref p/\H'=upd H p (.tup [.int (st+i),y])/\∀xs,Sq tp K H l xs->xs[i]?=some y,λi H=>∃xs,Sq tp K H l xs/\xs.length<=i⟩
theorem CZ(I:L2.Inv X js Y H s)(hq:Sq tp X.K H l xs)(ha:AO tp s.heap it l i):∃its:Lr,aY xs its/\jR s.heap it l its.toArray i/\l≠it/\∀e k old,IsEnum s.heap e it k old->e≠it/\l≠e:=by
 cases tp with
 |false=>
  obtain⟨its,rv,p,_⟩:=I.list hq;obtain⟨o,ho,hc,_⟩:=id p.isList;obtain⟨o2,ho2,hc2,_⟩:=id (show s.heap.IsListIter it l i from ha);refine⟨its,rv,.lst ha p.isList,λz=>?_,λe k old he=>⟨λz=>?_,λz=>?_⟩⟩
  .lia
  .grind
  grind
 |true=>
  obtain⟨its,rv,p,_⟩:=I.tuple hq;have p':s.heap.IsTuple l its.toArray:=p;obtain⟨o,ho,hc,_⟩:=id p';obtain⟨o2,ho2,hc2,_⟩:=id (show s.heap.IsTupleIter it l i from ha);refine⟨its,rv,.tup ha p',λz=>?_,λe k old he=>⟨λz=>?_,λz=>?_⟩⟩
  .lia
  .grind
  grind
def Ei(I:L2.Inv X js Y H s)(h1:Sq tp X.K H l xs)(h2:Sq tp X.K H l ys):xs=ys:=by
 cases tp with
 |false=>exact I.list_inj h1 h2
 |true=>exact I.tuple_inj h1 h2
theorem I8(x:jR h it l its i)(hl:tp=true->∃o,h.get? l=some o/\o.cls=.type "tuple")(hl2:tp=false->∃o,h.get? l=some o/\o.cls=.type "list"):AO tp h it l i:=by
 cases tp with
 |false=>
  obtain⟨o,ho,hc⟩:=hl2 rfl;rcases x with⟨a,b⟩ |⟨a,⟨o2,ho2,hc2,_⟩⟩
  .exact a
  .lia
 |true=>
  obtain⟨o,ho,hc⟩:=hl rfl;rcases x with⟨a,⟨o2,ho2,hc2,_⟩⟩ |⟨a,b⟩
  .lia
  .exact a
theorem oy{els:List Expr}{x1}(tp:Bool)(st:Int)(l e it:Addr) :
  uw P w K (.Tuple els x1 tpos) (Ite tp K st l) [e,it] e (λi h=>(∃old,IsEnum h e it (st+i) old)/\AO tp h it l i) where
 mem:=by simp
 obj:=λi h st b hb=>by
  obtain⟨⟨old,he⟩,ha⟩:=st;simp at hb;rcases hb with rfl|rfl
  .exact⟨_,he,λv z=>by cases z⟩
  .cases tp with
   |false=>obtain⟨o,e,c,d⟩:=id (show h.IsListIter b l i from ha);exact⟨o,e,λv z=>by lia⟩
   |true=>obtain⟨o,e,c,d⟩:=id (show h.IsTupleIter b l i from ha);exact⟨o,e,λv z=>by lia⟩
 keep:=λi h h' st k=>by
  obtain⟨⟨old,he⟩,ha⟩:=st;refine⟨⟨old,k e () _ he⟩,?_⟩;cases tp with
  |false=>obtain⟨o,e,r⟩:=id (show h.IsListIter it l i from ha);exact⟨o,k it () o e,r⟩
  |true=>obtain⟨o,e,r⟩:=id (show h.IsTupleIter it l i from ha);exact⟨o,k it () o e,r⟩
 item:=by
  intro X hP hw hK hc i js s Y H E I hf stt hg;subst hP hw hK;obtain⟨⟨old,he⟩,ha⟩:=stt;obtain⟨xs,x,hq,hx⟩:=hg;obtain⟨its,rv,hi,hli,hen⟩:=CZ I hq ha;obtain⟨hne,hle⟩:=hen e _ old he;obtain⟨u,hu,ru⟩:=rv.get hx;refine BK he hi hne hli hle (by simpa using hu) λh1 eo in1 tu sz kp=>?_;refine⟨_,rfl,wpAny_letOwnedTupleGo_enum eo λh2 e2 s2=>?_⟩
  replace s2:SameBut e h1 h2:=s2
  have lte:e<s.heap.objs.size:=lt_size he;have kp2:∀b o,b∉[e,it]->s.heap.get? b=some o->h2.get? b=some o:=λb o hb q=>by simp at hb;exact s2.extBut b o hb.1 (kp b o hb.1 hb.2 q)
  have tu2:h2.get? s.heap.objs.size=some {cls:=.type "tuple",data:=.seq #[.int (st+i) s.toks,u]}:=s2.extBut _ _ (Nat.ne_of_gt lte) tu;refine⟨.ref s.heap.objs.size,upd H s.heap.objs.size (.tup [.int (st+i),x]),(o5 (h':=h2) (t':=s.toks+1) (vs:=[.int (st+i),x]) I hf kp2 (Nat.le_refl _) ⟨by rw[sizeLine_eq];simp,[.int (st+i) s.toks,u],.cons ⟨_,rfl⟩ (.cons ru .nil),⟨_,tu2,rfl,_,rfl⟩⟩ :),rfl,⟨_,x,I.hok.fresh (Nat.le_refl _),rfl,rfl,λys hy=>by rw[Ei I hy hq];exact hx⟩,⟨⟨u,?_⟩,?_⟩,λb hb=>?_⟩
  .lia
  .have in2:=in1.at (λo q=>s2.extBut it o hne.symm q) λo q=>s2.extBut l o hle q;refine I8 in2 (λz=>?_) λz=>?_
   .subst z;obtain⟨_,_,p,_⟩:=I.tuple hq;obtain⟨o,ho,hc,_⟩:=id (show s.heap.IsTuple l _ from p);exact⟨o,kp2 l o (by simp[hle,hli]) ho,hc⟩
   .subst z;obtain⟨_,_,p,_⟩:=I.list hq;obtain⟨o,ho,hc,_⟩:=id p.isList;exact⟨o,kp2 l o (by simp[hle,hli]) ho,hc⟩
  .have:b<s.heap.objs.size:=by
    simp at hb;rcases hb with rfl|rfl
    .exact lte
    .obtain⟨o,ho,_⟩:=hi.obj;exact lt_size ho
   rw[aR (Nat.ne_of_lt this)];exact(hf b hb).1
 done:=by intro X hP hw hK hc i js s Y H E I hf stt hg;subst hP hw hK;obtain⟨⟨old,he⟩,ha⟩:=stt;obtain⟨xs,hq,hx⟩:=hg;obtain⟨its,rv,hi,hli,hen⟩:=CZ I hq ha;obtain⟨f0,f1,f2,f3,f4,f5⟩:=hf it ();have hl:=rv.length;exact EL (I.ok.hd hc) he hi (by simp;lia) λh' eb=>⟨rfl,I.turned (t':=s.toks) (λb o hb e=>eb b o hb e) f0 f1 f3 f4 f5⟩
 self:=λ_ _ _ _ _ st h=>by obtain⟨⟨old,he⟩,_⟩:=st;exact wpAny_pyIter_enum he h
def qy{M:Model}{A:Around}{E:Lj}{s:Shared}{env:Env}{Ty:String}{rest:List Expr}{kws:List Keyword}{Q:Lj}
  (h:wpAny M A (spliced (backTo pos (starEach (e::rest) env))) (λvs s1=>wpAny M A (evalAll ((backToKw pos (keywordEach kws env)).map (·.2))) (λks s2=>wpAny M A (call (.type Ty) vs (((backToKw pos (keywordEach kws env)).filterMap (·.1)).zip ks)) Q E s2) E s1) E s)
  (hall:(backToKw pos (keywordEach kws env)).all (·.1.isSome)=true:=by rfl) (hkw:(backToKw pos (keywordEach kws env)).any (·.1.isNone)=false:=by rfl)
  (he:starEach (e::rest) env=(false,eval e env)::starEach rest env:=by rfl) (hpl:(backTo pos (starEach (e::rest) env)).any (·.1)=false:=by rfl) :
  wpAny M A (callWith pos (.type Ty) [] (backTo pos (starEach (e::rest) env)) (backToKw pos (keywordEach kws env))) Q E s:=by
 refine wpAny_bind (wpAny_holding (wpAny_mono (evalArgs_kw2 (Q:=λa s1=>wpAny M A (call (.type Ty) ([]++ a.pos) a.kw) Q E s1) hall h he) (λa s1 h1=>wpAny_bind (wpAny_standAt ?_)) λ_ _ x=>x));simp only[hpl,hkw];exact wpAny_bind (wpAny_pure (wpAny_bind (wpAny_mono h1 (λr s2 hr=>wpAny_bind (wpAny_holding (wpAny_point (wpAny_pure hr)))) λ_ _ x=>x)))
theorem vM:bootBuiltins "enumerate"=some (.type "enumerate"):=by decide +kernel
noncomputable abbrev enE(l:Expr)(p pos kp cp:Pos)(j:Nat):Expr:=.Call (.Name "enumerate" p) [l] [⟨some "start",.Constant (.int 1) j cp,kp⟩] pos
theorem uV{x1}(hg:Gl X "enumerate")(hm:X.mg "enumerate"=none)(hl:PE X l tl)(hs:starEach [l] X.env=[(false,eval l X.env)]:=by rfl) :
  PI X (.Tuple els x1 tpos) (enE l p pos kp cp j) (λY H R=>tl Y H λx H1=>∃a tp xs,[x]=[V.ref a]/\Sq tp X.K H1 a xs/\R (Ite tp X.K 1 a) H1):=by
 intro js s Y H R I h;refine wpAny_Call_Name_kw (gA I hg hm vM ?_ () ());refine qy ?_ rfl rfl hs (by rw[hs];rfl);refine thn (dP hl gO (by rw[hs];rfl) pos js s Y H (λvs H1=>∃a tp xs,vs=[.ref a]/\Sq tp X.K H1 a xs/\R (Ite tp X.K 1 a) H1) I h) λus s1 hz1=>?_;obtain⟨vs,H1,I1,r1,a,tp,xs,ev,hq,q⟩:=hz1;subst ev;obtain⟨u,rfl,rx⟩:=eY r1;cases rx;refine thn (uU (yj) ya pos js s1 Y H1 (λzs H2=>zs=[.int 1]/\H2=H1) I1 ⟨rfl,rfl⟩) λws s2 hz1=>?_;obtain⟨zs,H2,I2,r2,ez,eh⟩:=hz1;subst ez;rw[eh]at I2;obtain⟨u2,rfl,rx2⟩:=eY r2;obtain⟨t,rfl⟩:=rx2;have hI:∃n,pE n a s2/\∀h',h'.get? s2.heap.objs.size=some (itO n a)->AO tp h' s2.heap.objs.size a 0:=by
  cases tp with
  |false=>obtain⟨its,rv,pl,_⟩:=I2.list hq;exact⟨"list_iterator",λ_ _ _ _ _ q=>wpAny_pyIter_list pl.isList q,λh' e=>⟨_,e,rfl,rfl⟩⟩
  |true=>obtain⟨its,rv,pl,_⟩:=I2.tuple hq;exact⟨"tuple_iterator",λ_ _ _ _ _ q=>wpAny_pyIter_tuple (show s2.heap.IsTuple a its.toArray from pl) q,λh' e=>⟨_,e,rfl,rfl⟩⟩
 obtain⟨n,hI,hA⟩:=hI;have hz:(s2.heap.push (itO n a)).objs.size=s2.heap.objs.size+1:=size_push ..
 have he:((s2.heap.push (itO n a)).push (enO s2.heap.objs.size 1)).get? (s2.heap.objs.size+1)=some (enO s2.heap.objs.size 1):=by have:=get?_push_size (s2.heap.push (itO n a)) (o:=enO s2.heap.objs.size 1) rfl;rw[hz]at this;exact this
 refine GK hI (wpAny_pyIter_enum he ?_);refine⟨s2.heap.objs.size+1,[s2.heap.objs.size+1,s2.heap.objs.size],_,_,H1,rfl,I2.kept (t':=s2.toks) λb o e=>get?_push_of_some _ (get?_push_of_some _ e),oy tp 1 a _ _,⟨⟨.none,by lia⟩,hA _ (get?_push_of_some _ (get?_push_size _ rfl))⟩,λb hb=>?_,q⟩;simp at hb;rcases hb with rfl|rfl
 .exact I2.fpOk (le_succ _) (I2.hok.fresh (le_succ _))
 .exact I2.fpOk (Nat.le_refl _) (I2.hok.fresh (Nat.le_refl _))
end
noncomputable def enP(k:Int):LB->LB
 | []=>[]
 |x::xs=>.tup [.int k,x]::enP (k+1) xs
theorem jr:∀(k:Int) (xs:LB) (i:Nat),(enP k xs)[i]?=(xs[i]?).map λx=>.tup [.int (k+i),x]
 |_,[],i|k,x::xs,0=>by simp[enP]
 |k,x::xs,i+1=>by
  simp only[enP,getElem?_cons_succ,jr (k+1) xs i];congr 1;funext y;congr 3
  lia
def jq:∀(k:Int) (xs:LB),(enP k xs).length=xs.length
 |_,[]=>rfl
 |k,_::xs=>by simp[enP,jq (k+1) xs]
def wE(m:ME):MI:=λenv=>(m env).bind λx=>match x with
 |.lst f xs=>if !f.LJ&&fk xs then .ok (enP 1 xs)else .stuck
 |.tup xs=>if fk xs then .ok (enP 1 xs)else .stuck
 |_=>.stuck
def Cb(m:ME):MI:=λenv=>(m env).bind λx=>match a_ x with
 |some xs=>.ok (enP 1 xs)
 |none=>.stuck
section
variable{X:Cx}{T:Tb}{W:Nat->St->LA}{Z:Zn}{F F1 B L:Lp}{H H1:Hp}{Y:St}{env:En}{fp:Nat->Lu}
def mR(hp:H2 p=none)(r:Rel T F B L H2 x v f):Rel T F B L (upd H2 p (.tup [.int k,v])) (.tup [.int k,x]) (.ref p) f:=by refine⟨p,_,rfl,SqT.of bG,?_⟩;have r2:Rel T F B L (upd H2 p (.tup [.int k,v])) x v f:=r.ext (Ext.upd hp) λ_ h=>h;refine⟨.int k,[v],[],f,rfl,fN,?_,rfl⟩;exact⟨v,[],f,[],rfl,r2,by exact⟨rfl,rfl⟩,by simp⟩
def A_{x1}(hK:X.K=T.K)(hg:Gl X "enumerate")(hm:X.mg "enumerate"=none)(he:SE X T W e m)(hs:starEach [e] X.env=[(false,eval e X.env)]:=by rfl) :
  SI X T W (.Tuple els x1 tpos) (enE e p pos kp cp j) (wE m):=λjs s Y H R I h=>uV hg hm he hs js s Y H R I (by
 obtain⟨Z,F,env,fp,S,q⟩:=h;unfold wE at q;walk_at "a";simp only[Res.LO]at q;have S1:=S.grow g1;rw[hK];have key:∀(tp:Bool) (a:Addr) (xs:LB) (vs:Lz),RelL T F1 Z.B NoL H1 xs vs []->(∀H2,(∀a o,H1 a=some o->¬Own fp a->H2 a=some o)->Sq tp T.K H2 a vs)->ItR T F1 Z.B (Own fp) H1 (Ite tp T.K 1 a) (enP 1 xs):=by intro tp a xs vs hr hq H2 hk;have hq2:=hq H2 hk;refine⟨λi x ex=>?_,⟨vs,hq2,by rw[jq,hr.length];exact Nat.le_refl _⟩⟩;rw[jr]at ex;obtain⟨y,ey,rfl⟩:=map_eq_some_iff.mp ex;obtain⟨v,_,ev,_,_⟩:=hr.get ey;refine⟨⟨vs,v,hq2,ev⟩,λw H3 hy=>?_⟩;obtain⟨p,y',hp,rfl,rfl,hall⟩:=hy;have:=hall vs hq2;rw[ev]at this;cases this;exact⟨Ext.upd hp,mR hp (iK S1.fow S1.bow S1.oow hk hr ey ev)⟩
 cases x with
 |lst f xs=>
  dsimp only at q;by_cases hc:(!f.LJ&&fk xs)=true
  .rw[if_pos hc]at q;rw[and_eq_true]at hc;obtain⟨a,vs,fp',rfl,hl,hr,hf⟩:=r1;obtain⟨rfl,hr'⟩:=d0 hc.2 hr;refine⟨a,false,vs,rfl,hl.sq,q _ H1 F1 g1 (key false a xs vs hr' λH2 hk=>?_)⟩;have na:f≠.mod->∀o,H1 a=some o->H2 a=some o:=λhn o ho=>by
    refine hk a o ho ?_;cases f with
    |own=>rintro⟨i,hi⟩;obtain⟨_,o',ho'⟩:=S.dis i a hi;obtain rfl:f1=[a]:=hf;rw[w1 a mem_cons_self]at ho';cases ho'
    |frz=>exact S1.fow a hl.1
    |bor=>exact S1.bow a hl.1
    |lnt=>exact absurd hc.1 ()
    |mod=>exact absurd rfl hn
   by_cases hn:f=.mod
   .subst hn;exact .inr hl
   .exact .inl (Rd.tr (na hn) (hl.rd hn))
  .rw[if_neg hc]at q;exact q.elim
 |tup xs=>
  dsimp only at q;by_cases hc:fk xs=true
  .rw[if_pos hc]at q;obtain⟨a,vs,rfl,hl,hr⟩:=r1;obtain⟨rfl,hr'⟩:=d0 hc hr;refine⟨a,true,vs,rfl,hl,q _ H1 F1 g1 (key true a xs vs hr' λH2 hk=>?_)⟩;exact SqT.tr (λo ho hfx=>hk a o ho λz=>by
    have:=S1.oow a o z ho;cases o with
    |lst _|ins _ _ _=>exact hfx
    |_=>exact this) hl
  .rw[if_neg hc]at q;exact q.elim
 |_=>exact q.elim)
def xD{x1}(hK:X.K=T.K)(hg:Gl X "enumerate")(hm:X.mg "enumerate"=none)(he:SE X T W e m)(hs:starEach [e] X.env=[(false,eval e X.env)]:=by rfl) :
  SIc X T W (.Tuple els x1 tpos) (enE e p pos kp cp j) (Cb m):=λjs s Y H R I h=>uV hg hm he hs js s Y H R I (by
 obtain⟨Z,F,env,fp,S,q⟩:=h;unfold Cb at q;walk_at "a";simp at q;cases es:a_ x with
 |none=>rw[es]at q;exact q.elim
 |some xs=>
  rw[es]at q;obtain⟨a,vs,f',rfl,hs,hr,_⟩:=r1.seq es;rw[hK];have key:∀(tp:Bool),Sq tp T.K H1 a vs->(∀H2,Ext H1 H2->Sq tp T.K H2 a vs)->ItC T F1 Z.B (Own fp) H1 (Ite tp T.K 1 a) (enP 1 xs):=by intro tp _ hq H2 hx;have hq2:=hq H2 hx;refine⟨λi x ex=>?_,⟨vs,hq2,by rw[jq,hr.length];exact Nat.le_refl _⟩⟩;rw[jr]at ex;obtain⟨y,ey,rfl⟩:=map_eq_some_iff.mp ex;obtain⟨v,f,ev,rv,_⟩:=hr.get ey;refine⟨⟨vs,v,hq2,ev⟩,λw H3 hy=>?_⟩;obtain⟨p,y',hp,rfl,rfl,hall⟩:=hy;have:=hall vs hq2;rw[ev]at this;cases this;exact⟨Ext.upd hp,f,λb hb=>rv.there b hb,mR hp (rv.ext hx λ_ h=>h)⟩
  rcases hs with hs|hs
  .refine⟨a,false,vs,rfl,hs,q _ H1 F1 g1 (key false hs λH2 hx=>?_)⟩;rcases hs with z|z
   .exact .inl (Rd.tr (λo q=>hx a o q) z)
   .exact .inr z
  .exact⟨a,true,vs,rfl,hs,q _ H1 F1 g1 (key true hs λH2 hx=>SqT.tr (λo q _=>hx a o q) hs)⟩)
end
section
variable{X:Cx}{T:Tb}{W:Nat->St->LA}{Z:Zn}{F F1 B L:Lp}{H H1:Hp}{Y:St}{env:En}{fp:Nat->Lu}{D:Ends}
def RelL.erase:∀{xs:LB}{ws:Lz} (n:Nat),RelL T F B L H xs ws []->RelL T F B L H (xs.eraseIdx n) (ws.eraseIdx n) []
 | [],ws,n,h=>by unfold RelL at h;obtain⟨rfl,_⟩:=h;simpa using fM F B L H
 |x::xs,ws,n,h=>by
  unfold RelL at h;obtain⟨w,ws,f1,f2,rfl,h1,h2,e⟩:=h;obtain⟨rfl,rfl⟩:=List.append_eq_nil_iff.mp e.symm;cases n with
  |zero=>simpa using h2
  |succ n=>rw[List.eraseIdx_cons_succ,List.eraseIdx_cons_succ];unfold RelL;exact⟨w,_,[],[],rfl,h1,RelL.erase n h2,rfl⟩
end
open AutoSeq1 (wpAny_loadPart')
section
variable{prog:Program}{w:World}{A:Around}{E:Lj}{s:Shared}
noncomputable abbrev zTI(n:Addr):Obj:={cls:=.type "tuple",data:=.seq #[.ref n,.ref (n+1)]}
abbrev zTO:Obj:={cls:=.type "tuple",data:=.seq #[.none,.none]}
noncomputable abbrev zO(n:Addr):Obj:={cls:=.type "zip",data:=.fields #[.none,.bool false,.bool false,.ref (n+2),.ref (n+3)]}
abbrev CW(h:Heap)(l1 l2:Addr):Heap:=((((h.push (itO "list_iterator" l1)).push (itO "list_iterator" l2)).push (zTI h.objs.size)).push zTO).push (zO h.objs.size)
def HC(hl:typeLookup (.type T) "__init__"=pure (some (.builtin "object.__init__")))(hm:Bind.madeBy (.type T)=pure (some nI))(hne:(some nI != some "object.__new__")=true) :
  Meets (Builtin.«object.__init__» ⟨[self,a,b],[]⟩) (λ_ R s=>s.TypeIs self T/\R (.ok (.ret .none)) s):=by
 refine Meets.of_wp λpr w A R s0 hs=>?_;obtain⟨hT,hq⟩:=hs
 repeat (any_goals (first|assumption|wp_step|fail))
 exact⟨_,rfl,hq⟩
def Kh(l1 l2:Addr)(xs ys:Ly) :
  Meets (Builtin.«zip.__new__» ⟨[.type "zip",.ref l1,.ref l2],[]⟩) (λ_ R s=>s.heap.IsList l1 xs/\s.heap.IsList l2 ys/\R (.ok (.ret (.ref (s.heap.objs.size+4)))) {s with heap:=CW s.heap l1 l2}):=
 .of_wp λpr w A R s0 h=>by
  obtain⟨hp,g,d,tk,os⟩:=s0;obtain⟨h1,h2,h⟩:=h;have hsub:=sub_zip;have h2':(hp.push (itO "list_iterator" l1)).IsList l2 ys:=by obtain⟨o,e,r⟩:=h2;exact⟨o,get?_push_of_some _ e,r⟩
  have hz1:(hp.push (itO "list_iterator" l1)).objs.size=hp.objs.size+1:=size_push ..
  have hJ1:∀{Q:Lj}{E:Lj},Q (.ref hp.objs.size) ⟨hp.push (itO "list_iterator" l1),g,d,tk,os⟩->wpAny (model pr w) A.in1 (pyIter (.ref l1)) Q E ⟨hp,g,d,tk,os⟩:=λ{Q E} q=>wpAny_pyIter_list h1 q;have hJ2:∀{Q:Lj}{E:Lj},Q (.ref (hp.push (itO "list_iterator" l1)).objs.size) ⟨(hp.push (itO "list_iterator" l1)).push (itO "list_iterator" l2),g,d,tk,os⟩->wpAny (model pr w) A.in1 (pyIter (.ref l2)) Q E ⟨hp.push (itO "list_iterator" l1),g,d,tk,os⟩:=λ{Q E} q=>wpAny_pyIter_list h2' q
  wp_walk using hJ1,hJ2
  refine⟨_,rfl,?_⟩;simp only[size_push];exact h
def CM(h1:s.heap.IsList l1 xs)(h2:s.heap.IsList l2 ys)(h:Q (.ref (s.heap.objs.size+4)) {s with heap:=CW s.heap l1 l2}) :
  wpAny (model prog w) A (call (.type "zip") [.ref l1,.ref l2] []) Q E s:=by
 have hz:((((s.heap.push (itO "list_iterator" l1)).push (itO "list_iterator" l2)).push (zTI s.heap.objs.size)).push zTO).objs.size=s.heap.objs.size+4:=by simp only[size_push]
 refine lA (Q1:=λob s1=>s1.TypeIs ob "zip" /\ Q ob s1) F.called_zip (F.typeCall_zip_2 _ _) (F.newCall_zip_2 _ _) F.entry_zip_new F.entry_object_init (Kh l1 l2 xs ys) ⟨h1,h2,?_⟩ λob s1 hq=>⟨hq.1,?_,_,HC F.called_zip.init.lookup F.called_zip.made (),hq.1,rfl,hq.2⟩
 .have:=get?_push_size ((((s.heap.push (itO "list_iterator" l1)).push (itO "list_iterator" l2)).push (zTI s.heap.objs.size)).push zTO) (o:=zO s.heap.objs.size) rfl;rw[hz]at this;exact⟨⟨_,this,rfl⟩,h⟩
 .exact F.args_object_init_3 _ _ _
end
section
variable{X:Cx}{T:Tb}{W:Nat->St->LA}{Z:Zn}{F F1 B L:Lp}{H H1:Hp}{Y:St}{env:En}{js:Lo}{s:Shared}
def wL{fp:Lu}(I:L2.Inv X js Y H s)(hf:∀b∈fp,n5 X js H b)(k:∀b o,b∉fp->s.heap.get? b=some o->h'.get? b=some o) :
  L2.Inv X js Y H {s with heap:=h',toks:=t'}:=by
 have nit:∀b u,H b=some u->b∉fp:=λb u e z=>by rw[(hf b z).1]at e;cases e
 refine I.step (g':=s.gens) (d':=s.drawn) (λb hb=>?_) (λb o _ _ hc e _=>k b o hc e) (λb o _ _ hc e _=>⟨o.slots,k b o hc e⟩) (λ_ _ _ _ n=>n) (λb o hc e=>⟨o,k b o hc e⟩)
  (λ_ _ e=>e) (λ_ _ _ e=>e) (λb ps e=>⟨#[],by rw[e];simp⟩) (λm hm=>?_) (λb u e=>?_) I.bare
 .obtain⟨_,q1,_,q3,q4,q5⟩:=hf b hb;exact⟨q3,q1,q4,q5⟩
 .obtain⟨o,es,ep,ho,r⟩:=hm;exact⟨o,es,ep,k _ o (λz=>(hf _ z).2.1 rfl) ho,r⟩
 .refine(I.hok b u e).stay (λc v hc q=>k c v ?_ q) (λ_ q=>q) λ_ _ _ q=>q;rcases hc with z|z
  .rw[z];exact nit b u e
  .exact nit c _ z
def Itz(K:PySem.W.Frag)(l1 l2:Addr):It:=
  ⟨λi H=>∃ xs ys x y,SqL K H l1 xs/\SqL K H l2 ys/\xs[i]?=some x/\ys[i]?=some y,
   λi H v H'=>∃p x y,H p=none/\v=.ref p/\H'=upd H p (.tup [x,y])/\(∀xs,SqL K H l1 xs->xs[i]?=some x)/\∀ys,SqL K H l2 ys->ys[i]?=some y,
   λi H=>∃xs ys,SqL K H l1 xs/\SqL K H l2 ys/\(xs.length<=i\/ys.length<=i)⟩
def ki{h h':Heap}{it l:Addr}{i:Nat}(a:h.IsListIter it l i)(k:∀o,h.get? it=some o->h'.get? it=some o):h'.IsListIter it l i:=by obtain⟨o,e,r⟩:=a;exact⟨o,k o e,r⟩
theorem xk{P:Program}{w:World}{K:PySem.W.Frag}{els:List Expr}{x1}(l1 l2 z ti to i1 i2:Addr)(D:ZipApart z ti to i1 i2 l1 l2) :
  uw P w K (.Tuple els x1 tpos) (Itz K l1 l2) [z,ti,to,i1,i2] z (λi h=>IsZip h z ti to .none/\IsPair h ti (.ref i1) (.ref i2)/\(∃a b,IsPair h to a b)/\h.IsListIter i1 l1 i/\h.IsListIter i2 l2 i) where
 mem:=by simp
 obj:=λi h st b hb=>by
  obtain⟨hz,ht,⟨a',b',ho⟩,h1,h2⟩:=st;simp at hb;rcases hb with rfl|rfl|rfl|rfl|rfl
  .exact⟨_,hz,λv z=>by cases z⟩
  .exact⟨_,ht,λv z=>by cases z⟩
  .exact⟨_,ho,λv z=>by cases z⟩
  .obtain⟨o,e,c,d⟩:=id h1;exact⟨o,e,λv z=>by lia⟩
  .obtain⟨o,e,c,d⟩:=id h2;exact⟨o,e,λv z=>by lia⟩
 keep:=λi h h' st k=>by obtain⟨hz,ht,⟨a',b',ho⟩,h1,h2⟩:=st;exact⟨k z () _ hz,k ti () _ ht,⟨a',b',k to () _ ho⟩,ki h1 (k i1 ()),ki h2 (k i2 ())⟩
 item:=by
  intro X hP hw hK hc i js s Y H E I hf stt hg;subst hP hw hK;obtain⟨hz,ht,⟨a',b',ho⟩,h1,h2⟩:=stt;obtain⟨xs,ys,x,y,hq1,hq2,hx,hy⟩:=hg;obtain⟨its1,rv1,pl1,_⟩:=I.list hq1;obtain⟨its2,rv2,pl2,_⟩:=I.list hq2;obtain⟨u1,hu1,ru1⟩:=rv1.get hx;obtain⟨u2,hu2,ru2⟩:=rv2.get hy;refine wpAny_pyNext_zip_item D hz ht ho h1 h2 pl1.isList pl2.isList (by simpa using hu1) (by simpa using hu2) λh' z' to' i1' i2' pr sz kp=>?_;refine⟨_,rfl,wpAny_letOwnedTupleGo_zip z' λh3 z3 s3=>?_⟩
  replace s3:SameBut z h' h3:=s3
  have ltz:z<s.heap.objs.size:=lt_size hz;have kp2:∀b o,b∉[z,ti,to,i1,i2]->s.heap.get? b=some o->h3.get? b=some o:=λb o hb q=>by simp at hb;exact s3.extBut b o hb.1 (kp b o hb.1 hb.2.2.1 hb.2.2.2.1 hb.2.2.2.2 q)
  have tu2:h3.get? s.heap.objs.size=some {cls:=.type "tuple",data:=.seq #[u1,u2]}:=s3.extBut _ _ (Nat.ne_of_gt ltz) pr;refine⟨.ref s.heap.objs.size,upd H s.heap.objs.size (.tup [x,y]),(o5 (h':=h3) (t':=s.toks) I hf kp2 (Nat.le_refl _) ⟨by rw[sizeLine_eq];simp,[u1,u2],.cons ru1 (.cons ru2 .nil),⟨_,tu2,rfl,_,rfl⟩⟩ :),rfl,⟨_,x,y,I.hok.fresh (Nat.le_refl _),rfl,rfl,λzs hz=>by rw[I.list_inj hz hq1];exact hx,λzs hz=>by rw[I.list_inj hz hq2];exact hy⟩,⟨z3,s3.extBut ti _ D.TIz (kp ti _ D.TIz D.TITO D.TIi1 D.TIi2 ht),⟨_,_,s3.extBut to _ D.TOz to'⟩,ki i1' λo q=>s3.extBut i1 o D.i1z q,ki i2' λo q=>s3.extBut i2 o D.i2z q⟩,λb hb=>?_⟩;have:b<s.heap.objs.size:=by
   simp at hb;rcases hb with rfl|rfl|rfl|rfl|rfl
   .exact ltz
   .exact lt_size ht
   .exact lt_size ho
   .obtain⟨o,e,_⟩:=id h1;exact lt_size e
   .obtain⟨o,e,_⟩:=id h2;exact lt_size e
  rw[aR (Nat.ne_of_lt this)];exact(hf b hb).1
 done:=by
  intro X hP hw hK hc i js s Y H E I hf stt hg;subst hP hw hK;obtain⟨hz,ht,⟨a',b',ho⟩,h1,h2⟩:=stt;obtain⟨xs,ys,hq1,hq2,hx⟩:=hg;obtain⟨its1,rv1,pl1,_⟩:=I.list hq1;obtain⟨its2,rv2,pl2,_⟩:=I.list hq2;have l1':=rv1.length;have l2':=rv2.length;refine wpAny_pyNext_zip_end (I.ok.hd hc) D hz ht ho h1 h2 pl1.isList pl2.isList (by simp;lia) λh' kp=>⟨rfl,wL (t':=s.toks) I hf λb o hb q=>?_⟩
  grind
 self:=λ_ _ _ _ _ st h=>wpAny_pyIter_zip st.1 h
theorem GQ:bootBuiltins "zip"=some (.type "zip"):=by decide +kernel
theorem EM{x1}(hg:Gl X "zip")(hm:X.mg "zip"=none)(ha:PA X [a,b] ta)(hs:starEach [a,b] X.env=[(false,eval a X.env),(false,eval b X.env)]:=by rfl)(hs2:starEach [b] X.env=[(false,eval b X.env)]:=by rfl) :
  PI X (.Tuple els x1 tpos) (.Call (.Name "zip" p) [a,b] [] pos) (λY H R=>ta Y H λvs H1=>∃l1 l2 xs ys,vs=[V.ref l1,V.ref l2]/\SqL X.K H1 l1 xs/\SqL X.K H1 l2 ys/\R (Itz X.K l1 l2) H1):=by
 intro js s Y H R I h;refine PyProof.Rows.Call_ (gA I hg hm GQ (PyProof.Rows.callWith_type1 (thn (ha pos js s Y H _ I h) λus s1 zz=>?_) (by rw[hs,hs2]) (by rw[hs2];rfl)));obtain⟨vs,H1,I1,r1,q1⟩:=zz;obtain⟨l1,l2,xs,ys,e,hq1,hq2,q⟩:=q1;subst e;cases r1 with
 |cons r rr=>
  cases rr with
  |cons r' rr=>
   cases rr;cases r;cases r';obtain⟨its1,rv1,pl1,_⟩:=I1.list hq1;obtain⟨its2,rv2,pl2,_⟩:=I1.list hq2;have hl1:l1<s1.heap.objs.size:=by obtain⟨o,e,_⟩:=id pl1.isList;exact lt_size e
   have hl2:l2<s1.heap.objs.size:=by obtain⟨o,e,_⟩:=id pl2.isList;exact lt_size e
   have z1:(s1.heap.push (itO "list_iterator" l1)).objs.size=s1.heap.objs.size+1:=size_push ..
   have z2:((s1.heap.push (itO "list_iterator" l1)).push (itO "list_iterator" l2)).objs.size=s1.heap.objs.size+2:=by simp
   have z3:(((s1.heap.push (itO "list_iterator" l1)).push (itO "list_iterator" l2)).push (zTI s1.heap.objs.size)).objs.size=s1.heap.objs.size+3:=by simp
   have z4:((((s1.heap.push (itO "list_iterator" l1)).push (itO "list_iterator" l2)).push (zTI s1.heap.objs.size)).push zTO).objs.size=s1.heap.objs.size+4:=by simp only[size_push]
   have e4:=get?_push_size ((((s1.heap.push (itO "list_iterator" l1)).push (itO "list_iterator" l2)).push (zTI s1.heap.objs.size)).push zTO) (o:=zO s1.heap.objs.size) rfl;have e3:=get?_push_size (((s1.heap.push (itO "list_iterator" l1)).push (itO "list_iterator" l2)).push (zTI s1.heap.objs.size)) (o:=zTO) rfl;have e2:=get?_push_size ((s1.heap.push (itO "list_iterator" l1)).push (itO "list_iterator" l2)) (o:=zTI s1.heap.objs.size) rfl;have e1:=get?_push_size (s1.heap.push (itO "list_iterator" l1)) (o:=itO "list_iterator" l2) rfl;have e0:=get?_push_size s1.heap (o:=itO "list_iterator" l1) rfl;rw[z4]at e4;rw[z3]at e3;rw[z2]at e2;rw[z1]at e1;refine CM pl1.isList pl2.isList (wpAny_pyIter_zip e4 ?_);refine⟨s1.heap.objs.size+4,[s1.heap.objs.size+4,s1.heap.objs.size+2,s1.heap.objs.size+3,s1.heap.objs.size,s1.heap.objs.size+1],_,_,H1,rfl,I1.kept (t':=s1.toks) λb o e=>get?_push_of_some _ (get?_push_of_some _ (get?_push_of_some _ (get?_push_of_some _ (get?_push_of_some _ e)))),xk l1 l2 _ _ _ _ _ (PyProof.Rows.zipApart_new hl1 hl2),⟨e4,get?_push_of_some _ (get?_push_of_some _ e2),⟨.none,.none,get?_push_of_some _ e3⟩,⟨_,get?_push_of_some _ (get?_push_of_some _ (get?_push_of_some _ (get?_push_of_some _ e0))),rfl,rfl⟩,⟨_,get?_push_of_some _ (get?_push_of_some _ (get?_push_of_some _ e1)),rfl,rfl⟩⟩,λb hb=>?_,q⟩;simp at hb;have hb':s1.heap.objs.size<=b:=by lia
   exact I1.fpOk hb' (I1.hok.fresh hb')
end
noncomputable def jF:LB->LB->LB
 |x::xs,y::ys=>.tup [x,y]::jF xs ys
 |_,_=>[]
def qD:∀(xs ys:LB) (i:Nat) {p:PV},(jF xs ys)[i]?=some p->∃x y,xs[i]?=some x/\ys[i]?=some y/\p=.tup [x,y]
 | [],_,i,_,h|_::_,[],i,_,h=>by simp[jF]at h
 |x::xs,y::ys,0,p,h=>by exact⟨x,y,rfl,rfl,(Option.some.inj h).symm⟩
 |x::xs,y::ys,i+1,p,h=>by exact qD xs ys i h
theorem qC:∀(xs ys:LB),(jF xs ys).length=min xs.length ys.length
 | [],_|_::_,[]=>by simp[jF]
 |_::xs,_::ys=>by simp only[jF,length_cons,qC xs ys];lia
def kf(ms:MA):MI:=λenv=>(ms env).bind λzs=>match zs with
 | [.lst _ xs,.lst _ ys]=>if fk xs&&fk ys then .ok (jF xs ys)else .stuck
 |_=>.stuck
section
variable{X:Cx}{T:Tb}{W:Nat->St->LA}{Z:Zn}{F F1 B L:Lp}{H H1:Hp}{Y:St}{env:En}{fp:Nat->Lu}
def v_(hp:H2 p=none)(r:Rel T F B L H2 x v [])(r':Rel T F B L H2 y u []):Rel T F B L (upd H2 p (.tup [v,u])) (.tup [x,y]) (.ref p) []:=by refine⟨p,_,rfl,SqT.of bG,?_⟩;have r1:Rel T F B L (upd H2 p (.tup [v,u])) x v []:=r.ext (Ext.upd hp) λ_ h=>h;have r2:Rel T F B L (upd H2 p (.tup [v,u])) y u []:=r'.ext (Ext.upd hp) λ_ h=>h;refine⟨v,[u],[],[],rfl,r1,?_,rfl⟩;exact⟨u,[],[],[],rfl,r2,by exact⟨rfl,rfl⟩,by simp⟩
def vh{xs:LB}{vs:Lz}{i:Nat}{x:PV}(h:RelL T F B L H xs vs [])(e:xs[i]?=some x):∃v,vs[i]?=some v/\Rel T F B L H x v []:=by obtain⟨v,f,ev,rv,sl⟩:=h.get e;have:f=[]:=List.eq_nil_of_sublist_nil sl;subst this;exact⟨v,ev,rv⟩
theorem pP{els:List Expr}{x1}(hK:X.K=T.K)(hg:Gl X "zip")(hm:X.mg "zip"=none)(ha:SA X T W [a,b] ms)(hs:starEach [a,b] X.env=[(false,eval a X.env),(false,eval b X.env)]:=by rfl)(hs2:starEach [b] X.env=[(false,eval b X.env)]:=by rfl) :
  SIc X T W (.Tuple els x1 tpos) (.Call (.Name "zip" p) [a,b] [] pos) (kf ms):=λjs s Y H R I h=>EM hg hm ha hs hs2 js s Y H R I (by
 obtain⟨Z,F,env,fp,S,q⟩:=h;unfold kf at q;refine tA.bq S λzs vs H1 F1 f1 e1 g1 r1 n1 d1 w1=>?_;rw[e1]at q;simp only[Res.LO]at q;split at q
 .rename_i f xs g ys
  split at q
  .rename_i hc
   rw[and_eq_true]at hc;obtain⟨v1,ws,f2,f3,rfl,ra,rb,_⟩:=r1;obtain⟨v2,rfl,rc⟩:=rb.one;obtain⟨a1,us,fp1,rfl,hl1,hr1,_⟩:=ra;obtain⟨a2,ws,fp2,rfl,hl2,hr2,_⟩:=rc;obtain⟨rfl,_⟩:=d0 hc.1 hr1;obtain⟨rfl,_⟩:=d0 hc.2 hr2;rw[hK];refine⟨a1,a2,us,ws,rfl,hl1.sq,hl2.sq,q _ H1 F1 g1 λH2 hx=>?_⟩;have up:∀{a:Addr}{us:Lz},SqL T.K H1 a us->SqL T.K H2 a us:=λ{a us} hs=>by
    rcases hs with z|z
    .exact .inl (Rd.tr (λo q=>hx a o q) z)
    .exact .inr z
   have s1:=up hl1.sq;have s2:=up hl2.sq;have ln1:=hr1.length;have ln2:=hr2.length;refine⟨λi x ex=>?_,⟨us,ws,s1,s2,by rw[qC];lia⟩⟩;obtain⟨x1,y1,ex1,ey1,rfl⟩:=qD xs ys i ex;obtain⟨v,ev,rv⟩:=vh hr1 ex1;obtain⟨u,eu,ru⟩:=vh hr2 ey1;refine⟨⟨us,ws,v,u,s1,s2,ev,eu⟩,λw H3 hy=>?_⟩;obtain⟨p,v',u',hp,rfl,rfl,hall1,hall2⟩:=hy;have q1:=hall1 us s1;have q2:=hall2 ws s2;rw[ev]at q1;rw[eu]at q2;cases q1;cases q2;exact⟨Ext.upd hp,[],λb hb=>(nomatch hb),v_ hp (rv.ext hx λ_ h=>h) (ru.ext hx λ_ h=>h)⟩
  .exact q.elim
 .exact q.elim)
end
section
variable{prog:Program}{w:World}{A:Around}{R:Result->Shared->Prop}{ia:Addr}{fps wrs:Lu}{len:Nat}{Pv:Nat->Value->Prop}{Sv:Nat->Heap->Prop}
abbrev Bd(xs:Ly)(c:Nat):Obj:={cls:=.type "list",dict:=none,data:=.seq xs c,slots:=#[]}
def mN:Bool->String|true=>"min"|_=>"max"
def mO:Bool->CmpOp|true=>.Lt|_=>.Gt
def lpB:Bool->Builtin|true=>Builtin.«min.loop»|_=>Builtin.«max.loop»
abbrev lpN(b:Bool):String:=toString (mN b)++ toString ".loop"
def lpE(b:Bool):entryFor table (lpN b)=some (lpB b)/\plainId (lpN b)=true:=by
 cases b
 .exact(by decide:"max.loop"=lpN false)▸⟨F.entry_max_loop,F.plain_max_loop⟩
 .exact(by decide:"min.loop"=lpN true)▸⟨F.entry_min_loop,F.plain_min_loop⟩
theorem FR(kw:List (Str×Value))(Wk:Walks prog w A.in1 ia fps wrs len Pv Sv)(lt:Nat->Nat->Bool)(hc:CmpOf prog w A.in1 (mO y) Pv lt)(best:Addr)(nb:best∉fps)(left j:Nat)(sh:Shared)(u:Value)(cap:Nat)(e1:len-(j+1)=left)(e2:j+1<=len)(st:Sv (j+1) sh.heap)(pu:Pv (argBest lt j) u)(ob:sh.heap.get? best=some (Bd #[u,u] cap))
   (fin:∀v h' tk,Pv (argBest lt (len-1)) v->(∀b o,b∉wrs->b≠best->sh.heap.get? b=some o->h'.get? b=some o)->R (.ok (.ret v)) {sh with heap:=h',toks:=tk}):codeAny (model prog w) A (.builtin (lpN y) ⟨[.ref ia,.none,.ref best],kw⟩) R sh:=by
 have nw:best∉wrs:=λz=>nb (Wk.sub _ z);have hq:=plainId_quiet (lpE y).2
 induction left generalizing j sh u cap with
 |zero=>
  have ej:j+1=len:=by lia
  cases y
  all_goals
   refine codeAny_builtin (lpE _).1 ?_;rw[Around.under_plainId (lpE _).2 _];refine(show wpAny _ A.in1 (seqItems? (.ref best) >>= _) _ _ sh from wpAny_bind (wpAny_seqItems ob rfl ?_));refine(show wpAny _ A.in1 (tryCatch (pyNext (.ref ia)) _ >>= _) _ _ sh from wpAny_bind (wpAny_tryCatch (Wk.done sh _ _ (ej▸st) λh' tk kp=>?_)));refine(show wpAny _ A.in1 (updateSeq best (λ_=>#[]) >>= _) _ _ _ from wpAny_bind (wpAny_updateSeq (kp best _ nw ob) rfl (wpAny_bind (wpAny_letGo (wpAny_pure ?_)))));exact fin u _ tk (by rw[<- ej];exact pu) λb o q1 q2 e=>(get?_update_other _ _ (Ne.symm q2)).trans (kp b o q1 e)
 |succ left ih=>
  have lj:j+1<len:=by lia
  cases y
  all_goals
   refine codeAny_builtin (lpE _).1 ?_;rw[Around.under_plainId (lpE _).2 _];refine(show wpAny _ A.in1 (seqItems? (.ref best) >>= _) _ _ sh from wpAny_bind (wpAny_seqItems ob rfl ?_));refine(show wpAny _ A.in1 (tryCatch (pyNext (.ref ia)) _ >>= _) _ _ sh from wpAny_bind (wpAny_tryCatch (Wk.item (j+1) sh _ _ lj st λv h' tk pv st' kp=>?_)));have ob':=kp best _ nw ob;refine(show wpAny _ A.in1 (tryCatch (holding [v,v] (richCompare _ v u >>= _)) _ >>= _) _ _ _ from wpAny_bind (wpAny_tryCatch (wpAny_holding (wpAny_bind (hc (j+1) (argBest lt j) v u _ _ _ pv pu (wpAny_bind (wpAny_holding (wpAny_truthy_bool (wpAny_bind (wpAny_letGo (wpAny_pure ?_)))))))))));by_cases yes:lt (j+1) (argBest lt j)=true
   .rw[yes];simp only[if_true];refine wpAny_bind (wpAny_updateSeq ob' rfl (wpAny_bind (wpAny_letGo ?_)));refine wpAny_pure ⟨hq _,ih (j+1) _ v _ () lj (Wk.frame _ _ _ st' λb hb o e=>(get?_update_other _ _ (λz:best=b=>nb (z▸hb))).trans e) (by simp only[argBest,yes];exact pv) (Heap.get?_update_self _ ob' rfl) λv' h2 t2 pv' kp2=>?_⟩;exact fin v' h2 t2 pv' λb o q1 q2 e=>kp2 b o q1 q2 ((get?_update_other _ _ (Ne.symm q2)).trans (kp b o q1 e))
   .have no:lt (j+1) (argBest lt j)=false:=by simpa using yes
    rw[no];simp;refine wpAny_bind (wpAny_letGo ?_);refine wpAny_pure ⟨hq _,ih (j+1) _ u cap () lj st' (by simp only[argBest,no];exact pu) ob' λv' h2 t2 pv' kp2=>?_⟩;exact fin v' h2 t2 pv' λb o q1 q2 e=>kp2 b o q1 q2 (kp b o q1 e)
theorem B9(kw:List (Str×Value))(Wk:Walks prog w A.in1 ia fps wrs len Pv Sv)(lt:Nat->Nat->Bool)(hc:CmpOf prog w A.in1 (mO y) Pv lt)(best:Addr)(nb:best∉fps)(pos:0<len)(st:Sv 0 sh.heap)(ob:sh.heap.get? best=some (Bd #[] cap))
  (fin:∀v h' tk,Pv (argBest lt (len-1)) v->(∀b o,b∉wrs->b≠best->sh.heap.get? b=some o->h'.get? b=some o)->R (.ok (.ret v)) {sh with heap:=h',toks:=tk}):codeAny (model prog w) A (.builtin (lpN y) ⟨[.ref ia,.none,.ref best],kw⟩) R sh:=by
 have nw:best∉wrs:=λz=>nb (Wk.sub _ z);have hq:=plainId_quiet (lpE y).2;cases y
 all_goals
  refine codeAny_builtin (lpE _).1 ?_;rw[Around.under_plainId (lpE _).2 _];refine(show wpAny _ A.in1 (seqItems? (.ref best) >>= _) _ _ sh from wpAny_bind (wpAny_seqItems ob rfl ?_));refine(show wpAny _ A.in1 (tryCatch (pyNext (.ref ia)) _ >>= _) _ _ sh from wpAny_bind (wpAny_tryCatch (Wk.item 0 sh _ _ pos st λv h' tk pv st' kp=>?_)));have ob':=kp best _ nw ob;refine(show wpAny _ A.in1 (updateSeq best (λ_=>#[v,v]) >>= _) _ _ _ from wpAny_bind (wpAny_updateSeq ob' rfl ?_));refine wpAny_pure ⟨hq _,FR kw Wk lt hc best nb _ 0 _ v _ rfl pos (Wk.frame _ _ _ st' λb hb o e=>(get?_update_other _ _ (λz:best=b=>nb (z▸hb))).trans e) pv (Heap.get?_update_self _ ob' rfl) λv' h2 t2 pv' kp2=>?_⟩;exact fin v' h2 t2 pv' λb o q1 q2 e=>kp2 b o q1 q2 ((get?_update_other _ _ (Ne.symm q2)).trans (kp b o q1 e))
def FQ(hc:CmpOf prog w A.in1 (mO y) Pv lt)(Wk:Walks prog w A.in1 ia fps wrs 0 Pv Sv)(best:Addr)(nb:best∉fps)(st:Sv 0 sh.heap)(ob:sh.heap.get? best=some (Bd #[] cap))
  (fin:∀h' tk,(∀b o,b∉wrs->sh.heap.get? b=some o->h'.get? b=some o)->R (.ok (.ret d)) {sh with heap:=h',toks:=tk}):codeAny (model prog w) A (.builtin (lpN y) ⟨[.ref ia,.none,.ref best],[(dn,d)]⟩) R sh:=by
 cases y
 all_goals
  refine codeAny_builtin (lpE _).1 ?_;rw[Around.under_plainId (lpE _).2 _];refine(show wpAny _ A.in1 (seqItems? (.ref best) >>= _) _ _ sh from wpAny_bind (wpAny_seqItems ob rfl ?_));refine(show wpAny _ A.in1 (tryCatch (pyNext (.ref ia)) _ >>= _) _ _ sh from wpAny_bind (wpAny_tryCatch (Wk.done sh _ _ st λh' tk kp=>?_)));exact wpAny_bind (wpAny_rule (wpAny_pure (fin h' tk kp)))
end
section
variable{prog:Program}{w:World}{A:Around}{E:Lj}{s:Shared}
def sK(y d:Value):argsOk (mN b) ⟨[y],[(Str.ofString "default",d)]⟩:=by cases b<;>kernel_rfl
theorem sE
  (h:wpAny (model prog w) A.in1 (pyIter x) (λit s2=>∃ ia fps wrs len Pv Sv lt,it=.ref ia/\Walks prog w A.in1 ia fps wrs len Pv Sv/\Sv 0 s2.heap/\(∀ b ∈ fps,b < s2.heap.objs.size)/\CmpOf prog w A.in1 (mO y) Pv lt /\
   ∀v h' tk,(len=0/\v=d\/0<len/\Pv (argBest lt (len-1)) v)->(∀b o,b∉wrs->s2.heap.get? b=some o->h'.get? b=some o)->Q v {s2 with heap:=h',toks:=tk}) E s) :
  wpAny (model prog w) A (call (.builtin (mN y)) [x] [(Str.ofString "default",d)]) Q E s:=by
 have hq:=plainId_quiet (lpE y).2;cases y;refine kmk_tree F.kind_max F.plain_max F.entry_max (sK _ _) ?_
 rotate_left
 refine kmk_tree F.kind_min F.plain_min F.entry_min (sK _ _) ?_
 all_goals
  refine(show wpAny _ A.in1 (Builtin.Builtins.bindParams _ ["key","default"] 0 ⟨[],[(Str.ofString "default",d)]⟩ >>= _) _ _ s from wpAny_bind (wpAny_of_eq (a:=[none,some d]) (by kernel_rfl) (wpAny_bind (wpAny_pure (wpAny_bind (wpAny_mono h (λit s2 q=>?_) λ_ _ e=>e))))));obtain⟨ia,fps,wrs,len,Pv,Sv,lt,rfl,Wk,st,hf,hc,fin⟩:=q;refine wpAny_bind (wpAny_newObj_type ?_);have nb:s2.heap.objs.size∉fps:=λz=>Nat.lt_irrefl _ (hf _ z);have st':=Wk.frame _ _ (s2.heap.push (Bd #[] 0)) st λb _ o e=>get?_push_of_some _ e;refine wpAny_pure ⟨hq _,?_⟩;by_cases pos:0<len
  .exact B9 _ Wk lt hc s2.heap.objs.size nb pos st' (get?_push_size _ rfl) λv h' tk pv kp=>fin v h' tk (.inr ⟨pos,pv⟩) λb o q e=>kp b o q (Nat.ne_of_lt (lt_size e)) (get?_push_of_some _ e)
  .have z:len=0:=by lia
   subst z;exact FQ hc Wk s2.heap.objs.size nb st' (get?_push_size _ rfl) λh' tk kp=>fin d h' tk (.inl ⟨rfl,rfl⟩) λb o q e=>kp b o q (get?_push_of_some _ e)
end
section
variable{X:Cx}{T:Tb}{W:Nat->St->LA}{Z:Zn}{F F1 B L:Lp}{H H1:Hp}{Y:St}{env:En}{fp:Nat->Lu}{js:Lo}{s:Shared}
def sD{M:Model}{A:Around}{E:Lj}{s:Shared}{env:Env}{id:String}{rest:List Expr}{kws:List Keyword}{Q:Lj}
  (h:wpAny M A (spliced (backTo pos (starEach (e::rest) env))) (λvs s1=>wpAny M A (evalAll ((backToKw pos (keywordEach kws env)).map (·.2))) (λks s2=>wpAny M A (call (.builtin id) vs (((backToKw pos (keywordEach kws env)).filterMap (·.1)).zip ks)) Q E s2) E s1) E s)
  (hall:(backToKw pos (keywordEach kws env)).all (·.1.isSome)=true:=by rfl) (hkw:(backToKw pos (keywordEach kws env)).any (·.1.isNone)=false:=by rfl)
  (he:starEach (e::rest) env=(false,eval e env)::starEach rest env:=by rfl) (hpl:(backTo pos (starEach (e::rest) env)).any (·.1)=false:=by rfl) :
  wpAny M A (callWith pos (.builtin id) [] (backTo pos (starEach (e::rest) env)) (backToKw pos (keywordEach kws env))) Q E s:=by
 refine wpAny_bind (wpAny_holding (wpAny_mono (evalArgs_kw2 (Q:=λa s1=>wpAny M A (call (.builtin id) ([]++ a.pos) a.kw) Q E s1) hall h he) (λa s1 h1=>wpAny_bind (wpAny_standAt ?_)) λ_ _ x=>x));simp only[hpl,hkw];exact wpAny_bind (wpAny_pure (wpAny_bind (wpAny_mono h1 (λr s2 hr=>wpAny_bind (wpAny_holding (wpAny_point (wpAny_pure hr)))) λ_ _ x=>x)))
def Ir(vs:Lz)(P:V->Prop):Prop:=match vs with
 | [v]=>P v
 |_=>False
def BW(h:Ir vs P):∃v,vs=[v]/\P v:=by
 match vs,h with
 | [v],h=>exact⟨v,rfl,h⟩
def Aw(y:Bool)(d:V)(ns:Lq):V:=if ns.isEmpty then d else .int ((bif y then fP else ef) ns)
noncomputable def bLt(y:Bool)(ns:Lq)(i j:Nat):Bool:=bif y then decide (ns.getD i 0<ns.getD j 0)else decide (ns.getD i 0>ns.getD j 0)
def xV(y:Bool)(d:V)(K:PySem.W.Frag):V->Hp->VK->Prop:=λv H Q=>∃p ns,v=.ref p/\(SqL K H p (ns.map V.int)\/ SqT K H p (ns.map V.int))/\Q (Aw y d ns) H
def w4(hc:X.calm=true)(I:L2.Inv X js Y H s)(hq:SqL X.K H p (ns.map V.int)\/ SqT X.K H p (ns.map V.int))(rd:bT d du)(q:Q (Aw y d ns) H):wpAny (model X.prog X.w) X.A (call (.builtin (mN y)) [.ref p] [(Str.ofString "default",du)]) (EP X js Y Q) X.xe s:=by
 have hh:=I.ok.hd hc;have cm:∀{its:Lr},aY (ns.map V.int) its->CmpOf X.prog X.w X.A.in1 (mO y) (λi v=>its.toArray[i]?=some v) (bLt y ns):=λr=>match y with
  |true=>CmpOf.ints_lt (λi=>ns.getD i 0) (eQ r)
  |false=>CmpOf.ints_gt (λi=>ns.getD i 0) (eQ r)
 have key:∀{its:Lr},aY (ns.map V.int) its->∀{v:Value}{h':Heap}{tk:Nat},(its.toArray.size=0/\v=du\/0<its.toArray.size/\its.toArray[argBest (bLt y ns) (its.toArray.size-1)]?=some v)->(∀b o,s.heap.get? b=some o->h'.get? b=some o)->EP X js Y Q v {s with heap:=h',toks:=tk}:=by
  intro its r v h' tk hv k;have hl:its.toArray.size=ns.length:=by have:=r.length;simpa using this.symm
  rw[hl]at hv;rcases hv with⟨h0,rfl⟩ |⟨hn,hv⟩
  .have e:ns=[]:=List.length_eq_zero_iff.mp h0;subst e;exact⟨d,H,gC I k,rd,q⟩
  .obtain⟨t,rfl⟩:=eQ r _ _ hv;have e:Aw y d ns=.int (ns.getD (argBest (bLt y ns) (ns.length-1)) 0):=by
    unfold Aw;rw[if_neg λz=>by simp_all];cases y
    .exact congrArg V.int (sG hn).symm
    .exact congrArg V.int (sF hn).symm
   exact⟨.int _,H,gC I k,⟨t,rfl⟩,e▸q⟩
 rcases hq with hq|hq
 .obtain⟨its,r,pl,hz⟩:=I.list hq;obtain⟨o,ho,hcl,n,hd⟩:=pl.isList;have hlt:=lt_size ho;refine sE (wpAny_pyIter_list pl.isList ?_);refine⟨_,_,_,_,_,_,_,rfl,Walks.list (A:=X.A.in1) hh _ p (Nat.ne_of_lt hlt) its.toArray,⟨⟨_,get?_push_size _ rfl,rfl,rfl⟩,pl.isList.push _⟩,λb hb=>?_,cm r,λv h' tk hP hk=>key r hP (dZ hk)⟩;rw[size_push];exact iS hlt rfl b hb
 .obtain⟨its,r,pl,hz⟩:=I.tuple hq;have pt:s.heap.IsTuple p its.toArray:=pl;obtain⟨o,ho,hcl,n,hd⟩:=pl;have hlt:=lt_size ho;refine sE (wpAny_pyIter_tuple pt ?_);refine⟨_,_,_,_,_,_,_,rfl,Walks.tuple (A:=X.A.in1) hh _ p (Nat.ne_of_lt hlt) its.toArray,⟨⟨_,get?_push_size _ rfl,rfl,rfl⟩,pt.push _⟩,λb hb=>?_,cm r,λv h' tk hP hk=>key r hP (dZ hk)⟩;rw[size_push];exact iS hlt rfl b hb
noncomputable def mN8:Bool->Str|true=>"min"|_=>"max"
abbrev mdE(y:Bool)(e de:Expr)(p pos kp:Pos):Expr:=.Call (.Name (mN8 y) p) [e] [⟨some "default",de,kp⟩] pos
def BM(hc:X.calm=true)(hg:Gl X (mN8 y))(hm:X.mg (mN8 y)=none)(he:PE X e te)(hd:PE X de (tC d))(hk:keywordEach [⟨some "default",de,kp⟩] X.env=[(some (Str.ofString "default"),eval de X.env)]:=by rfl)(hs:starEach [e] X.env=[(false,eval e X.env)]:=by rfl):PE X (mdE y e de p pos kp) (tUn (xV y d X.K) te):=by intro js s Y H Q I h;refine wpAny_Call_Name_kw (gA I hg hm (u:=.builtin (mN y)) (by cases y;exact Az;exact ur) ?_ (by cases y<;>decide) (by cases y<;>decide));refine sD ?_ (by rfl) (by rfl) hs (by rw[hs];rfl);refine thn (dP he gO (by rw[hs];rfl) pos js s Y H (λvs H1=>Ir vs λv=>xV y d X.K v H1 Q) I h) λus s1 hz1=>?_;obtain⟨vs,H1,I1,r1,q1⟩:=hz1;obtain⟨v,rfl,a,ns,rfl,hq,q⟩:=BW q1;obtain⟨u,rfl,rx⟩:=eY r1;cases rx;refine thn (uU hd ya pos js s1 Y H1 (λzs H2=>zs=[d]/\H2=H1) I1 ⟨rfl,rfl⟩) λws s2 hz1=>?_;obtain⟨zs,H2,I2,r2,ez,eh⟩:=hz1;subst ez;rw[eh]at I2;obtain⟨u2,rfl,rx2⟩:=eY r2;exact w4 hc I2 hq rx2 q
def oQ(x:PV):LC:=match a_ x with
 | some xs=>(match bO xs with
  |some ns=>.ok (if ns.isEmpty then .non else .int (fP ns))
  |none=>.stuck)
 |none=>.stuck
def yW(hK:X.K=T.K):JM T W oQ (xV true .non X.K):=by
 intro B F L Y H Q F' H' x v fx g rx nf nd new q;unfold oQ at q;cases e:a_ x with
 |none=>rw[e]at q;exact q.elim
 |some xs=>
  rw[e]at q;dsimp only at q;cases e2:bO xs with
  |none=>rw[e2]at q;exact q.elim
  |some ns=>
   rw[e2]at q;obtain⟨a,us,fx',rfl,hs,hr,_⟩:=rx.seq e;have hu:=cR e2 hr;subst hu;refine⟨a,ns,rfl,by lia,q.scal g ?_⟩;unfold Aw;split
   .unfold Rel;exact⟨rfl,rfl⟩
   .exact fN
def Bf{cp kp:Pos}(hK:X.K=T.K)(hc:X.calm=true)(hg:Gl X "min")(hm:X.mg "min"=none)(he:SE X T W e m)(hs:starEach [e] X.env=[(false,eval e X.env)]:=by rfl):SE X T W (mdE true e (.Constant .none j cp) p pos kp) (mUn oQ m):=
 PE.wk (BM hc hg hm he yi rfl hs) λ_ _ _ h=>tE.mir1 (yW hK) h
end
def yr(x y:PV):LC:=match x,y with
 | .tup xs,.tup ys=>(match bO xs,bO ys with
  |some ns,some ms=>.ok (.bl (HT.lexLt ns ms))
  |_,_=>.stuck)
 |_,_=>.stuck
section
variable{X:Cx}{T:Tb}{W:Nat->St->LA}{Z:Zn}{F F1 B L:Lp}{H H1:Hp}{Y:St}{env:En}{fp:Nat->Lu}{D:Ends}
theorem B4(hK:X.K=T.K):kC T W yr (Ia X.K):=by
 intro B F L Y H Q F' H' x y v u fx fy gr rx ry _ _ _ q;unfold yr at q;split at q
 case h_2=>exact q.elim
 split at q
 case h_2=>exact q.elim
 rename_i ns ms e1 e2
 obtain⟨a,vs,rfl,hs,hr⟩:=rx;obtain⟨b,us,rfl,ht,hq⟩:=ry;have z1:=cR e1 hr;have z2:=cR e2 hq;subst z1 z2;exact⟨a,b,ns,ms,rfl,rfl,by lia,by lia,q.scal gr j0⟩
theorem Ee(hK:X.K=T.K)(hu:X.A.units+64<cLine)(ha:SE X T W a ma)(hb:SE X T W b mb):ST X T W (.Compare a [.Lt] [b] pos) (aA (mOp yr ma mb)):=gN (E1 ()) (B4 hK) ha hb (fY _)
end
open AutoSeq1 (wpAny_loadPart')
section
variable{prog:Program}{w:World}{A:Around}{E:Lj}{s:Shared}
def dK1(a:Value):checkTypeCall "enumerate" ⟨[a],[]⟩=pure .unit:=by kernel_rfl
def dK2(a:Value):checkBuiltinCall "enumerate.__new__" ⟨[.type "enumerate",a],[]⟩=pure .unit:=by kernel_rfl
def dK3(a b:Value):argsOk "object.__init__" ⟨[a,b],[]⟩:=by
 unfold argsOk
 kernel_rfl
def Gz(n:String)(l:Addr) :
  Meets (Builtin.«enumerate.__new__» ⟨[.type "enumerate",.ref l],[]⟩) (λ_ R s=>pE n l s/\R (.ok (.ret (.ref (s.heap.push (itO n l)).objs.size))) {s with heap:=(s.heap.push (itO n l)).push (enO s.heap.objs.size 0)}):=
 .of_wp λpr w A R s0 h=>by
  obtain⟨hp,g,d,tk,os⟩:=s0;obtain⟨hI,h⟩:=h;have hsub:=sub_enumerate;have hJ:∀{Q:Lj}{E:Lj},Q (.ref hp.objs.size) ⟨hp.push (itO n l),g,d,tk,os⟩->wpAny (model pr w) A.in1 (pyIter (.ref l)) Q E ⟨hp,g,d,tk,os⟩:=λ{Q E} q=>hI pr w A.in1 Q E q
  wp_walk
  refine wpAny_stack_any λst=>wpAny_pure ?_;split<;>try (rename_i c _ _ _ _ _;cases(c==Value.type "enumerate"))
  all_goals (wp_walk using hJ,hJ')
  all_goals exact⟨_,rfl,h⟩
def CO(hI:pE n l s)(h:Q (.ref (s.heap.objs.size+1)) {s with heap:=(s.heap.push (itO n l)).push (enO s.heap.objs.size 0)}) :
  wpAny (model prog w) A (call (.type "enumerate") [.ref l] []) Q E s:=by
 have hz:(s.heap.push (itO n l)).objs.size=s.heap.objs.size+1:=size_push ..
 refine lA (Q1:=λob s1=>s1.TypeIs ob "enumerate" /\ Q ob s1) F.called_enumerate (dK1 _) (dK2 _) F.entry_enumerate_new F.entry_object_init (Gz n l) ⟨hI,?_⟩ λob s1 hq=>⟨hq.1,dK3 ob _,_,Dc F.called_enumerate.init.lookup F.called_enumerate.made (),hq.1,rfl,hq.2⟩
 rw[hz];have:=get?_push_size (s.heap.push (itO n l)) (o:=enO s.heap.objs.size 0) rfl;rw[hz]at this;exact⟨⟨_,this,rfl⟩,h⟩
end
def rK(m:ME):MI:=λenv=>(m env).bind λx=>match x with
 |.lst f xs=>if !f.LJ&&fk xs then .ok (enP 0 xs)else .stuck
 |.tup xs=>if fk xs then .ok (enP 0 xs)else .stuck
 |_=>.stuck
section
variable{X:Cx}{T:Tb}{W:Nat->St->LA}{Z:Zn}{F F1 B L:Lp}{H H1:Hp}{Y:St}{env:En}{fp:Nat->Lu}{js:Lo}{s:Shared}
theorem ye{x1}(hg:Gl X "enumerate")(hm:X.mg "enumerate"=none)(hl:PE X l tl)(hs:starEach [l] X.env=[(false,eval l X.env)]:=by rfl) :
  PI X (.Tuple els x1 tpos) (.Call (.Name "enumerate" p) [l] [] pos) (λY H R=>tl Y H λx H1=>∃a tp xs,[x]=[V.ref a]/\Sq tp X.K H1 a xs/\R (Ite tp X.K 0 a) H1):=by
 intro js s Y H R I h;refine PyProof.Rows.Call_ (gA I hg hm vM (PyProof.Rows.callWith_type1 (thn (dP hl gO (by rw[hs];rfl) pos js s Y H (λvs H1=>∃a tp xs,vs=[.ref a]/\Sq tp X.K H1 a xs/\R (Ite tp X.K 0 a) H1) I h) λus s2 zz=>?_) (by rw[hs];rfl) rfl));obtain⟨vs,H1,I2,r1,a,tp,xs,ev,hq,q⟩:=zz;subst ev;obtain⟨u,rfl,rx⟩:=eY r1;cases rx;have hI:∃n,pE n a s2/\∀h',h'.get? s2.heap.objs.size=some (itO n a)->AO tp h' s2.heap.objs.size a 0:=by
  cases tp with
  |false=>obtain⟨its,rv,pl,_⟩:=I2.list hq;exact⟨"list_iterator",λ_ _ _ _ _ q=>wpAny_pyIter_list pl.isList q,λh' e=>⟨_,e,rfl,rfl⟩⟩
  |true=>obtain⟨its,rv,pl,_⟩:=I2.tuple hq;exact⟨"tuple_iterator",λ_ _ _ _ _ q=>wpAny_pyIter_tuple (show s2.heap.IsTuple a its.toArray from pl) q,λh' e=>⟨_,e,rfl,rfl⟩⟩
 obtain⟨n,hI,hA⟩:=hI;have hz:(s2.heap.push (itO n a)).objs.size=s2.heap.objs.size+1:=size_push ..
 have he:((s2.heap.push (itO n a)).push (enO s2.heap.objs.size 0)).get? (s2.heap.objs.size+1)=some (enO s2.heap.objs.size 0):=by have:=get?_push_size (s2.heap.push (itO n a)) (o:=enO s2.heap.objs.size 0) rfl;rw[hz]at this;exact this
 refine CO hI (wpAny_pyIter_enum he ?_);refine⟨s2.heap.objs.size+1,[s2.heap.objs.size+1,s2.heap.objs.size],_,_,H1,rfl,I2.kept (t':=s2.toks) λb o e=>get?_push_of_some _ (get?_push_of_some _ e),oy tp 0 a _ _,⟨⟨.none,by lia⟩,hA _ (get?_push_of_some _ (get?_push_size _ rfl))⟩,λb hb=>?_,q⟩;simp at hb;rcases hb with rfl|rfl
 .exact I2.fpOk (le_succ _) (I2.hok.fresh (le_succ _))
 .exact I2.fpOk (Nat.le_refl _) (I2.hok.fresh (Nat.le_refl _))
def xE{x1}(hK:X.K=T.K)(hg:Gl X "enumerate")(hm:X.mg "enumerate"=none)(he:SE X T W e m)(hs:starEach [e] X.env=[(false,eval e X.env)]:=by rfl) :
  SI X T W (.Tuple els x1 tpos) (.Call (.Name "enumerate" p) [e] [] pos) (rK m):=λjs s Y H R I h=>ye hg hm he hs js s Y H R I (by
 obtain⟨Z,F,env,fp,S,q⟩:=h;unfold rK at q;walk_at "a";simp only[Res.LO]at q;have S1:=S.grow g1;rw[hK];have key:∀(tp:Bool) (a:Addr) (xs:LB) (vs:Lz),RelL T F1 Z.B NoL H1 xs vs []->(∀H2,(∀a o,H1 a=some o->¬Own fp a->H2 a=some o)->Sq tp T.K H2 a vs)->ItR T F1 Z.B (Own fp) H1 (Ite tp T.K 0 a) (enP 0 xs):=by intro tp a xs vs hr hq H2 hk;have hq2:=hq H2 hk;refine⟨λi x ex=>?_,⟨vs,hq2,by rw[jq,hr.length];exact Nat.le_refl _⟩⟩;rw[jr]at ex;obtain⟨y,ey,rfl⟩:=map_eq_some_iff.mp ex;obtain⟨v,_,ev,_,_⟩:=hr.get ey;refine⟨⟨vs,v,hq2,ev⟩,λw H3 hy=>?_⟩;obtain⟨p,y',hp,rfl,rfl,hall⟩:=hy;have:=hall vs hq2;rw[ev]at this;cases this;exact⟨Ext.upd hp,mR hp (iK S1.fow S1.bow S1.oow hk hr ey ev)⟩
 cases x with
 |lst f xs=>
  dsimp only at q;by_cases hc:(!f.LJ&&fk xs)=true
  .rw[if_pos hc]at q;rw[and_eq_true]at hc;obtain⟨a,vs,fp',rfl,hl,hr,hf⟩:=r1;obtain⟨rfl,hr'⟩:=d0 hc.2 hr;refine⟨a,false,vs,rfl,hl.sq,q _ H1 F1 g1 (key false a xs vs hr' λH2 hk=>?_)⟩;have na:f≠.mod->∀o,H1 a=some o->H2 a=some o:=λhn o ho=>by
    refine hk a o ho ?_;cases f with
    |own=>rintro⟨i,hi⟩;obtain⟨_,o',ho'⟩:=S.dis i a hi;obtain rfl:f1=[a]:=hf;rw[w1 a mem_cons_self]at ho';cases ho'
    |frz=>exact S1.fow a hl.1
    |bor=>exact S1.bow a hl.1
    |lnt=>exact absurd hc.1 ()
    |mod=>exact absurd rfl hn
   by_cases hn:f=.mod
   .subst hn;exact .inr hl
   .exact .inl (Rd.tr (na hn) (hl.rd hn))
  .rw[if_neg hc]at q;exact q.elim
 |tup xs=>
  dsimp only at q;by_cases hc:fk xs=true
  .rw[if_pos hc]at q;obtain⟨a,vs,rfl,hl,hr⟩:=r1;obtain⟨rfl,hr'⟩:=d0 hc hr;refine⟨a,true,vs,rfl,hl,q _ H1 F1 g1 (key true a xs vs hr' λH2 hk=>?_)⟩;exact SqT.tr (λo ho hfx=>hk a o ho λz=>by
    have:=S1.oow a o z ho;cases o with
    |lst _|ins _ _ _=>exact hfx
    |_=>exact this) hl
  .rw[if_neg hc]at q;exact q.elim
 |_=>exact q.elim)
end
noncomputable def p8(i j:Nat):MS:=λenv=>match env[i]?,env[j]? with
 |some (some v),some (some w)=>if i=j then .stuck else .ret (.tup [v,w])
 |_,_=>.stuck
section
variable{X:Cx}{T:Tb}{W:Nat->St->LA}{Z:Zn}{F F1 B L:Lp}{H H1:Hp}{Y:St}{env:En}{fp:Nat->Lu}{D:Ends}
def qM{x1}(hN:X.N[i]?=some x)(hv:Vis X.env.scope x)(hN2:X.N[j]?=some y)(hv2:Vis X.env.scope y)(hd:Nd x:=by decide)(hcd:Nc x:=by decide)(hd2:Nd y:=by decide)(hcd2:Nc y:=by decide) :
  SS X T W (.Return (some (.Tuple [.Name x px,.Name y py] x1 tpos)) pos) (p8 i j):=
 PS.wk (tN (yg (dP (fg hN hv hd hcd) (dP (fg hN2 hv2 hd2 hcd2) gO)))) λD Y H hz1=>by
  obtain⟨Z,F,env,fp,S,q⟩:=hz1;unfold p8 at q;split at q
  case h_2=>exact q.elim
  rename_i pv pw ei ej
  split at q
  case isTrue=>exact q.elim
  rename_i hij
  obtain⟨v,e1,r1⟩:=S.rel i pv ei;obtain⟨w,e2,r2⟩:=S.rel j pw ej;refine⟨v,e1,w,e2,small (),λp hp=>?_⟩;have g:Gr F H F (upd H p (.tup [v,w])):=Gr.same S.hp.ft (Ext.upd hp);have S2:=S.grow g;obtain⟨v',e1',r1'⟩:=S2.rel i pv ei;obtain⟨w',e2',r2'⟩:=S2.rel j pw ej;rw[e1]at e1';cases e1';rw[e2]at e2';cases e2';refine q F (upd H p (.tup [v,w])) (.ref p) (fp i++fp j) S2.hp ?_ (nodup_append.mpr ⟨S.nd i,S.nd j,λa ha b hb z=>?_⟩) (λa ha=>?_) (λa ha=>?_)
  .unfold Rel;refine⟨p,_,rfl,SqT.of bG,?_⟩;refine⟨v,[w],fp i,fp j,rfl,r1',?_,rfl⟩;exact⟨w,[],fp j,[],rfl,r2',by exact⟨rfl,rfl⟩,by simp⟩
  .subst z;exact S.dj i j hij a ha hb
  .rcases mem_append.mp ha with h|h
   .exact(S2.dis i a h).1
   .exact(S2.dis j a h).1
  .rcases mem_append.mp ha with h|h
   .exact S.new i a h
   .exact S.new j a h
end
section
variable{P:Program}{w:World}{mg:Lk}{base:Heap}{T:Tb}
def Ge(F:Fun T.K x qual st f fd)(S:gn N ps (aU st))
  (body:∀ (cdv:Value) (A:Around) (outer:List Env) (s:Shared) (H:Hp) (E:XK),Ctx (gI (CXP P w) P w T.K mg base N qual (aU st) f cdv A outer s H E) T (WD T E) k ->
   SSs (gI (CXP P w) P w T.K mg base N qual (aU st) f cdv A outer s H E) T (WD T E) (cN st) m):dR P w T.K mg base (CXP P w) (k+1) f fd ps (spM T ps.length (bA N.length m)):=
 Jj F S λcdv A outer s H E hr=>body cdv A outer s H E (vG hr)
def Co(F:Fun T.K x qual st f fd)(S:gn N ps (aU st))
  (body:∀ (cdv:Value) (A:Around) (outer:List Env) (s:Shared) (H:Hp) (E:XK),Ctx (gI (CXP P w) P w T.K mg base N qual (aU st) f cdv A outer s H E) T (WD T E) k ->
   SSs (gI (CXP P w) P w T.K mg base N qual (aU st) f cdv A outer s H E) T (WD T E) (cN st) m):dR P w T.K mg base (CXP P w) (k+1) f fd ps (spI T ps.length (ju N.length m)):=
 Gg F S λcdv A outer s H E hr=>body cdv A outer s H E (vG hr)
end
end
section
open AutoSeq1 (wpAny_loadPart')
section
variable{X:Cx}{T:Tb}{W:Nat->St->LA}{Z:Zn}{F F1 B L:Lp}{H H1:Hp}{Y:St}{env:En}{fp:Nat->Lu}
def mFz(m:ME):ME:=λenv=>(m env).bind λv=>.ok (v.LM Fl.LG)
def HU(he:SE X T W e m):SE X T W e (mFz m):=PE.wk he λY H Q hz1=>by
 obtain⟨Z,F,env,fp,S,q⟩:=hz1;unfold mFz at q;refine⟨Z,F,env,fp,S,?_⟩;cases em:m env with
 |stuck|exc c=>rw[em]at q;exact q
 |ok pv=>rw[em]at q;intro v H' F' f g r nf nd new;refine q v H' (λa=>F' a\/a∈f) [] ⟨g.ext,λa h=>.inl (g.mono a h),λa h=>h.elim (g.only a) λz=>.inr (new a z),λa h=>h.elim (g.dom a) λz=>r.there a z⟩ (Rel.LG (λ_ h=>.inl h) (λa h=>.inr h) r) (λ_ h=>nomatch h) nodup_nil λ_ h=>nomatch h
end
section
variable{X:Cx}{T:Tb}{W:Nat->St->LA}{Z:Zn}{F F1 B L:Lp}{H H1:Hp}{Y:St}{env:En}{fp:Nat->Lu}{D:Ends}
def aC.blind(S:aC T Z F H Y env fp)(h0:c≠0)(hc:env[c]?=some none)(v:V):aC T Z F H (Y.set c (some v)) env fp:=
 ⟨S.hp,by rw [length_set,S.len],λi pv e=>by
  have:i≠c:=by rintro rfl;rw[hc]at e;cases e
  rw[getElem?_set_ne (Ne.symm this)];exact S.rel i pv e,S.nd,S.dj,S.dis,S.new,S.ch,λw hw=>by
  rw[getElem?_set_ne h0];exact S.pn w hw⟩
def aC.bOut(S:aC T Z F H Y env fp)(h:Z.B a):(∃o,H a=some o)/\∀j,a∉fp j:=by
 obtain⟨⟨o,h1⟩,h2⟩:=S.hp.bo.1 a h;refine⟨⟨o,S.hp.keep a o h1 h2⟩,λj hj=>?_⟩;rcases S.new j a hj with z|z
 .rw[h1]at z;cases z
 .exact h2 z
end
open PySem.W (findIn fnOf keepIn nsIn codeIn isFn Frag)
structure FS where
 q:Str
 s:Stmt
 k:Nat
 N:Lw
 c:Option Nat
def cM(s:Stmt):Str:=match s with
 |.FunctionDef n _ _ _ _ _ _ _ _ _=>n
 |_=>""
structure Clo(H:Hp)(fr:Lw)(cl:List (Str×Addr))(cvs:Lz):Prop where
 inj:∀x y c,cl.lookup x=some c->cl.lookup y=some c->x=y
 sub:∀x c,cl.lookup x=some c->x∈fr
 len:cvs.length=fr.length
 val:∀(i:Nat) x v,fr[i]?=some x->cvs[i]?=some v->∃c o u z,cl.lookup x=some c/\H c=some (.frz o u)/\o.data=.cell (some z)/\bT v z
def Clo.tr(C:Clo H fr cl cvs)(h:∀b o u,H b=some (.frz o u)->H' b=some (.frz o u)):Clo H' fr cl cvs:=
 ⟨C.inj,C.sub,C.len,λi x v h1 h2=>let⟨c,o,u,z,q1,q2,q3⟩:=C.val i x v h1 h2;⟨c,o,u,z,q1,h _ _ _ q2,q3⟩⟩
structure FI where
 name:Str
 qual:Str
 params:Arguments
 body:List Stmt
 scope:Scope
 fr:Lw
def FI.bx(i:FI)(H:Hp)(f:Addr)(cvs:Lz):Prop:=∃cl doc pm ctv c' oc u u' vs t,H f=some (.frz (PySem.W.fnMade i.name i.qual i.params i.body i.scope cl doc pm c' ctv) u)/\
 H c'=some (.frz oc u')/\oc.data=.fields vs/\vs[1]?=some (.str i.qual t)/\Clo H i.fr cl cvs
def FI.bxs{i:FI}(h:∀b o u,H b=some (.frz o u)->H' b=some (.frz o u))(q:i.bx H f cvs):i.bx H' f cvs:=by obtain⟨cl,doc,pm,ctv,c',oc,u,u',vs,t,h1,h2,h3,h4,C⟩:=q;exact⟨cl,doc,pm,ctv,c',oc,u,u',vs,t,h _ _ _ h1,h _ _ _ h2,h3,h4,C.tr h⟩
structure NFd where
 i:Nat
 j:Nat
 q:Str
 k:Nat
 fr:Lw
 N:Lw
structure PT where
 F:List FS
 C:Lw
 X:Lw
 A:Lw
 M:List (Nat×Str×Nat)
 Mk:List (Nat×Nat)
 U:List (Nat×Nat)
 B:Lw
 I:List (Str×Int)
 KT:List (Option Nat×String×List Bool)
 HT:List (Nat×List Bool)
 D:List (Lw):=[]
 G:Option NFd:=none
def fs0:FS:=⟨"",.Pass ⟨0,0,0,0⟩,0,[],none⟩
noncomputable def pk{α:Type}(d:α)(l:List α)(i:Nat):α:=l.getD i (l.headD d)
def iG{α:Type}{d:α}{p:α->Prop}{l:List α}(hl:l≠[])(h:∀x∈l,p x)(i:Nat):p (pk d l i):=by
 unfold pk;rw[getD_eq_getElem?_getD];cases e:l[i]? with
 |some C=>exact h C (List.mem_of_getElem? e)
 |none=>
  cases l with
  |nil=>exact absurd rfl hl
  |cons a l=>exact h a mem_cons_self
section
variable(p:PT)(K:Frag)
noncomputable def gAt(x:Str):Addr:=match nsIn K mainGlobals x with
 |some (some (.ref a))=>a
 |_=>0
noncomputable def mAt(c:Addr)(x:Str):Addr:=match findIn K (.ref c) x with
 |some (some (.ref a))=>a
 |_=>0
noncomputable def dAt(f:Addr):FuncData:=match K.lookup f with
 |some ⟨_,_,.func d,_⟩=>d
 |_=>default
def PT.fs(i:Nat):FS:=pk fs0 p.F i
def PT.ps(i:Nat):Lw:=(p.fs i).N.take (p.fs i).k
def PT.ca(c:Nat):Addr:=gAt K (pk "" p.C c)
def PT.xa(c:Nat):Addr:=gAt K (pk "" p.X c)
def PT.fx(x:FS):Addr:=match x.c with
 |none=>gAt K (cM x.s)
 |some c=>mAt K (p.ca K c) (cM x.s)
def PT.fa(i:Nat):Addr:=p.fx K (p.fs i)
def lit(x:FS):Obj->Obj
 |⟨oc,od,.func d,sl⟩=>⟨oc,od,.func (fnOf (cM x.s) x.q (fG x.s) (cN x.s) (aU x.s) .none d.kwdefaults d.doc d.pyModule d.annotations d.code d.closureTuple),sl⟩
 |o=>o
def I9:Option Obj->Bool
 |some ⟨_,_,.func _,_⟩=>true
 |_=>false
def scB(x:FS):Bool:=decide ((aU x.s).kind=.function)&&!(aU x.s).isCoroutine&&!(aU x.s).isGenerator&&decide x.N.Nodup&&decide (x.k<=x.N.length) &&
 (x.N.take x.k).all (λy=>decide ((aU x.s).names.lookup y=some .local \/(aU x.s).names.lookup y=some .cell))&&(aU x.s).names.all (λy=>decide (y.2≠.free))
def PT.chF(x:FS):Bool:=I9 (K.lookup (p.fx K x))&&codeIn K (dAt K (p.fx K x)).code x.q&&keepIn K (.ref (p.fx K x))&&(match x.c with|none=>decide (nsIn K mainGlobals (cM x.s)=some (some (.ref (p.fx K x))))|some _=>true)
def chC(A:Lw)(x:Str):Bool:=plainGet K (gAt K x) Str.empty&&hasDictIn K (gAt K x)&&plainOver K (gAt K x)&&decide (findIn K (.ref (gAt K x)) "__setattr__"=some (some (.builtin "object.__setattr__"))) &&
 decide (nsIn K mainGlobals x=some (some (.ref (gAt K x))))&&A.all (λy=>decide (findIn K (.ref (gAt K x)) y=some none))
def PT.chM(x:Nat×Str×Nat):Bool:=decide (findIn K (.ref (p.ca K x.1)) x.2.1=some (some (.ref (p.fa K x.2.2))))&&isFn K (.ref (p.fa K x.2.2))&&keepIn K (.ref (p.fa K x.2.2))
def PT.chK(x:Nat×Nat):Bool:=makesIn K (p.ca K x.1)&&decide (findIn K (.ref (p.ca K x.1)) "__init__"=some (some (.ref (p.fa K x.2))))&&isFn K (.ref (p.fa K x.2))&&keepIn K (.ref (p.ca K x.1))
noncomputable def Db(f:Addr):Option PySem.W.CFound->Bool
 |some (.val (.ref a))=>decide (a=f)
 |_=>false
def PT.chU(x:Nat×Nat):Bool:=decide (specialIn K (.ref (p.ca K x.1)) "__getattribute__"=some (some (.builtin "type.__getattribute__")))&&readsIn K (p.ca K x.1) (.type "type")&&Db (p.fa K x.2) (findCls K (.ref (p.ca K x.1)) (.type "type") "__init__")&&keepIn K (.ref (p.fa K x.2))
def tgV(y:Option Nat×String×List Bool):Value:=match y.1 with
 |some x=>.ref (p.xa K x)
 |none=>.type y.2.1
def chX(x:Str):Bool:=decide (nsIn K mainGlobals x=some (some (.ref (gAt K x))))&&Ad K (gAt K x)
noncomputable def chI(x:Str×Int):Bool:=match nsIn K mainGlobals x.1 with
 |some (some (.int i _))=>decide (i=x.2)
 |_=>false
def PT.chT(y:Option Nat×String×List Bool):Bool:=decide (p.X.map (λx=>kitOne K (.ref (gAt K x)) (tgV p K y))=y.2.2.map some)
def PT.chH(y:Nat×List Bool):Bool:=decide (p.X.map (λx=>exmOne K (.ref (gAt K x)) (.ref (p.xa K y.1)))=y.2.map some)
def PT.ch1:Bool:=p.F.all (p.chF K)
def PT.ch2:Bool:=p.C.all (chC K p.A)&&p.Mk.all (p.chK K)&&p.U.all (p.chU K)&&p.X.all (chX K)&&p.B.all (λx=>decide (nsIn K mainGlobals x=some none))&&p.I.all (chI K)&&p.KT.all (p.chT K)&&p.HT.all (p.chH K)
def PT.ch3:Bool:=p.M.all (p.chM K)
def PT.ob:List (Option Obj):=p.F.map λx=>K.lookup (p.fx K x)
def PT.ol:List (Option Obj):=p.F.map λx=>(K.lookup (p.fx K x)).map (lit x)
end
structure Tx(p:PT)(K:Frag)(mg:Lk):Prop where
 fn:∀i,Fun K (cM (p.fs i).s) (p.fs i).q (p.fs i).s (p.fa K i) (dAt K (p.fa K i))
 sc:∀i,gn (p.fs i).N (p.ps i) (aU (p.fs i).s)
 bn:∀i,gM K (dAt K (p.fa K i)) (p.ps i) []
 gl:∀i,(p.fs i).c=none->mg (cM (p.fs i).s)=some (.ref (p.fa K i))
 cl:∀c,Cls K (p.ca K c)
 cg:∀c,mg (pk "" p.C c)=some (.ref (p.ca K c))
 cn:∀c,∀x∈p.A,gG K (p.ca K c) x
 me:∀x∈p.M,CV K (p.ca K x.1) x.2.1 (p.fa K x.2.2)
 mm:∀x∈p.Mk,Mk K (p.ca K x.1) (p.fa K x.2)
 su:∀x∈p.U,Sup K (p.ca K x.1) (p.fa K x.2)
 xg:∀c,mg (pk "" p.X c)=some (.ref (p.xa K c))
 xe:∀c,Ad K (p.xa K c)=true
 bi:∀x∈p.B,mg x=none
 ci:∀x∈p.I,∃tk,mg x.1=some (.int x.2 tk)
 kt:∀y∈p.KT,∀c,kitOne K (.ref (p.xa K c)) (tgV p K y)=some (rm y.2.2 c)
 ht:∀y∈p.HT,∀c,exmOne K (.ref (p.xa K c)) (.ref (p.xa K y.1))=some (rm y.2 c)
def Bnd(x:FS):Prop:=∀(kV doc pm:Value) (an:Option Addr) (cdv ct:Value) (us:Lr),us.length=(x.N.take x.k).length->bindArgs (fnOf (cM x.s) x.q (fG x.s) (cN x.s) (aU x.s) .none kV doc pm an cdv ct) ⟨us,[]⟩=pure ((x.N.take x.k).zip us)
def AQ:List FS->Prop
 | []=>True
 |x::l=>Bnd x/\AQ l
def AQ.get:∀{l:List FS},AQ l->∀x∈l,Bnd x
 | [],_,_,h=>nomatch h
 |y::l,⟨h1,h2⟩,x,h=>by
  rcases mem_cons.mp h with rfl|h
  .exact h1
  .exact h2.get x h
section
variable{x:FS}
def lsS{us:Lr}(h:us.length=n+1):∃a r,us=a::r/\r.length=n:=by
 cases us with
 |nil=>cases h
 |cons a r=>exact⟨a,r,rfl,Nat.succ.inj h⟩
def bn1(h:∀(kV doc pm:Value) (an:Option Addr) (cdv ct u1:Value),bindArgs (fnOf (cM x.s) x.q (fG x.s) (cN x.s) (aU x.s) .none kV doc pm an cdv ct) ⟨[u1],[]⟩=pure ((x.N.take x.k).zip [u1]):=by intros;rfl)(hk:(x.N.take x.k).length=1:=by rfl):Bnd x:=λkV doc pm an cdv ct us hl=>by rw[hk]at hl;obtain⟨_,_,rfl,l1⟩:=lsS hl;cases List.eq_nil_of_length_eq_zero l1;exact h ..
def bn2(h:∀(kV doc pm:Value) (an:Option Addr) (cdv ct u1 u2:Value),bindArgs (fnOf (cM x.s) x.q (fG x.s) (cN x.s) (aU x.s) .none kV doc pm an cdv ct) ⟨[u1,u2],[]⟩=pure ((x.N.take x.k).zip [u1,u2]):=by intros;rfl)(hk:(x.N.take x.k).length=2:=by rfl):Bnd x:=λkV doc pm an cdv ct us hl=>by rw[hk]at hl;obtain⟨_,_,rfl,l1⟩:=lsS hl;obtain⟨_,_,rfl,l2⟩:=lsS l1;cases List.eq_nil_of_length_eq_zero l2;exact h ..
def bn3(h:∀(kV doc pm:Value) (an:Option Addr) (cdv ct u1 u2 u3:Value),bindArgs (fnOf (cM x.s) x.q (fG x.s) (cN x.s) (aU x.s) .none kV doc pm an cdv ct) ⟨[u1,u2,u3],[]⟩=pure ((x.N.take x.k).zip [u1,u2,u3]):=by intros;rfl)(hk:(x.N.take x.k).length=3:=by rfl):Bnd x:=λkV doc pm an cdv ct us hl=>by rw[hk]at hl;obtain⟨_,_,rfl,l1⟩:=lsS hl;obtain⟨_,_,rfl,l2⟩:=lsS l1;obtain⟨_,_,rfl,l3⟩:=lsS l2;cases List.eq_nil_of_length_eq_zero l3;exact h ..
def bn4(h:∀(kV doc pm:Value) (an:Option Addr) (cdv ct u1 u2 u3 u4:Value),bindArgs (fnOf (cM x.s) x.q (fG x.s) (cN x.s) (aU x.s) .none kV doc pm an cdv ct) ⟨[u1,u2,u3,u4],[]⟩=pure ((x.N.take x.k).zip [u1,u2,u3,u4]):=by intros;rfl)(hk:(x.N.take x.k).length=4:=by rfl):Bnd x:=λkV doc pm an cdv ct us hl=>by rw[hk]at hl;obtain⟨_,_,rfl,l1⟩:=lsS hl;obtain⟨_,_,rfl,l2⟩:=lsS l1;obtain⟨_,_,rfl,l3⟩:=lsS l2;obtain⟨_,_,rfl,l4⟩:=lsS l3;cases List.eq_nil_of_length_eq_zero l4;exact h ..
def bn5(h:∀(kV doc pm:Value) (an:Option Addr) (cdv ct u1 u2 u3 u4 u5:Value),bindArgs (fnOf (cM x.s) x.q (fG x.s) (cN x.s) (aU x.s) .none kV doc pm an cdv ct) ⟨[u1,u2,u3,u4,u5],[]⟩=pure ((x.N.take x.k).zip [u1,u2,u3,u4,u5]):=by intros;rfl)(hk:(x.N.take x.k).length=5:=by rfl):Bnd x:=λkV doc pm an cdv ct us hl=>by rw[hk]at hl;obtain⟨_,_,rfl,l1⟩:=lsS hl;obtain⟨_,_,rfl,l2⟩:=lsS l1;obtain⟨_,_,rfl,l3⟩:=lsS l2;obtain⟨_,_,rfl,l4⟩:=lsS l3;obtain⟨_,_,rfl,l5⟩:=lsS l4;cases List.eq_nil_of_length_eq_zero l5;exact h ..
end
def xq{l:Lw}{α:Type}{f:Addr->Option Bool}{bs:List Bool}(hl:l≠[])(h:l.map (λx=>f (gAt K x))=bs.map some)(c:Nat):f (gAt K (pk "" l c))=some (rm bs c):=by
 have e:gAt K (pk "" l c)=pick (l.map (gAt K)) c:=by
  unfold pk pick;cases l with
  |nil=>exact absurd rfl hl
  |cons a l=>rw[getD_eq_getElem?_getD,getD_eq_getElem?_getD,getElem?_map];cases(a::l)[c]?<;>rfl
 rw[e];exact yc (g:=id) (by simpa using hl) (by rw[map_map];exact h) c
theorem Tx.of{p:PT}{K:Frag}{h:Heap}{mg:Lk}(X:K.In h)(N:h.Ns mainGlobals mg)(hb:AQ p.F)(hs:p.F.all scB=true)(hF:p.F≠[])(hC:p.C≠[])(hX:p.X≠[])
  (e:p.ob K=p.ol K) (h1:p.ch1 K=true) (h2:p.ch2 K=true) (h3:p.ch3 K=true):Tx p K mg:=by
 simp only[PT.ch2,and_eq_true,all_eq_true,decide_eq_true_eq]at h2;obtain⟨⟨⟨⟨⟨⟨⟨c1,c2⟩,c3⟩,c4⟩,c5⟩,c6⟩,c7⟩,c8⟩:=h2;simp only[PT.ch1,PT.ch3,all_eq_true]at h1 h3 hs;have fnx:∀x∈p.F,Fun K (cM x.s) x.q x.s (p.fx K x) (dAt K (p.fx K x)):=λx hx=>by
  have q:=h1 x hx;simp only[PT.chF,and_eq_true]at q;obtain⟨⟨⟨q1,q2⟩,q3⟩,_⟩:=q;have e1:K.lookup (p.fx K x)=(K.lookup (p.fx K x)).map (lit x):=List.map_inj_left.mp e x hx;cases eo:K.lookup (p.fx K x)with
  |none=>rw[eo]at q1;cases q1
  |some o=>
   rw[eo]at e1 q1;obtain⟨oc,od,dt,sl⟩:=o;cases dt with
   |func d=>
    have e2:(⟨oc,od,.func d,sl⟩:Obj)=lit x ⟨oc,od,.func d,sl⟩:=Option.some.inj e1;simp only[lit,Obj.mk.injEq,Data.func.injEq,true_and,and_true]at e2;have ed:dAt K (p.fx K x)=d:=by unfold dAt;rw[eo]
    rw[ed]at q2 ⊢;exact⟨⟨oc,od,d.kwdefaults,d.doc,d.pyModule,d.annotations,d.code,d.closureTuple,sl,e2,eo,q2⟩,q3⟩
   |_=>cases q1
 have scx:∀x∈p.F,gn x.N (x.N.take x.k) (aU x.s):=λx hx=>by have q:=hs x hx;simp only[scB,and_eq_true,decide_eq_true_eq,all_eq_true,Bool.not_eq_true']at q;obtain⟨⟨⟨⟨⟨⟨q1,q2⟩,q3⟩,q4⟩,q5⟩,q6⟩,q7⟩:=q;exact⟨q1,q2,q3,q4,by simp_all,q6,q7⟩
 have clx:∀x∈p.C,(Cls K (gAt K x)/\mg x=some (.ref (gAt K x)))/\∀y∈p.A,gG K (gAt K x) y:=λx hx=>by have q:=c1 x hx;simp only[chC,and_eq_true,decide_eq_true_eq,all_eq_true]at q;obtain⟨⟨⟨⟨⟨q1,q2⟩,q3⟩,q4⟩,q5⟩,q6⟩:=q;exact⟨⟨⟨q1,q2,q3,q4⟩,mg_of X N q5⟩,q6⟩
 have xx:∀x∈p.X,mg x=some (.ref (gAt K x))/\Ad K (gAt K x)=true:=λx hx=>by have q:=c4 x hx;simp only[chX,and_eq_true,decide_eq_true_eq]at q;exact⟨mg_of X N q.1,q.2⟩
 refine ⟨iG hF fnx,iG hF scx,iG hF λx hx=>(fnx x hx).binds (hb.get x hx),
  iG (p:=λx=>x.c=none->mg (cM x.s)=some (.ref (p.fx K x))) hF λx hx hc=>?_,iG hC λx hx=>(clx x hx).1.1,iG hC λx hx=>(clx x hx).1.2,
  iG hC λx hx=>(clx x hx).2,λx hx=>?_,λx hx=>?_,λx hx=>?_,iG hX λx hx=>(xx x hx).1,iG hX λx hx=>(xx x hx).2,
  λx hx=>PySem.W.mg_none_of X N (c5 x hx),λx hx=>?_,λy hy c=>?_,λy hy c=>?_⟩
 .have q:=h1 x hx;simp only[PT.chF,and_eq_true]at q;have q:=q.2;rw[hc]at q;exact mg_of X N (of_decide_eq_true q)
 .have q:=h3 x hx;simp only[PT.chM,and_eq_true,decide_eq_true_eq]at q;exact⟨q.1.1,q.1.2,q.2⟩
 .have q:=c2 x hx;simp only[PT.chK,and_eq_true,decide_eq_true_eq]at q;exact⟨q.1.1.1,q.1.1.2,q.1.2,q.2⟩
 .have q:=c3 x hx;simp only[PT.chU,and_eq_true,decide_eq_true_eq]at q;refine⟨q.1.1.1,q.1.1.2,?_,q.2⟩;have q:=q.1.2;unfold Db at q;split at q
  .lia
  .cases q
 .have q:=c6 x hx;unfold chI at q;split at q
  .rename_i i tk e
   exact⟨tk,by rw[<- of_decide_eq_true q];exact mg_of X N e⟩
  .cases q
 .exact xq (α:=Bool) (f:=λa=>kitOne K (.ref a) (tgV p K y)) hX (of_decide_eq_true (c7 y hy)) c
 .exact xq (α:=Bool) (f:=λa=>exmOne K (.ref a) (.ref (p.xa K y.1))) hX (of_decide_eq_true (c8 y hy)) c
def PT.attOk(p:PT):Prop:=p.A.Nodup/\p.A.all kK=true
noncomputable def PT.gs(p:PT):NFd:=p.G.getD ⟨0,0,"",0,[],[]⟩
def PT.gst(p:PT):Stmt:=(cN (p.fs p.gs.i).s).getD p.gs.j (.Pass ⟨0,0,0,0⟩)
def PT.fi(p:PT):FI:=⟨cM p.gst,p.gs.q,fG p.gst,cN p.gst,aU p.gst,p.gs.fr⟩
def PT.gpos(p:PT):Pos:=match p.gst with
 |.FunctionDef _ _ _ _ _ _ _ _ _ pos=>pos
 |_=>⟨0,0,0,0⟩
def PT.gt(p:PT)(K:Frag):Addr×Addr:=(PySem.W.tabIn K (cM (p.fs p.gs.i).s)).getD (0,0)
@[reducible] def PT.T(p:PT)(h:p.attOk)(K:Frag):Tb where
 K:=K
 nc:=p.C.length
 cls:=p.ca K
 att:=jE p.A
 inj:=w9 h.1 h.2
 xcl:=p.xa K
 dk:=λk=>p.D.getD k []
 bx:=λk H a vs=>if k=99 then p.fi.bx H a vs else if 1000<=k then a=k-1000/\∀v∈vs,v=.ref a else ∃o,H a=some (.frz o (.dK (((p.D.getD k []).map Sum.inr).zip vs)))/\(p.D.getD k []).length=vs.length
 bxs:=λk H H' a vs h q=>by
  split at q
  .rw[if_pos ‹_›];exact FI.bxs h q
  .rw[if_neg ‹_›];split at q
   .rw[if_pos ‹_›];exact q
   .rw[if_neg ‹_›];obtain⟨o,z,l⟩:=q;exact⟨o,h _ _ _ z,l⟩
 tb:=λa=>if p.G.isSome=true/\a=(p.gt K).2 then some #[rawInt p.gpos.line,rawInt p.gpos.col,.str p.gs.q 0]else none
section
variable{p:PT}{K:Frag}{mg:Lk}
def Tx.cls(t:Tx p K mg)(n:Nat):∀c<n,Cls K (p.ca K c):=λc _=>t.cl c
def Tx.b(t:Tx p K mg)(j:Nat)(h:p.B[j]?=some x:=by rfl):mg x=none:=t.bi x (List.mem_of_getElem? h)
def Tx.c(t:Tx p K mg)(j:Nat)(h:p.I[j]?=some (x,i):=by rfl):∃tk,mg x=some (.int i tk):=t.ci (x,i) (List.mem_of_getElem? h)
end
open PySem.W (keepIn Frag)
section
variable{P:Program}{w:World}{K:Frag}{mg:Lk}{base:Heap}{p:PT}{hA:p.attOk}
abbrev OkF(p:PT)(hA:p.attOk)(P:Program)(w:World)(K:Frag)(mg:Lk)(base:Heap)(k i:Nat)(m:LB->LC):Prop:=dR P w K mg base (CXP P w) k (p.fa K i) (dAt K (p.fa K i)) (p.ps i) (spM (p.T hA K) (p.ps i).length m)
abbrev OkI(p:PT)(hA:p.attOk)(P:Program)(w:World)(K:Frag)(mg:Lk)(base:Heap)(k i:Nat)(m:LB->LC):Prop:=dR P w K mg base (CXP P w) k (p.fa K i) (dAt K (p.fa K i)) (p.ps i) (spI (p.T hA K) (p.ps i).length m)
def okC(i:Nat)(t:Tx p K mg)(body:∀{cdv:Value}{A:Around}{outer:List Env}{s:Shared}{H:Hp}{E:XK},Ctx (gI (CXP P w) P w K mg base (p.fs i).N (p.fs i).q (aU (p.fs i).s) (p.fa K i) cdv A outer s H E) (p.T hA K) (WD (p.T hA K) E) k->(p.fs i).N.Nodup ->
  SSs (gI (CXP P w) P w K mg base (p.fs i).N (p.fs i).q (aU (p.fs i).s) (p.fa K i) cdv A outer s H E) (p.T hA K) (WD (p.T hA K) E) (cN (p.fs i).s) m):OkF p hA P w K mg base (k+1) i (bA (p.fs i).N.length m):=
 Ge (T:=p.T hA K) (t.fn i) (t.sc i) λa b c d e f g=>@body a b c d e f g (t.sc i).nd
def okI(i:Nat)(t:Tx p K mg)(body:∀{cdv:Value}{A:Around}{outer:List Env}{s:Shared}{H:Hp}{E:XK},Ctx (gI (CXP P w) P w K mg base (p.fs i).N (p.fs i).q (aU (p.fs i).s) (p.fa K i) cdv A outer s H E) (p.T hA K) (WD (p.T hA K) E) k->(p.fs i).N.Nodup ->
  SSs (gI (CXP P w) P w K mg base (p.fs i).N (p.fs i).q (aU (p.fs i).s) (p.fa K i) cdv A outer s H E) (p.T hA K) (WD (p.T hA K) E) (cN (p.fs i).s) m):OkI p hA P w K mg base (k+1) i (ju (p.fs i).N.length m):=
 Co (T:=p.T hA K) (t.fn i) (t.sc i) λa b c d e f g=>@body a b c d e f g (t.sc i).nd
def dm{X:Cx}{k k2 i c:Nat}{mn:Str}{m m':LB->LC}{ps:Lw}(j:Nat)(t:Tx p X.K X.mg)(G:dR X.prog X.w X.K X.mg X.base (CXP X.prog X.w) k (p.fa X.K i) (dAt X.K (p.fa X.K i)) ps (spM (p.T hA X.K) ps.length m))(e:some m=some m')(hj:p.M[j]?=some (c,mn,i):=by rfl)(hp:p.ps i=ps:=by rfl)(hk:k<=k2:=by decide) :
  ∃f fd,CV X.K (p.ca X.K c) mn f/\gM X.K fd ps []/\dR X.prog X.w X.K X.mg X.base (CXP X.prog X.w) k2 f fd ps (spM (p.T hA X.K) ps.length m'):=by
 cases e;exact⟨_,_,t.me _ (List.mem_of_getElem? hj),hp▸t.bn i,G.mono hk⟩
end
def dno{n c:Nat}{q:Prop}(h:c<n)(hc:n<=c:=by exact Nat.le_add_left _ _):q:=absurd h (Nat.not_lt.mpr hc)
section
variable{X:Cx}{W:Nat->St->LA}{p:PT}{hA:p.attOk}
def bD(t:Tx p X.K X.mg)
  (G:dR X.prog X.w X.K X.mg X.base (CXP X.prog X.w) k (p.fa X.K i) (dAt X.K (p.fa X.K i)) (p.ps i) (spM (p.T hA X.K) (p.ps i).length m)) (cx:Ctx X (p.T hA X.K) W kk) (ha:SA X (p.T hA X.K) W (e::es) ms)
  (hk:k<=kk:=by decide) (hx:cM (p.fs i).s=x:=by rfl) (hc:(p.fs i).c=none:=by rfl) (hg:Gl X x:=by rfl) (hn:iR ms n:=by repeat' first|exact gz|apply fA) (hps:n=(p.ps i).length:=by rfl)
  (hdb:Nd x:=by decide) (he:starEach (e::es) X.env=(false,eval e X.env)::starEach es X.env:=by rfl) (hpl:(backTo pos (starEach es X.env)).any (·.1)=false:=by rfl) :
  SE X (p.T hA X.K) W (.Call (.Name x np) (e::es) [] pos) (aq (aM m) ms):=
 xH G cx hk hg (by subst hx;exact t.gl i hc) (t.fn i).kp (t.bn i) hn hps ha hdb he hpl
def cW(t:Tx p X.K X.mg)
  (D:eW X (p.T hA X.K) k mn ps [] disp) (cx:Ctx X (p.T hA X.K) W kk) (ho:SE X (p.T hA X.K) W o mo) (ha:SA X (p.T hA X.K) W (e::es) ms)
  (hm:∀k,jE p.A k≠mn:=by exact sJ (by decide +kernel) (by decide +kernel)) (hk:k<=kk:=by decide) (hn:iR ms n:=by repeat' first|exact gz|apply fA) (hps:n+1=ps.length:=by rfl)
  (hst:starEach (e::es) X.env=(false,eval e X.env)::starEach es X.env:=by rfl) (hpl:(backTo pos (starEach es X.env)).any (·.1)=false:=by rfl)
  (ht:eval (.Call (.Attribute o mn apos) (e::es) [] pos) X.env=(do
   let ov <- eval o X.env
   standAt apos.atName
   let(f,first) <- holding [ov] (getMethod ov mn pl)
   callWith pos f first (backTo pos (starEach (e::es) X.env)) (backToKw pos (keywordEach [] X.env))):=by rfl) :
  SE X (p.T hA X.K) W (.Call (.Attribute o mn apos) (e::es) [] pos) (bY disp mo ms):=
 Eo cx (t.cls _) hm D hk hn hps ho ha hst hpl ht
def uN(t:Tx p X.K X.mg)
  (D:eW X (p.T hA X.K) k mn ps [] disp) (cx:Ctx X (p.T hA X.K) W kk) (ho:SE X (p.T hA X.K) W o mo)
  (hm:∀k,jE p.A k≠mn:=by exact sJ (by decide +kernel) (by decide +kernel)) (hk:k<=kk:=by decide) (hps:ps.length=1:=by rfl)
  (ht:eval (.Call (.Attribute o mn apos) [] [] pos) X.env=(do
   let ov <- eval o X.env
   standAt apos.atName
   let(f,first) <- holding [ov] (getMethod ov mn pl)
   callWith pos f first (backTo pos (starEach [] X.env)) (backToKw pos (keywordEach [] X.env))):=by rfl) :
  SE X (p.T hA X.K) W (.Call (.Attribute o mn apos) [] [] pos) (bY disp mo am):=
 Bj cx (t.cls _) hm D hk hps ho ht
def mM(c:Nat)(t:Tx p X.K X.mg)
  (G:dR X.prog X.w X.K X.mg X.base (CXP X.prog X.w) k (p.fa X.K i) (dAt X.K (p.fa X.K i)) (p.ps i) (spI (p.T hA X.K) (p.ps i).length m)) (cx:Ctx X (p.T hA X.K) W kk) (ha:SA X (p.T hA X.K) W (e::es) ms)
  (hM:(c,i)∈ p.Mk:=by decide) (hcn:c<p.C.length:=by decide) (hk:k+1<=kk:=by decide) (hx:pk ("":Str) p.C c=x:=by rfl) (hg:Gl X x:=by rfl) (hn:iR ms n:=by repeat' first|exact gz|apply fA) (hps:n+1=(p.ps i).length:=by rfl)
  (hdb:Nd x:=by decide) (he:starEach (e::es) X.env=(false,eval e X.env)::starEach es X.env:=by rfl) (hpl:(backTo pos (starEach es X.env)).any (·.1)=false:=by rfl) :
  SE X (p.T hA X.K) W (.Call (.Name x np) (e::es) [] pos) (jL c m ms):=
 Em (t.mm _ hM) hcn G cx hk hg (by subst hx;exact t.cg c) (t.bn i) hn hps ha hdb he hpl
def aS(k:Nat)(t:Tx p X.K X.mg)(cx:Ctx X (p.T hA X.K) W kk)(he:SE X (p.T hA X.K) W e m)(hf:jE p.A k=f:=by rfl)(hm:f∈p.A:=by decide)(hb:attributeBase e f X.env (eval e X.env)=eval e X.env:=by rfl) :
  SE X (p.T hA X.K) W (.Attribute e f pos) (mUn (au k) m):=Bq cx.hK hf (t.cls _) (λc _=>t.cn c f hm) he hb
def iC(ha:SA X T W es ms)(hn:iR ms n:=by repeat' first|exact gz|apply fA)(hs:n<=1000:=by decide):SE X T W (.List es pos) (fv ms):=Ep ha hn hs
def qU{x1}(ha:SA X T W es ms)(hn:iR ms n:=by repeat' first|exact gz|apply fA)(hs:n<=1000:=by decide):SE X T W (.Tuple es x1 pos) (kW ms):=Ek ha hn hs
def bj(cx:Ctx X T W kk)(ha:SE X T W a ma)(hb:SE X T W b mb)(hs:mf b:=by exact λ_ _=>rfl):SE X T W (.Subscript a b pos) (mOp aB ma mb):=Et cx.hK ha hb hs
def a6(hN:X.N.Nodup)(he:SE X T W e m)(hi:X.N[i]?=some x:=by rfl)(hx:Loc X.env.scope x:=by first|exact .inl rfl|exact .inr rfl)(hs:swapsWith e (some (.Name x pos')) pos.line X.env=pure false:=by rfl)
  (hf:Lce X.fn X.env x:=by first|exact .inl rfl|exact .inr rfl|assumption):SS X T W (.Assign [.Name x pos'] e pos) (aG i m):=Eg hN hi hx he hs hf
def sgN(hN:X.N.Nodup)(hi:X.N[i]?=some x:=by rfl)(hx:Loc X.env.scope x:=by first|exact .inl rfl|exact .inr rfl)(hf:Lce X.fn X.env x:=by first|exact .inl rfl|exact .inr rfl|assumption):SG X T (.Name x pos) (tgN i):=Bb hN hi hx hf
def bQ(h:k<=i:=by decide):iO (tgN i) k:=xl h
def tB(cx:Ctx X T W kk)(he:SE X T W e m)(hN:X.N[i]?=some x:=by rfl)(hv:Vis X.env.scope x:=by first|exact Or.inl rfl|exact Or.inr (Or.inl rfl)|exact Or.inr (Or.inr rfl))
  (hs:swapsWith (.Call (.Attribute (.Name x px) "append" apos) [e] [] cpos) none pos.line X.env=pure false:=by rfl) (hst:starEach [e] X.env=[(false,eval e X.env)]:=by rfl)
  (hfew:Fwe X.env cpos [e]:=by rfl)
  (hline:(apos.endLine==cpos.line)=true:=by rfl) (hd:Nd x:=by decide) (hcd:Nc x:=by decide) :
  SS X T W (.Expr (.Call (.Attribute (.Name x px) "append" apos) [e] [] cpos) pos) (dJ i m):=vS cx.hK hN hv he hs hst hfew hline hd hcd
def sFld(k:Nat)(t:Tx p X.K X.mg)(cx:Ctx X (p.T hA X.K) W kk)(he:SE X (p.T hA X.K) W e m)(hf:jE p.A k=f:=by rfl)(hm:f∈p.A:=by decide)(hN:X.N[i]?=some x:=by rfl)
  (hv:Vis X.env.scope x:=by first|exact Or.inl rfl|exact Or.inr (Or.inl rfl)|exact Or.inr (Or.inr rfl))
  (hs:swapsWith e (some (.Attribute (.Name x px) f pos')) pos.line X.env=pure false:=by rfl) (hd:Nd x:=by decide) (hcd:Nc x:=by decide) :
  SS X (p.T hA X.K) W (.Assign [.Attribute (.Name x px) f pos'] e pos) (ig i k m):=Eh cx.hK hf (t.cls _) (λc _=>t.cn c f hm) hN hv he hs hd hcd
def cQ(c:Nat)(t:Tx p X.K X.mg)(cx:Ctx X (p.T hA X.K) W k)(hB:X.K.In X.base)(hx:XM X (p.T hA X.K) W)(ha:SA X (p.T hA X.K) W (e::es) ms)
  (hm:pk ("":Str) p.X c=x:=by rfl) (hg:Gl X x:=by rfl) (hn:iR ms n:=by repeat' first|exact gz|apply fA) (hn2:n<=100:=by decide) (hd:Nd x:=by decide)
  (he:starEach (e::es) X.env=(false,eval e X.env)::starEach es X.env:=by rfl) (hpl:(backTo cpos (starEach es X.env)).any (·.1)=false:=by rfl) :
  SS X (p.T hA X.K) W (.Raise (some (.Call (.Name x np) (e::es) [] cpos)) none pos) (bV c ms):=
 vR cx (by subst hm;exact t.xg c) hB (Ct (t.xe c)).2 hx hg hn hn2 ha hd he hpl
def qV(c:Nat)(t:Tx p X.K X.mg)
  (G:dR X.prog X.w X.K X.mg X.base (CXP X.prog X.w) k (p.fa X.K i) (dAt X.K (p.fa X.K i)) (p.ps i) (spI (p.T hA X.K) (p.ps i).length m)) (cx:Ctx X (p.T hA X.K) W kk) (ha:SA X (p.T hA X.K) W es ms)
  (hU:(c,i)∈ p.U:=by decide) (hk:k<=kk:=by decide) (hx:pk ("":Str) p.C c=x:=by rfl) (hg:Gl X x:=by rfl) (hN:X.N[0]?=some y:=by rfl) (hv:Vis X.env.scope y:=by first|exact Or.inl rfl|exact Or.inr (Or.inl rfl)|exact Or.inr (Or.inr rfl))
  (hn:iR ms n:=by repeat' first|exact gz|apply fA) (hps:n+1=(p.ps i).length:=by rfl)
  (hdb:Nd x:=by decide) (hdy:Nd y:=by decide) (hcy:Nc y:=by decide)
  (hst:starEach (.Name y px::es) X.env=(false,eval (.Name y px) X.env)::starEach es X.env:=by rfl) (hpl:(backTo pos (starEach es X.env)).any (·.1)=false:=by rfl)
  (ht:eval (.Call (.Attribute (.Name x q) "__init__" apos) (.Name y px::es) [] pos) X.env=(do
   let ov <- eval (.Name x q) X.env
   standAt apos.atName
   let(f,first) <- holding [ov] (getMethod ov "__init__" pl)
   callWith pos f first (backTo pos (starEach (.Name y px::es) X.env)) (backToKw pos (keywordEach [] X.env))):=by rfl)
  (hs:swapsWith (.Call (.Attribute (.Name x q) "__init__" apos) (.Name y px::es) [] pos) none pos'.line X.env=pure false:=by rfl) :
  SS X (p.T hA X.K) W (.Expr (.Call (.Attribute (.Name x q) "__init__" apos) (.Name y px::es) [] pos) pos') (iQ m ms):=
 Ef cx (t.su _ hU) G hk hg (by subst hx;exact t.cg c) (t.bn i) hN hv hn hps ha hdb hdy hcy hst hpl ht hs
end
section
variable{X:Cx}{W:Nat->St->LA}{T:Tb}
noncomputable abbrev nmC(X:Cx)(caps:List Nat)(tn:Lw):Lw:=caps.map (λi=>X.N.getD i "")++ tn
def cOf(h:nU X.env.scope scope X.N caps (nmC X caps tn) tn=true):fE X scope caps (nmC X caps tn) tn:=CG h rfl rfl
def cr(tn:Lw)(cx:Ctx X T W kk)(hi:SIc X T W tg iter mi)(hk:iO g caps.length)
  (hb:∀C s H ex,(nmC X caps tn).Nodup->SG (cxC X scope C (nmC X caps tn) s H ex) T tg g/\STs (cxC X scope C (nmC X caps tn) s H ex) T WF ifs mc/\SE (cxC X scope C (nmC X caps tn) s H ex) T WF elt me)
  (h:nU X.env.scope scope X.N caps (nmC X caps tn) tn=true:=by kernel_rfl) (hs:∀x,foldedSetIterable iter X.env x=pure x:=by intro _;rfl):SE X T W (.ListComp elt [⟨tg,iter,ifs,0⟩] scope pos) (aL caps tn.length mi g mc me):=
 Bm (cOf h) cx.calm hi hk (λC s H ex=>hb C s H ex (cOf h).nd) hs
def dH(tn:Lw)(cx:Ctx X T W kk)(hN:X.N.Nodup)(hi:SIc X T W tg iter mi)(hk:iO g caps.length)
  (hb:∀C s H ex,(nmC X caps tn).Nodup->SG (cxC X scope C (nmC X caps tn) s H ex) T tg g/\STs (cxC X scope C (nmC X caps tn) s H ex) T WF ifs mc/\SE (cxC X scope C (nmC X caps tn) s H ex) T WF elt me)
  (h:nU X.env.scope scope X.N caps (nmC X caps tn) tn=true:=by kernel_rfl) (hy:X.N[i]?=some y:=by rfl) (hx:Loc X.env.scope y:=by first|exact .inl rfl|exact .inr rfl)
  (hsw:swapsWith (.ListComp elt [⟨tg,iter,ifs,0⟩] scope pos) (some (.Name y py)) spos.line X.env=pure true:=by rfl)
  (hs:∀x,foldedSetIterable iter X.env x=pure x:=by intro _;rfl)
  (hf:X.fn y=true\/X.env.scope.names.lookup y=some .local:=by first|exact .inl rfl|exact .inr rfl|assumption) :
  SS X T W (.Assign [.Name y py] (.ListComp elt [⟨tg,iter,ifs,0⟩] scope pos) spos) (aG i (aL caps tn.length mi g mc me)):=
 A5 (cOf h) cx.calm hN hy hx hi hk (λC s H ex=>hb C s H ex (cOf h).nd) hsw hs hf
end
end
section
open PySem.W (findIn fnOf keepIn nsIn codeIn isFn Frag)
structure PE where
 D:List (FS×Bool)
 G:List (Str×List (Str×Int))
 S:List (Str×Str)
 P:List (Str×Lw)
section
variable{X:Cx}{T:Tb}{W:Nat->St->LA}{Z:Zn}{F F1 B L:Lp}{H H1:Hp}{Y:St}{env:En}{fp:Nat->Lu}{D:Ends}
def uQ:∀{xs:LB}{ws:Lz}{f:Lu}{i:Nat}{x:PV},RelL T F B L H xs ws f->xs[i]?=some x->∃w fx,ws[i]?=some w/\Rel T F B L H x w fx/\∀b∈fx,b∈f
 | [],_,_,i,x,_,e=>by simp at e
 |a::xs,ws,f,i,x,h,e=>by
  obtain⟨v,ws',f1,f2,rfl,h1,h2,rfl⟩:=h;cases i with
  |zero=>cases e;exact⟨v,f1,rfl,h1,λb hb=>mem_append_left _ hb⟩
  |succ i=>obtain⟨w,fx,e1,r,s⟩:=uQ h2 e;exact⟨w,fx,e1,r,λb hb=>mem_append_right _ (s b hb)⟩
theorem aC.updO(S:aC T Z F H Y env fp)(hj:∀j,b∉fp j)(hF:¬F b)(hn:Z.H0 b=none\/Z.fp0 b)(hb:H b=some o)(hfx:¬ii o):aC T Z F (upd H b o') Y env fp:=by
 have nB:¬Z.B b:=λh=>by
  obtain⟨⟨u,e⟩,n⟩:=S.hp.bo.1 b h;rcases hn with z|z
  .rw[e]at z;cases z
  .exact n z
 have ne:∀a u,H a=some u->(F a\/Z.B a\/NoL a\/ii u)->a≠b:=λa u e h z=>by lia
 refine⟨⟨S.hp.bo,λa u e n=>?_,S.hp.f0,S.hp.fn,λa h=>?_⟩,S.len,λi pv e=>?_,S.nd,S.dj,λi a ha=>?_,S.new,λi a ha=>?_,S.pn⟩
 .have:a≠b:=λz=>by
   subst z;rcases hn with z|z
   .rw[e]at z;cases z
   .exact n z
  rw[aR this];exact S.hp.keep a u e n
 .obtain⟨u,e⟩:=S.hp.ft a h;exact⟨u,by rw[aR (show a≠b from λz=>hF ())];exact e⟩
 .obtain⟨v,h1,h2⟩:=S.rel i pv e;refine⟨v,h1,Rel.tr (λ_ h=>h) (λ_ h=>h) (λ_ h=>h) (λa u q h=>?_) (λa ha u q=>?_) h2⟩
  .rw[aR (ne a u q h)];exact q
  .rw[aR (show a≠b from λz=>hj i ())];exact q
 .obtain⟨n,u,e⟩:=S.dis i a ha;exact⟨n,u,by rw[aR (show a≠b from λz=>hj i ())];exact e⟩
 .obtain⟨u,e,c⟩:=S.ch i a ha;exact⟨u,by rw[aR (show a≠b from λz=>hj i ())];exact e,c⟩
end
open PySem.W (fnOf Frag)
def smp:PV->Bool
 |.int _|.bl _|.str _|.non=>true
 |.lst f xs=>decide (f≠.mod)&&(bO xs).isSome
 |_=>false
def eqD(x:PV)(y:PV):Bool:=PyData.eqv y.data x.data
def fW:PV->PV->LC:=λo x=>match o with
 | .lst _ ys=>if shp x && ys.all shp && ys.all smp && decide (ys.length <= 10000000) then (match ys.findIdx? (eqD x) with
  |some j=>.ok (.int j)
  |none=>.stuck)else .stuck
 |_=>.stuck
section
variable{X:Cx}{T:Tb}{W:Nat->St->LA}{Z:Zn}{F F1 B L:Lp}{H H1:Hp}{Y:St}{env:En}{fp:Nat->Lu}{D:Ends}
def Rd.inj{u u':Lz}(h:Rd H a (.lst u))(h':Rd H a (.lst u')):u=u':=by rcases h with h |⟨o,h⟩<;>rcases h' with h' |⟨o',h'⟩<;>rw[h]at h'<;>cases h'<;>rfl
def k9:∀{xs:LB}{ns:Lq},bO xs=some ns->xs=ns.map .int
 | [],ns,h=>by cases h;rfl
 |.int i::xs,ns,h=>by
  unfold bO at h;cases e:bO xs with
  |none=>rw[e]at h;cases h
  |some ms=>rw[e]at h;cases h;rw[k9 e];rfl
 |.non::xs,ns,h|.bl _::xs,ns,h|.str _::xs,ns,h|.lst _ _::xs,ns,h|.tup _::xs,ns,h|.obj _ _ _ _::xs,ns,h|.exc _::xs,ns,h|.box _ _::xs,ns,h=>by cases h
def xC{y y':PV}(s:smp y=true)(s':smp y'=true)(r:Rel T F B L H y u fy)(r':Rel T F B L H y' u fy'):y.data=y'.data:=by
  cases y with
  |lst f xs=>
    obtain⟨a,vs,f',rfl,h1,h2,_⟩:=r;cases y' with
    |lst g zs=>obtain⟨b,ws,g',e,k1,k2,_⟩:=r';cases e;simp only[smp,and_eq_true,decide_eq_true_eq]at s s';obtain⟨ns,en⟩:=isSome_iff_exists.mp s.2;obtain⟨ms,em⟩:=isSome_iff_exists.mp s'.2;have e1:=cR en h2;have e2:=cR em k2;have:=Rd.inj (h1.rd s.1) (k1.rd s'.1);rw[e1,e2]at this;have e3:ns=ms:=List.map_inj_right (λ_ _ h=>V.int.inj h) |>.mp this;rw[k9 en,k9 em,e3];simp[PV.data]
    |_=>first |(cases s';done) |(unfold Rel at r';cases r'.1;done)
  |_=>
    first
    |(cases s;done)
    | (unfold Rel at r
       obtain⟨rfl,_⟩:=r;cases y' with
       |lst f xs=>unfold Rel at r';obtain⟨a,vs,f',e,_⟩:=r';cases e
       |_=>first |(cases s';done) |(unfold Rel at r';obtain⟨e,_⟩:=r';cases e;rfl) |(unfold Rel at r';obtain⟨e,_⟩:=r';cases e;done))
theorem AM(hK:X.K=T.K)(I:L2.Inv X js Y H s)(hu:A.units+64<cLine)(rx:Rel T F B L H x v fx)(rv:bT v v')(hx:shp x=true){ys:LB}{us:Lz}{fy:Lu}{its:Lr}(r:RelL T F B L H ys us fy)(rl:aY us its)(hs:ys.all shp=true)(hm:ys.all smp=true) :
  ∃e:Value->Bool,(∀w∈its,SeqAt.EqAt A s w v' (e w))/\its.length=ys.length/\∀(m:Nat) (y:PV) (w:Value),ys[m]?=some y->its[m]?=some w->e w=eqD x y:=by
 classical
 have hlen:its.length=ys.length:=by rw[<- rl.length,<- r.length]
 let e:Value->Bool:=λw=>decide (∃y∈ys,∃u fy,JJ w=some u/\Rel T F B L H y u fy/\eqD x y=true)
 have pl:∀(m:Nat) (y:PV) (w:Value),ys[m]?=some y->its[m]?=some w->∃u fy,bT u w/\Rel T F B L H y u fy:=λm y w ey ew=>by obtain⟨u,fx,e1,r1,_⟩:=uQ r ey;obtain⟨w',e2,r2⟩:=rl.get e1;rw[ew]at e2;cases e2;exact⟨u,fx,r2,r1⟩
 have ev:∀(m:Nat) (y:PV) (w:Value),ys[m]?=some y->its[m]?=some w->e w=eqD x y:=λm y w ey ew=>by
  obtain⟨u,fu,r1,r2⟩:=pl m y w ey ew;have ym:=List.mem_of_getElem? ey;cases q:eqD x y with
  |true=>exact decide_eq_true ⟨y,ym,u,fu,r1.abs,r2,q⟩
  |false=>refine decide_eq_false λhz1=>?_;obtain⟨y',hy',u',fu',a',r',q'⟩:=hz1;rw[r1.abs]at a';cases a';have:=xC (all_eq_true.mp hm y ym) (all_eq_true.mp hm y' hy') r2 r';unfold eqD at q q';rw[this]at q;rw[q]at q';cases q'
 refine⟨e,λw hw=>?_,hlen,ev⟩;obtain⟨m,hmlt,ew⟩:=getElem_of_mem hw;have ew':its[m]?=some w:=by rw[getElem?_eq_getElem hmlt,ew]
 have ey:ys[m]?=some ys[m]:=getElem?_eq_getElem ();obtain⟨u,fu,r1,r2⟩:=pl m _ w ey ew';rw[ev m _ w ey ew'];exact nT hK I hu r2 rx r1 rv (all_eq_true.mp hs _ (List.mem_of_getElem? ey)) hx
def C1(T:Tb)(g:PV->LB->Lx):V->Lz->Hp->VK->Prop:=λo vs H Q=>∃x ys a us v F B L fx fy j,o=.ref a/\vs=[v]/\SqL T.K H a us/\Rel T F B L H x v fx/\RelL T F B L H ys us fy/\shp x=true/\ys.all shp=true/\ys.all smp=true/\g x ys=some j/\Q (.int j) H
def gIx(x:PV)(ys:LB):Lx:=if ys.length<=10000000 then(ys.findIdx? (eqD x)).map λj:Nat=>(j:Int)else none
theorem yS(hK:X.K=T.K)(hu:X.A.units+66<cLine):MtM X "list.index" (C1 T gIx):=by
 intro js s Y H o vs v' us' Q I rx rv h;obtain⟨x,ys,a,us,v,F,B,L,fx,fy,j,rfl,rfl,hs,r1,r2,h1,h2,h3,hg,q⟩:=h;cases rx;obtain⟨u,rfl,ru⟩:=rv.one;obtain⟨its,r,pl,_⟩:=I.list (by rw[hK];exact hs);have hu1:X.A.in1.units+64<cLine:=by lia
 obtain⟨e,e1,e2,e3⟩:=AM hK I hu1 r1 ru h1 r2 r h2 h3;unfold gIx at hg;split at hg
 case isFalse=>cases hg
 obtain⟨k,ek,rfl⟩:=map_eq_some_iff.mp hg;obtain⟨kl,k1,k2⟩:=List.findIdx?_eq_some_iff_getElem.mp ek;obtain⟨ob,n,g,c,d,dt⟩:=pl;obtain⟨oc,od,odt,osl⟩:=ob;dsimp only at c d dt;subst c d dt;have ev:∀(m:Nat) (hm:m<its.toArray.size) (hy:m<ys.length),e its.toArray[m]=eqD x ys[m]:=λm hm hy=>e3 m _ _ (getElem?_eq_getElem hy) ();refine call_meets PySem.F.slot_list_index ⟨_,g,rfl⟩ PySem.F.entry_list_index (PySem.F.args_list_index_2 _ _) (SeqAt.list_indexAt a its.toArray n none osl u e k (by simp;lia) () ?_ λm hm hlt=>?_) ⟨g,λw hw=>e1 w (by simp_all),?_⟩
 .rw[ev k (by simp;lia) kl];exact k1
 .rw[ev m hm ()];simpa using k2 m hlt
 .exact⟨.int k,H,I.tok _,⟨_,rfl⟩,q⟩
noncomputable def kg(g:PV->PV->LC)(mo mk:ME):ME:=λenv=>match mo env,mk env with
 |.ok (.lst f ys),.ok x=>g (.lst f ys) x
 |_,_=>.stuck
def Bl{nm:Str}{id:String}{g:PV->PV->LC}{gg:PV->LB->Lx}{o k:Expr}{mo mk:ME}{apos cpos:Pos}(hK:X.K=T.K)(slot:Slot "list" nm id)(hty:typeOf (.builtin id)=pure (.type "method_descriptor"))(hmt:MtM X id (C1 T gg))
  (hr:∀f ys x,g (.lst f ys) x=.stuck\/∃j,g (.lst f ys) x=.ok (.int j)/\shp x=true/\ys.all shp=true/\ys.all smp=true/\gg x ys=some j)
  (ho:SE X T W o mo) (hk:SE X T W k mk) (hbase:attributeBase o nm X.env (eval o X.env)=eval o X.env:=by rfl)
  (hst:starEach [k] X.env=[(false,eval k X.env)]:=by rfl)
  (hfew:Fwe X.env cpos [k]:=by rfl)
  (hline:(apos.endLine==cpos.line)=true:=by rfl):SE X T W (.Call (.Attribute o nm apos) [k] [] cpos) (kg g mo mk):=
 PE.wk (uX PySem.F.plainAttrs_list slot hty hmt ho (ac hk ah hst) hbase hfew hline hst) λY H Q h=>by
  obtain⟨Z,F,env,fp,S,q⟩:=h;unfold kg at q;split at q
  case h_2=>exact q.elim
  rename_i f ys x em ek
  refine⟨Z,F,env,fp,S,?_⟩;rw[em];intro v H1 F1 f1 g1 r1 n1 d1 w1;have r1':=r1;obtain⟨a,us,fp',rfl,hl,_,_⟩:=r1';refine⟨.inl ⟨rfl,us,by rw[hK];exact hl.sq⟩,Z,F1,env,fp,S.grow g1,?_⟩;unfold ae am;rw[ek];intro vs H2 F2 f2 g2 r2 n2 d2 w2;obtain⟨u,rfl,ru⟩:=r2.one;have r3:=r1.ext g2.ext g2.mono;obtain⟨b,us2,fp2,e,hl2,hr2,_⟩:=r3;cases e;rcases hr f ys x with z |⟨j,e,h1,h2,h3,h4⟩
  .rw[z]at q;exact q.elim
  .rw[e]at q;exact⟨x,ys,a,us2,u,F2,Z.B,Own fp,f2,fp2,j,rfl,rfl,hl2.sq,ru,hr2,h1,h2,h3,h4,q.scal (g1.trans g2) fN⟩
def wu(f:Fl)(ys:LB)(x:PV):fW (.lst f ys) x=.stuck\/∃j,fW (.lst f ys) x=.ok (.int j)/\shp x=true/\ys.all shp=true/\ys.all smp=true/\gIx x ys=some j:=by
 unfold fW;dsimp only;split
 .rename_i h
  simp only[and_eq_true,decide_eq_true_eq]at h;cases e:ys.findIdx? (eqD x)with
  |none=>exact .inl rfl
  |some j=>exact .inr ⟨j,rfl,h.1.1.1,h.1.1.2,h.1.2,by unfold gIx;rw[if_pos h.2,e];rfl⟩
 .exact .inl rfl
def qS{o k:Expr}{mo mk:ME}{apos cpos:Pos}(cx:Ctx X T W kk)(hu:X.A.units+66<cLine)(ho:SE X T W o mo)(hk:SE X T W k mk)(hbase:attributeBase o "index" X.env (eval o X.env)=eval o X.env:=by rfl)
  (hst:starEach [k] X.env=[(false,eval k X.env)]:=by rfl)
  (hfew:Fwe X.env cpos [k]:=by rfl)
  (hline:(apos.endLine==cpos.line)=true:=by rfl):SE X T W (.Call (.Attribute o "index" apos) [k] [] cpos) (kg fW mo mk):=
 Bl cx.hK PySem.F.slot_list_index PySem.F.type_list_index (yS cx.hK hu) wu ho hk hbase hst hfew hline
end
noncomputable def dTr(T:Tb)(W:Nat->St->LA):Lw->List ME->List (TE×TE)
 |k::ks,m::ms=>(tC (.str k),tE T W m)::dTr T W ks ms
 |_,_=>[]
def p9:List ME->MA
 | []=>am
 |m::ms=>ae m (p9 ms)
noncomputable abbrev dkv(ks:Lw)(vs:Lz):List (Key×V):=(ks.map Sum.inr).zip vs
theorem putK_new{kvs:List (Key×V)}{k:Key}{v:V}(h:∀p∈kvs,p.1≠k):iZ kvs k v=kvs++[(k,v)]:=by
 unfold iZ
 grind
theorem ny:∀{more kvs:List (Key×V)},((kvs++more).map (·.1)).Nodup->ja kvs more=kvs++more
 | [],kvs,_=>by simp[ja]
 |p::more,kvs,h=>by have e:iZ kvs p.1 p.2=kvs++[p]:=putK_new (by grind);show ja (iZ kvs p.1 p.2) more=_;rw[e,ny (by simpa using h)];simp
def sr{ks:Lw}{vs:Lz}(h:ks.length=vs.length):(dkv ks vs).map (·.1)=ks.map Sum.inr:=by rw[List.map_fst_zip (by simp[h])]
def wO{ks:Lw}(h:ks.Nodup):(ks.map (Sum.inr:Str->Key)).Nodup:=by rw[Nodup,pairwise_map];exact h.imp λz e=>z (Sum.inr.inj e)
theorem vD{ks:Lw}{vs:Lz}{k:Str}{v:V}(h:(ks++[k]).Nodup)(hl:ks.length=vs.length):iZ (dkv ks vs) (.inr k) v=dkv (ks++[k]) (vs++[v]):=by
 rw[putK_new]
 .unfold dkv;rw[map_append,List.zip_append (by simp[hl])];rfl
 .intro p hp e;have hm:p.1∈ks.map (Sum.inr:Str->Key):=by rw[<- sr hl];exact List.mem_map_of_mem hp
  grind
def qi{ks:Lw}{vs:Lz}(hl:ks.length=vs.length):(dkv ks vs).length=ks.length:=by simp[hl]
theorem vC:∀{ks:Lw}{vs:Lz}{i:Nat}{k:Str}{v:V},ks.findIdx? (·==k)=some i->vs[i]?=some v->my (dkv ks vs) (Sum.inr k:Key)=some v
 | [],_,_,_,_,h,_|_::_,[],_,_,_,_,h=>by simp at h
 |q::ks,u::vs,i,k,v,h,e=>by
  rw[List.findIdx?_cons]at h;by_cases z:(q==k)=true
  .rw[if_pos z]at h;cases h;rw[<- e];exact mt ()
  .rw[if_neg z]at h;obtain⟨j,hj,rfl⟩:=map_eq_some_iff.mp h;show my ((Sum.inr q,u)::dkv ks vs) _=_;rw[mw (λe=>z ())];exact vC hj (by simpa using e)
end
end PR
namespace L2
open PySem PySem.Spec PyProof.Rows
def Ed(td ty:TE):TE:=λY H Q=>td Y H λx H1=>ty Y H1 λy H2=>∃a v kvs k,x=.ref a/\Rd H2 a (.dK kvs)/\y=kV k/\my kvs k=some v/\Q v H2
def Ew(td ty tv:TE):TS:=λD Y H=>tv Y H λv H1=>td Y H1 λx H2=>ty Y H2 λy H3=>∃a kvs k,x=.ref a/\H3 a=some (.dK kvs)/\y=kV k/\kvs.length<sizeLine/\D.nx Y (upd H3 a (.dK (iZ kvs k v)))
section
variable{X:Cx}{o i value:Expr}{pos pos':Pos}{td ty tv:TE}
def yn(ho:PE X o td)(hi:PE X i ty)(hs:G5 i):PE X (.Subscript o i pos) (Ed td ty):=by
 intro js s Y H Q I h;refine A3 PySem.F.slot_dict_getitem.lookup hs (thn (ho js s Y H _ I h) λu s1 ⟨x,H1,I1,rx,q1⟩=>thn (hi js s1 Y H1 _ I1 q1) λiv s2 zz=>?_);obtain⟨y,H2,I2,ry,a,v,kvs,k,ex,e,ey,l,q2⟩:=zz;subst ex ey;obtain rfl:u=Value.ref a:=rx;obtain⟨z,hd,vs,rel,dd⟩:=(e.ok I2.hok:cO _ _ _ _ a (.dK kvs))
 obtain⟨w',hw,rw'⟩:=lX.some_of (by rw[<- l];exact rel.val k);exact⟨dd.typeIs,wpAny_getItem_of (zd ry) dd.mapOf hw ⟨v,H2,I2.tok _,rw',q2⟩⟩
theorem q9(ho:PE X o td)(hi:PE X i ty)(hv:PE X value tv)(hs:swapsWith value (some (.Subscript o i pos')) pos.line X.env=pure false):PS X (.Assign [.Subscript o i pos'] value pos) (Ew td ty tv):=by
 intro js s Y H D I h;refine wpAny_Assign_Subscript (thn (hv js s Y H _ I h) λr s1 ⟨v,H1,I1,rv,q1⟩=>thn (ho js s1 Y H1 _ I1 q1) λu s2 ⟨x,H2,I2,rx,q2⟩=>thn (hi js s2 Y H2 _ I2 q2) λiv s3 zz=>?_) hs;obtain⟨y,H3,I3,ry,a,kvs,k,ex,e,ey,l,q3⟩:=zz;subst ex ey;obtain rfl:u=Value.ref a:=rx;obtain⟨z,hd,vs,rel,dd⟩:=(I3.hok a _ e:cO _ _ _ _ a (.dK kvs))
 have hl:(iZ kvs k v).length<=sizeLine:=by have:=lO kvs k v;lia
 refine wpAny_setItem_pairs (hsz:=by rw[<- rel.length];exact z) (zd ry) dd λh' dd' hs=>⟨Y,_,?_,q3⟩
 exact I3.write (by rw[e];exact True.intro) (.inl rfl) (λb q hb z=>(hs.2 b hb).trans z) (let⟨q,_,_,hq,_⟩:=dd';⟨q,hq⟩) ⟨hl,hd,_,rel.put k rv,dd'⟩
end
end L2
namespace PR
open PySem PySem.Spec L2
section
section
variable{X:Cx}{T:Tb}{W:Nat->St->LA}{Z:Zn}{F F1 B L:Lp}{H H1:Hp}{Y:St}{env:En}{fp:Nat->Lu}{D:Ends}
theorem oz:∀{ks:Lw}{ms:List ME}{xs:LB}{F:Lp}{H:Hp}{Q:List (V×V)->LA},ks.length=ms.length->aC T Z F H Y env fp->p9 ms env=.ok xs->hasL Fl.LI xs=false ->
  (∀vs H' F',Gr F H F' H'->RelL T F' Z.B (Own fp) H' xs vs []->Q ((dkv ks vs).map λkv=>(kV kv.1,kv.2)) H')->pI (dTr T W ks ms) Y H Q
 | [],[],xs,F,H,Q,_,S,e,_,h=>by cases e;exact h [] H F (Gr.refl S.hp.ft) (fM _ _ _ _)
 |k::ks,m::ms,xs,F,H,Q,hl,S,e,ho,h=>by
  unfold p9 ae at e;cases e1:m env with
  |exc c|stuck=>rw[e1]at e;cases e
  |ok x=>
   rw[e1,Res.LO]at e;cases e2:p9 ms env with
   |exc c|stuck=>rw[e2]at e;cases e
   |ok ys=>rw[e2,Res.LO]at e;cases e;simp only[hasL,or_eq_false_iff]at ho;refine tE.bind S (λc z=>by lia) (λz=>by lia) λpv v H1 F1 f ez g r _ _ _=>?_;rw[e1]at ez;cases ez;obtain rfl:=Rel.LN ho.1 r;refine oz (by simp_all) (S.grow g) e2 ho.2 λvs H2 F2 g2 r2=>?_;exact h (v::vs) H2 F2 (g.trans g2) (by exact⟨v,vs,[],[],rfl,r.ext g2.ext g2.mono,r2,rfl⟩)
def lQ{p:Fl->Bool}:∀xs ys:LB,hasL p (xs++ys)=(hasL p xs||hasL p ys)
 | [],_=>by simp[hasL]
 |x::xs,ys=>by simp[hasL,lQ xs ys,Bool.or_assoc]
def rM:∀{ms:List ME}{xs:LB},p9 ms env=.ok xs->xs.length=ms.length
 | [],xs,e=>by cases e;rfl
 |m::ms,xs,e=>by
  unfold p9 ae at e;cases e1:m env with
  |exc c|stuck=>rw[e1]at e;cases e
  |ok x=>
   rw[e1,Res.LO]at e;cases e2:p9 ms env with
   |exc c|stuck=>rw[e2]at e;cases e
   |ok ys=>rw[e2,Res.LO]at e;cases e;simp[rM e2]
theorem RelL.skip(hF:¬F p)(hB:¬B p)(hL:¬L p)(hp:H p=some o)(hx:¬ii o)(h:RelL T F B L H xs vs []):RelL T F B L (upd H p o') xs vs []:=
 RelL.tr (λ_ h=>h) (λ_ h=>h) (λ_ h=>h) (λa u e z=>by
  rw[aR]
  .exact e
  grind) (λ_ z=>(nomatch z)) h
def u_(k x:Nat)(ms:List ME)(m6 m7:ME):MS:=λenv=>match p9 ms env,m6 env,m7 env,env[x]? with
 |.ok xs,.ok a,.ok b,some none=>if hasL Fl.LI (xs++[a,b])||hasL Fl.LJ (xs++[a,b])then .stuck else .ret (.box k (xs++[a,b]))
 |_,_,_,_=>.stuck
def HI(i:Nat):TS:=λD Y H=>∃p kvs,Y[i]?=some (some (.ref p))/\H p=some (.dK kvs)/\∀o,D.rt (.ref p) (upd H p (.frz o (.dK kvs)))
def BF(hN:X.N[i]?=some x)(hv:Vis X.env.scope x)(hd:Nd x:=by decide)(hcd:Nc x:=by decide):PS X (.Return (some (.Name x pos')) pos) (HI i):=by intro js s Y H D I ⟨p,kvs,e1,e2,h⟩;refine wpAny_Return_some (thn (fg hN hv hd hcd js s Y H (λv H'=>v=.ref p/\H'=H) I ⟨_,e1,rfl,rfl⟩) λu s1 zz=>?_);obtain⟨v,H1,I1,r,ev,eh⟩:=zz;subst ev eh;obtain⟨o,ho⟩:=cO.there (I1.hok p _ e2);exact⟨_,Y,_,I1.write (o:=.frz o (.dK kvs)) (h':=s1.heap) (t':=s1.toks) (by rw[e2];exact True.intro) (.inl rfl) (λ_ _ _ q=>q) ⟨o,ho⟩ (show _/\_ from⟨ho,(I1.hok p _ e2:cO _ _ _ _ _ (.dK kvs))⟩),r,h o⟩
theorem A6{k x:Nat}{nx:Str}{ks:Lw}{ms:List ME}{m6 m7:ME}(hN:X.N.Nodup)(hx:X.N[x]?=some nx)(hl:Loc X.env.scope nx)(hv:Vis X.env.scope nx)(x0:x≠0)(hu:X.A.units+64<cLine)
  (hdk:T.dk k=ks++[k6,k7]) (hbx:∀H a vs o,H a=some (.frz o (.dK (dkv (T.dk k) vs)))->(T.dk k).length=vs.length->T.bx k H a vs) (hnd:(ks++[k6,k7]).Nodup) (hkm:ks.length=ms.length) (hk9:ks.length<=9)
  (hp:PPs X dpos keys vals (dTr T W ks ms)) (h6:SE X T W e6 m6) (h7:SE X T W e7 m7) (hall:keys.all (·.isSome)=true:=by rfl) (hlen:keys.length=vals.length:=by rfl) (h0:keys≠[]:=by exact List.cons_ne_nil _ _) (h15:keys.length<=15:=by decide)
  (hs:swapsWith (.Dict keys vals dpos) (some (.Name nx pa)) pos1.line X.env=pure false:=by rfl) (hs6:swapsWith e6 (some (.Subscript (.Name nx q1) (.Constant (.str k6) j6 q2) q3)) pos2.line X.env=pure false:=by rfl)
  (hs7:swapsWith e7 (some (.Subscript (.Name nx r1) (.Constant (.str k7) j7 r2) r3)) pos3.line X.env=pure false:=by rfl)
  (hf:X.fn nx=true\/X.env.scope.names.lookup nx=some .local:=by first|exact .inl rfl|exact .inr rfl|assumption) (hd:Nd nx:=by decide) (hcd:Nc nx:=by decide) :
  SSs X T W [.Assign [.Name nx pa] (.Dict keys vals dpos) pos1,.Assign [.Subscript (.Name nx q1) (.Constant (.str k6) j6 q2) q3] e6 pos2,.Assign [.Subscript (.Name nx r1) (.Constant (.str k7) j7 r2) r3] e7 pos3,.Return (some (.Name nx p4)) pos4] (u_ k x ms m6 m7):=
 PSs.wk (j9 (x9 hN hx hl (BO hp hall hlen h0 h15) hs hf) (j9 (q9 (fg hx hv hd hcd) (iH) h6 hs6)
  (j9 (q9 (fg hx hv hd hcd) (iH) h7 hs7) (uS (BF (pos':=p4) hx hv hd hcd))))) λD Y H hz1=>by
  obtain⟨Z,F,env,fp,S,q⟩:=hz1;unfold u_ at q;split at q
  case h_2=>exact q.elim
  rename_i xs a b e5 e6' e7' ex
  split at q
  .exact q.elim
  rename_i hno
  simp at hno;obtain⟨no,nl⟩:=hno;have no':hasL Fl.LI xs=false/\a.has Fl.LI=false/\b.has Fl.LI=false:=by rw[show hasL Fl.LI (xs++[a,b])=(hasL Fl.LI xs ||(a.has Fl.LI ||(b.has Fl.LI||false)))from lQ xs [a,b]]at no;simpa using no
  intro p hp0;have nF:¬F p:=λz=>by obtain⟨o,e⟩:=S.hp.ft p z;rw[hp0]at e;cases e
  have nO:∀j,p∉fp j:=λj z=>by obtain⟨_,o,e⟩:=S.dis j p z;rw[hp0]at e;cases e
  have nB:¬Z.B p:=λz=>by obtain⟨⟨o,e⟩,n⟩:=S.hp.bo.1 p z;rw[S.hp.keep p o e n]at hp0;cases hp0
  have hn:Z.H0 p=none\/Z.fp0 p:=S.hp.newE (f:=[p]) (λc hc=>by simp_all) p ();have nL:¬Own fp p:=λ⟨j,hj⟩=>nO j hj;have grow:∀{F1 F2:Lp}{H1 H2:Hp}{o:HO},¬F1 p->H1 p=some o->Gr F1 H1 F2 H2->¬F2 p:=(by grind[cT,aC,cI,Gr])
  have S1:=S.grow (Gr.same S.hp.ft (Ext.upd (o:=.dK []) hp0));refine oz hkm S1 e5 no'.1 λvs H2 F2 g2 r2=>?_;have hlv:ks.length=vs.length:=by rw[<- r2.length,hkm];exact(rM e5).symm
  have e2:=g2.ext p _ bG;have nF2:=grow nF bG g2;have nd5:ks.Nodup:=(nodup_append.mp hnd).1;have nd6:(ks++[k6]).Nodup:=by
   have:ks++[k6,k7]=(ks++[k6])++ [k7]:=by simp
   rw[this]at hnd;exact(nodup_append.mp hnd).1
  refine⟨e2,dkv ks vs,rfl,by rw[qi hlv];lia,?_⟩;rw[ny (by rw[List.nil_append,sr hlv];exact wO nd5),List.nil_append];have S3:=((S1.grow g2).updO (o':=.dK (dkv ks vs)) nO nF2 hn e2 (λz=>z)).blind x0 ex (.ref p);have r3:=r2.skip (o':=.dK (dkv ks vs)) nF2 nB nL e2 (λz=>z);have hxl:x<Y.length:=by rw[S.len];exact(List.getElem?_eq_some_iff.mp ex).1
  have hσ:(Y.set x (some (.ref p)))[x]?=some (some (V.ref p)):=getElem?_set_self hxl;refine tE.bind S3 (λc z=>by lia) (λz=>by lia) λpv v6 H4 F4 f4 ez g4 r4 _ _ _=>?_;rw[e6']at ez;cases ez;obtain rfl:=Rel.LN no'.2.1 r4;have e4:=g4.ext p _ bG;have nF4:=grow nF2 bG g4;refine⟨_,hσ,p,_,.inr k6,rfl,e4,rfl,by rw[qi hlv,sizeLine_eq];lia,?_⟩;rw[vD nd6 hlv];have S5:=(S3.grow g4).updO (o':=.dK (dkv (ks++[k6]) (vs++[v6]))) nO nF4 hn e4 (λz=>z);have r5:=(RelL.append (r3.ext g4.ext g4.mono) (by exact⟨v6,[],[],[],rfl,r4,fM _ _ _ _,rfl⟩:RelL T F4 Z.B (Own fp) H4 [a] [v6] [])).skip (o':=.dK (dkv (ks++[k6]) (vs++[v6]))) nF4 nB nL e4 (λz=>z);refine tE.bind S5 (λc z=>by lia) (λz=>by lia) λpv v7 H6 F6 f6 ez g6 r6 _ _ _=>?_;rw[e7']at ez;cases ez;obtain rfl:=Rel.LN no'.2.2 r6;have e8:=g6.ext p _ bG;have nF6:=grow nF4 bG g6;have hlv6:(ks++[k6]).length=(vs++[v6]).length:=by simp[hlv]
  have nd7:((ks++[k6])++ [k7]).Nodup:=by simpa using hnd
  refine⟨_,hσ,p,_,.inr k7,rfl,e8,rfl,by rw[qi hlv6,sizeLine_eq];simp;lia,?_⟩;rw[vD nd7 hlv6];refine⟨p,_,hσ,bG,λo=>?_⟩;rw[AV];generalize hw:(vs++[v6])++ [v7]=ws;have S7:=(S5.grow g6).updO (o':=.frz o (.dK (dkv ((ks++[k6])++ [k7]) ws))) nO nF6 hn e8 (λz=>z);have r7:=(RelL.append (r5.ext g6.ext g6.mono) (by exact⟨v7,[],[],[],rfl,r6,fM _ _ _ _,rfl⟩:RelL T F6 Z.B (Own fp) H6 [b] [v7] [])).skip (o':=.frz o (.dK (dkv ((ks++[k6])++ [k7]) ws))) nF6 nB nL e8 (λz=>z);refine q F6 _ (.ref p) [] S7.hp ?_ nodup_nil (λ_ z=>(nomatch z)) (λ_ z=>(nomatch z));have eks:T.dk k=(ks++[k6])++ [k7]:=by rw[hdk];simp
  refine⟨p,ws,rfl,hbx _ _ _ o (by rw[eks];exact bG) (by rw[eks,<- hw];simp[hlv]),?_⟩;rw[hw,show(xs++[a])++ [b]=xs++[a,b] by simp]at r7;exact RelL.noL nl r7
def b6(k i:Nat):PV->LC
 | .box j xs=>if j=k then (match xs[i]? with
  |some x=>if x.has Fl.LI then .stuck else .ok x
  |none=>.stuck)else .stuck
 |_=>.stuck
def bE(k i:Nat){key:Str}(hu:X.A.units+64<cLine)(hi:(T.dk k).findIdx? (·==key)=some i)(hbx:∀H a vs,T.bx k H a vs->∃o,H a=some (.frz o (.dK (dkv (T.dk k) vs)))/\(T.dk k).length=vs.length)(he:SE X T W e m)(hs:G5 (.Constant (.str key) j p):=by intro _ _;rfl) :
  SE X T W (.Subscript e (.Constant (.str key) j p) pos) (mUn (b6 k i) m):=
 PE.wk (yn he (iH) hs) λY H Q hz1=>by
  obtain⟨Z,F,env,fp,S,q⟩:=hz1;unfold mUn at q;refine tE.bq S λx v H1 F1 f1 e1 g1 r1 n1 d1 w1=>?_;rw[e1,Res.LO]at q;cases x with
  |box j xs=>
   simp only[b6]at q;split at q
   .rename_i hj
    subst hj;split at q
    .rename_i y ey
     split at q
     .exact q.elim
     .rename_i ho
      obtain⟨a,vs,rfl,hb,hr⟩:=r1;obtain⟨o,ha,hl⟩:=hbx _ _ _ hb;obtain⟨w,f,ew,rw',_⟩:=hr.get ey;obtain rfl:=Rel.LN () rw';exact⟨a,w,_,.inr key,rfl,.inr ⟨o,ha⟩,rfl,vC hi ew,q.scal g1 rw'⟩
    .exact q.elim
   .exact q.elim
  |_=>exact q.elim
end
def kh(i j:Nat)(k:ME):MS:=λenv=>match k env with
 | .ok (.int n)=>(match env[i]?,env[j]? with
  | some (some (.lst .own ys)),some (some (.lst .own xs))=>(match xs[n.toNat]? with
   |some x=>if i≠j/\0<=n/\fk xs=true/\fk ys=true/\xs.length<1000000/\ys.length<1000000 then .next ((env.set j (some (.lst .own (xs.eraseIdx n.toNat)))).set i (some (.lst .own (ys++[x]))))else .stuck
   |none=>.stuck)
  |_,_=>.stuck)
 |_=>.stuck
section
variable{X:Cx}{T:Tb}{W:Nat->St->LA}{Z:Zn}{F F1 B L:Lp}{H H1:Hp}{Y:St}{env:En}{fp:Nat->Lu}{D:Ends}
theorem vT{i j:Nat}(hK:X.K=T.K)(hN:X.N[i]?=some y)(hv:Vis X.env.scope y)(hM:X.N[j]?=some x)(hw:Vis X.env.scope x)(hk:SE X T W k mk)
  (hs:swapsWith (.Call (.Attribute (.Name y py) "append" ay) [.Call (.Attribute (.Name x px) "pop" ax) [k] [] cx] [] cy) none pos.line X.env=pure false:=by rfl) (hst:starEach [k] X.env=[(false,eval k X.env)]:=by rfl)
  (hst2:starEach [.Call (.Attribute (.Name x px) "pop" ax) [k] [] cx] X.env=[(false,eval (.Call (.Attribute (.Name x px) "pop" ax) [k] [] cx) X.env)]:=by rfl)
  (hfew:Fwe X.env cx [k]:=by rfl)
  (hfew2:((backTo cy (starEach [.Call (.Attribute (.Name x px) "pop" ax) [k] [] cx] X.env)).all (λx=>!x.1)&&(backToKw cy (keywordEach [] X.env)).all (λx=>x.1.isSome)&&decide ([Expr.Call (.Attribute (.Name x px) "pop" ax) [k] [] cx].length+([]:List Keyword).length+(if([]:List Keyword).isEmpty then 0 else 1)<30))=true:=by rfl)
  (hline:(ax.endLine==cx.line)=true:=by rfl) (hline2:(ay.endLine==cy.line)=true:=by rfl) (hd:Nd x:=by decide) (hcd:Nc x:=by decide) (hd2:Nd y:=by decide) (hcd2:Nc y:=by decide) :
  SS X T W (.Expr (.Call (.Attribute (.Name y py) "append" ay) [.Call (.Attribute (.Name x px) "pop" ax) [k] [] cx] [] cy) pos) (kh i j mk):=
 PS.wk (l7 (uX PySem.F.plainAttrs_list PySem.F.slot_list_append PySem.F.type_list_append kS (fg hN hv hd2 hcd2)
  (dP (uX PySem.F.plainAttrs_list PySem.F.slot_list_pop PySem.F.type_list_pop yR (fg hM hw hd hcd) (ac hk ah hst) rfl hfew hline hst) gO hst2) rfl hfew2 hline2 hst2) hs) λD Y H hz1=>by
  obtain⟨Z,F,env,fp,S,q⟩:=hz1;unfold kh at q;split at q
  case h_2=>exact q.elim
  rename_i n ek
  split at q
  case h_2=>exact q.elim
  rename_i ys xs ei ej
  split at q
  case h_2=>exact q.elim
  rename_i z ez
  split at q
  case isFalse=>exact q.elim
  rename_i hc
  obtain⟨hij,h0,c1,c2,c3,c4⟩:=hc;obtain⟨a,ws,fpa,h1,hl,hr,hf⟩:=S.lst ei;obtain⟨b,us,fpb,h2,hlb,hrb,hfb⟩:=S.lst ej;refine⟨_,h1,.inl ⟨rfl,ws,by exact SqL.of hl⟩,_,h2,.inl ⟨rfl,us,by exact SqL.of hlb⟩,Z,F,env,fp,S,?_⟩;unfold ae am;rw[ek];intro vs H1 F1 f1 g r n1 d1 w1;obtain⟨u,rfl,ru⟩:=r.one;obtain⟨rfl,rfl⟩:=ru;have S1:=S.grow g;have hlb1:=g.ext b _ hlb;have hlnb:=hrb.length;obtain rfl:=(d0 c1 hrb).1;have hn:n.toNat<xs.length:=(List.getElem?_eq_some_iff.mp ez).1;have hj:n.toNat<us.length:=by lia
  refine⟨b,us,n,n.toNat,us[n.toNat],rfl,rfl,hlb1,by lia,by lia,PySem.StrLaws.seqIndex_nonneg () (),getElem?_eq_getElem hj,?_⟩;have hrb1:=hrb.ext g.ext g.mono;have S2:=S1.mutL (v:=.non) ej h2 hfb (RelL.erase n.toNat hrb1) nodup_nil (λ_ z=>(nomatch z)) hlb1;have ei2:(env.set j (some (.lst .own (xs.eraseIdx n.toNat))))[i]?=some (some (.lst .own ys)):=by rw[getElem?_set_ne (Ne.symm hij)];exact ei
  obtain⟨a',ws',fpa',h1',hl2,hr2,hf2⟩:=S2.lst ei2;rw[h1]at h1';cases h1';obtain⟨w,f,ew,rw',sb⟩:=hrb1.get ez;obtain rfl:=sublist_nil.mp sb;rw[getElem?_eq_getElem hj]at ew;cases ew;have rz:Rel T F1 Z.B NoL (upd H1 b (.lst (us.eraseIdx n.toNat))) z us[n.toNat] []:=by
   have hb:b∈fp j:=by rw[hfb];exact mem_cons_self
   refine Rel.tr (λ_ h=>h) (λ_ h=>h) (λ_ h=>h) (λc o e q=>?_) (λ_ z=>(nomatch z)) rw';rw[aR]
   .exact e
   .rintro rfl;rw[hlb1]at e;cases e;rcases q with q|q|q|q
    .exact(S1.dis j c hb).1 q
    .exact(S1.bOut q).2 j hb
    .exact q
    .exact q
  have hln2:=hr2.length;refine⟨a,ws',us[n.toNat],rfl,rfl,hl2,by rw[<- hln2,sizeLine_eq];lia,?_⟩;obtain rfl:=(d0 c2 hr2).1;exact q F1 _ Y _ (S2.mutL (v:=.non) ei2 h1 hf2 (RelL.append hr2 (by exact⟨_,[],[],[],rfl,rz,fM _ _ _ _,rfl⟩)) nodup_nil (λ_ z=>(nomatch z)) hl2)
end
end
section
open PySem.W (keepIn Frag)
open PySem.W (fnOf)
section
variable{env e e':En}{v:PV}{i:Nat}{r:Out}
@[simp] def Gx:mC v env=.ok v:=rfl
@[simp] def eT:am env=.ok []:=rfl
@[simp] def cZ:ae a m env=(a env).bind λx=>(m env).bind λxs=>.ok (x::xs):=rfl
@[simp] def Dl:mUn f a env=(a env).bind f:=rfl
@[simp] def jD:mOp f a b env=(a env).bind λx=>(b env).bind λy=>f x y:=rfl
@[simp] def fF:aq f m env=(m env).bind f:=rfl
@[simp] def lv:fv m env=(m env).bind λxs=>.ok (.lst .own xs):=rfl
@[simp] def KQ:kW m env=(m env).bind λxs=>.ok (.tup xs):=rfl
@[simp] def vz:nA a env=(a env).bind λb=>.ok (!b):=rfl
@[simp] def se:et a env=(a env).bind p3:=rfl
@[simp] def KW:A1 a c env=(a env).bind (rB c):=rfl
@[simp] def o9:gL env=.ok none:=rfl
@[simp] def Kb:bJ env=.ok true:=rfl
def EV:Option (Option PV)->LC
 |some (some v)=>.ok (v.LM Fl.LD)
 |_=>.stuck
@[simp] def kM(v:PV):EV (some (some v))=.ok (v.LM Fl.LD):=rfl
@[simp] def gU:aa i env=EV env[i]?:=by
 unfold aa;cases env[i]? with
 |none=>rfl
 |some w=>cases w<;>rfl
def pBl:PV->Res Bool
 |.bl b=>.ok b
 |_=>.stuck
@[simp] def Kz(b:Bool):pBl (.bl b)=.ok b:=rfl
@[simp] def qg:aA a env=(a env).bind pBl:=by rfl
def wv(r:LC):PV->LC
 |.bl b=>if b then r else .ok (.bl false)
 |_=>.stuck
@[simp] def JR(r:LC)(b:Bool):wv r (.bl b)=if b then r else .ok (.bl false):=rfl
@[simp] def Kf:lL a b env=(a env).bind (wv (b env)):=by
 unfold lL;congr 1;funext x;cases x with
 |bl b=>cases b<;>rfl
 |_=>rfl
def pOr(r:LC):PV->LC
 |.bl b=>if b then .ok (.bl true)else r
 |_=>.stuck
@[simp] def Ky(r:LC)(b:Bool):pOr r (.bl b)=if b then .ok (.bl true)else r:=rfl
@[simp] def KU:y2 a b env=(a env).bind (pOr (b env)):=by
 unfold y2;congr 1;funext x;cases x with
 |bl b=>cases b<;>rfl
 |_=>rfl
@[simp] def Ae:kX f g a b c env=(a env).bind λx=>(b env).bind λy=>(f x y).bind (wv ((c env).bind λz=>g y z)):=by
 unfold kX;congr 1;funext x;congr 1;funext y;congr 1;funext z;cases z with
 |bl b=>cases b<;>rfl
 |_=>rfl
@[simp] def Jb(g:Int->Int->PV)(i j:Int):f8 g (.int i) (.int j)=.ok (g i j):=rfl
def C3:PV->Res (Lx)
 |.int i=>.ok (some i)
 |_=>.stuck
@[simp] def Hg(i:Int):C3 (.int i)=.ok (some i):=rfl
@[simp] def vy:ib a env=(a env).bind C3:=by rfl
def Im(l h:Lx):PV->LC
 |.lst _ xs=>.ok (.lst .own (jN xs l h))
 |_=>.stuck
@[simp] def Il(l h:Lx)(f:Fl)(xs:LB):Im l h (.lst f xs)=.ok (.lst .own (jN xs l h)):=rfl
@[simp] def sf:gy o lo hi env=(o env).bind λx=>(lo env).bind λl=>(hi env).bind λh=>Im l h x:=by rfl
def aD(v:PV):LC:=if v.has Fl.LK then .stuck else .ok v
@[simp] def Av:aM f xs=(f (mapL Fl.LF xs)).bind aD:=by unfold aM;cases f (mapL Fl.LF xs)<;>rfl
def dQ(disp:Nat->Option (LB->LC))(r:Res (LB)):PV->LC
 |.obj fl c ks vs=>match disp c with
  |some m=>r.bind λxs=>aM m (.obj fl c ks vs::xs)
  |none=>.stuck
 |_=>.stuck
@[simp] def Ik(disp:Nat->Option (LB->LC))(r:Res (LB))(fl:Fl)(c:Nat)(ks:List Nat)(vs:LB):dQ disp r (.obj fl c ks vs)=match disp c with
  |some m=>r.bind λxs=>aM m (.obj fl c ks vs::xs)
  |none=>.stuck:=rfl
@[simp] def um:bY disp o ms env=(o env).bind (dQ disp (ms env)):=by unfold bY;congr 1;funext x;cases x<;>rfl
@[simp] def Kc:gK m env=(m env).bind λx=>match x with
 |.lst f xs=>if !f.LJ&&fk xs then .ok xs else .stuck
 |.tup xs=>if fk xs then .ok xs else .stuck
 |_=>.stuck:=rfl
def yp(x:PV):Res (LB):=match a_ x with
 |some xs=>.ok xs
 |none=>.stuck
@[simp] def Hi(f:Fl)(xs:LB):yp (.lst f xs)=.ok xs:=rfl
@[simp] def Hh(xs:LB):yp (.tup xs)=.ok xs:=rfl
@[simp] def Kd:bK m env=(m env).bind yp:=rfl
@[simp] def Ke:jy a b env=(a env).bind λx=>if x then b env else .ok false:=rfl
@[simp] def KS:jb a b env=(a env).bind λx=>if x then .ok true else b env:=rfl
@[simp] def KY:t8 c a b env=(c env).bind λx=>if x then a env else b env:=rfl
@[simp] def ul:jL c f m env=(m env).bind λxs=>aM f (.obj .own c [] []::xs):=rfl
def af(h1:a env=.next e)(h2:b e=r):aw a b env=r:=by unfold aw;rw[h1];exact h2
def dy(h1:a env=.ret v):aw a b env=.ret v:=by unfold aw;rw[h1]
def gh(h:c env=.ok true)(h2:a env=r):mBr c a b env=r:=by unfold mBr;rw[h];exact h2
def b8(h:c env=.ok false)(h2:b env=r):mBr c a b env=r:=by unfold mBr;rw[h];exact h2
def Dm(h:c env=.ok x):mBr c a b env=if x then a env else b env:=by unfold mBr;rw[h];cases x<;>rfl
def av(h:m env=.ok v)(hl:v.LL=true:=by simp)(ho:aH i env=true:=by rfl):aG i m env=.next (env.set i (some v)):=by unfold aG;rw[h];simp[hl,ho]
def a9(h:m env=.ok v)(hl:v.LL=true:=by simp):bN m env=.ret v:=by unfold bN;rw[h];simp[hl]
def d_(h:env[i]?=some (some v)):dI i env=.ret v:=by unfold dI;rw[h]
def iN(h:m env=.ok v):jc m env=.next env:=by unfold jc;rw[h]
def aE:ba env=.next env:=rfl
def b7(h:m env=.ok v)(ho:env[i]?=some (some (.obj .own c ks vs)))(hl:v.LL=true)(hk:ks.contains k=false)(hn:ks.length<900) :
  ig i k m env=.next (env.set i (some (.obj .own c (ks++[k]) (vs++[v])))):=by
 unfold ig;rw[h,ho];simp only[hl,hk];simp[hn]
def fD(h:m env=.ok v)(ho:env[i]?=some (some (.lst .own xs)))(hl:v.LL=true)(hn:xs.length<10000000):dJ i m env=.next (env.set i (some (.lst .own (xs++[v])))):=by unfold dJ;rw[h,ho];simp[hl,hn]
def fI(h:m env=.ok v)(ho:env[i]?=some (some (.lst .own xs)))(hk:mk env=.ok (.int j))(hj:ixN xs.length j=some n)(hl:v.LL=true) :
  fq i mk m env=.next (env.set i (some (.lst .own (xs.set n v)))):=by
 unfold fq;rw[h,ho,hk];simp[hj,hl]
def dw(h:env[i]?=some (some v)):fQ i env=.next (env.set i (some (v.LM Fl.LG))):=by unfold fQ;rw[h]
def az(h:m (args.map some++replicate (n-args.length) none)=.ret v):bA n m args=.ok v:=by unfold bA;rw[h]
def oM(h:m (args.map some++replicate (n-args.length) none)=.next e):bA n m args=.ok .non:=by unfold bA;rw[h]
def dz(h:m (args.map some++replicate (n-args.length) none)=.next e)(ho:e[0]?=some (some v)):ju n m args=.ok v:=by unfold ju;rw[h];simp[ho]
def kr(P:Nat->En->Prop)(h:it env=.ok xs)(h0:P 0 env)
  (step:∀(k:Nat) (x:PV) (e:En),xs[k]?=some x->P k e->∃e1 e2,g x e=some e1/\(body e1=.next e2\/body e1=.cont e2)/\P (k+1) e2):∃e2,dq it g body env=.next e2/\P xs.length e2:=by
 unfold dq;rw[h];have key:∀ (ys pre:LB) (e:En),pre ++ ys=xs->P pre.length e->∃ e2,oh (λx e=>match g x e with
  |some e'=>body e'
  |none=>.stuck) ys e=.next e2/\P xs.length e2:=by
  intro ys
  induction ys with
  |nil=>intro pre e hp hP;simp at hp;subst hp;exact⟨e,rfl,hP⟩
  |cons y ys ih=>
   intro pre e hp hP;obtain⟨e1,e2,h1,h2,h3⟩:=step pre.length y e (by rw[<- hp];simp) hP;obtain⟨e3,h4,h5⟩:=ih (pre++[y]) e2 (by rw[<- hp];simp) (by simpa using h3);refine⟨e3,?_,h5⟩;unfold oh;simp only[h1];rcases h2 with h2|h2<;>rw[h2]<;>exact h4
 exact key xs [] env rfl h0
def l_(P:Nat->En->Prop)(R:Out->Prop)(h:it env=.ok xs)(h0:P 0 env)
  (step:∀(k:Nat) (x:PV) (e:En),xs[k]?=some x->P k e->∃e1,g x e=some e1/\((∃e2,(body e1=.next e2\/body e1=.cont e2)/\P (k+1) e2)\/(∃e2,body e1=.brk e2/\R (.next e2))\/(∃v,body e1=.ret v/\R (.ret v))\/ ∃c e2,body e1=.exc c e2/\R (.exc c e2)))
  (fin:∀e,P xs.length e->R (.next e)):R (dq it g body env):=by
 unfold dq;rw[h];have key:∀ (ys pre:LB) (e:En),pre ++ ys=xs->P pre.length e->R (oh (λx e=>match g x e with
  |some e'=>body e'
  |none=>.stuck) ys e):=by
  intro ys
  induction ys with
  |nil=>intro pre e hp hP;simp at hp;subst hp;exact fin e hP
  |cons y ys ih=>
   intro pre e hp hP;obtain⟨e1,h1,h2⟩:=step pre.length y e (by rw[<- hp];simp) hP;unfold oh;simp only[h1];rcases h2 with⟨e2,h2,h3⟩ |⟨e2,h2,h3⟩ |⟨v,h2,h3⟩ |⟨c,e2,h2,h3⟩
   .have:=ih (pre++[y]) e2 (by rw[<- hp];simp) (by simpa using h3);rcases h2 with h2|h2<;>rw[h2]<;>exact this
   .rw[h2];exact h3
   .rw[h2];exact h3
   .rw[h2];exact h3
 exact key xs [] env rfl h0
def aF(h:mi env=.ok xs)(hl:xs.length<=10000000)(hc:e9 g mc me (bF caps k env) xs=.ok ys):aL caps k mi g mc me env=.ok (.lst .own ys):=by unfold aL;rw[h];simp only[Res.LO,hl,if_true,hc]
def bv{α:Type}{a:α->PV}{f:α->PV}:∀(xs:List α),(∀x∈xs,∃e1,g (a x).LH env=some e1/\me e1=.ok (f x)/\(f x).has Fl.LK=false/\(f x).has Fl.LJ=false)->
  e9 g bJ me env (xs.map a)=.ok (xs.map f)
 | [],_=>rfl
 |x::xs,h=>by obtain⟨e1,h1,h2,h3,h4⟩:=h x mem_cons_self;rw[map_cons,e9,h1];simp only[Res.LO,h2,h3,h4,bv xs λy hy=>h y (mem_cons_of_mem _ hy)];rfl
def b_{α:Type}{a:α->PV}{f:α->PV}{p:α->Bool}:∀(xs:List α),(∀x∈xs,∃e1,g (a x).LH env=some e1/\mc e1=.ok (p x)/\(p x=true->me e1=.ok (f x)/\(f x).has Fl.LK=false/\(f x).has Fl.LJ=false))->
  e9 g mc me env (xs.map a)=.ok ((xs.filter p).map f)
 | [],_=>rfl
 |x::xs,h=>by
  obtain⟨e1,h1,h2,h3⟩:=h x mem_cons_self;have ih:=b_ xs λy hy=>h y (mem_cons_of_mem _ hy);rw[map_cons,e9,h1];cases hp:p x with
  |true=>obtain⟨h4,h5,h6⟩:=h3 hp;simp only[h2,hp,Res.LO,h4,h5,h6,ih];rw[List.filter_cons_of_pos hp];rfl
  |false=>simp only[h2,hp,Res.LO,Bool.false_eq_true,if_false,ih];rw[List.filter_cons_of_neg (by simp[hp])]
end
noncomputable def iL(ns:Lq):LB:=ns.map .int
def zj(ns:Lq):ns.map PV.int=iL ns:=rfl
section
variable(ns ms:Lq)(g:Fl->Fl)(p:Fl->Bool)
@[simp] def I_:iL []=[]:=rfl
@[simp] def ij(n:Int):iL (n::ns)=.int n::iL ns:=rfl
@[simp] def aX:(iL ns).length=ns.length:=by simp[iL]
@[simp] def Ja:iL ns++iL ms=iL (ns++ms):=by simp[iL]
@[simp] def wN(k:Nat):(iL ns).drop k=iL (ns.drop k):=by simp[iL]
@[simp] def Hw(k:Nat):(iL ns).take k=iL (ns.take k):=by simp[iL]
@[simp] def zh(k:Nat):(iL ns)[k]?=(ns[k]?).map .int:=by simp[iL]
@[simp] def km(k:Nat)(n:Int):(iL ns).set k (.int n)=iL (ns.set k n):=by simp[iL,List.map_set]
@[simp] def oU:mapL g (iL ns)=iL ns:=by
 induction ns with
 |nil=>rfl
 |cons n ns ih=>simp[mapL,PV.LM,ih]
@[simp] def Hx:hasL p (iL ns)=false:=by
 induction ns with
 |nil=>rfl
 |cons n ns ih=>simp[hasL,PV.has,ih]
@[simp] def HA:PyData.canLayAll0 (dataL (iL ns))=true:=by
 induction ns with
 |nil=>rfl
 |cons n ns ih=>simp only[ij,dataL,PV.data,PyData.canLayAll0,ih];rfl
@[simp] def Hz:PyData.depthAll (dataL (iL ns))=0:=by
 induction ns with
 |nil=>rfl
 |cons n ns ih=>simp only[ij,dataL,PV.data,PyData.depthAll,ih];rfl
@[simp] def jW(i:Int):shp (.int i)=true:=rfl
@[simp] def Ku(b:Bool):shp (.bl b)=true:=rfl
@[simp] def JN:shp .non=true:=rfl
@[simp] def qQ(f:Fl):shp (.lst f (iL ns))=true:=by simp[shp,SeqAt.shaped,PV.data,PyData.canLay0,PyData.depth]
@[simp] def oH:(iL ns).all shp=true:=by
 induction ns with
 |nil=>rfl
 |cons n ns ih=>simp only[ij,all_cons,jW,ih];rfl
mutual
def sg:∀d:PyData,d.canLay0=true->PyData.eqv d d=true
 |.none,_=>rfl
 |.bool b,_|.int b,_|.str b,_=>by simp[PyData.eqv]
 |.list xs,h=>by simp only[PyData.canLay0]at h;simp only[PyData.eqv];exact eqvL_self xs h
 |.tuple xs,h=>by simp only[PyData.canLay0]at h;simp only[PyData.eqv];exact eqvL_self xs h
 |.dict xs,h=>by simp[PyData.canLay0]at h
def eqvL_self:∀ds:List PyData,PyData.canLayAll0 ds=true->PyData.eqvAll ds ds=true
 | [],_=>rfl
 |d::ds,h=>by simp only[PyData.canLayAll0,and_eq_true]at h;simp only[PyData.eqvAll,sg d h.1,eqvL_self ds h.2];rfl
end
def B1(h:x.data=y.data)(hs:shp x=true):pNe x y=.ok (.bl false):=by
 have hy:shp y=true:=by unfold shp at hs ⊢;rw[<- h];exact hs
 have hc:=SeqAt.canLay_of_shaped hs;unfold pNe;rw[hs,hy,<- h,sg _ hc];rfl
@[simp] def KZ(i j:Int):pEq (.int i) (.int j)=.ok (.bl (decide (i=j))):=by unfold pEq;simp only[jW,Bool.and_self,if_true,PV.data,PyData.eqv];congr 2
@[simp] def KG(i j:Int):pNe (.int i) (.int j)=.ok (.bl (!decide (i=j))):=by unfold pNe;simp only[jW,Bool.and_self,if_true,PV.data,PyData.eqv];congr 2
@[simp] def Lh(i j:Bool):pEq (.bl i) (.bl j)=.ok (.bl (decide (i=j))):=by cases i<;>cases j<;>rfl
@[simp] def Le(i j:Bool):pNe (.bl i) (.bl j)=.ok (.bl (!decide (i=j))):=by cases i<;>cases j<;>rfl
def o_:PyData.eqvAll (dataL (iL ns)) (dataL (iL ms))=decide (ns=ms):=by
 induction ns generalizing ms with
 |nil=>cases ms<;>simp[dataL,PyData.eqvAll]
 |cons n ns ih=>
  cases ms with
  |nil=>simp[dataL,PyData.eqvAll]
  |cons m ms=>simp only[ij,dataL,PV.data,PyData.eqvAll,PyData.eqv,ih];by_cases h:n=m<;>simp[h]
@[simp] def Kg(f f':Fl):pEq (.lst f (iL ns)) (.lst f' (iL ms))=.ok (.bl (decide (ns=ms))):=by unfold pEq;simp only[qQ,Bool.and_self,if_true,PV.data,PyData.eqv,o_]
@[simp] def JS(f f':Fl):pNe (.lst f (iL ns)) (.lst f' (iL ms))=.ok (.bl (!decide (ns=ms))):=by unfold pNe;simp only[qQ,Bool.and_self,if_true,PV.data,PyData.eqv,o_]
@[simp] def lt_int(i j:Int):pLt (.int i) (.int j)=.ok (.bl (decide (i<j))):=rfl
@[simp] def le_int(i j:Int):pLe (.int i) (.int j)=.ok (.bl (decide (i<=j))):=rfl
@[simp] def gt_int(i j:Int):pGt (.int i) (.int j)=.ok (.bl (decide (j<i))):=rfl
@[simp] def ge_int(i j:Int):pGe (.int i) (.int j)=.ok (.bl (decide (j<=i))):=rfl
@[simp] def Id(i j:Int):aO (.int i) (.int j)=.ok (.int (i+j)):=rfl
@[simp] def sub_int(i j:Int):eM (.int i) (.int j)=.ok (.int (i-j)):=rfl
@[simp] def neg_int(i:Int):yq (.int i)=.ok (.int (-i)):=rfl
def bR(h:0<j):dM (.int i) (.int j)=.ok (.int (i%j)):=by simp[dM,gu,h]
def fB(h:0<j)(h2:j<1073741824):eO (.int i) (.int j)=.ok (.int (i / j)):=by simp[eO,gu,h,h2]
def dF(h:(-(2 ^ 64)<i/\i<2 ^ 64)\/(-(2 ^ 64)<j/\j<2 ^ 64)):cK (.int i) (.int j)=.ok (.int (i*j)):=by unfold cK gu;dsimp only;rw[if_pos (by simpa using h)]
@[simp] def JZ(f:Fl)(xs:LB):dS (.lst f xs)=.ok (.int xs.length):=rfl
@[simp] def JY(xs:LB):dS (.tup xs)=.ok (.int xs.length):=rfl
@[simp] def IW(f:Fl)(xs:LB):da (.lst f xs)=.ok (.lst .own xs):=rfl
@[simp] def KA(f:PV->LC)(x:PV):p1 f [x]=f x:=by simp only[p1]
@[simp] def J3(c:String)(i:Int):rB c (.int i)=.ok (.bl (og "int" c)):=rfl
@[simp] def KK(c:String)(i:Bool):rB c (.bl i)=.ok (.bl (og "bool" c)):=rfl
@[simp] def J1(c:String):rB c .non=.ok (.bl (og "NoneType" c)):=rfl
@[simp] def J2(c:String)(f:Fl)(xs:LB):rB c (.lst f xs)=.ok (.bl (og "list" c)):=rfl
@[simp] def J0(c:String)(xs:LB):rB c (.tup xs)=.ok (.bl (og "tuple" c)):=rfl
@[simp] def HF(b:Bool):p3 (.bl b)=.ok b:=rfl
@[simp] def Hb(i:Int):p3 (.int i)=.ok (i != 0):=rfl
@[simp] def IU(i:Int):(PV.int i).LM g=.int i:=by simp[PV.LM]
@[simp] def JV(b:Bool):(PV.bl b).LM g=.bl b:=by simp[PV.LM]
@[simp] def IT:PV.non.LM g=.non:=by simp[PV.LM]
@[simp] def IR(x:Str):(PV.str x).LM g=.str x:=by simp[PV.LM]
@[simp] def IV(x:Nat):(PV.exc x).LM g=.exc x:=by simp[PV.LM]
@[simp] def yZ(f:Fl)(xs:LB):(PV.lst f xs).LM g=.lst (g f) (mapL g xs):=by simp[PV.LM]
@[simp] def IQ(xs:LB):(PV.tup xs).LM g=.tup (mapL g xs):=by simp[PV.LM]
@[simp] def IS(f:Fl)(c:Nat)(ks:List Nat)(xs:LB):(PV.obj f c ks xs).LM g=.obj (g f) c ks (mapL g xs):=by simp[PV.LM]
@[simp] def IO:mapL g []=[]:=by simp[mapL]
@[simp] def wD(x:PV)(xs:LB):mapL g (x::xs)=x.LM g::mapL g xs:=by simp[mapL]
@[simp] def J_(i:Int):(PV.int i).has p=false:=by simp[PV.has]
@[simp] def KM(b:Bool):(PV.bl b).has p=false:=by simp[PV.has]
@[simp] def J9:PV.non.has p=false:=by simp[PV.has]
@[simp] def J7(x:Str):(PV.str x).has p=false:=by simp[PV.has]
@[simp] def Ka(x:Nat):(PV.exc x).has p=false:=by simp[PV.has]
@[simp] def Cm(f:Fl)(xs:LB):(PV.lst f xs).has p=(p f||hasL p xs):=by simp[PV.has]
@[simp] def J6(xs:LB):(PV.tup xs).has p=hasL p xs:=by simp[PV.has]
@[simp] def J8(f:Fl)(c:Nat)(ks:List Nat)(xs:LB):(PV.obj f c ks xs).has p=(p f||hasL p xs):=by simp[PV.has]
@[simp] def Jg:hasL p []=false:=by simp[hasL]
@[simp] def Hy(x:PV)(xs:LB):hasL p (x::xs)=(x.has p||hasL p xs):=by simp[hasL]
@[simp] def yO(x:PV):x.LL=!x.has Fl.LJ:=rfl
@[simp] def HB(x:PV):x.LH=x.LM Fl.LH:=rfl
@[simp] def y6:Fl.own.LD=.lnt:=rfl
@[simp] def IY:Fl.frz.LD=.frz:=rfl
@[simp] def IZ:Fl.bor.LD=.bor:=rfl
@[simp] def IX:Fl.lnt.LD=.lnt:=rfl
@[simp] def Hc:Fl.own.LF=.own:=rfl
@[simp] def He:Fl.frz.LF=.frz:=rfl
@[simp] def Hf:Fl.bor.LF=.bor:=rfl
@[simp] def Hd:Fl.lnt.LF=.bor:=rfl
@[simp] def Dn:Fl.own.LH=.bor:=rfl
@[simp] def GM:Fl.frz.LH=.frz:=rfl
@[simp] def GN:Fl.bor.LH=.bor:=rfl
@[simp] def GL:Fl.lnt.LH=.bor:=rfl
@[simp] def Hj:Fl.own.LI=true:=rfl
@[simp] def Hl:Fl.frz.LI=false:=rfl
@[simp] def Hm:Fl.bor.LI=false:=rfl
@[simp] def Hk:Fl.lnt.LI=false:=rfl
@[simp] def Hn:Fl.own.LJ=false:=rfl
@[simp] def Hq:Fl.frz.LJ=false:=rfl
@[simp] def Hr:Fl.bor.LJ=false:=rfl
@[simp] def Ho:Fl.lnt.LJ=true:=rfl
@[simp] def Hs:Fl.own.LK=false:=rfl
@[simp] def Hu:Fl.frz.LK=false:=rfl
@[simp] def Hv:Fl.bor.LK=true:=rfl
@[simp] def Ht:Fl.lnt.LK=false:=rfl
@[simp] def F_:Fl.own.LG=.frz:=rfl
@[simp] def Gb:Fl.frz.LG=.frz:=rfl
@[simp] def Gc:Fl.bor.LG=.bor:=rfl
@[simp] def Ga:Fl.lnt.LG=.lnt:=rfl
theorem jd(h0:0<=i)(h:ns[i.toNat]?=some n):aB (.lst f (iL ns)) (.int i)=.ok (.int n):=by have hl:i.toNat<ns.length:=(List.getElem?_eq_some_iff.mp h).1;unfold aB;simp only[a_,atI,ixN,aX,h0,if_true];rw[if_pos ()];simp[h]
end
section
variable{env:En}{r:Out}
def kE(o:Out)(Q:En->Prop):Prop:=∃e,(o=.next e\/o=.cont e)/\Q e
def bP(h1:a env=.next e)(h2:kE (b e) Q):kE (aw a b env) Q:=by obtain⟨e2,h3,h4⟩:=h2;refine⟨e2,?_,h4⟩;unfold aw;rw[h1];exact h3
def bC(h1:o=.next e)(h2:Q e):kE o Q:=⟨e,.inl h1,h2⟩
def im(P:Nat->En->Prop)(h:it env=.ok xs)(h0:P 0 env)
  (step:∀(k:Nat) (x:PV) (e:En),xs[k]?=some x->P k e->∃e1,g x e=some e1/\kE (body e1) (P (k+1))) (fin:∀e,P xs.length e->Q e):kE (dq it g body env) Q:=by
 obtain⟨e2,h1,h2⟩:=kr P h h0 λk x e h1 h2=>by obtain⟨e1,h3,e2,h4,h5⟩:=step k x e h1 h2;exact⟨e1,e2,h3,h4,h5⟩
 exact⟨e2,.inl h1,fin e2 h2⟩
def f9{it:MI}{g:TgM}{body rest:MS}{xs:LB}(P:Nat->En->Prop)(h:it env=.ok xs)(h0:P 0 env)
  (step:∀(k:Nat) (x:PV) (e:En),xs[k]?=some x->P k e->∃e1,g x e=some e1/\kE (body e1) (P (k+1))) (fin:∀e,P xs.length e->rest e=r):aw (dq it g body) rest env=r:=by
 obtain⟨e2,h1,h2⟩:=kr P h h0 λk x e h1 h2=>by obtain⟨e1,h3,e2,h4,h5⟩:=step k x e h1 h2;exact⟨e1,e2,h3,h4,h5⟩
 exact af h1 (fin e2 h2)
theorem ud(h:-1000000<=i/\i<=1000000):inR i=true:=by
 have e:(2:Int) ^ 62=4611686018427387904:=by decide
 unfold inR
 lia
def Bx(hi:inR n=true)(h:ms env=.ok [.int n]):bH ms env=.ok (fe 0 n.toNat):=by unfold bH;rw[h,Res.LO];dsimp only;rw[if_pos hi]
def xO{n:Nat}(hi:inR (n:Int)=true)(h:ms env=.ok [.int n]):bH ms env=.ok (fe 0 n):=by have:=Bx hi h;exact this
theorem FN{n:Nat}(hn:n<=1000000):-1000000 <=(n:Int)/\(n:Int)<= 1000000:=by lia
def bp{n:Nat}(h:ms env=.ok [.int n])(hn:n<=1000000):bH ms env=.ok (fe 0 n):=xO (ud (FN hn)) h
def Bw(hh:(inR lo&&inR hi)=true)(h:ms env=.ok [.int lo,.int hi]):oX ms env=.ok (fe lo (hi-lo).toNat):=by unfold oX;rw[h,Res.LO];dsimp only;rw[if_pos hh]
def Bv(h:ms env=.ok [.int lo,.int hi])(hl:-1000000<=lo/\lo<=1000000)(hh:-1000000<=hi/\hi<=1000000):oX ms env=.ok (fe lo (hi-lo).toNat):=
 Bw (by rw[ud hl,ud hh];rfl) h
def aQ(lo:Int)(n:Nat):(fe lo n).length=n:=by simp[fe]
def dD(h:(fe lo n)[k]?=some x):k<n/\x=.int (lo+k):=by
 have hk:k<n:=by
  have:=(List.getElem?_eq_some_iff.mp h).1
  rwa [aQ]at this
 refine⟨hk,?_⟩;simp[fe,hk]at h;exact h.symm
def ue{ns:Lq}{k:Nat}{x:PV}(h:(iL ns)[k]?=some x):∃n,ns[k]?=some n/\x=.int n:=by simp at h;obtain⟨n,h1,h2⟩:=h;exact⟨n,h1,h2.symm⟩
def cE(h:aH i e=true):tgN i v e=some (e.set i (some v)):=by simp[tgN,h]
end
theorem GH(ns:Lq)(lo hi:Nat){l h:Int}(hl:l=lo)(hh:h=hi):jN (iL ns) (some l) (some h)=iL ((ns.take hi).drop lo):=by
 subst hl hh;unfold jN;rw[HT.sIx_nat,HT.sIx_nat];simp;congr 1;rw[List.drop_take];rcases Nat.le_total lo ns.length with h1|h1
 .rw[Nat.min_eq_left h1];rcases Nat.le_total hi ns.length with h2|h2
  .lia
  .rw[Nat.min_eq_right h2,take_of_length_le (),take_of_length_le (by simp;lia)]
 .simp_all
theorem dY(hf:f≠.mod)(hg:g≠.mod)(h:xs.length+ys.length<=10000000):aO (.lst f xs) (.lst g ys)=.ok (.lst .own (xs++ys)):=by
 unfold aO
 grind
theorem gd(h:k<n):ixN n (k:Int)=some k:=by unfold ixN;rw[if_pos (),if_pos (),toNat_natCast]
def llL(f:Fl)(xss:List (Lq)):LB:=xss.map λxs=>.lst f (iL xs)
section
variable(xss yss:List (Lq))(g:Fl->Fl)(p:Fl->Bool)(f:Fl)
@[simp] def JW:llL f []=[]:=rfl
@[simp] def nD(xs:Lq):llL f (xs::xss)=.lst f (iL xs)::llL f xss:=rfl
@[simp] def qa:(llL f xss).length=xss.length:=by simp[llL]
@[simp] def JX:llL f xss++llL f yss=llL f (xss++yss):=by simp[llL]
@[simp] def IP:mapL g (llL f xss)=llL (g f) xss:=by
 induction xss with
 |nil=>rfl
 |cons n ns ih=>simp[ih]
def eR(h:p f=false):hasL p (llL f xss)=false:=by
 induction xss with
 |nil=>rfl
 |cons n ns ih=>simp[ih,h]
def va{k:Nat}{x:PV}(h:(llL f xss)[k]?=some x):∃xs,xss[k]?=some xs/\x=.lst f (iL xs):=by simp[llL]at h;obtain⟨n,h1,h2⟩:=h;exact⟨n,h1,h2.symm⟩
end
def upto(n:Nat):Lq:=(range n).map λ(k:Nat)=>(k:Int)
@[simp] def HE(n:Nat):(upto n).length=n:=by simp[upto]
@[simp] def ik(ns:Lq):bO (iL ns)=some ns:=by
 induction ns with
 |nil=>rfl
 |cons n ns ih=>simp[bO,ih]
def oZ(h:ns.length<=1000):jo (.lst f (iL ns))=.ok (.int (pb ns)):=by unfold jo;simp only[ik];rw[if_pos (by simpa using h)]
def vF:∀(l acc:Lq),(acc++l).Nodup->l.foldl step_dedup acc=acc++l
 | [],acc,_=>by simp
 |x::l,acc,h=>by
  have h':((acc++[x])++ l).Nodup:=by simpa using h
  rw[foldl_cons];have hx:x∉acc:=λhm=>by rw[nodup_append]at h;exact h.2.2 x hm x mem_cons_self rfl
  have:step_dedup acc x=acc++[x]:=by unfold step_dedup;simpa using hx
  rw[this,vF l _ h'];simp
def CA(ns:Lq):(range ns.length).map (λi=>ns.getD i 0)=ns:=by
 apply List.ext_getElem?;intro i;by_cases h:i<ns.length
 .simp[h]
 .simp[h]
def ss(h:ns.Nodup):pb ns=ns.length:=by unfold pb firstMet;rw[CA,vF ns [] (by simpa using h)];rfl
def vd(i:Int)(ns:Lq):inL (.int i) (iL ns)=ns.contains i:=by
 induction ns with
 |nil=>rfl
 |cons n ns ih=>have e:inL (.int i) (iL (n::ns))=(PyData.eqv (PV.int n).data (PV.int i).data||inL (.int i) (iL ns)):=rfl;rw[e,ih,List.contains_cons];congr 1;exact Bool.beq_comm
@[simp] def Lg(i:Int)(ns:Lq)(f:Fl):pIn (.int i) (.lst f (iL ns))=.ok (.bl (ns.contains i)):=by unfold pIn;simp only[a_,jW,oH,Bool.and_self,if_true,vd]
@[simp] def IL(i:Int)(ns:Lq)(f:Fl):fj (.int i) (.lst f (iL ns))=.ok (.bl (!ns.contains i)):=by unfold fj;simp only[a_,jW,oH,Bool.and_self,if_true,vd]
def Ends(o:Out):Prop:=∃e,o=.next e
section
variable{env e:En}
def g_(h:Ends (m (args.map some++replicate (n-args.length) none))):bA n m args=.ok .non:=by obtain⟨e,h⟩:=h;exact oM h
def jf(h1:a env=.next e)(h2:Ends (b e)):Ends (aw a b env):=by obtain⟨e2,h2⟩:=h2;exact⟨e2,af h1 h2⟩
def wU(h:o=.next e):Ends o:=⟨e,h⟩
def Ah{it:MI}{g:TgM}{body rest:MS}{xs:LB}(P:Nat->En->Prop)(h:it env=.ok xs)(h0:P 0 env)
  (step:∀(k:Nat) (x:PV) (e:En),xs[k]?=some x->P k e->∃e1,g x e=some e1/\kE (body e1) (P (k+1))) (fin:∀e,P xs.length e->Ends (rest e)):Ends (aw (dq it g body) rest env):=by
 obtain⟨e2,h1,h2⟩:=kr P h h0 λk x e h1 h2=>by obtain⟨e1,h3,e2,h4,h5⟩:=step k x e h1 h2;exact⟨e1,e2,h3,h4,h5⟩
 exact jf h1 (fin e2 h2)
end
def fJ(h:m env=.ok (.lst f xs))(hf:f.LJ=false)(h1:hasL Fl.LI xs=false)(h2:hasL Fl.LJ xs=false):gK m env=.ok xs:=by unfold gK;rw[h];simp[hf,fk,h1,h2]
end
end PR
namespace PR
section
variable{n r s k o:Nat}{adj:Nat->Nat->Prop}{far:Lq}
noncomputable def gt(far:Lq)(i:Nat):Int:=far.getD i 0
theorem gD(x:Int)(h:o<far.length)(i:Nat):gt (far.set o x) i=if i=o then x else gt far i:=by
 simp only[gt,getD_eq_getElem?_getD,List.getElem?_set];by_cases e:o=i
 .subst e;simp[h]
 .lia
structure Far(n r:Nat)(adj:Nat->Nat->Prop)(s k:Nat)(d:Nat->Prop)(far:Lq):Prop where
 len:far.length=n
 rt:gt far r=0
 rng:∀i<n,0<=gt far i/\(gt far i<=s+1\/gt far i=n)
 top:∀i<n,gt far i<=n
 up:∀i<n,∀j<n,gt far i<s->adj i j->gt far j<=gt far i+1
 upk:∀i<k,∀j<n,gt far i=s->adj i j->gt far j<=s+1
 upd:∀j<n,d j->gt far j<=s+1
 dn:∀i<n,i≠r->gt far i<n->1<=gt far i/\∃j<n,adj i j/\gt far j=gt far i-1
theorem Far.start(hr:r<n)(h:∀i<n,gt far i=if i=r then 0 else(n:Int))(hl:far.length=n):Far n r adj 0 0 (λ_=>False) far where
 len:=hl
 rt:=by simp_all
 rng:=λi hi=>by rw[h i hi];split<;>lia
 top:=λi hi=>by rw[h i hi];split<;>lia
 up:=λi hi j _ hv _=>by have:=h i hi;split at this<;>lia
 upk:=λi hi=>absurd hi (not_lt_zero _)
 upd:=λ_ _ z=>z.elim
 dn:=λi hi hn hv=>by simp_all
theorem Far.skip(F:Far n r adj s k (λ_=>False) far)(hk:gt far k≠s):Far n r adj s (k+1) (λ_=>False) far where
 len:=F.len
 rt:=F.rt
 rng:=F.rng
 top:=F.top
 up:=F.up
 upk:=λi hi j hj e a=>by
  rcases Nat.lt_or_ge i k with h|h
  .exact F.upk i h j hj e a
  .have:i=k:=by lia
   subst this;exact absurd e hk
 upd:=F.upd
 dn:=F.dn
def Far.close(F:Far n r adj s k d far)(hd:∀j,j<n->adj k j->d j):Far n r adj s (k+1) (λ_=>False) far where
 len:=F.len
 rt:=F.rt
 rng:=F.rng
 top:=F.top
 up:=F.up
 upk:=λi hi j hj e a=>by
  rcases Nat.lt_or_ge i k with h|h
  .exact F.upk i h j hj e a
  .have:i=k:=by lia
   subst this;exact F.upd j hj (hd j hj a)
 upd:=λ_ _ z=>z.elim
 dn:=F.dn
def Far.none(F:Far n r adj s k (λ_=>False) far)(hd:∀j,¬d j):Far n r adj s k d far where
 len:=F.len
 rt:=F.rt
 rng:=F.rng
 top:=F.top
 up:=F.up
 upk:=F.upk
 upd:=λj _ z=>absurd z (hd j)
 dn:=F.dn
theorem Far.relax(F:Far n r adj s k d far)(hk:k<n)(ek:gt far k=s)(ho:o<n)(a:adj o k)(hs:s<n) :
  Far n r adj s k (λj=>d j\/j=o) (far.set o (min (gt far o) (s+1)))/\gt (far.set o (min (gt far o) (s+1))) k=s:=by
 have hol:o<far.length:=by rw[F.len];exact ho
 have g:=gD (min (gt far o) ((s:Int)+1)) hol;by_cases hw:gt far o<=s+1
 .have e:∀i,gt (far.set o (min (gt far o) ((s:Int)+1))) i=gt far i:=λi=>by
   rw[g i];split
   .lia
   .rfl
  refine⟨⟨by rw[length_set];exact F.len,by rw[e];exact F.rt,λi hi=>by rw[e];exact F.rng i hi,λi hi=>by rw[e];exact F.top i hi,λi hi j hj=>by rw[e,e];exact F.up i hi j hj,λi hi j hj=>by rw[e,e];exact F.upk i hi j hj,λj hj z=>?_,λi hi hn=>?_⟩,by rw[e];exact ek⟩
  .rw[e];rcases z with z|z
   .exact F.upd j hj z
   .subst z;exact hw
  .rw[e];intro hv;obtain⟨h1,j,hj,aj,ej⟩:=F.dn i hi hn hv;exact⟨h1,j,hj,aj,by rw[e];exact ej⟩
 .have hn:gt far o=n:=by have:=(F.rng o ho).2;lia
  have hm:min (gt far o) ((s:Int)+1)=s+1:=by lia
  rw[hm]at g ⊢;have ko:k≠o:=λz=>by lia
  have ro:r≠o:=λz=>by have:=F.rt;lia
  have le:∀i,gt (far.set o ((s:Int)+1)) i<=gt far i:=λi=>by
   rw[g i];split
   .lia
   .exact Int.le_refl _
  have ne:∀i,i≠o->gt (far.set o ((s:Int)+1)) i=gt far i:=λi z=>by simp_all
  have eo:gt (far.set o ((s:Int)+1)) o=s+1:=by simp_all
  refine⟨⟨by rw[length_set];exact F.len,by rw[ne r ro];exact F.rt,λi hi=>?_,λi hi=>Int.le_trans (le i) (F.top i hi),λi hi j hj hv aj=>?_,λi hi j hj hv aj=>?_,λj hj z=>?_,λi hi hn' hv=>?_⟩,by rw[ne k ko];exact ek⟩
  .by_cases z:i=o
   .subst z;rw[eo];lia
   .rw[ne i z];exact F.rng i hi
  .have z:i≠o:=λz=>by subst z;rw[eo]at hv;lia
   rw[ne i z]at hv ⊢;exact Int.le_trans (le j) (F.up i hi j hj hv aj)
  .have z:i≠o:=λz=>by subst z;rw[eo]at hv;lia
   rw[ne i z]at hv;exact Int.le_trans (le j) (F.upk i hi j hj hv aj)
  .rcases z with z|z
   .exact Int.le_trans (le j) (F.upd j hj z)
   .lia
  .by_cases z:i=o
   .subst z;exact⟨by lia,k,hk,a,by rw[ne k ko];lia⟩
   .rw[ne i z]at hv ⊢;obtain⟨h1,j,hj,aj,ej⟩:=F.dn i hi hn' hv;refine⟨h1,j,hj,aj,?_⟩;rw[ne j λq=>by lia];exact ej
theorem Far.next(F:Far n r adj s n (λ_=>False) far):Far n r adj (s+1) 0 (λ_=>False) far where
 len:=F.len
 rt:=F.rt
 rng:=λi hi=>by have:=F.rng i hi;lia
 top:=F.top
 up:=λi hi j hj hv a=>by
  by_cases h:gt far i<s
  .exact F.up i hi j hj h a
  .have e:gt far i=s:=by lia
   have:=F.upk i hi j hj e a
   lia
 upk:=λi hi=>absurd hi (not_lt_zero _)
 upd:=λ_ _ z=>z.elim
 dn:=F.dn
structure ow(n r:Nat)(adj:Nat->Nat->Prop)(far:Lq):Prop where
 len:far.length=n
 rt:gt far r=0
 rng:∀i<n,0<=gt far i/\gt far i<=n
 up:∀i<n,∀j<n,adj i j->gt far j<=gt far i+1
 dn:∀i<n,i≠r->gt far i<n->1<=gt far i/\∃j<n,adj i j/\gt far j=gt far i-1
theorem Far.dist(F:Far n r adj n 0 (λ_=>False) far):ow n r adj far where
 len:=F.len
 rt:=F.rt
 rng:=λi hi=>⟨(F.rng i hi).1,F.top i hi⟩
 up:=λi hi j hj a=>by
  by_cases h:gt far i<n
  .exact F.up i hi j hj h a
  .have:=F.top j hj;lia
 dn:=F.dn
theorem oT:∀{l l':Lq},l.Nodup->(∀x∈l,x∈l')->l.length<=l'.length
 | [],_,_,_=>zero_le _
 |x::l,l',nd,sub=>by
  obtain⟨h1,h2⟩:=nodup_cons.mp nd;have hx:=sub x mem_cons_self;have:=oT (l':=l'.erase x) h2 (by grind);rw[List.length_erase_of_mem hx]at this;have:=List.length_pos_of_mem hx;rw[length_cons]
  lia
theorem ow.below(D:ow n r adj far)(hr:r<n):∀(m:Nat),(∃i<n,gt far i=m)->m<n->∀v,v<=m->∃i<n,gt far i=v
 |0,h,_,v,hv=>by simp_all
 |m+1,⟨i,hi,e⟩,hm,v,hv=>by
  rcases Nat.lt_or_ge v (m+1)with h|h
  .have hir:i≠r:=λz=>by subst z;have:=D.rt;lia
   obtain⟨_,j,hj,_,ej⟩:=D.dn i hi hir ();exact D.below hr m ⟨j,hj,by lia⟩ () v ()
  .have:v=m+1:=by lia
   subst this;exact⟨i,hi,e⟩
def cS(h:i<far.length):gt far i∈far:=by simp[gt,h]
theorem ow.all(D:ow n r adj far)(hr:r<n)(conn:∀S:Nat->Prop,S r->(∀i<n,∀j<n,adj i j->S i->S j)->∀i<n,S i):∀i<n,gt far i<n:=by
 refine conn (λi=>gt far i<n) (by rw[D.rt];lia) λi hi j hj a hv=>?_;rcases Int.lt_or_le (gt far j) n with h|h
 .exact h
 exfalso;have h1:=D.up i hi j hj a;have e:gt far i=((n-1:Nat):Int):=by lia
 have all:∀v:Nat,v<n+1->(v:Int)∈ far:=λv hv=>by
  rcases Nat.lt_or_ge v n with h|h
  .obtain⟨x,hx,ex⟩:=D.below hr (n-1) ⟨i,hi,e⟩ () v ();rw[<- ex];exact cS (by rw[D.len];exact hx)
  .have:(v:Int)=gt far j:=by lia
   rw[this];exact cS (by rw[D.len];exact hj)
 have:=oT (l:=(range (n+1)).map λk:Nat=>(k:Int)) (l':=far) (Pairwise.map _ (λa b h z=>h ()) nodup_range) (by grind);rw[length_map,length_range,D.len]at this
 lia
end
end PR
namespace PR
open PySem PySem.Spec L2
def prL(ps:Ln):LB:=ps.map prV
section
variable{ps qs:Ln}{x:Int×Int}{f:Fl}{g:Fl->Fl}{p:Fl->Bool}
@[simp] def JQ:prL []=[]:=rfl
@[simp] def mS:prL (x::ps)=prV x::prL ps:=rfl
@[simp] def j_:(prL ps).length=ps.length:=by simp[prL]
@[simp] def BG:prL ps++prL qs=prL (ps++qs):=by simp[prL]
@[simp] def prL_get(k:Nat):(prL ps)[k]?=(ps[k]?).map prV:=by simp[prL]
@[simp] def JO:PV.LM g (prV x)=prV x:=rfl
@[simp] def JP:(prV x).has p=false:=rfl
@[simp] def IN:mapL g (prL ps)=prL ps:=by
 induction ps with
 |nil=>rfl
 |cons n ns ih=>simp[mapL,ih]
@[simp] def Jf:hasL p (prL ps)=false:=by
 induction ps with
 |nil=>rfl
 |cons n ns ih=>simp[hasL,ih]
@[simp] def tf:shp (prV x)=true:=rfl
@[simp] def qR:(prL ps).all shp=true:=by
 induction ps with
 |nil=>rfl
 |cons n ns ih=>simp only[mS,all_cons,tf,ih];rfl
def Gy(x y:Int×Int):PyData.eqv (prV x).data (prV y).data=decide (x=y):=by obtain⟨a,b⟩:=x;obtain⟨c,d⟩:=y;simp only[prV,PV.data,dataL,PyData.eqv,PyData.eqvAll];by_cases h1:a=c<;>by_cases h2:b=d<;>simp[h1,h2]
theorem zl:inL (prV x) (prL ps)=ps.contains x:=by
 induction ps with
 |nil=>rfl
 |cons n ns ih=>
  have e:inL (prV x) (prL (n::ns))=(PyData.eqv (prV n).data (prV x).data||inL (prV x) (prL ns)):=rfl;rw[e,ih,List.contains_cons,Gy];congr 1;by_cases h:n=x
  .subst h;simp
  .lia
@[simp] def Lf:pIn (prV x) (.lst f (prL ps))=.ok (.bl (ps.contains x)):=by unfold pIn;simp only[a_,tf,qR,Bool.and_self,if_true,zl]
@[simp] def IK:fj (prV x) (.lst f (prL ps))=.ok (.bl (!ps.contains x)):=by unfold fj;simp only[a_,tf,qR,Bool.and_self,if_true,zl]
@[simp] def J5:aB (prV x) (.int 0)=.ok (.int x.1):=rfl
@[simp] def J4:aB (prV x) (.int 1)=.ok (.int x.2):=rfl
def sR(a b:Int):PV.tup [.int a,.int b]=prV (a,b):=rfl
@[simp] def KH:eF fP (prV x)=.ok (.int (min x.1 x.2)):=rfl
@[simp] def KI:eF ef (prV x)=.ok (.int (max x.1 x.2)):=rfl
@[simp] def tQ:i5 (prL ps)=some ps:=by
 induction ps with
 |nil=>rfl
 |cons n ns ih=>have:mZ (prV n)=some n:=rfl;simp[i5,ih,this]
def kH(ns:Lq)(h:ns.length<64):d5 (.lst f (iL ns))=.ok (.lst .own (iL (iU ns))):=by simp[d5,h];rfl
def sX(h:ps.length<64)(hd:ps.Nodup):d5 (.lst f (prL ps))=.ok (.lst .own (prL (bw ps))):=by
 cases ps with
 |nil=>rfl
 |cons n ns=>have e:bO (prL (n::ns))=none:=rfl;simp only[d5,e,tQ,j_];rw[if_pos (decide_eq_true h),if_pos (decide_eq_true hd)];rfl
def j8{α:Type}{n:Nat}{y z:α}{l:List α}:z∈jx n y l↔z=y\/z∈l:=by
 unfold jx;rw[mem_append,mem_cons];constructor
 .rintro(h|h|h)
  .exact .inr (mem_of_mem_take h)
  .exact .inl h
  .exact .inr (List.mem_of_mem_drop h)
 .rintro(h|h)
  .exact .inr (.inl h)
  .rw[<- List.take_append_drop n l]at h;rcases mem_append.mp h with h|h
   .exact .inl h
   .exact .inr (.inr h)
def j5{α:Type}(n:Nat)(y:α)(l:List α):(jx n y l).Perm (y::l):=by refine List.perm_middle.trans ?_;rw[List.take_append_drop]
end
def eA{x:PV}{xs:LB}{k:Nat}{y:PV}(hs:a_ x=some xs)(h:xs[k]?=some y)(ho:y.has Fl.LI=false):aB x (.int k)=.ok y:=by have hl:k<xs.length:=(List.getElem?_eq_some_iff.mp h).1;unfold aB;simp only[hs,atI];rw[gd hl];simp[h,ho]
def nbL(ps:Ln)(at_:Int):Lq:=iU ((ps.filter λx=>decide (x.2=at_)).map (·.1)++(ps.filter λx=>decide (x.1=at_)).map (·.2))
theorem gx{ps:Ln}{a o:Int}:o∈nbL ps a ↔(o,a)∈ ps \/(a,o)∈ ps:=by
 unfold nbL;rw[(d9 _).mem_iff,mem_append];simp only[mem_map,mem_filter,decide_eq_true_eq];constructor
 .lia
 .simp
noncomputable def mm(w:Int×Int):Int×Int:=(min w.1 w.2,max w.1 w.2)
structure G8(n:Nat)(ws:Ln):Prop where
 rg:∀w∈ws,0<=w.1/\w.1<n/\0<=w.2/\w.2<n/\w.1≠w.2
 nd:(ws.map mm).Nodup
 sz:ws.length<64
end PR
namespace PR
theorem C_{w u:Int×Int}(h:mm w=mm u):w=u\/w=(u.2,u.1):=by
 obtain⟨a,b⟩:=w;obtain⟨c,d⟩:=u;simp only[mm]at h ⊢
 lia
theorem u0{w u:Int×Int}(h:mm w=mm u):(w.1=u.1/\w.2=u.2)\/(w.1=u.2/\w.2=u.1):=by
 rcases C_ h with rfl|rfl
 .lia
 .lia
structure Tree(n:Nat)(od:Lq)(k:Nat)(ws:Ln):Prop where
 rg:∀w∈ws,w.1∈od.take k/\w.2∈od.take k/\w.1≠w.2
 nd:(ws.map mm).Nodup
 ln:ws.length+1=k
 cn:∀S:Int->Prop,(∀w∈ws,(S w.1↔S w.2))->∀a∈od.take k,(S a↔S (od.getD 0 0))
theorem Tree.start{n:Nat}{od:Lq}(h:od.length=n)(hn:1<=n):Tree n od 1 [] where
 rg:=λw hw=>by cases hw
 nd:=.nil
 ln:=rfl
 cn:=λS _ a ha=>by
  cases od with
  |nil=>simp at h;lia
  |cons x l=>
   have:a=x:=by simpa using ha
   subst this;simp
theorem Tree.more{n:Nat}{od:Lq}{k j:Nat}{ws:Ln}{w:Int×Int}{p:Nat}(T:Tree n od k ws)(hod:od.Nodup)(hk:k<od.length)(hj:j<k)(hw:w=(od.getD k 0,od.getD j 0)\/ w=(od.getD j 0,od.getD k 0)):Tree n od (k+1) (jx p w ws):=by
 have hjl:j<od.length:=by lia
 have e1:od.getD k 0=od[k]:=by simp[hk]
 have e2:od.getD j 0=od[j]:=by simp[hjl]
 rw[e1,e2]at hw;have tk:od.take (k+1)=od.take k++[od[k]]:=by simp
 have mj:od[j]∈ od.take k:=List.mem_take_iff_getElem.mpr ⟨j,by lia,rfl⟩;have nk:od[k]∉ od.take k:=λz=>by
  obtain⟨i,hi,e⟩:=List.mem_take_iff_getElem.mp z;have:=(getElem_inj hod).mp e
  lia
 have mem:∀u∈jx p w ws,u=w\/u∈ws:=λu hu=>j8.mp hu;refine⟨λu hu=>?_,?_,?_,λS hS a ha=>?_⟩
 .rcases mem u hu with rfl|hu
  .grind
  .obtain⟨h1,h2,h3⟩:=T.rg u hu;rw[tk];exact⟨mem_append_left _ h1,mem_append_left _ h2,h3⟩
 .have:((jx p w ws).map mm).Perm (mm w::ws.map mm):=(j5 p w ws).map mm;refine this.symm.nodup (nodup_cons.mpr ⟨λz=>?_,T.nd⟩);obtain⟨u,hu,e⟩:=mem_map.mp z;obtain⟨h1,h2,_⟩:=T.rg u hu;rcases hw with rfl|rfl
  .rcases u0 e with⟨q1,q2⟩ |⟨q1,q2⟩
   .lia
   .lia
  .rcases u0 e with⟨q1,q2⟩ |⟨q1,q2⟩
   .lia
   .lia
 .rw[(j5 p w ws).length_eq,length_cons,T.ln]
 .have hw':=hS w (j8.mpr (.inl rfl));have cn:=T.cn S λu hu=>hS u (j8.mpr (.inr hu))
  grind
structure gE(n m:Nat)(ws:Ln):Prop where
 rg:∀w∈ws,0<=w.1/\w.1<n/\0<=w.2/\w.2<n/\w.1≠w.2
 nd:(ws.map mm).Nodup
 ln:ws.length<=m
 cn:∀S:Int->Prop,(∀w∈ws,(S w.1↔S w.2))->∀i j:Nat,i<n->j<n->S i->S j
theorem Tree.whole{n:Nat}{od:Lq}{ws:Ln}(T:Tree n od n ws)(hp:od.Perm ((range n).map λk:Nat=>(k:Int))):gE n n ws:=by
 have hl:od.length=n:=by simpa using hp.length_eq
 have ht:od.take n=od:=by rw[<- hl,take_length]
 have hm:∀a,a∈od↔∃k:Nat,k<n/\(k:Int)=a:=λa=>by rw[hp.mem_iff];simp
 refine⟨λw hw=>?_,T.nd,by have:=T.ln;lia,λS hS i j hi hj hs=>?_⟩
 .obtain⟨h1,h2,h3⟩:=T.rg w hw;rw[ht]at h1 h2;obtain⟨a,ha,ea⟩:=(hm _).mp h1;obtain⟨b,hb,eb⟩:=(hm _).mp h2
  lia
 .have cn:=T.cn S hS;rw[ht]at cn;exact(cn j ((hm _).mpr ⟨j,hj,rfl⟩)).mpr ((cn i ((hm _).mpr ⟨i,hi,rfl⟩)).mp hs)
theorem gE.more{n m p:Nat}{ws:Ln}{a b:Int}(h:gE n m ws)(ha:0<=a/\a<n)(hb:0<=b/\b<n)(hne:a≠b)(h1:(a,b)∉ ws)(h2:(b,a)∉ ws):gE n (m+1) (jx p (a,b) ws):=by
 refine⟨λu hu=>?_,?_,?_,λS hS=>h.cn S λu hu=>hS u (j8.mpr (.inr hu))⟩
 .rcases j8.mp hu with rfl|hu
  .lia
  .exact h.rg u hu
 .have:((jx p (a,b) ws).map mm).Perm (mm (a,b)::ws.map mm):=(j5 p (a,b) ws).map mm;refine this.symm.nodup (nodup_cons.mpr ⟨λz=>?_,h.nd⟩);obtain⟨u,hu,e⟩:=mem_map.mp z;rcases C_ e with rfl|rfl
  .exact h1 hu
  .exact h2 hu
 .rw[(j5 p (a,b) ws).length_eq,length_cons];have:=h.ln;lia
def gE.keep{n m:Nat}{ws:Ln}(h:gE n m ws):gE n (m+1) ws:=⟨h.rg,h.nd,Nat.le_succ_of_le h.ln,h.cn⟩
theorem gE.good{n m:Nat}{ws:Ln}(h:gE n m ws)(hm:m<64):G8 n ws:=⟨h.rg,h.nd,by have:=h.ln;lia⟩
open PySem L2 in
def jw(o:Out)(Q:PV->Prop):Prop:=∃v,o=.ret v/\Q v
section
open PySem L2
variable{env e:En}{Q:PV->Prop}
def cw{a b:MS}(h1:a env=.next e)(h2:jw (b e) Q):jw (aw a b env) Q:=by obtain⟨v,h,q⟩:=h2;exact⟨v,af h1 h,q⟩
def xP{c:MT}{a b rest:MS}(hc:c env=.ok true)(h:jw (a env) Q):jw (aw (mBr c a b) rest env) Q:=by obtain⟨v,h1,h2⟩:=h;exact⟨v,dy (gh hc h1),h2⟩
def eE{o:Out}{v:PV}(h:o=.ret v)(q:Q v):jw o Q:=⟨v,h,q⟩
def hZ{it:MI}{g:TgM}{body rest:MS}{xs:LB}(P:Nat->En->Prop)(h:it env=.ok xs)(h0:P 0 env)
  (step:∀(k:Nat) (x:PV) (e:En),xs[k]?=some x->P k e->∃e1,g x e=some e1/\kE (body e1) (P (k+1))) (fin:∀e,P xs.length e->jw (rest e) Q):jw (aw (dq it g body) rest env) Q:=by
 obtain⟨e2,h1,h2⟩:=kr P h h0 λk x e h1 h2=>by obtain⟨e1,h3,e2,h4,h5⟩:=step k x e h1 h2;exact⟨e1,e2,h3,h4,h5⟩
 exact cw h1 (fin e2 h2)
end
end PR
namespace PR
open PySem L2
section
variable{env:En}
def iz(ho:env[0]?=some (some (.obj .own c ks vs)))(ha:ms env=.ok xs)(hl:hasL Fl.LJ xs=false)
  (hm:m (.obj .own c ks vs::mapL Fl.LF xs)=.ok (.obj fl c' ks' vs')) (hb:(PV.obj fl c' ks' vs').has Fl.LK=false):iQ m ms env=.next (env.set 0 (some (.obj fl c' ks' vs'))):=by
 unfold iQ;rw[ho];rw[ha];dsimp only;rw[hl,if_neg (),hm];dsimp only;rw[hb,if_neg ()]
end
def lq(h:c env=.ok true)(h2:kE (a env) Q):kE (mBr c a b env) Q:=by rw[Dm h];exact h2
def lr(h:c env=.ok false)(h2:kE (b env) Q):kE (mBr c a b env) Q:=by rw[Dm h];exact h2
section
variable{env:En}{g:TgM}{me:ME}
def fC(f:Int->Int)(row:Lq)(h:∀x∈row,∃e1,g (.int x) env=some e1/\me e1=.ok (.int (f x))):e9 g bJ me env (iL row)=.ok (iL (row.map f)):=by rw[show iL (row.map f)=row.map λx=>PV.int (f x) by simp[iL]];exact bv row λx hx=>let⟨e1,h1,h2⟩:=h x hx;⟨e1,h1,h2,rfl,rfl⟩
def eG(lo:Int)(f:Nat->Int)(n:Nat)(h:∀k<n,∃e1,g (.int (lo+(k:Int))) env=some e1/\me e1=.ok (.int (f k))):e9 g bJ me env (fe lo n)=.ok (iL ((range n).map f)):=by rw[show iL ((range n).map f)=(range n).map λk=>PV.int (f k) by simp[iL]];exact bv (range n) λk hk=>let⟨e1,h1,h2⟩:=h k (mem_range.mp hk);⟨e1,h1,h2,rfl,rfl⟩
def eC(p:Nat->Bool)(f:Nat->Int)(n:Nat)(h:∀k<n,∃e1,g (.int (0+(k:Int))) env=some e1/\mc e1=.ok (p k)/\(p k=true->me e1=.ok (.int (f k)))):e9 g mc me env (fe 0 n)=.ok (iL (((range n).filter p).map f)):=by rw[show iL (((range n).filter p).map f)=((range n).filter p).map λk=>PV.int (f k) by simp[iL]];exact b_ (range n) λk hk=>let⟨e1,h1,h2,h3⟩:=h k (mem_range.mp hk);⟨e1,h1,h2,λz=>⟨h3 z,rfl,rfl⟩⟩
end
theorem bX(h0:0<=i)(h:i<cs.length):aB (.lst f (iL cs)) (.int i)=.ok (.int (gt cs i.toNat)):=by
 have:i.toNat<cs.length:=by lia
 exact jd _ h0 (by simp[gt,this])
def Ap(xs:LB)(k:Nat)(h:k<=xs.length):jN xs none (some (k:Int))=xs.take k:=by unfold jN;rw[HT.sIx_nat,HT.sIx_none];simp[Nat.min_eq_left h]
def Aq(xs:LB)(k:Nat)(h:k<=xs.length):jN xs (some (k:Int)) none=xs.drop k:=by unfold jN;rw[HT.sIx_nat,HT.sIx_none];rw[Nat.min_eq_left h,take_of_length_le ()]
def dO(p:Int->Bool)(f:Int->Int)(row:Lq)(h:∀x∈row,∃e1,g (.int x) env=some e1/\mc e1=.ok (p x)/\(p x=true->me e1=.ok (.int (f x)))):e9 g mc me env (iL row)=.ok (iL ((row.filter p).map f)):=by rw[show iL ((row.filter p).map f)=(row.filter p).map λx=>PV.int (f x) by simp[iL]];exact b_ row λx hx=>let⟨e1,h1,h2,h3⟩:=h x hx;⟨e1,h1,h2,λz=>⟨h3 z,rfl,rfl⟩⟩
theorem pG{Fin:En->Prop}(P:Nat->En->Prop)(step:∀m e,P m e->(c e=.ok false/\Fin e)\/(c e=.ok true/\∃m' e',m'<m/\(b e=.next e'\/b e=.cont e')/\P m' e')) :
  ∀(k m:Nat) (env:En),m<k->P m env->∃e',whL c b k env=.next e'/\Fin e'
 |0,m,_,h,_=>absurd h (not_lt_zero m)
 |k+1,m,env,h,hP=>by
  unfold whL;rcases step m env hP with⟨h1,h2⟩ |⟨h1,m',e',h2,h3,h4⟩
  .simp_all
  .obtain⟨e2,h5,h6⟩:=pG P step k m' e' () h4;rw[h1];rcases h3 with h3|h3<;>rw[h3]<;>exact⟨e2,h5,h6⟩
section
variable{env:En}{r:Out}
def vV{c:MT}{b rest:MS}{Fin:En->Prop}(P:Nat->En->Prop)(m:Nat)(hm:m<100000)(h0:P m env)(step:∀m e,P m e->(c e=.ok false/\Fin e)\/(c e=.ok true/\∃m' e',m'<m/\(b e=.next e'\/b e=.cont e')/\P m' e'))(fin:∀e,Fin e->rest e=r):aw (kU c b) rest env=r:=by obtain⟨e',h1,h2⟩:=pG P step 100000 m env hm h0;exact af h1 (fin e' h2)
def mQ{Q:PV->Prop}{c:MT}{b rest:MS}{Fin:En->Prop}(P:Nat->En->Prop)(m:Nat)(hm:m<100000)(h0:P m env)(step:∀m e,P m e->(c e=.ok false/\Fin e)\/(c e=.ok true/\∃m' e',m'<m/\(b e=.next e'\/b e=.cont e')/\P m' e'))(fin:∀e,Fin e->jw (rest e) Q):jw (aw (kU c b) rest env) Q:=by obtain⟨e',h1,h2⟩:=pG P step 100000 m env hm h0;exact cw h1 (fin e' h2)
end
def pf(cs:Lq)(k:Nat)(h:k<=cs.length):jN (iL cs) (some (k:Int)) none=iL (cs.drop k):=by rw[Aq _ k (by rw[aX];exact h),wN]
theorem lK:v∈cs.drop k↔∃i,k<=i/\i<cs.length/\gt cs i=v:=by
 constructor
 .intro h;obtain⟨i,hi,e⟩:=getElem_of_mem h;rw[List.length_drop]at hi;exact⟨k+i,by lia,by lia,by rw[<- e];simp[gt,show k+i<cs.length by lia]⟩
 .rintro⟨i,h1,h2,e⟩;rw[List.mem_iff_getElem];refine⟨i-k,by rw[List.length_drop];lia,?_⟩;rw[List.getElem_drop,<- e];simp[gt,h2,show k+(i-k)=i by lia]
def lZ(hl:l.length<=1000)(hb:∀x∈l,-1000000<=x/\x<=1000000):ka (.lst f (iL l))=.ok (.int l.sum):=by
 have:eH l=true:=by simp only[eH,all_eq_true,decide_eq_true_eq];exact hb
 simp[ka,a_,hl,this]
@[simp] def lB(bs:List Bool):fT (bs.map .bl)=some bs:=by
 induction bs with
 |nil=>rfl
 |cons b bs ih=>simp[fT,ih]
end PR
namespace PR
def s0_{α:Type}{a b:α}{l:List α}:(a::l).set 0 b=b::l:=rfl
def s1_{α:Type}{a b:α}{l:List α}{n:Nat}:(a::l).set (n+1) b=a::l.set n b:=rfl
end PR
namespace G
open PySem L2 PR
section
def AE:MS:=
 (aw (mBr (aA (mOp pLt (aa 1) (aq (p1 dS) (ae (aa 0) am))))
  (bN (mOp aB (aa 0) (aa 1)))
  ba)
 (bN (LP 0)))
def d4:=bA 2 AE
def Dx:MS:=
 (aw (aG 3 (fv am))
 (aw (dq (oX (ae (LP 1) (ae (aa 0) am))) (tgN 4)
  (aw (dJ 3 (kW (ae (mOp dM (aa 1) (aa 4)) (ae (aa 4) am))))
 (aG 1 (mOp eO (aa 1) (aa 4)))))
 (aw (dq (bH (ae (aa 0) am)) (tgN 4)
  (dq (bH (ae (aa 4) am)) (tgN 5)
  (aw (mBr ((jy (aA (mOp pEq (mOp dM (aa 2) (LP 3)) (LP 0))) (aA (mOp fj (kW (ae (aa 5) (ae (aa 4) am))) (aa 3)))))
  (dJ 3 (kW (ae (aa 4) (ae (aa 5) am))))
  ba)
 (aG 2 (mOp eO (aa 2) (LP 3))))))
 (dI 3))))
def zK:=bA 6 Dx
def DA:MS:=
 (aw (aG 2 (aq jm (ae (LP 10) am)))
 (aw (aG 3 (fv am))
 (aw (dq (bH (ae (aa 0) am)) (tgN 4)
  (aw (kh 3 2 (mOp dM (aa 1) (aq (p1 dS) (ae (aa 2) am))))
 (aG 1 (mOp eO (aa 1) (mOp eM (LP 10) (aa 4))))))
 (dI 3))))
def zM:=bA 5 DA
def Dv:MS:=
 (aw (aG 1 (aq (aM d4) (ae (aa 0) (ae (LP 0) am))))
 (aw (aG 2 (aq (aM d4) (ae (aa 0) (ae (LP 3) am))))
 (aw (aG 3 (mOp aB (fv (ae (mC (.str "pass")) (ae (mC (.str "paint")) (ae (mC (.str "count")) (ae (mC (.str "far")) (ae (mC (.str "lead")) (ae (mC (.str "grow")) am))))))) (mOp dM (aa 1) (LP 6))))
 (aw (aG 4 (mOp aO (LP 1) (mOp dM (mOp eO (aa 1) (LP 6)) (LP 6))))
 (aw (mBr (aA (mOp pEq (aa 3) (mC (.str "pass"))))
  (aG 4 (mOp aO (aa 4) (LP 1)))
  ba)
 (aw (aG 5 (aq (aM zK) (ae (aa 4) (ae (aq (aM d4) (ae (aa 0) (ae (LP 1) am))) (ae (aq (aM d4) (ae (aa 0) (ae (LP 2) am))) am)))))
 (aw (aG 6 (mOp aO (aa 4) (mOp dM (mOp eO (aa 2) (LP 2)) (LP 7))))
 (aw (mBr (aA (mOp pEq (mOp dM (aa 2) (LP 2)) (LP 1)))
  (aG 6 (mOp aO (aa 4) (mOp dM (mOp eO (aa 2) (LP 2)) (mOp rA (LP 10) (LP 59)))))
  ba)
 (aw (aG 7 (aL [] 1 (bK (gy (aa 5) gL (ib (mOp eM (aa 4) (LP 1))))) (tgN 0) bJ (mOp aB (aa 0) (LP 0))))
 (aw (aG 8 (aq (aM zM) (ae (aa 4) (ae (aa 2) am))))
 (aw (fQ 5) (aw (fQ 7) (aw (fQ 8) (u_ 0 9 [(aa 3),(aa 4),(aa 5),(aa 7),(aa 8)] (mOp dM (aa 2) (aa 4)) (aa 6)))))))))))))))
def zJ:=bA 10 Dv
def AA:MS:=
 (aw (ig 0 0 (aa 1))
 (aw (ig 0 7 (aa 2))
 (ig 0 8 (aa 3))))
def jC:=ju 4 AA
def DV:MS:=
 (aw (mBr ((jb (aA (mOp pLt (aa 1) (LP 2))) (aA (mOp pGt (aa 1) (LP 20)))))
  (bV 2 (ae (mC (.str "the number of machines is out of bounds")) am))
  ba)
 (aw (mBr (aA (mOp pLt (aa 2) (aa 1)))
  (bV 2 (ae (mC (.str "the span is less than the size")) am))
  ba)
 (iQ jC (ae (aa 1) (ae (aa 2) (ae (mC (.bl false)) am))))))
def z_:=ju 3 DV
def Jq:MS:=
 (aw (mBr (aA (mOp pGt (aq (p1 dS) (ae (aa 0) am)) (LP 9)))
  (bV 2 (ae (mC (.str "there are more than nine parents")) am))
  ba)
 (dq (wE (aa 0)) (tgT 2 (b0 (tgN 1) (b0 (tgN 2) gY)))
  (mBr ((jb (aA (mOp pLt (aa 2) (LP 0))) (aA (mOp pGe (aa 2) (aa 1)))))
  (bV 2 (ae (mC (.str "a parent is no machine of a lower number than its kid")) am))
  ba)))
def Gj:=bA 3 Jq
def JF:MS:=
 (iQ jC (ae (aa 1) (ae (aa 2) (ae (mC (.bl false)) am))))
def sd:=ju 3 JF
def Jt:MS:=
 (aw (jc (aq (aM Gj) (ae (aa 1) am)))
 (aw (ig 0 11 (aq (p1 fh) (ae (aa 1) am)))
 (iQ sd (ae (mOp aO (aq (p1 dS) (ae (aa 1) am)) (LP 1)) (ae (mOp aO (aq (p1 dS) (ae (aa 1) am)) (LP 2)) am)))))
def Go:=ju 2 Jt
def DP:MS:=
 (mBr ((jb (aA (mOp pLt (aa 0) (aa 1))) (aA (mOp pGt (aa 0) (LP 10)))))
  (bV 1 (ae (mC (.str "the number of machines is out of bounds")) am))
  ba)
def zU:=bA 2 DP
def DS:MS:=
 (aw (aG 2 (fv am))
 (aw (dq (gK (aa 1)) (tgN 3)
  (aw (aG 4 (kW (ae (aq (p1 (eF fP)) (ae (aa 3) am)) (ae (aq (p1 (eF ef)) (ae (aa 3) am)) am))))
 (aw (mBr ((jb (aA (mOp pLt (mOp aB (aa 4) (LP 0)) (LP 0))) (aA (mOp pGe (mOp aB (aa 4) (LP 1)) (aa 0)))))
  (bV 1 (ae (mC (.str "a way has a number that is no machine")) am))
  ba)
 (aw (mBr (aA (mOp pEq (mOp aB (aa 4) (LP 0)) (mOp aB (aa 4) (LP 1))))
  (bV 1 (ae (mC (.str "a way has twice the same machine")) am))
  ba)
 (aw (mBr (aA (mOp pIn (aa 4) (aa 2)))
  (bV 1 (ae (mC (.str "a way is told twice")) am))
  ba)
 (dJ 2 (aa 4)))))))
 (bN (aq (p1 d5) (ae (aa 2) am)))))
def zY:=bA 5 DS
def DI:MS:=
 (aw (aG 2 (aL [1] 1 (bK (aa 0)) (tgN 1) (aA (mOp pEq (mOp aB (aa 1) (LP 1)) (aa 0))) (mOp aB (aa 1) (LP 0))))
 (aw (aG 3 (aL [1] 1 (bK (aa 0)) (tgN 1) (aA (mOp pEq (mOp aB (aa 1) (LP 0)) (aa 0))) (mOp aB (aa 1) (LP 1))))
 (bN (aq (p1 d5) (ae (mOp aO (aa 2) (aa 3)) am)))))
def vm:=bA 4 DI
def AC:MS:=
 (bN (aq (p1 da) (ae (mOp aB (mUn (au 2) (aa 0)) (aa 1)) am)))
def vk:=bA 2 AC
def b9:Nat->Option (LB->LC)
 |8=>some vk
 |_=>none
def Dw:MS:=
 (aw (aG 2 (aL [0] 1 (bH (ae (mUn (au 0) (aa 0)) am)) (tgN 1) bJ (mUn (au 0) (aa 0))))
 (aw (fq 2 (aa 1) (LP 0))
 (aw (dq (bH (ae (mUn (au 0) (aa 0)) am)) (tgN 3)
  (dq (bH (ae (mUn (au 0) (aa 0)) am)) (tgN 4)
  (mBr (aA (mOp pEq (mOp aB (aa 2) (aa 4)) (aa 3)))
  (dq (gK (bY b9 (aa 0) (ae (aa 4) am))) (tgN 5)
  (fq 2 (aa 5) (aq (dN min) (ae (mOp aB (aa 2) (aa 5)) (ae (mOp aO (aa 3) (LP 1)) am)))))
  ba)))
 (dI 2))))
def vj:=bA 6 Dw
def Du:MS:=
 (aw (jc (aq (aM zU) (ae (aa 1) (ae (LP 1) am))))
 (aw (ig 0 0 (aa 1))
 (aw (ig 0 1 (aq (p1 fh) (ae (aq (aM zY) (ae (aa 1) (ae (aa 2) am))) am)))
 (aw (ig 0 2 (aq (p1 fh) (ae (aL [0] 1 (bH (ae (aa 1) am)) (tgN 1) bJ (aq (p1 fh) (ae (aq (aM vm) (ae (mUn (au 1) (aa 0)) (ae (aa 1) am))) am))) am)))
 (mBr (aA (mOp pEq (aq (p1 (eF ef)) (ae (aq (aM vj) (ae (aa 0) (ae (LP 0) am))) am)) (aa 1)))
  (bV 1 (ae (mC (.str "not every machine can be come to from machine 0")) am))
  ba)))))
def zI:=ju 3 Du
def DO:MS:=
 (mBr ((jb (aA (mOp pLt (aa 0) (LP 1))) (aA (mOp pGt (aa 0) (LP 10)))))
  (bV 2 (ae (mC (.str "the stretch or the number of blocks is out of bounds")) am))
  ba)
def vn:=bA 1 DO
def JE:MS:=
 (aw (mBr (aA (mOp pNe (aq (p1 dS) (ae (aa 1) am)) (mUn (au 0) (aa 0))))
  (bV 2 (ae (mC (.str "there are not as many starts as machines")) am))
  ba)
 (dq (gK (aa 1)) (tgN 3)
  (mBr ((jy (aA (mOp h8 (aa 3) (mC .non))) ((jb (aA (mOp pLt (aa 3) (LP 0))) (aA (mOp pGe (aa 3) (aa 2)))))))
  (bV 2 (ae (mC (.str "a start is out of bounds")) am))
  ba)))
def zZ:=bA 4 JE
def DZ:MS:=
 (aw (jc (aq (aM vn) (ae (aa 3) am)))
 (aw (jc (aq (aM vn) (ae (aa 4) am)))
 (aw (ig 0 3 (mOp cK (aa 3) (aa 4)))
 (aw (jc (aq (aM zZ) (ae (aa 1) (ae (aa 2) (ae (mUn (au 3) (aa 0)) am)))))
 (aw (fQ 1) (aw (ig 0 4 (aa 1))
 (aw (ig 0 5 (aq (p1 fh) (ae (aa 2) am)))
 (aw (ig 0 6 (aa 3))
 (iQ jC (ae (mUn (au 0) (aa 1)) (ae (mOp aO (mUn (au 3) (aa 0)) (LP 1)) (ae (mC (.bl true)) am))))))))))))
def vw:=ju 5 DZ
def DR:MS:=
 (aw (mBr ((jb (aA (mOp pLt (aa 2) (LP 0))) (aA (mOp pGe (aa 2) (mUn (au 0) (aa 1))))))
  (bV 2 (ae (mC (.str "the root is no machine")) am))
  ba)
 (aw (aG 3 (aL [2] 1 (bH (ae (mUn (au 0) (aa 1)) am)) (tgN 1) bJ (t8 (aA (mOp pEq (aa 1) (aa 0))) (LP 0) (mC .non))))
 (aw (fQ 3) (aw (fQ 1) (iQ vw (ae (aa 1) (ae (aa 3) (ae (mUn (au 0) (aa 1)) (ae (LP 1) am)))))))))
def r9:=ju 4 DR
def DY:MS:=
 (aw (fQ 1) (aw (ig 0 9 (jL 5 r9 (ae (aa 1) (ae (aa 2) am))))
 (aw (ig 0 4 (aa 1))
 (aw (ig 0 10 (aa 2))
 (iQ jC (ae (mUn (au 0) (aa 1)) (ae (mOp cK (mOp aO (mUn (au 0) (aa 1)) (LP 1)) (mOp aO (mUn (au 0) (aa 1)) (LP 1))) (ae (mC (.bl true)) am))))))))
def vv:=ju 3 DY
def JD:MS:=
 (aw (mBr (aA (mOp pNe (aq (p1 dS) (ae (aa 1) am)) (mUn (au 0) (aa 0))))
  (bV 2 (ae (mC (.str "there are not as many names as machines")) am))
  ba)
 (aw (mBr (aA (mOp pNe (mUn jo (aa 1)) (aq (p1 dS) (ae (aa 1) am))))
  (bV 2 (ae (mC (.str "two machines have the same name")) am))
  ba)
 (dq (gK (aa 1)) (tgN 2)
  (mBr ((jb (aA (mOp pLt (aa 2) (LP 0))) (aA (mOp pGt (aa 2) (LP 9)))))
  (bV 2 (ae (mC (.str "a name is out of bounds")) am))
  ba))))
def zW:=bA 3 JD
def DW:MS:=
 (aw (fQ 1) (aw (jc (aq (aM zW) (ae (aa 1) (ae (aa 2) am))))
 (aw (aG 3 (aL [1] 1 (bK (aa 2)) (tgN 1) bJ (mOp cK (mOp eM (LP 9) (aa 1)) (mUn (au 0) (aa 0)))))
 (aw (fQ 3) (iQ vw (ae (aa 1) (ae (aa 3) (ae (mUn (au 0) (aa 1)) (ae (LP 10) am)))))))))
def vq:=ju 4 DW
def AD:MS:=
 (aw (aG 2 (mOp eM (mOp eM (mUn (b6 0 1) (aa 1)) (LP 1)) (mUn (b6 0 5) (aa 1))))
 (bN (fv (ae (jL 6 vq (ae (aa 0) (ae (aL [] 1 (bK (mUn (b6 0 4) (aa 1))) (tgN 0) bJ (mOp eM (LP 9) (aa 0))) am))) (ae (jL 5 r9 (ae (aa 0) (ae (aa 2) am))) (ae (jL 7 vv (ae (aa 0) (ae (aa 2) am))) am))))))
def o8:=bA 3 AD
def Jr:MS:=
 (aw (fQ 1) (aw (ig 0 4 (aa 1))
 (iQ sd (ae (mUn (au 0) (aa 1)) (ae (mUn (au 0) (aa 1)) am)))))
def Gk:=ju 2 Jr
def sH:MS:=
 (aw (aG 1 (mUn (b6 0 0) (aa 0)))
 (aw (mBr (aA (mOp pEq (aa 1) (mC (.str "pass"))))
  (bN (jL 9 z_ (ae (mUn (b6 0 1) (aa 0)) (ae (mUn (b6 0 6) (aa 0)) am))))
  ba)
 (aw (mBr (aA (mOp pEq (aa 1) (mC (.str "count"))))
  (bN (jL 3 Go (ae (aq (p1 da) (ae (mUn (b6 0 3) (aa 0)) am)) am)))
  ba)
 (aw (aG 2 (jL 8 zI (ae (mUn (b6 0 1) (aa 0)) (ae (aq (p1 da) (ae (mUn (b6 0 2) (aa 0)) am)) am))))
 (aw (fQ 2) (aw (aG 3 (fv am))
 (aw (mBr (aA (mOp pEq (mOp dM (mOp aB (mUn (b6 0 4) (aa 0)) (LP 0)) (LP 2)) (LP 1)))
  (aG 3 (aq (aM o8) (ae (aa 2) (ae (aa 0) am))))
  ba)
 (aw (aG 4 (fv (ae (jL 2 Gk (ae (aa 2) am)) (ae (jL 5 r9 (ae (aa 2) (ae (mUn (b6 0 5) (aa 0)) am))) am))))
 (aw (fQ 4) (aw (fQ 3) (aw (aG 4 (mOp aO (mOp aO (aa 4) (fv (ae (jL 6 vq (ae (aa 2) (ae (aq (p1 da) (ae (mUn (b6 0 4) (aa 0)) am)) am))) (ae (jL 7 vv (ae (aa 2) (ae (mUn (b6 0 5) (aa 0)) am))) am)))) (aa 3)))
 (aw (fQ 4) (aw (aG 3 (aq (aM o8) (ae (aa 2) (ae (aa 0) am))))
 (aw (fQ 3) (bN (mOp aB (mOp aO (aa 4) (aa 3)) (kg fW (fv (ae (mC (.str "paint")) (ae (mC (.str "far")) (ae (mC (.str "lead")) (ae (mC (.str "grow")) am))))) (aa 1))))))))))))))))))
def rZ:=bA 5 sH
def DG:MS:=
 (aw (aG 2 (aL [1] 1 (bK (mUn (b6 0 2) (aa 0))) (tgN 1) (aA (mOp pEq (mOp aB (aa 1) (LP 0)) (aa 0))) (mOp aB (aa 1) (LP 1))))
 (bN (aq (p1 d5) (ae (mOp aO (aa 2) (aL [1] 1 (bK (mUn (b6 0 2) (aa 0))) (tgN 1) (aA (mOp pEq (mOp aB (aa 1) (LP 1)) (aa 0))) (mOp aB (aa 1) (LP 0)))) am))))
def r8:=bA 3 DG
def Ds:MS:=
 (aw (aG 2 (aL [0] 1 (bH (ae (mUn (b6 0 1) (aa 0)) am)) (tgN 1) bJ (mUn (b6 0 1) (aa 0))))
 (aw (fq 2 (aa 1) (LP 0))
 (aw (dq (bH (ae (mUn (b6 0 1) (aa 0)) am)) (tgN 3)
  (dq (gK (mUn (b6 0 2) (aa 0))) (tgN 4)
  (aw (fq 2 (mOp aB (aa 4) (LP 0)) (aq (dN min) (ae (mOp aB (aa 2) (mOp aB (aa 4) (LP 0))) (ae (mOp aO (mOp aB (aa 2) (mOp aB (aa 4) (LP 1))) (LP 1)) am))))
 (fq 2 (mOp aB (aa 4) (LP 1)) (aq (dN min) (ae (mOp aB (aa 2) (mOp aB (aa 4) (LP 1))) (ae (mOp aO (mOp aB (aa 2) (mOp aB (aa 4) (LP 0))) (LP 1)) am)))))))
 (dI 2))))
def rY:=bA 5 Ds
def DB:MS:=
 (aw (aG 1 (mUn (b6 0 1) (aa 0)))
 (aw (aG 2 (aq (aM rY) (ae (aa 0) (ae (mUn (b6 0 5) (aa 0)) am))))
 (aw (aG 3 (aL [] 1 (bH (ae (aa 1) am)) (tgN 0) bJ (LP 1)))
 (aw (dq (oW (ae (aa 1) (ae (LP 0) (ae (mUn yq (LP 1)) am)))) (tgN 4)
  (dq (bH (ae (aa 1) am)) (tgN 5)
  (mBr (aA (mOp pEq (mOp aB (aa 2) (aa 5)) (aa 4)))
  (aw (aG 6 (aL [2,4] 1 (bK (aq (aM r8) (ae (aa 0) (ae (aa 5) am)))) (tgN 2) (aA (mOp pEq (mOp aB (aa 0) (aa 2)) (mOp eM (aa 1) (LP 1)))) (aa 2)))
 (fq 3 (mOp aB (aa 6) (LP 0)) (mOp aO (mOp aB (aa 3) (mOp aB (aa 6) (LP 0))) (mOp aB (aa 3) (aa 5)))))
  ba)))
 (bN (aL [2,1,3] 1 (bH (ae (aa 1) am)) (tgN 3) bJ (mOp aO (mOp cK (mOp aB (aa 0) (aa 3)) (mOp aO (aa 1) (LP 1))) (mOp aB (aa 2) (aa 3)))))))))
def zN:=bA 7 DB
def sI:MS:=
 (aw (aG 1 (mUn (b6 0 1) (aa 0)))
 (aw (mBr (aA (mOp pEq (mUn (b6 0 0) (aa 0)) (mC (.str "far"))))
  (bN (aq (aM rY) (ae (aa 0) (ae (mUn (b6 0 5) (aa 0)) am))))
  ba)
 (aw (mBr (aA (mOp pEq (mUn (b6 0 0) (aa 0)) (mC (.str "lead"))))
  (aw (aG 2 (aq (p1 (eF ef)) (ae (mUn (b6 0 4) (aa 0)) am)))
 (aw (aG 3 (aq (aM rY) (ae (aa 0) (ae (kg fW (mUn (b6 0 4) (aa 0)) (aa 2)) am))))
 (bN (aL [2,1,3] 1 (bH (ae (aa 1) am)) (tgN 3) bJ (mOp aO (mOp cK (mOp eM (LP 9) (aa 0)) (aa 1)) (mOp aB (aa 2) (aa 3)))))))
  ba)
 (aw (mBr (aA (mOp pEq (mUn (b6 0 0) (aa 0)) (mC (.str "grow"))))
  (bN (aq (aM zN) (ae (aa 0) am)))
  ba)
 (aw (aG 4 (aL [] 1 (bH (ae (aa 1) am)) (tgN 0) bJ (LP 1)))
 (aw (dq (oW (ae (mOp eM (aa 1) (LP 1)) (ae (LP 0) (ae (mUn yq (LP 1)) am)))) (tgN 5)
  (aw (aG 6 (mOp aB (mUn (b6 0 3) (aa 0)) (mOp eM (aa 5) (LP 1))))
 (fq 4 (aa 6) (mOp aO (mOp aB (aa 4) (aa 6)) (mOp aB (aa 4) (aa 5))))))
 (dI 4)))))))
def jB:=bA 7 sI
def GY:MS:=
 (aw (aG 2 (mUn (b6 0 1) (aa 0)))
 (aw (aG 3 (aq (aM d4) (ae (aa 1) (ae (LP 3) am))))
 (aw (mBr (aA (mOp pEq (mUn (b6 0 0) (aa 0)) (mC (.str "pass"))))
  (aw (aG 4 (mOp dM (mOp eO (aa 3) (LP 3)) (aa 2)))
 (aw (aG 5 (mOp dM (mOp eO (aa 3) (LP 7)) (mUn (b6 0 6) (aa 0))))
 (aw (aG 6 (mOp dM (mOp aO (mOp aO (aa 5) (LP 1)) (mOp dM (mOp eO (aa 3) (LP 49)) (mOp eM (mUn (b6 0 6) (aa 0)) (LP 1)))) (mUn (b6 0 6) (aa 0))))
 (bN (mOp aO (aL [5] 1 (bH (ae (aa 4) am)) (tgN 1) bJ (aa 0)) (aL [6] 1 (bH (ae (mOp eM (aa 2) (aa 4)) am)) (tgN 1) bJ (aa 0)))))))
  ba)
 (aw (mBr (aA (mOp pEq (mUn (b6 0 0) (aa 0)) (mC (.str "paint"))))
  (aw (aG 7 (fv am))
 (aw (dq (bH (ae (aa 2) am)) (tgN 4)
  (aw (aG 8 (aL [4,7] 1 (bK (aq (aM r8) (ae (aa 0) (ae (aa 4) am)))) (tgN 2) (aA (mOp pLt (aa 2) (aa 0))) (mOp aB (aa 1) (aa 2))))
 (dJ 7 (aq (p1 (eF fP)) (ae (aL [8] 1 (bH (ae (aa 2) am)) (tgN 1) (aA (mOp fj (aa 1) (aa 0))) (aa 1)) am)))))
 (dI 7)))
  ba)
 (bN (aq (aM jB) (ae (aa 0) am)))))))
def zD:=bA 9 GY
def DH:MS:=
 (aw (aG 2 (mOp dM (mOp cK (aq (aM d4) (ae (aa 0) (ae (LP 4) am))) (LP 48271)) (LP 2147483647)))
 (aw (aG 3 (fv am))
 (aw (dq (bH (ae (mOp aO (LP 1) (mOp dM (aa 2) (LP 3))) am)) (tgN 4)
  (aw (aG 5 (mOp dM (mOp eO (aa 2) (LP 3)) (aa 1)))
 (aw (mBr ((jb (aA (mOp pEq (aa 4) (LP 0))) (aA (mOp pEq (mOp dM (aa 2) (LP 2)) (LP 0)))))
  (aG 5 (mOp dM (aq (aM d4) (ae (aa 0) (ae (mOp aO (LP 5) (aa 4)) am))) (aa 1)))
  ba)
 (dJ 3 (kW (ae (aa 5) (ae (mOp eM (mOp dM (mOp eO (aq (aM d4) (ae (aa 0) (ae (mOp aO (LP 5) (aa 4)) am))) (LP 7)) (mOp cK (LP 2) (mOp rA (LP 10) (LP 59)))) (mOp rA (LP 10) (LP 59))) am)))))))
 (dI 3))))
def zQ:=bA 6 DH
def DD:MS:=
 (aw (mBr (et (aa 2))
  (bN (aL [1] 1 (bK (gy (aa 0) (ib (LP 4)) (ib (LP 204)))) (tgN 1) bJ (fv (ae (mOp dM (mOp eO (aa 1) (LP 5)) (aa 0)) am))))
  ba)
 (bN (aL [1] 1 (bK (gy (aa 0) (ib (LP 4)) (ib (LP 204)))) (tgN 1) bJ (aL [1] 1 (bH (ae (aa 0) am)) (tgN 1) (aA (mOp pEq (mOp yt (mOp EU (aa 0) (aa 1)) (LP 1)) (LP 1))) (aa 1)))))
def zP:=bA 3 DD
def JA:MS:=
 (bN (aL [1] 1 (bK (bY b9 (mUn (au 4) (aa 0)) (ae (aa 1) am))) (tgN 1) (aA (mOp pLt (aa 1) (aa 0))) (aa 1)))
def Gu:=bA 2 JA
def JB:MS:=
 (bN (aL [1] 2 (Cb (mUn (au 11) (aa 0))) (tgT 2 (b0 (tgN 1) (b0 (tgN 2) gY))) (aA (mOp pEq (aa 2) (aa 0))) (aa 1)))
def Gv:=bA 2 JB
def bu:Nat->Option (LB->LC)
 |2=>some Gu
 |3=>some Gv
 |_=>none
def AJ:MS:=
 (aw (aG 3 (aL [1] 1 (bK (bY bu (aa 0) (ae (aa 2) am))) (tgN 1) bJ (mOp aB (aa 0) (aa 1))))
 (aw (aG 4 (LP 0))
 (aw (kU (aA (mOp pIn (aa 4) (aa 3)))
  (aG 4 (mOp aO (aa 4) (LP 1))))
 (dI 4))))
def z8:=bA 5 AJ
def AI:MS:=
 (bN (aq (dN min) (ae (mUn (au 0) (aa 0)) (ae (mOp aO (LP 1) (aq (p1 ka) (ae (aL [1] 1 (bK (bY bu (aa 0) (ae (aa 2) am))) (tgN 1) bJ (mOp aB (aa 0) (aa 1))) am))) am))))
def z5:=bA 3 AI
def GZ:MS:=
 (bN ((lL (mOp pNe (aa 1) (mUn (au 3) (aa 0))) (mOp pNe (mOp dM (mOp aO (aa 1) (LP 1)) (mUn (au 6) (aa 0))) (LP 0)))))
def zR:=bA 2 GZ
def eV:Nat->Option (LB->LC)
 |5|6=>some zR
 |_=>none
def AH:MS:=
 (aw (aG 3 (aL [1] 1 (bK (bY b9 (mUn (au 4) (aa 0)) (ae (aa 2) am))) (tgN 1) bJ (mOp aB (aa 0) (aa 1))))
 (aw (aG 4 (aL [0] 1 (bK (aa 3)) (tgN 1) (et (bY eV (aa 0) (ae (aa 1) am))) (mOp aO (aa 1) (LP 1))))
 (aw (mBr (aA (mOp h8 (mOp aB (mUn (au 5) (aa 0)) (aa 2)) (mC .non)))
  (dJ 4 (mOp aB (mUn (au 5) (aa 0)) (aa 2)))
  ba)
 (bN (aq (p1 (eF fP)) (ae (mOp aO (aa 4) (fv (ae (mUn (au 3) (aa 0)) am))) am))))))
def r_:=bA 5 AH
def D0:MS:=
 (bN (aL [0] 1 (bK (aa 1)) (tgN 1) bJ (kW (ae (mOp eO (aa 1) (mOp aO (mUn (au 0) (aa 0)) (LP 1))) (ae (mOp dM (aa 1) (mOp aO (mUn (au 0) (aa 0)) (LP 1))) am)))))
def Ab:=bA 2 D0
def fR:Nat->Option (LB->LC)
 |7=>some Ab
 |_=>none
def DU:MS:=
 (bN (aL [] 1 (bK (bY fR (aa 0) (ae (aa 1) am))) (tgN 0) bJ (mOp aB (aa 0) (LP 0))))
def z7:=bA 2 DU
def eB:Nat->Option (LB->LC)
 |7=>some z7
 |_=>none
def ly:Nat->Option (LB->LC)
 |5=>some r_
 |_=>none
def Ju:MS:=
 (bN (aL [] 1 (bK (bY fR (aa 0) (ae (aa 1) am))) (tgN 0) bJ (mOp aB (aa 0) (LP 1))))
def Gp:=bA 2 Ju
def dC:Nat->Option (LB->LC)
 |7=>some Gp
 |_=>none
def GX:MS:=
 (aw (mBr (aA (mOp pEq (aa 2) (mUn (au 10) (aa 0))))
  (bN (mC .non))
  ba)
 (aw (aG 3 (aL [1,2] 1 (bK (bY b9 (mUn (au 4) (aa 0)) (ae (aa 2) am))) (tgN 2) (aA (mOp pEq (mOp aB (aa 0) (aa 2)) (mOp eM (mOp aB (aa 0) (aa 1)) (LP 1)))) (aa 2)))
 (bN (mUn oQ (aa 3)))))
def Gh:=bA 4 GX
def jh:Nat->Option (LB->LC)
 |7=>some Gh
 |_=>none
def Jv:MS:=
 (aw (aG 2 (bY eB (aa 0) (ae (aa 1) am)))
 (bN (aL [0,2] 1 (bH (ae (mUn (au 0) (aa 0)) am)) (tgN 2) bJ (bY jh (aa 0) (ae (aa 1) (ae (aa 2) am))))))
def Gq:=bA 3 Jv
def iM:Nat->Option (LB->LC)
 |7=>some Gq
 |_=>none
def JC:MS:=
 (aw (aG 3 (aL [2] 2 (kf (ae (bY dC (aa 0) (ae (aa 1) am)) (ae (bY iM (aa 0) (ae (aa 1) am)) am))) (tgT 2 (b0 (tgN 1) (b0 (tgN 2) gY))) (aA (mOp pEq (aa 2) (aa 0))) (aa 1)))
 (bN (aq (dN min) (ae (mUn (au 0) (aa 0)) (ae (mOp aO (LP 1) (aq (p1 ka) (ae (aa 3) am))) am)))))
def Gw:=bA 4 JC
def dE:Nat->Option (LB->LC)
 |7=>some Gw
 |_=>none
def DQ:MS:=
 (aw (aG 3 (bY eB (aa 0) (ae (aa 1) am)))
 (aw (aG 4 (bY ly (mUn (au 9) (aa 0)) (ae (aa 3) (ae (aa 2) am))))
 (aw (aG 5 (mOp aB (bY dC (aa 0) (ae (aa 1) am)) (aa 2)))
 (aw (mBr (aA (mOp pEq (aa 4) (mOp aB (aa 3) (aa 2))))
  (aG 5 (bY dE (aa 0) (ae (aa 1) (ae (aa 2) am))))
  ba)
 (bN (mOp aO (mOp cK (aa 4) (mOp aO (mUn (au 0) (aa 0)) (LP 1))) (aa 5)))))))
def zX:=bA 6 DQ
def AF:MS:=
 (aw (mBr (aA (mOp pNe (aa 2) (LP 0)))
  (bN (mOp aB (aa 1) (mOp eM (aa 2) (LP 1))))
  ba)
 (aw (mBr (aA (mOp pEq (mOp aB (aa 1) (LP 0)) (mOp aB (aa 1) (mOp eM (mUn (au 0) (aa 0)) (LP 1)))))
  (bN (mOp dM (mOp aO (mOp aB (aa 1) (LP 0)) (LP 1)) (mUn (au 7) (aa 0))))
  ba)
 (bN (mOp aB (aa 1) (LP 0)))))
def zV:=bA 3 AF
def aV:Nat->Option (LB->LC)
 |2=>some z8
 |3=>some z5
 |5|6=>some r_
 |7=>some zX
 |9=>some zV
 |_=>none
def DK:MS:=
 (bN (aL [0,1] 1 (bH (ae (mUn (au 0) (aa 0)) am)) (tgN 2) (aA (mOp pNe (bY aV (aa 0) (ae (aa 1) (ae (aa 2) am))) (mOp aB (aa 1) (aa 2)))) (aa 2)))
def kz:=bA 2 DK
def bf:Nat->Option (LB->LC)
 |2|3|5|6|7|9=>some kz
 |_=>none
def AB:MS:=
 (bN (mOp pEq (aq (p1 dS) (ae (bY bf (aa 0) (ae (aa 1) am)) am)) (LP 0)))
def lT:=bA 2 AB
def AG:MS:=
 (bN (mOp pEq (aq (p1 dS) (ae (bY bf (aa 0) (ae (aa 1) am)) am)) (LP 1)))
def vp:=bA 2 AG
def bh:Nat->Option (LB->LC)
 |2|3|5|6|7=>some lT
 |9=>some vp
 |_=>none
def Dp:MS:=
 (aw (aG 2 (aq (p1 da) (ae (aa 0) am)))
 (aw (fQ 1) (aw (dq (gK (aa 1)) (tgT 2 (b0 (tgN 3) (b0 (tgN 4) gY)))
  (aw (mBr ((jb (aA (mOp pLt (aa 3) (LP 0))) (aA (mOp pGe (aa 3) (aq (p1 dS) (ae (aa 2) am))))))
  (bV 3 (ae (mC (.str "a fault is at a machine that is none")) am))
  ba)
 (fq 2 (aa 3) (aa 4))))
 (dI 2))))
def vi:=bA 5 Dp
def DC:MS:=
 (aw (mBr (aA (mOp pNe (aq (p1 dS) (ae (aa 1) am)) (mUn (au 0) (aa 0))))
  (bV 3 (ae (mC (.str "there are not as many registers as machines")) am))
  ba)
 (bN (aL [0] 1 (bK (aa 1)) (tgN 1) bJ (mOp dM (aa 1) (mUn (au 7) (aa 0))))))
def ku:=bA 2 DC
def bU:Nat->Option (LB->LC)
 |2|3|5|6|7|9=>some ku
 |_=>none
def Dq:MS:=
 (aw (aG 2 (LP 1))
 (aw (dq (bH (ae (aa 1) am)) (tgN 3)
  (aG 2 (mOp cK (aa 2) (aa 0))))
 (dI 2)))
def lR:=bA 4 Dq
def DX:MS:=
 (bN (mOp eM (aq (aM lR) (ae (LP 2) (ae (mUn (au 0) (aa 0)) am))) (LP 1)))
def vt:=bA 1 DX
def K0:MS:=
 (bN (mOp eM (aq (aM lR) (ae (mOp aO (mUn (au 0) (aa 0)) (LP 1)) (ae (mOp cK (LP 2) (mUn (au 3) (aa 0))) am))) (LP 1)))
def zB:=bA 1 K0
def jM:Nat->Option (LB->LC)
 |5=>some zB
 |_=>none
def JG:MS:=
 (bN (mOp eM (mOp cK (mOp aO (bY jM (mUn (au 9) (aa 0)) am) (LP 1)) (aq (aM lR) (ae (LP 2) (ae (mUn (au 0) (aa 0)) am)))) (LP 1)))
def Aa:=bA 1 JG
def DT:MS:=
 (bN (mOp eO (mOp cK (mOp cK (LP 3) (mUn (au 0) (aa 0))) (mOp eM (mUn (au 0) (aa 0)) (LP 1))) (LP 2)))
def z6:=bA 1 DT
def aI:Nat->Option (LB->LC)
 |2|3=>some vt
 |5|6=>some zB
 |7=>some Aa
 |9=>some z6
 |_=>none
def Dy:MS:=
 (bN (bY aI (aa 0) am))
def lS:=bA 2 Dy
def AK:MS:=
 (bN (aq (dN min) (ae (bY aI (aa 0) am) (ae (mOp aO (mOp cK (mOp aO (aa 1) (LP 2)) (mUn (au 0) (aa 0))) (mOp cK (mOp aO (mOp cK (LP 2) (aa 1)) (LP 1)) (mOp eM (mUn (au 0) (aa 0)) (LP 1)))) am))))
def z9:=bA 2 AK
def aW:Nat->Option (LB->LC)
 |2|3|5|6|7=>some lS
 |9=>some z9
 |_=>none
def Jp:MS:=
 (bN (mOp eM (mOp eM (mUn (au 0) (aa 0)) (LP 1)) (aa 1)))
def Gi:=bA 2 Jp
def K1:MS:=
 (dI 1)
def Gn:=bA 2 K1
def eU:Nat->Option (LB->LC)
 |2=>some Gi
 |3=>some Gn
 |_=>none
def Jw:MS:=
 (bN (aq (p1 ka) (ae (aL [0] 1 (bK (bY bf (aa 0) (ae (aa 1) am))) (tgN 1) bJ (aq (aM lR) (ae (LP 2) (ae (bY eU (aa 0) (ae (aa 1) am)) am)))) am)))
def Cq:=bA 2 Jw
def Jz:MS:=
 (aw (aG 2 (aL [0,1] 1 (bH (ae (mUn (au 0) (aa 0)) am)) (tgN 2) bJ (bY aV (aa 0) (ae (aa 1) (ae (aa 2) am)))))
 (aw (aG 3 (mOp aO (mUn (au 0) (aa 0)) (LP 1)))
 (aw (aG 4 (LP 0))
 (aw (dq (bH (ae (mUn (au 3) (aa 0)) am)) (tgN 5)
  (aw (aG 6 (aL [5] 2 (kf (ae (aa 1) (ae (aa 2) am))) (tgT 2 (b0 (tgN 1) (b0 (tgN 2) gY))) ((jy (aA (mOp pEq (aa 1) (aa 0))) (aA (mOp pGt (aa 2) (aa 0))))) (aa 1)))
 (aw (aG 7 (aL [5] 2 (kf (ae (aa 1) (ae (aa 2) am))) (tgT 2 (b0 (tgN 1) (b0 (tgN 2) gY))) ((jy (aA (mOp pGt (aa 1) (aa 0))) (aA (mOp pEq (aa 2) (aa 0))))) (aa 1)))
 (aG 4 (mOp aO (mOp cK (mOp aO (mOp cK (aa 4) (aa 3)) (aq (p1 dS) (ae (aa 6) am))) (aa 3)) (aq (p1 dS) (ae (aa 7) am)))))))
 (dI 4)))))
def wT:=bA 8 Jz
def DM:MS:=
 (aw (aG 2 (aL [0,1] 1 (bH (ae (aq (p1 dS) (ae (aa 0) am)) am)) (tgN 2) (aA (mOp yr (kW (ae (mOp aB (aa 0) (aa 2)) (ae (aa 2) am))) (kW (ae (mOp aB (aa 0) (aa 1)) (ae (aa 1) am))))) (aa 2)))
 (bN (aq (p1 dS) (ae (aa 2) am))))
def zS:=bA 3 DM
def gW:Nat->Option (LB->LC)
 |5=>some wT
 |_=>none
def Jy:MS:=
 (aw (aG 2 (bY eB (aa 0) (ae (aa 1) am)))
 (aw (aG 3 (bY dC (aa 0) (ae (aa 1) am)))
 (aw (aG 4 (aL [3,0,1] 1 (bH (ae (mUn (au 0) (aa 0)) am)) (tgN 3) (aA (mOp pNe (mOp aB (aa 0) (aa 3)) (bY dE (aa 1) (ae (aa 2) (ae (aa 3) am))))) (aa 3)))
 (aw (aG 5 (aL [2] 1 (bK (aa 4)) (tgN 1) bJ (aq (aM lR) (ae (LP 2) (ae (aq (aM zS) (ae (aa 0) (ae (aa 1) am))) am)))))
 (bN (mOp aO (mOp cK (bY gW (mUn (au 9) (aa 0)) (ae (aa 2) am)) (aq (aM lR) (ae (LP 2) (ae (mUn (au 0) (aa 0)) am)))) (aq (p1 ka) (ae (aa 5) am))))))))
def Gs:=bA 6 Jy
def Dz:MS:=
 (aw (aG 1 (LP 1))
 (aw (kU ((jy (aA (mOp pLt (aa 1) (aq (p1 dS) (ae (aa 0) am)))) (aA (mOp pEq (mOp aB (aa 0) (aa 1)) (mOp aB (aa 0) (LP 0))))))
  (aG 1 (mOp aO (aa 1) (LP 1))))
 (dI 1)))
def zL:=bA 2 Dz
def Js:MS:=
 (aw (mBr (aA (mOp fj (mOp aB (aa 0) (LP 0)) (gy (aa 0) (ib (aq (aM zL) (ae (aa 0) am))) gL)))
  (bN (LP 0))
  ba)
 (aw (aG 2 (LP 1))
 (aw (kU (aA (mOp pIn (mOp dM (mOp aO (mOp aB (aa 0) (LP 0)) (aa 2)) (aa 1)) (gy (aa 0) (ib (LP 1)) gL)))
  (aG 2 (mOp aO (aa 2) (LP 1))))
 (dI 2))))
def Gm:=bA 3 Js
def Jx:MS:=
 (aw (aG 2 (aL [0] 1 (bK (bY bf (aa 0) (ae (aa 1) am))) (tgN 1) (aA (mOp pNe (aa 1) (LP 0))) (mOp eM (mUn (au 0) (aa 0)) (aa 1))))
 (bN (mOp aO (mOp cK (mUn (au 0) (aa 0)) (aq (aM Gm) (ae (aa 1) (ae (mUn (au 7) (aa 0)) am)))) (aq (p1 ka) (ae (aa 2) am)))))
def zE:=bA 3 Jx
def aN:Nat->Option (LB->LC)
 |2|3=>some Cq
 |5|6=>some wT
 |7=>some Gs
 |9=>some zE
 |_=>none
def DN:MS:=
 (aw (mBr ((jy (et (mUn (au 8) (aa 0))) (aA (mOp pGt (aq (p1 dS) (ae (aa 1) am)) (LP 1)))))
  (bV 4 (ae (mC (.str "a rule that is alone gets one machine at a turn")) am))
  ba)
 (aw (dq (gK (aa 1)) (tgN 2)
  (mBr ((jb (aA (mOp pLt (aa 2) (LP 0))) (aA (mOp pGe (aa 2) (mUn (au 0) (aa 0))))))
  (bV 4 (ae (mC (.str "a name is no machine")) am))
  ba))
 (mBr (aA (mOp pNe (mUn jo (aa 1)) (aq (p1 dS) (ae (aa 1) am))))
  (bV 4 (ae (mC (.str "a machine is named twice")) am))
  ba)))
def zT:=bA 3 DN
def DJ:MS:=
 (aw (jc (aq (aM zT) (ae (aa 0) (ae (aa 2) am))))
 (bN (aL [2,0,1] 1 (bH (ae (mUn (au 0) (aa 0)) am)) (tgN 3) bJ (t8 (aA (mOp pIn (aa 3) (aa 0))) (bY aV (aa 1) (ae (aa 2) (ae (aa 3) am))) (mOp aB (aa 2) (aa 3))))))
def ky:=bA 3 DJ
def cC:Nat->Option (LB->LC)
 |2|3|5|6|7|9=>some ky
 |_=>none
def Dr:MS:=
 (aw (aG 3 (bY cC (aa 0) (ae (aa 1) (ae (aa 2) am))))
 (aw (aG 4 (aL [2] 1 (bK (bY bf (aa 0) (ae (aa 1) am))) (tgN 1) (aA (mOp pIn (aa 1) (aa 0))) (aa 1)))
 (p8 4 3)))
def zG:=bA 5 Dr
def D1:MS:=
 (aw (aG 3 (bY bU (aa 0) (ae (aa 1) am)))
 (aw (aG 4 (fv am))
 (aw (fQ 2) (aw (dq (gK (aa 2)) (tgN 5)
  (aw (dJ 4 (mFz (aq (aM zG) (ae (aa 0) (ae (aa 3) (ae (aa 5) am))))))
 (aG 3 (mOp aB (mOp aB (aa 4) (mUn yq (LP 1))) (LP 1)))))
 (dI 4)))))
def vx:=bA 6 D1
def Dt:MS:=
 (aw (aG 3 (mOp aO (fv (ae (bY bU (aa 0) (ae (aa 1) am)) am)) (aL [] 1 (bK (aa 2)) (tgN 0) bJ (mOp aB (aa 0) (LP 1)))))
 (aw (fQ 3) (aw (dq (rK (aa 3)) (tgT 2 (b0 (tgN 4) (b0 (tgN 5) gY)))
  (mBr (et (bY bh (aa 0) (ae (aa 5) am)))
  (dI 4)
  ba))
 (bN (mC .non)))))
def zH:=bA 6 Dt
def Do:MS:=
 (aw (aG 4 (aq (aM vi) (ae (aa 1) (ae (aa 2) am))))
 (aw (aG 5 (aq (aM vx) (ae (aa 0) (ae (aa 4) (ae (aa 3) am)))))
 (aw (fQ 5) (aw (aG 6 (aq (aM zH) (ae (aa 0) (ae (aa 4) (ae (aa 5) am)))))
 (aw (aG 7 (t8 (aA (mOp gP (aa 6) (mC .non))) (aa 5) (gy (aa 5) gL (ib (aa 6)))))
 (aw (aG 8 (aL [7] 1 (bH (ae (mUn (au 0) (aa 0)) am)) (tgN 1) (et (aq (p1 (kb lC)) (ae (aL [1] 1 (bK (aa 0)) (tgN 1) bJ (mOp pIn (aa 0) (mOp aB (aa 1) (LP 0)))) am))) (aa 1)))
 (p8 8 6)))))))
def zF:=bA 9 Do
def JH:MS:=
 (bN (aq (p1 (kb lC)) (ae (aL [2] 1 (bK (bY bu (aa 0) (ae (aa 1) am))) (tgN 1) bJ (mOp aB (aa 0) (aa 1))) am)))
def Ac:=bA 3 JH
def bZ:Nat->Option (LB->LC)
 |2|3=>some Ac
 |_=>none
def Jo:MS:=
 (aw (aG 2 (aL [1] 1 (bH (ae (mUn (au 0) (aa 0)) am)) (tgN 1) bJ (mOp pIn (aa 1) (aa 0))))
 (aw (dq (bH (ae (mUn (au 0) (aa 0)) am)) (tgN 3)
  (aG 2 (aL [2,0] 1 (bH (ae (mUn (au 0) (aa 0)) am)) (tgN 2) bJ ((y2 (mOp aB (aa 0) (aa 2)) (bY bZ (aa 1) (ae (aa 2) (ae (aa 0) am))))))))
 (bN (aL [2] 1 (bH (ae (mUn (au 0) (aa 0)) am)) (tgN 1) (et (mOp aB (aa 0) (aa 1))) (aa 1)))))
def zA:=bA 4 Jo
def DE:MS:=
 (bN (aq jm (ae (mUn (au 0) (aa 0)) am)))
def nS:=bA 2 DE
def aK:Nat->Option (LB->LC)
 |2|3=>some zA
 |5|6|7|9=>some nS
 |_=>none
def AL:MS:=
 (aw (aG 1 (aq (aM zJ) (ae (aa 0) am)))
 (aw (aG 2 (mUn (b6 0 1) (aa 1)))
 (aw (aG 3 (aq (aM rZ) (ae (aa 1) am)))
 (aw (aG 4 (aq (aM zD) (ae (aa 1) (ae (aa 0) am))))
 (aw (aG 5 (aq (aM zQ) (ae (aa 0) (ae (aa 2) am))))
 (aw (aG 6 (aq (aM zP) (ae (aa 0) (ae (aa 2) (ae (mOp pIn (mUn (b6 0 0) (aa 1)) (fv (ae (mC (.str "far")) (ae (mC (.str "lead")) (ae (mC (.str "grow")) am))))) am)))))
 (aw (mBr (nA (et (bY bh (aa 3) (ae (aq (p1 da) (ae (aa 4) am)) am))))
  (bN (mC (.bl false)))
  ba)
 (aw (aG 7 (aq (aM vi) (ae (aq (p1 da) (ae (aa 4) am)) (ae (aq (p1 da) (ae (aa 5) am)) am))))
 (aw (aG 8 (bY bU (aa 3) (ae (aq (p1 da) (ae (aa 7) am)) am)))
 (aw (aG 9 (bY aW (aa 3) (ae (aq (p1 dS) (ae (aa 5) am)) am)))
 (aw (mBr (nA (aA (kX (f8 λi j=>.bl (decide (i <= j))) (f8 λi j=>.bl (decide (i <= j))) (bY aN (aa 3) (ae (aq (p1 da) (ae (aa 8) am)) am)) (aa 9) (bY aI (aa 3) am))))
  (bN (mC (.bl false)))
  ba)
 (aw (aG 10 (fv (ae (aq (p1 da) (ae (aa 4) am)) (ae (aq (p1 da) (ae (aa 5) am)) (ae (aL [] 1 (bK (aa 6)) (tgN 0) bJ (aq (p1 da) (ae (aa 0) am))) am)))))
 (aw (aG 11 (aq (aM zF) (ae (aa 3) (ae (mOp aB (aa 10) (LP 0)) (ae (mOp aB (aa 10) (LP 1)) (ae (mOp aB (aa 10) (LP 2)) am))))))
 (aw (mBr ((jb (aA (mOp pNe (aa 10) (fv (ae (aa 4) (ae (aa 5) (ae (aa 6) am)))))) (jb (nA (et (A1 (aa 11) "tuple"))) (aA (mOp pNe (aq (p1 dS) (ae (aa 11) am)) (LP 2))))))
  (bN (mC (.bl false)))
  ba)
 (aw (aG 12 (fv am))
 (aw (aG 13 (mC .non))
 (aw (aG 14 (aq (aM vx) (ae (aa 3) (ae (aq (p1 da) (ae (aa 7) am)) (ae (aL [] 1 (bK (aa 6)) (tgN 0) bJ (aq (p1 da) (ae (aa 0) am))) am)))))
 (aw (fQ 14) (aw (dq (bH (ae (mOp aO (aq (p1 dS) (ae (aa 14) am)) (LP 1)) am)) (tgN 15)
  (aw (mBr ((jy (aA (mOp gP (aa 13) (mC .non))) (et (bY bh (aa 3) (ae (aq (p1 da) (ae (aa 8) am)) am)))))
  (aG 13 (aa 15))
  ba)
 (mBr (aA (mOp pLt (aa 15) (aq (p1 dS) (ae (aa 14) am))))
  (aw (mBr (aA (mOp gP (aa 13) (mC .non)))
  (aG 12 (mOp aO (aa 12) (aL [12] 1 (bK (mOp aB (mOp aB (aa 14) (aa 15)) (LP 0))) (tgN 1) (aA (mOp fj (aa 1) (aa 0))) (aa 1))))
  ba)
 (aG 8 (mOp aB (mOp aB (aa 14) (aa 15)) (LP 1))))
  ba)))
 (aw (aG 16 (bY aK (aa 3) (ae (aL [] 1 (bK (aa 5)) (tgN 0) bJ (mOp aB (aa 0) (LP 0))) am)))
 (aw (mBr (nA (et (aq (p1 (kb qA)) (ae (aL [16] 1 (bK (aa 12)) (tgN 1) bJ (mOp pIn (aa 1) (aa 0))) am))))
  (bN (mC (.bl false)))
  ba)
 (aw (mBr (aA (mOp gP (aa 13) (mC .non)))
  (bN ((lL (mOp pEq (mOp aB (aa 11) (LP 0)) (aq (p1 d5) (ae (aa 12) am))) (mOp gP (mOp aB (aa 11) (LP 1)) (mC .non)))))
  ba)
 (bN ((lL (mOp pEq (mOp aB (aa 11) (LP 0)) (aq (p1 d5) (ae (aa 12) am))) (lL (mOp h8 (mOp aB (aa 11) (LP 1)) (mC .non)) (mOp pEq (mOp aB (aa 11) (LP 1)) (aa 13))))))))))))))))))))))))))))
def Dk:=bA 17 AL
end
section
noncomputable def top(i:Nat):Stmt:=PySem.Challenge.pw_calmring_k52_whole_faults_are_mended.main.body.getD i (.Pass ⟨0,0,0,0⟩)
def tF(q:Str)(i k:Nat)(N:Lw):FS:=⟨q,top i,k,N,none⟩
def tM(c:Nat)(q:Str)(i j k:Nat)(N:Lw):FS:=⟨q,Cj (top i) j,k,N,some c⟩
def mE(c:Nat)(n:Str)(i:Nat):Nat×Str×Nat:=(c,n,i)
noncomputable def pt:PT:={
 F:=[tF "_law_cell_at" 54 2 ["_law_script", "_law_k"],
  tF "_law_ways" 55 3 ["_law_size","_law_ties","_law_more","_law_ways_here","_law_at","_law_other"],
  tF "_law_names" 56 2 ["_law_size","_law_cell","_law_pool","_law_names_here","_law_k"],
  tF "_law_told" 57 1 ["_law_script","_law_first","_law_third","_law_kind","_law_size","_law_ways_here","_law_span","_law_parents","_law_names_here","_law_told_here"],
  tM 0 "Rule.__init__" 24 0 4 ["self","size","span","alone"],
  tM 9 "PassRule.__init__" 29 0 3 ["self","size","span"],
  tF "refuse_parents" 39 1 ["parents","kid","parent"],
  tM 1 "DownRule.__init__" 36 0 3 ["self","size","span"],
  tM 3 "CountRule.__init__" 38 0 2 ["self","parents"],
  tF "refuse_size" 20 2 ["size","least"],
  tF "ordered_pairs" 21 2 ["size","ways","pairs","way","pair"],
  tF "neighbours" 22 2 ["pairs","at","lower","higher"],
  tM 8 "Net.beside" 18 1 2 ["self","at"],
  tF "far_from" 19 2 ["net","root","far","steps","at","other"],
  tM 8 "Net.__init__" 18 0 3 ["self","size","ways"],
  tF "refuse_part" 47 1 ["part"],
  tF "refuse_starts" 48 3 ["net","starts","top","start"],
  tM 4 "LeastRule.__init__" 44 0 5 ["self","net","starts","stretch","blocks"],
  tM 5 "FarRule.__init__" 45 0 3 ["self","net","root","starts"],
  tM 7 "GrowRule.__init__" 51 0 3 ["self","net","root"],
  tF "refuse_names" 49 2 ["net","names","name"],
  tM 6 "LeadRule.__init__" 46 0 3 ["self","net","names","starts"],
  tF "_law_others" 58 2 ["_law_net","_law_told_here","_law_other"],
  tM 2 "PaintRule.__init__" 37 0 2 ["self","net"],
  tF "_law_rule" 59 1 ["_law_told_here","_law_kind","_law_net","_law_others_here","_law_rules"],
  tF "_law_beside" 60 2 ["_law_told_here","_law_at","_law_row"],
  tF "_law_far" 61 2 ["_law_told_here","_law_root","_law_far_here","_law_turn","_law_way"],
  tF "_law_grown" 62 1 ["_law_told_here","_law_size","_law_far_here","_law_counts","_law_depth","_law_at","_law_elders"],
  tF "_law_rest" 63 1 ["_law_told_here","_law_size","_law_best","_law_far_here","_law_counts","_law_at","_law_elder"],
  tF "_law_calm_cells" 64 2 ["_law_told_here","_law_script","_law_size","_law_cell","_law_at","_law_one","_law_other","_law_cells","_law_taken"],
  tF "_law_faults" 65 2 ["_law_script","_law_size","_law_cell","_law_faults_here","_law_k","_law_at"],
  tF "_law_turns" 66 3 ["_law_script","_law_size","_law_alone"],
  tM 2 "PaintRule.hangs_on" 37 1 2 ["self","at"],
  tM 3 "CountRule.hangs_on" 38 1 2 ["self","at"],
  tM 2 "PaintRule.due" 37 3 3 ["self","cells","at","taken","colour"],
  tM 3 "CountRule.due" 38 3 3 ["self","cells","at"],
  tM 4 "LeastRule.has_offer" 44 2 2 ["self","cell"],
  tM 4 "LeastRule.due" 44 1 3 ["self","cells","at","near","offers"],
  tM 7 "GrowRule.parts" 51 1 2 ["self","cells"],
  tM 7 "GrowRule.fars" 51 6 2 ["self","cells"],
  tM 7 "GrowRule.counts" 51 7 2 ["self","cells"],
  tM 7 "GrowRule.elder" 51 8 3 ["self","fars","at","nearer"],
  tM 7 "GrowRule.elders" 51 2 2 ["self","cells","fars"],
  tM 7 "GrowRule.due_count" 51 9 3 ["self","cells","at","kids"],
  tM 7 "GrowRule.due" 51 3 3 ["self","cells","at","fars","due_far","count"],
  tM 9 "PassRule.due" 29 1 3 ["self","cells","at"],
  tM 0 "Rule.movers" 24 3 2 ["self","cells"],
  tM 0 "Rule.calm" 24 4 2 ["self","cells"],
  tM 9 "PassRule.calm" 29 2 2 ["self","cells"],
  tF "spoil" 13 2 ["registers","faults","spoiled","at","number"],
  tM 0 "Rule.read" 24 1 2 ["self","registers"],
  tF "power" 33 2 ["base","exponent","product","step"],
  tM 1 "DownRule.most" 36 4 1 ["self"],
  tM 4 "LeastRule.most" 44 4 1 ["self"],
  tM 7 "GrowRule.most" 51 5 1 ["self"],
  tM 9 "PassRule.most" 29 4 1 ["self"],
  tM 0 "Rule.soon" 24 8 2 ["self","count"],
  tM 9 "PassRule.soon" 29 5 2 ["self","count"],
  tM 2 "PaintRule.rank" 37 2 2 ["self","at"],
  tM 3 "CountRule.rank" 38 2 2 ["self","at"],
  tM 1 "DownRule.measure" 36 3 2 ["self","cells"],
  tM 4 "LeastRule.measure" 44 3 2 ["self","cells","dues","base","number","mark","rising","falling"],
  tF "rank_by_far" 52 2 ["fars","at","lower"],
  tM 7 "GrowRule.measure" 51 4 2 ["self","cells","fars","counts","wrong","weights"],
  tF "beginning" 31 1 ["cells","length"],
  tF "steps_to_fresh" 30 2 ["cells","span","steps"],
  tM 9 "PassRule.measure" 29 3 2 ["self","cells","weights"],
  tF "refuse_turn" 25 2 ["rule","named","at"],
  tM 0 "Rule.turned" 24 5 3 ["self","cells","named"],
  tF "row_of" 11 3 ["rule","cells","named","behind","done"],
  tF "run" 9 3 ["rule","registers","turns","cells","rows","named"],
  tF "calm_at" 10 3 ["rule","registers","rows","states","count","cells"],
  tF "mend" 14 4 ["rule","cells","faults","turns","spoiled","rows","behind","wild","touched"],
  tM 1 "DownRule.hangs_on_some" 36 6 3 ["self","at","reached"],
  tM 1 "DownRule.reach" 36 5 2 ["self","spoiled","reached","step"],
  tM 0 "Rule.reach" 24 9 2 ["self","spoiled"],
  tF "law" 67 1 ["_law_script","_law_told_here","_law_size","_law_rule_here","_law_calm","_law_faults_here","_law_turns_here","_law_spoiled","_law_cells","_law_soon","_law_handed","_law_found","_law_touched","_law_place","_law_rows","_law_k","_law_reach"]]
 C:=["Rule","DownRule","PaintRule","CountRule","LeastRule","FarRule","LeadRule","GrowRule","Net","PassRule"]
 X:=["CalmError","BadNet","BadRule","BadState","BadTurn","NoMeasure"]
 A:=["size","pairs","near","top","net","starts","stretch","span","alone","far_rule","root","parents"]
 M:=[mE 8 "beside" 12,mE 2 "hangs_on" 32,mE 3 "hangs_on" 33,mE 5 "has_offer" 36,mE 6 "has_offer" 36,mE 7 "parts" 38,mE 7 "fars" 39,mE 5 "due" 37,mE 7 "counts" 40,mE 7 "elder" 41,mE 7 "elders" 42,mE 7 "due_count" 43,mE 2 "due" 34,mE 3 "due" 35,mE 6 "due" 37,mE 7 "due" 44,mE 9 "due" 45,mE 2 "movers" 46,mE 3 "movers" 46,mE 5 "movers" 46,mE 6 "movers" 46,mE 7 "movers" 46,mE 9 "movers" 46,mE 2 "calm" 47,mE 3 "calm" 47,mE 5 "calm" 47,mE 6 "calm" 47,mE 7 "calm" 47,mE 9 "calm" 48,mE 2 "read" 50,mE 3 "read" 50,mE 5 "read" 50,mE 6 "read" 50,mE 7 "read" 50,mE 9 "read" 50,mE 5 "most" 53,mE 2 "most" 52,mE 3 "most" 52,mE 6 "most" 53,mE 7 "most" 54,mE 9 "most" 55,mE 2 "soon" 56,mE 3 "soon" 56,mE 5 "soon" 56,mE 6 "soon" 56,mE 7 "soon" 56,mE 9 "soon" 57,mE 2 "rank" 58,mE 3 "rank" 59,mE 5 "measure" 61,mE 2 "measure" 60,mE 3 "measure" 60,mE 6 "measure" 61,mE 7 "measure" 63,mE 9 "measure" 66,mE 2 "turned" 68,mE 3 "turned" 68,mE 5 "turned" 68,mE 6 "turned" 68,mE 7 "turned" 68,mE 9 "turned" 68,mE 2 "hangs_on_some" 73,mE 3 "hangs_on_some" 73,mE 2 "reach" 74,mE 3 "reach" 74,mE 5 "reach" 75,mE 6 "reach" 75,mE 7 "reach" 75,mE 9 "reach" 75]
 Mk:=[(3,8),(5,18),(7,19),(6,21),(8,14),(2,23),(9,5)]
 U:=[(1,7),(4,17),(0,4)]
 B:=["len","range","list","enumerate","tuple","max","min","sorted","set","sum","zip","any","isinstance","all"]
 I:=[("LEAST_RING",2),("GREATEST_RING",20),("MOST_PARENTS",9),("GREATEST_NET",10),("LEAST_NET",1),("GREATEST_PART",10),("GREATEST_NAME",9),("LEAD_BLOCKS",10)]
 KT:=[]
 HT:=[]
 D:=[["kind","size","ways","parents","names","root","span"]]}
theorem hA:pt.attOk:=⟨by decide +kernel,by decide +kernel⟩
abbrev T(K:PySem.W.Frag):Tb:=pt.T hA K
section
variable{P:Program}{w:World}{K:PySem.W.Frag}{mg:Lk}{base:Heap}
abbrev Zq(P:Program)(w:World)(_:Tx pt K mg)(_:K.In base)(k i:Nat)(f:List PV->Res PV):Prop:=OkF pt hA P w K mg base k i f
variable(t:Tx pt K mg:=by assumption)(hB:K.In base:=by assumption)
include t hB
theorem i6:Zq P w t hB 1 0 d4:=okC 0 t λcx nd=>
 (ag (bz (f7 sv (cF cx.hK rfl (t.b 0) sv)) (ao (aJ (bj cx sv sv))) aT)
 (ao (aJ ak)))
theorem Fd:Zq P w t hB 1 1 zK:=okC 1 t λcx nd=>
 (ag (a6 nd (iC ah))
 (ag (cj cx.po cx.calm (vU rfl (t.b 1) (ac ak (ac sv ah))) (sgN nd) (ag (tB cx (qU (ac (cq sv sv) (ac sv ah))))
 (ao (a6 nd (eK sv sv)))))
 (ag (cj cx.po cx.calm (cD rfl (t.b 1) (ac sv ah)) (sgN nd) (ao (cj cx.po cx.calm (cD rfl (t.b 1) (ac sv ah)) (sgN nd) (ag (bz (SW.st (jG (cu cx.hK cx.hu (cq sv ak) ak) (iy (jV cx.hK cx.hu2 (qU (ac sv (ac sv ah))) sv)))) (ao (tB cx (qU (ac sv (ac sv ah))))) aT)
 (ao (a6 nd (eK sv ak)))))))
 (ao (cX rfl (Or.inl rfl))))))
theorem Fh:Zq P w t hB 1 2 zM:=okC 2 t λcx nd=>
 (ag (a6 nd (oI cx.calm rfl (t.b 2) cH rfl (t.b 1) (ac ak ah)))
 (ag (a6 nd (iC ah))
 (ag (cj cx.po cx.calm (cD rfl (t.b 1) (ac sv ah)) (sgN nd) (ag (vT cx.hK rfl (Or.inl rfl) rfl (Or.inl rfl) (cq sv (cF cx.hK rfl (t.b 0) sv)))
 (ao (a6 nd (eK sv (cz ak sv))))))
 (ao (cX rfl (Or.inl rfl))))))
theorem E_:Zq P w t hB 2 3 zJ:=okC 3 t λcx nd=>
 (ag (a6 nd (bD t i6 cx (ac sv (ac ak ah))))
 (ag (a6 nd (bD t i6 cx (ac sv (ac ak ah))))
 (ag (a6 nd (bj cx (iC (ac br (ac br (ac br (ac br (ac br (ac br ah))))))) (cq sv ak)))
 (ag (a6 nd (aP ak (cq (eK sv ak) ak)))
 (ag (bz (cu cx.hK cx.hu sv br) (ao (a6 nd (aP sv ak))) aT)
 (ag (a6 nd (bD t Fd cx (ac sv (ac (bD t i6 cx (ac sv (ac ak ah))) (ac (bD t i6 cx (ac sv (ac ak ah))) ah)))))
 (ag (a6 nd (aP sv (cq (eK sv ak) ak)))
 (ag (bz (cu cx.hK cx.hu (cq sv ak) ak) (ao (a6 nd (aP sv (cq (eK sv ak) (tq ak ak))))) aT)
 (ag (dH ["_law_way"] cx nd (bt cx.hK (g8 cx.hK sv l6 (gJ (cz sv ak)))) bQ (λ_ _ _ _ nd=>⟨sgN nd,aZ,bj cx.comp sv ak⟩))
 (ag (a6 nd (bD t Fh cx (ac sv (ac sv ah))))
 (c9 (i:=5) (c9 (i:=7) (c9 (i:=8) (A6 (k:=0) (x:=9) (ks:=["kind","size","ways","parents","names"]) (ms:=[(aa 3),aa 4,aa 5,aa 7,(aa 8)]) nd rfl (Or.inl rfl) (Or.inl rfl) () cx.hu rfl (λ_ _ _ o a b=>⟨o,a,b⟩) (by decide +kernel) rfl () (i4 iH sv (i4 iH sv (i4 iH sv (i4 iH sv (i4 iH sv BH))))) (cq sv sv) sv))))))))))))))
theorem p5:OkI pt hA P w K mg base 1 4 jC:=okI 4 t λcx nd=>
 (ag (sFld 0 t cx sv)
 (ag (sFld 7 t cx sv)
 (ao (sFld 8 t cx sv))))
theorem FE:OkI pt hA P w K mg base 3 5 z_:=okI 5 t λcx nd=>
 (ag (bz (SW.st (gZ (f7 sv (eJ rfl (t.c 0))) (fU (lE sv (eJ rfl (t.c 1)))))) (ao (cQ 2 t cx hB cP (ac br ah))) aT)
 (ag (bz (f7 sv sv) (ao (cQ 2 t cx hB cP (ac br ah))) aT)
 (ao (qV 0 t (p5 t hB) cx (ac sv (ac sv (ac lH ah)))))))
theorem Ix:Zq P w t hB 1 6 Gj:=okC 6 t λcx nd=>
 (ag (bz (lE (cF cx.hK rfl (t.b 0) sv) (eJ rfl (t.c 2))) (ao (cQ 2 t cx hB cP (ac br ah))) aT)
 (ao (cj cx.po cx.calm (A_ cx.hK rfl (t.b 3) sv) (jI cx.hK cx.calm (cJ nd rfl (Or.inl rfl) (cJ nd rfl (Or.inl rfl) iB))) (ao (bz (SW.st (gZ (f7 sv ak) (fU (oE sv sv)))) (ao (cQ 2 t cx hB cP (ac br ah))) aT)))))
theorem yF:OkI pt hA P w K mg base 3 7 sd:=okI 7 t λcx nd=>
 (ao (qV 0 t (p5 t hB) cx (ac sv (ac sv (ac lH ah)))))
theorem IC:OkI pt hA P w K mg base 5 8 Go:=okI 8 t λcx nd=>
 (ag (iA (bD t Ix cx (ac sv ah)))
 (ag (sFld 11 t cx (iW cx.hK rfl (t.b 4) ir sv))
 (ao (qV 1 t (yF t hB) cx (ac (aP (cF cx.hK rfl (t.b 0) sv) ak) (ac (aP (cF cx.hK rfl (t.b 0) sv) ak) ah))))))
theorem Fr:Zq P w t hB 1 9 zU:=okC 9 t λcx nd=>
 (ao (bz (SW.st (gZ (f7 sv sv) (fU (lE sv (eJ rfl (t.c 3)))))) (ao (cQ 1 t cx hB cP (ac br ah))) aT))
theorem Fv:Zq P w t hB 1 10 zY:=okC 10 t λcx nd=>
 (ag (a6 nd (iC ah))
 (ag (cj cx.po cx.calm (iV cx.hK sv) (sgN nd) (ag (a6 nd (qU (ac (pR cx.hK cx.calm rfl (t.b 6) sv) (ac (pS cx.hK cx.calm rfl (t.b 5) sv) ah))))
 (ag (bz (SW.st (gZ (f7 (bj cx sv ak) ak) (fU (oE (bj cx sv ak) sv)))) (ao (cQ 1 t cx hB cP (ac br ah))) aT)
 (ag (bz (cu cx.hK cx.hu (bj cx sv ak) (bj cx sv ak)) (ao (cQ 1 t cx hB cP (ac br ah))) aT)
 (ag (bz (qL cx.hK cx.hu2 sv sv) (ao (cQ 1 t cx hB cP (ac br ah))) aT)
 (ao (tB cx sv)))))))
 (ao (aJ (g7 cx.hK rfl (t.b 7) sv)))))
theorem Fo:Zq P w t hB 1 11 vm:=okC 11 t λcx nd=>
 (ag (dH ["pair"] cx nd (bt cx.hK sv) bQ (λ_ _ _ _ nd=>⟨sgN nd,bW (cu cx.comp.hK cx.comp.hu (bj cx.comp sv ak) sv),bj cx.comp sv ak⟩))
 (ag (dH ["pair"] cx nd (bt cx.hK sv) bQ (λ_ _ _ _ nd=>⟨sgN nd,bW (cu cx.comp.hK cx.comp.hu (bj cx.comp sv ak) sv),bj cx.comp sv ak⟩))
 (ao (aJ (g7 cx.hK rfl (t.b 7) (aP sv sv))))))
theorem Fn:Zq P w t hB 1 12 vk:=okC 12 t λcx nd=>
 (ao (aJ (cY cx.hK rfl (t.b 2) cH (bj cx (aS 2 t cx sv) sv))))
omit t hB in
abbrev DTy(X:Cx)(k:Nat)(n:Str)(p:List Str)(d:Nat->Option (List PV->Res PV)):Prop:=∀(t:Tx pt X.K X.mg)(hB:X.K.In X.base),eW X (T X.K) k n p [] d
omit t hB in
theorem d8:DTy X 1 "beside" ["self","at"] b9:=λt hB _ _ _ e=>by unfold b9 at e;split at e<;>first|exact dm 0 t Fn e|cases e
theorem Fa:Zq P w t hB 2 13 vj:=okC 13 t λcx nd=>
 (ag (dH ["at"] cx nd (a5 rfl (t.b 1) (ac (aS 0 t cx sv) ah)) bQ (λ_ _ _ _ nd=>⟨sgN nd,aZ,aS 0 t cx.comp sv⟩))
 (ag (fH rfl (Or.inl rfl) sv ak)
 (ag (cj cx.po cx.calm (cD rfl (t.b 1) (ac (aS 0 t cx sv) ah)) (sgN nd) (ao (cj cx.po cx.calm (cD rfl (t.b 1) (ac (aS 0 t cx sv) ah)) (sgN nd) (ao (bz (cu cx.hK cx.hu (bj cx sv sv) sv) (ao (cj cx.po cx.calm (iV cx.hK (cW t (d8 t hB) cx sv (ac sv ah))) (sgN nd) (ao (fH rfl (Or.inl rfl) sv (jk cx.calm rfl (t.b 6) (ac (bj cx sv sv) (ac (aP sv ak) ah))))))) aT)))))
 (ao (cX rfl (Or.inl rfl))))))
theorem E9:OkI pt hA P w K mg base 3 14 zI:=okI 14 t λcx nd=>
 (ag (iA (bD t Fr cx (ac sv (ac (eJ rfl (t.c 4)) ah))))
 (ag (sFld 0 t cx sv)
 (ag (sFld 1 t cx (iW cx.hK rfl (t.b 4) ir (bD t Fv cx (ac sv (ac sv ah)))))
 (ag (sFld 2 t cx (iW cx.hK rfl (t.b 4) ir (cr ["at"] cx (a5 rfl (t.b 1) (ac sv ah)) bQ (λ_ _ _ _ nd=>⟨sgN nd,aZ,iW cx.comp.hK rfl (t.b 4) ir (bD t Fo cx.comp (ac (aS 1 t cx.comp sv) (ac sv ah)))⟩))))
 (ao (bz (cu cx.hK cx.hu (pS cx.hK cx.calm rfl (t.b 5) (bD t Fa cx (ac sv (ac ak ah)))) sv) (ao (cQ 1 t cx hB cP (ac br ah))) aT))))))
theorem yE:Zq P w t hB 1 15 vn:=okC 15 t λcx nd=>
 (ao (bz (SW.st (gZ (f7 sv ak) (fU (lE sv (eJ rfl (t.c 5)))))) (ao (cQ 2 t cx hB cP (ac br ah))) aT))
theorem Fw:Zq P w t hB 1 16 zZ:=okC 16 t λcx nd=>
 (ag (bz (iT cx.hK cx.hu (cF cx.hK rfl (t.b 0) sv) (aS 0 t cx sv)) (ao (cQ 2 t cx hB cP (ac br ah))) aT)
 (ao (cj cx.po cx.calm (iV cx.hK sv) (sgN nd) (ao (bz (SW.st (jG (uJ sv fV) (iy (SW.st (gZ (f7 sv ak) (fU (oE sv sv))))))) (ao (cQ 2 t cx hB cP (ac br ah))) aT)))))
theorem yJ:OkI pt hA P w K mg base 3 17 vw:=okI 17 t λcx nd=>
 (ag (iA (bD t yE cx (ac sv ah)))
 (ag (iA (bD t yE cx (ac sv ah)))
 (ag (sFld 3 t cx (c_ sv sv))
 (ag (iA (bD t Fw cx (ac sv (ac sv (ac (aS 3 t cx sv) ah)))))
 (c9 (i:=1) (ag (sFld 4 t cx sv)
 (ag (sFld 5 t cx (iW cx.hK rfl (t.b 4) ir sv))
 (ag (sFld 6 t cx sv)
 (ao (qV 0 t (p5 t hB) cx (ac (aS 0 t cx sv) (ac (aP (aS 3 t cx sv) ak) (ac lH ah)))))))))))))
theorem tV:OkI pt hA P w K mg base 5 18 r9:=okI 18 t λcx nd=>
 (ag (bz (SW.st (gZ (f7 sv ak) (fU (oE sv (aS 0 t cx sv))))) (ao (cQ 2 t cx hB cP (ac br ah))) aT)
 (ag (dH ["at"] cx nd (a5 rfl (t.b 1) (ac (aS 0 t cx sv) ah)) bQ (λ_ _ _ _ nd=>⟨sgN nd,aZ,mI (cu cx.comp.hK cx.comp.hu sv sv) ak fV⟩))
 (c9 (i:=3) (c9 (i:=1) (ao (qV 4 t (yJ t hB) cx (ac sv (ac sv (ac (aS 0 t cx sv) (ac ak ah))))))))))
theorem yI:OkI pt hA P w K mg base 7 19 vv:=okI 19 t λcx nd=>
 (c9 (i:=1) (ag (sFld 9 t cx (mM 5 t (tV t hB) cx (ac sv (ac sv ah))))
 (ag (sFld 4 t cx sv)
 (ag (sFld 10 t cx sv)
 (ao (qV 0 t (p5 t hB) cx (ac (aS 0 t cx sv) (ac (c_ (aP (aS 0 t cx sv) ak) (aP (aS 0 t cx sv) ak)) (ac lH ah)))))))))
theorem Ft:Zq P w t hB 1 20 zW:=okC 20 t λcx nd=>
 (ag (bz (iT cx.hK cx.hu (cF cx.hK rfl (t.b 0) sv) (aS 0 t cx sv)) (ao (cQ 2 t cx hB cP (ac br ah))) aT)
 (ag (bz (iT cx.hK cx.hu (oJ cx.hK cx.calm rfl (t.b 0) rfl (t.b 8) sv) (cF cx.hK rfl (t.b 0) sv)) (ao (cQ 2 t cx hB cP (ac br ah))) aT)
 (ao (cj cx.po cx.calm (iV cx.hK sv) (sgN nd) (ao (bz (SW.st (gZ (f7 sv ak) (fU (lE sv (eJ rfl (t.c 6)))))) (ao (cQ 2 t cx hB cP (ac br ah))) aT))))))
theorem yG:OkI pt hA P w K mg base 5 21 vq:=okI 21 t λcx nd=>
 (c9 (i:=1) (ag (iA (bD t Ft cx (ac sv (ac sv ah))))
 (ag (dH ["name"] cx nd (bt cx.hK sv) bQ (λ_ _ _ _ nd=>⟨sgN nd,aZ,c_ (cz (eJ rfl (t.c 6)) sv) (aS 0 t cx.comp sv)⟩))
 (c9 (i:=3) (ao (qV 4 t (yJ t hB) cx (ac sv (ac sv (ac (aS 0 t cx sv) (ac (eJ rfl (t.c 7)) ah))))))))))
theorem yD:Zq P w t hB 9 22 o8:=okC 22 t λcx nd=>
 (ag (a6 nd (cz (cz (bE 0 1 cx.hu rfl (λ_ _ _ h=>h) sv) ak) (bE 0 5 cx.hu rfl (λ_ _ _ h=>h) sv)))
 (ao (aJ (iC (ac (mM 6 t (yG t hB) cx (ac sv (ac (cr ["_law_name"] cx (bt cx.hK (bE 0 4 cx.hu rfl (λ_ _ _ h=>h) sv)) bQ (λ_ _ _ _ nd=>⟨sgN nd,aZ,cz ak sv⟩)) ah))) (ac (mM 5 t (tV t hB) cx (ac sv (ac sv ah))) (ac (mM 7 t (yI t hB) cx (ac sv (ac sv ah))) ah)))))))
theorem Iy:OkI pt hA P w K mg base 5 23 Gk:=okI 23 t λcx nd=>
 (c9 (i:=1) (ag (sFld 4 t cx sv)
 (ao (qV 1 t (yF t hB) cx (ac (aS 0 t cx sv) (ac (aS 0 t cx sv) ah))))))
theorem Fb:Zq P w t hB 10 24 rZ:=okC 24 t λcx nd=>
 (ag (a6 nd (bE 0 0 cx.hu rfl (λ_ _ _ h=>h) sv))
 (ag (bz (cu cx.hK cx.hu sv br) (ao (aJ (mM 9 t (FE t hB) cx (ac (bE 0 1 cx.hu rfl (λ_ _ _ h=>h) sv) (ac (bE 0 6 cx.hu rfl (λ_ _ _ h=>h) sv) ah))))) aT)
 (ag (bz (cu cx.hK cx.hu sv br) (ao (aJ (mM 3 t (IC t hB) cx (ac (cY cx.hK rfl (t.b 2) cH (bE 0 3 cx.hu rfl (λ_ _ _ h=>h) sv)) ah)))) aT)
 (ag (a6 nd (mM 8 t (E9 t hB) cx (ac (bE 0 1 cx.hu rfl (λ_ _ _ h=>h) sv) (ac (cY cx.hK rfl (t.b 2) cH (bE 0 2 cx.hu rfl (λ_ _ _ h=>h) sv)) ah))))
 (c9 (i:=2) (ag (a6 nd (iC ah))
 (ag (bz (cu cx.hK cx.hu (cq (bj cx (bE 0 4 cx.hu rfl (λ_ _ _ h=>h) sv) ak) ak) ak) (ao (a6 nd (bD t yD cx (ac sv (ac sv ah))))) aT)
 (ag (a6 nd (iC (ac (mM 2 t (Iy t hB) cx (ac sv ah)) (ac (mM 5 t (tV t hB) cx (ac sv (ac (bE 0 5 cx.hu rfl (λ_ _ _ h=>h) sv) ah))) ah))))
 (c9 (i:=4) (c9 (i:=3) (ag (a6 nd (aP (aP sv (iC (ac (mM 6 t (yG t hB) cx (ac sv (ac (cY cx.hK rfl (t.b 2) cH (bE 0 4 cx.hu rfl (λ_ _ _ h=>h) sv)) ah))) (ac (mM 7 t (yI t hB) cx (ac sv (ac (bE 0 5 cx.hu rfl (λ_ _ _ h=>h) sv) ah))) ah)))) sv))
 (c9 (i:=4) (ag (a6 nd (bD t yD cx (ac sv (ac sv ah))))
 (c9 (i:=3) (ao (aJ (bj cx (aP sv sv) (qS cx cx.hu2 (iC (ac br (ac br (ac br (ac br ah))))) sv))))))))))))))))))
theorem yC:Zq P w t hB 1 25 r8:=okC 25 t λcx nd=>
 (ag (dH ["_law_way"] cx nd (bt cx.hK (bE 0 2 cx.hu rfl (λ_ _ _ h=>h) sv)) bQ (λ_ _ _ _ nd=>⟨sgN nd,bW (cu cx.comp.hK cx.comp.hu (bj cx.comp sv ak) sv),bj cx.comp sv ak⟩))
 (ao (aJ (g7 cx.hK rfl (t.b 7) (aP sv (cr ["_law_way"] cx (bt cx.hK (bE 0 2 cx.hu rfl (λ_ _ _ h=>h) sv)) bQ (λ_ _ _ _ nd=>⟨sgN nd,bW (cu cx.comp.hK cx.comp.hu (bj cx.comp sv ak) sv),bj cx.comp sv ak⟩)))))))
theorem tU:Zq P w t hB 1 26 rY:=okC 26 t λcx nd=>
 (ag (dH ["_law_at"] cx nd (a5 rfl (t.b 1) (ac (bE 0 1 cx.hu rfl (λ_ _ _ h=>h) sv) ah)) bQ (λ_ _ _ _ nd=>⟨sgN nd,aZ,(bE 0 1 cx.comp.hu rfl (λ_ _ _ h=>h) sv)⟩))
 (ag (fH rfl (Or.inl rfl) sv ak)
 (ag (cj cx.po cx.calm (cD rfl (t.b 1) (ac (bE 0 1 cx.hu rfl (λ_ _ _ h=>h) sv) ah)) (sgN nd) (ao (cj cx.po cx.calm (iV cx.hK (bE 0 2 cx.hu rfl (λ_ _ _ h=>h) sv)) (sgN nd) (ag (fH rfl (Or.inl rfl) (bj cx sv ak) (jk cx.calm rfl (t.b 6) (ac (bj cx sv (bj cx sv ak)) (ac (aP (bj cx sv (bj cx sv ak)) ak) ah))))
 (ao (fH rfl (Or.inl rfl) (bj cx sv ak) (jk cx.calm rfl (t.b 6) (ac (bj cx sv (bj cx sv ak)) (ac (aP (bj cx sv (bj cx sv ak)) ak) ah)))))))))
 (ao (cX rfl (Or.inl rfl))))))
theorem Fj:Zq P w t hB 2 27 zN:=okC 27 t λcx nd=>
 (ag (a6 nd (bE 0 1 cx.hu rfl (λ_ _ _ h=>h) sv))
 (ag (a6 nd (bD t tU cx (ac sv (ac (bE 0 5 cx.hu rfl (λ_ _ _ h=>h) sv) ah))))
 (ag (a6 nd (cr ["_law_at"] cx (a5 rfl (t.b 1) (ac sv ah)) bQ (λ_ _ _ _ nd=>⟨sgN nd,aZ,ak⟩)))
 (ag (cj cx.po cx.calm (oG rfl (t.b 1) (ac sv (ac ak (ac (tz ak) ah)))) (sgN nd) (ao (cj cx.po cx.calm (cD rfl (t.b 1) (ac sv ah)) (sgN nd) (ao (bz (cu cx.hK cx.hu (bj cx sv sv) sv) (ag (dH ["_law_other"] cx nd (bt cx.hK (bD t yC cx (ac sv (ac sv ah)))) bQ (λ_ _ _ _ nd=>⟨sgN nd,bW (cu cx.comp.hK cx.comp.hu (bj cx.comp sv sv) (cz sv ak)),sv⟩))
 (ao (fH rfl (Or.inr (Or.inl rfl)) (bj cx sv ak) (aP (bj cx sv (bj cx sv ak)) (bj cx sv sv))))) aT)))))
 (ao (aJ (cr ["_law_at"] cx (a5 rfl (t.b 1) (ac sv ah)) bQ (λ_ _ _ _ nd=>⟨sgN nd,aZ,aP (c_ (bj cx.comp sv sv) (aP sv ak)) (bj cx.comp sv sv)⟩))))))))
theorem Ff:Zq P w t hB 3 28 jB:=okC 28 t λcx nd=>
 (ag (a6 nd (bE 0 1 cx.hu rfl (λ_ _ _ h=>h) sv))
 (ag (bz (cu cx.hK cx.hu (bE 0 0 cx.hu rfl (λ_ _ _ h=>h) sv) br) (ao (aJ (bD t tU cx (ac sv (ac (bE 0 5 cx.hu rfl (λ_ _ _ h=>h) sv) ah))))) aT)
 (ag (bz (cu cx.hK cx.hu (bE 0 0 cx.hu rfl (λ_ _ _ h=>h) sv) br) (ag (a6 nd (pS cx.hK cx.calm rfl (t.b 5) (bE 0 4 cx.hu rfl (λ_ _ _ h=>h) sv)))
 (ag (a6 nd (bD t tU cx (ac sv (ac (qS cx cx.hu2 (bE 0 4 cx.hu rfl (λ_ _ _ h=>h) sv) sv) ah))))
 (ao (aJ (cr ["_law_at"] cx (a5 rfl (t.b 1) (ac sv ah)) bQ (λ_ _ _ _ nd=>⟨sgN nd,aZ,aP (c_ (cz ak sv) sv) (bj cx.comp sv sv)⟩)))))) aT)
 (ag (bz (cu cx.hK cx.hu (bE 0 0 cx.hu rfl (λ_ _ _ h=>h) sv) br) (ao (aJ (bD t Fj cx (ac sv ah)))) aT)
 (ag (dH ["_law_at"] cx nd (a5 rfl (t.b 1) (ac sv ah)) bQ (λ_ _ _ _ nd=>⟨sgN nd,aZ,ak⟩))
 (ag (cj cx.po cx.calm (oG rfl (t.b 1) (ac (cz sv ak) (ac ak (ac (tz ak) ah)))) (sgN nd) (ag (a6 nd (bj cx (bE 0 3 cx.hu rfl (λ_ _ _ h=>h) sv) (cz sv ak)))
 (ao (fH rfl (Or.inl rfl) sv (aP (bj cx sv sv) (bj cx sv sv))))))
 (ao (cX rfl (Or.inl rfl)))))))))
theorem IA:Zq P w t hB 4 29 zD:=okC 29 t λcx nd=>
 (ag (a6 nd (bE 0 1 cx.hu rfl (λ_ _ _ h=>h) sv))
 (ag (a6 nd (bD t i6 cx (ac sv (ac ak ah))))
 (ag (bz (cu cx.hK cx.hu (bE 0 0 cx.hu rfl (λ_ _ _ h=>h) sv) br) (ag (a6 nd (cq (eK sv ak) sv))
 (ag (a6 nd (cq (eK sv ak) (bE 0 6 cx.hu rfl (λ_ _ _ h=>h) sv)))
 (ag (a6 nd (cq (aP (aP sv ak) (cq (eK sv ak) (cz (bE 0 6 cx.hu rfl (λ_ _ _ h=>h) sv) ak))) (bE 0 6 cx.hu rfl (λ_ _ _ h=>h) sv)))
 (ao (aJ (aP (cr ["_law_k"] cx (a5 rfl (t.b 1) (ac sv ah)) bQ (λ_ _ _ _ nd=>⟨sgN nd,aZ,sv⟩)) (cr ["_law_k"] cx (a5 rfl (t.b 1) (ac (cz sv sv) ah)) bQ (λ_ _ _ _ nd=>⟨sgN nd,aZ,sv⟩)))))))) aT)
 (ag (bz (cu cx.hK cx.hu (bE 0 0 cx.hu rfl (λ_ _ _ h=>h) sv) br) (ag (a6 nd (iC ah))
 (ag (cj cx.po cx.calm (cD rfl (t.b 1) (ac sv ah)) (sgN nd) (ag (a6 nd (cr ["_law_other"] cx (bt cx.hK (bD t yC cx (ac sv (ac sv ah)))) bQ (λ_ _ _ _ nd=>⟨sgN nd,bW (f7 sv sv),bj cx.comp sv sv⟩)))
 (ao (tB cx (pR cx.hK cx.calm rfl (t.b 6) (cr ["_law_colour"] cx (a5 rfl (t.b 1) (ac sv ah)) bQ (λ_ _ _ _ nd=>⟨sgN nd,bW (jV cx.comp.hK cx.comp.hu2 sv sv),sv⟩)))))))
 (ao (cX rfl (Or.inr (Or.inl rfl)))))) aT)
 (ao (aJ (bD t Ff cx (ac sv ah))))))))
theorem Fm:Zq P w t hB 2 30 zQ:=okC 30 t λcx nd=>
 (ag (a6 nd (cq (c_ (bD t i6 cx (ac sv (ac ak ah))) ak) ak))
 (ag (a6 nd (iC ah))
 (ag (cj cx.po cx.calm (cD rfl (t.b 1) (ac (aP ak (cq sv ak)) ah)) (sgN nd) (ag (a6 nd (cq (eK sv ak) sv))
 (ag (bz (SW.st (gZ (cu cx.hK cx.hu sv ak) (fU (cu cx.hK cx.hu (cq sv ak) ak)))) (ao (a6 nd (cq (bD t i6 cx (ac sv (ac (aP ak sv) ah))) sv))) aT)
 (ao (tB cx (qU (ac sv (ac (cz (cq (eK (bD t i6 cx (ac sv (ac (aP ak sv) ah))) ak) (c_ ak (tq ak ak))) (tq ak ak)) ah))))))))
 (ao (cX rfl (Or.inl rfl))))))
theorem Fk:Zq P w t hB 1 31 zP:=okC 31 t λcx nd=>
 (ag (bz (dX cx.hK sv) (ao (aJ (cr ["_law_cell"] cx (bt cx.hK (g8 cx.hK sv (gJ ak) (gJ ak))) bQ (λ_ _ _ _ nd=>⟨sgN nd,aZ,iC (ac (cq (eK sv ak) sv) ah)⟩)))) aT)
 (ao (aJ (cr ["_law_cell"] cx (bt cx.hK (g8 cx.hK sv (gJ ak) (gJ ak))) bQ (λ_ _ _ _ nd=>⟨sgN nd,aZ,(cr ["_law_at"] cx.comp (a5 rfl (t.b 1) (ac sv ah)) bQ (λ_ _ _ _ nd=>⟨sgN nd,bW (cu cx.comp.comp.hK cx.comp.comp.hu (Bp (El sv sv) ak) ak),sv⟩))⟩)))))
theorem IH:Zq P w t hB 2 32 Gu:=okC 32 t λcx nd=>
 (ao (aJ (cr ["other"] cx (bt cx.hK (cW t (d8 t hB) cx (aS 4 t cx sv) (ac sv ah))) bQ (λ_ _ _ _ nd=>⟨sgN nd,bW (f7 sv sv),sv⟩))))
theorem II:Zq P w t hB 1 33 Gv:=okC 33 t λcx nd=>
 (ao (aJ (cr ["kid","parent"] cx (xD cx.hK rfl (t.b 3) (aS 11 t cx sv)) (lY (eD bQ (eD bQ jS))) (λ_ _ _ _ nd=>⟨jI cx.comp.hK cx.comp.calm (cJ nd rfl (Or.inl rfl) (cJ nd rfl (Or.inl rfl) iB)),bW (cu cx.comp.hK cx.comp.hu sv sv),sv⟩))))
omit t hB in
theorem dU:DTy X 2 "hangs_on" ["self","at"] bu:=λt hB _ _ _ e=>by unfold bu at e;split at e<;>first|exact dm 1 t IH e|exact dm 2 t II e|cases e
theorem FC:Zq P w t hB 3 34 z8:=okC 34 t λcx nd=>
 (ag (dH ["other"] cx nd (bt cx.hK (cW t (dU t hB) cx sv (ac sv ah))) bQ (λ_ _ _ _ nd=>⟨sgN nd,aZ,bj cx.comp sv sv⟩))
 (ag (a6 nd ak)
 (ag (mD cx.po (qL cx.hK cx.hu2 sv sv) (ao (a6 nd (aP sv ak))))
 (ao (cX rfl (Or.inl rfl))))))
theorem Fy:Zq P w t hB 3 35 z5:=okC 35 t λcx nd=>
 (ao (aJ (jk cx.calm rfl (t.b 6) (ac (aS 0 t cx sv) (ac (aP ak (mH cx.hK cx.calm rfl (t.b 9) (cr ["kid"] cx (bt cx.hK (cW t (dU t hB) cx sv (ac sv ah))) bQ (λ_ _ _ _ nd=>⟨sgN nd,aZ,bj cx.comp sv sv⟩)))) ah)))))
theorem C7:Zq P w t hB 1 36 zR:=okC 36 t λcx nd=>
 (ao (aJ (pT (C0 cx.hK cx.hu sv (aS 3 t cx sv)) (pQ (C0 cx.hK cx.hu (cq (aP sv ak) (aS 6 t cx sv)) ak)))))
omit t hB in
theorem i_:DTy X 1 "has_offer" ["self","cell"] eV:=λt hB _ _ _ e=>by unfold eV at e;split at e<;>first|exact dm 3 t C7 e|exact dm 4 t C7 e|cases e
theorem tW:Zq P w t hB 2 37 r_:=okC 37 t λcx nd=>
 (ag (dH ["other"] cx nd (bt cx.hK (cW t (d8 t hB) cx (aS 4 t cx sv) (ac sv ah))) bQ (λ_ _ _ _ nd=>⟨sgN nd,aZ,bj cx.comp sv sv⟩))
 (ag (dH ["cell"] cx nd (bt cx.hK sv) bQ (λ_ _ _ _ nd=>⟨sgN nd,bW (dX cx.comp.hK (cW t (i_ t hB) cx.comp sv (ac sv ah))),aP sv ak⟩))
 (ag (bz (uJ (bj cx (aS 5 t cx sv) sv) fV) (ao (tB cx (bj cx (aS 5 t cx sv) sv))) aT)
 (ao (aJ (pR cx.hK cx.calm rfl (t.b 6) (aP sv (iC (ac (aS 3 t cx sv) ah)))))))))
theorem FG:Zq P w t hB 1 38 Ab:=okC 38 t λcx nd=>
 (ao (aJ (cr ["cell"] cx (bt cx.hK sv) bQ (λ_ _ _ _ nd=>⟨sgN nd,aZ,qU (ac (eK sv (aP (aS 0 t cx.comp sv) ak)) (ac (cq sv (aP (aS 0 t cx.comp sv) ak)) ah))⟩))))
omit t hB in
theorem i8:DTy X 1 "parts" ["self","cells"] fR:=λt hB _ _ _ e=>by unfold fR at e;split at e<;>first|exact dm 5 t FG e|cases e
theorem FB:Zq P w t hB 2 39 z7:=okC 39 t λcx nd=>
 (ao (aJ (cr ["part"] cx (bt cx.hK (cW t (i8 t hB) cx sv (ac sv ah))) bQ (λ_ _ _ _ nd=>⟨sgN nd,aZ,bj cx.comp sv ak⟩))))
omit t hB in
theorem gS:DTy X 2 "fars" ["self","cells"] eB:=λt hB _ _ _ e=>by unfold eB at e;split at e<;>first|exact dm 6 t FB e|cases e
omit t hB in
theorem p7:DTy X 2 "due" ["self","cells","at"] ly:=λt hB _ _ _ e=>by unfold ly at e;split at e<;>first|exact dm 7 t tW e|cases e
theorem ID:Zq P w t hB 2 40 Gp:=okC 40 t λcx nd=>
 (ao (aJ (cr ["part"] cx (bt cx.hK (cW t (i8 t hB) cx sv (ac sv ah))) bQ (λ_ _ _ _ nd=>⟨sgN nd,aZ,bj cx.comp sv ak⟩))))
omit t hB in
theorem fX:DTy X 2 "counts" ["self","cells"] dC:=λt hB _ _ _ e=>by unfold dC at e;split at e<;>first|exact dm 8 t ID e|cases e
theorem Iu:Zq P w t hB 2 41 Gh:=okC 41 t λcx nd=>
 (ag (bz (cu cx.hK cx.hu sv (aS 10 t cx sv)) (ao (aJ fV)) aT)
 (ag (dH ["other"] cx nd (bt cx.hK (cW t (d8 t hB) cx (aS 4 t cx sv) (ac sv ah))) bQ (λ_ _ _ _ nd=>⟨sgN nd,bW (cu cx.comp.hK cx.comp.hu (bj cx.comp sv sv) (cz (bj cx.comp sv sv) ak)),sv⟩))
 (ao (aJ (Bf cx.hK cx.calm rfl (t.b 6) sv)))))
omit t hB in
theorem ni:DTy X 2 "elder" ["self","fars","at"] jh:=λt hB _ _ _ e=>by unfold jh at e;split at e<;>first|exact dm 9 t Iu e|cases e
theorem IE:Zq P w t hB 3 42 Gq:=okC 42 t λcx nd=>
 (ag (a6 nd (cW t (gS t hB) cx sv (ac sv ah)))
 (ao (aJ (cr ["at"] cx (a5 rfl (t.b 1) (ac (aS 0 t cx sv) ah)) bQ (λ_ _ _ _ nd=>⟨sgN nd,aZ,cW t (ni t hB) cx.comp sv (ac sv (ac sv ah))⟩)))))
omit t hB in
theorem lV:DTy X 3 "elders" ["self","cells"] iM:=λt hB _ _ _ e=>by unfold iM at e;split at e<;>first|exact dm 10 t IE e|cases e
theorem IJ:Zq P w t hB 4 43 Gw:=okC 43 t λcx nd=>
 (ag (dH ["count", "elder"] cx nd (pP cx.hK rfl (t.b 10) (ac (cW t (fX t hB) cx sv (ac sv ah)) (ac (cW t (lV t hB) cx sv (ac sv ah)) ah))) (lY (eD bQ (eD bQ jS))) (λ_ _ _ _ nd=>⟨jI cx.comp.hK cx.comp.calm (cJ nd rfl (Or.inl rfl) (cJ nd rfl (Or.inl rfl) iB)),bW (cu cx.comp.hK cx.comp.hu sv sv),sv⟩))
 (ao (aJ (jk cx.calm rfl (t.b 6) (ac (aS 0 t cx sv) (ac (aP ak (mH cx.hK cx.calm rfl (t.b 9) sv)) ah))))))
omit t hB in
theorem gw:DTy X 4 "due_count" ["self","cells","at"] dE:=λt hB _ _ _ e=>by unfold dE at e;split at e<;>first|exact dm 11 t IJ e|cases e
theorem Fu:Zq P w t hB 5 44 zX:=okC 44 t λcx nd=>
 (ag (a6 nd (cW t (gS t hB) cx sv (ac sv ah)))
 (ag (a6 nd (cW t (p7 t hB) cx (aS 9 t cx sv) (ac sv (ac sv ah))))
 (ag (a6 nd (bj cx (cW t (fX t hB) cx sv (ac sv ah)) sv))
 (ag (bz (cu cx.hK cx.hu sv (bj cx sv sv)) (ao (a6 nd (cW t (gw t hB) cx sv (ac sv (ac sv ah))))) aT)
 (ao (aJ (aP (c_ sv (aP (aS 0 t cx sv) ak)) sv)))))))
theorem Fs:Zq P w t hB 1 45 zV:=okC 45 t λcx nd=>
 (ag (bz (iT cx.hK cx.hu sv ak) (ao (aJ (bj cx sv (cz sv ak)))) aT)
 (ag (bz (cu cx.hK cx.hu (bj cx sv ak) (bj cx sv (cz (aS 0 t cx sv) ak))) (ao (aJ (cq (aP (bj cx sv ak) ak) (aS 7 t cx sv)))) aT)
 (ao (aJ (bj cx sv ak)))))
omit t hB in
theorem dA:DTy X 5 "due" ["self","cells","at"] aV:=λt hB _ _ _ e=>by unfold aV at e;split at e<;>first|exact dm 12 t FC e|exact dm 13 t Fy e|exact dm 7 t tW e|exact dm 14 t tW e|exact dm 15 t Fu e|exact dm 16 t Fs e|cases e
theorem kQ:Zq P w t hB 6 46 kz:=okC 46 t λcx nd=>
 (ao (aJ (cr ["at"] cx (a5 rfl (t.b 1) (ac (aS 0 t cx sv) ah)) bQ (λ_ _ _ _ nd=>⟨sgN nd,bW (iT cx.comp.hK cx.comp.hu (cW t (dA t hB) cx.comp sv (ac sv (ac sv ah))) (bj cx.comp sv sv)),sv⟩))))
omit t hB in
theorem bM:DTy X 6 "movers" ["self","cells"] bf:=λt hB _ _ _ e=>by unfold bf at e;split at e<;>first|exact dm 17 t kQ e|exact dm 18 t kQ e|exact dm 19 t kQ e|exact dm 20 t kQ e|exact dm 21 t kQ e|exact dm 22 t kQ e|cases e
theorem m_:Zq P w t hB 7 47 lT:=okC 47 t λcx nd=>
 (ao (aJ (qT cx.hK cx.hu (cF cx.hK rfl (t.b 0) (cW t (bM t hB) cx sv (ac sv ah))) ak)))
theorem Fx:Zq P w t hB 7 48 vp:=okC 48 t λcx nd=>
 (ao (aJ (qT cx.hK cx.hu (cF cx.hK rfl (t.b 0) (cW t (bM t hB) cx sv (ac sv ah))) ak)))
omit t hB in
theorem dh:DTy X 7 "calm" ["self","cells"] bh:=λt hB _ _ _ e=>by unfold bh at e;split at e<;>first|exact dm 23 t m_ e|exact dm 24 t m_ e|exact dm 25 t m_ e|exact dm 26 t m_ e|exact dm 27 t m_ e|exact dm 28 t Fx e|cases e
theorem yB:Zq P w t hB 1 49 vi:=okC 49 t λcx nd=>
 (ag (a6 nd (cY cx.hK rfl (t.b 2) cH sv))
 (c9 (i:=1) (ag (cj cx.po cx.calm (iV cx.hK sv) (jI cx.hK cx.calm (cJ nd rfl (Or.inl rfl) (cJ nd rfl (Or.inl rfl) iB))) (ag (bz (SW.st (gZ (f7 sv ak) (fU (oE sv (cF cx.hK rfl (t.b 0) sv))))) (ao (cQ 3 t cx hB cP (ac br ah))) aT)
 (ao (fH rfl (Or.inl rfl) sv sv))))
 (ao (cX rfl (Or.inl rfl))))))
theorem kO:Zq P w t hB 1 50 ku:=okC 50 t λcx nd=>
 (ag (bz (iT cx.hK cx.hu (cF cx.hK rfl (t.b 0) sv) (aS 0 t cx sv)) (ao (cQ 3 t cx hB cP (ac br ah))) aT)
 (ao (aJ (cr ["number"] cx (bt cx.hK sv) bQ (λ_ _ _ _ nd=>⟨sgN nd,aZ,cq sv (aS 7 t cx.comp sv)⟩)))))
omit t hB in
theorem db:DTy X 1 "read" ["self","registers"] bU:=λt hB _ _ _ e=>by unfold bU at e;split at e<;>first|exact dm 29 t kO e|exact dm 30 t kO e|exact dm 31 t kO e|exact dm 32 t kO e|exact dm 33 t kO e|exact dm 34 t kO e|cases e
theorem kN:Zq P w t hB 1 51 lR:=okC 51 t λcx nd=>
 (ag (a6 nd ak)
 (ag (cj cx.po cx.calm (cD rfl (t.b 1) (ac sv ah)) (sgN nd) (ao (a6 nd (c_ sv sv))))
 (ao (cX rfl (Or.inl rfl)))))
theorem yH:Zq P w t hB 2 52 vt:=okC 52 t λcx nd=>
 (ao (aJ (cz (bD t kN cx (ac ak (ac (aS 0 t cx sv) ah))) ak)))
theorem yz:Zq P w t hB 2 53 zB:=okC 53 t λcx nd=>
 (ao (aJ (cz (bD t kN cx (ac (aP (aS 0 t cx sv) ak) (ac (c_ ak (aS 3 t cx sv)) ah))) ak)))
omit t hB in
theorem n_:DTy X 2 "most" ["self"] jM:=λt hB _ _ _ e=>by unfold jM at e;split at e<;>first|exact dm 35 t yz e|cases e
theorem FF:Zq P w t hB 3 54 Aa:=okC 54 t λcx nd=>
 (ao (aJ (cz (c_ (aP (uN t (n_ t hB) cx (aS 9 t cx sv)) ak) (bD t kN cx (ac ak (ac (aS 0 t cx sv) ah)))) ak)))
theorem Fz:Zq P w t hB 1 55 z6:=okC 55 t λcx nd=>
 (ao (aJ (eK (c_ (c_ ak (aS 0 t cx sv)) (cz (aS 0 t cx sv) ak)) ak)))
omit t hB in
theorem dg:DTy X 3 "most" ["self"] aI:=λt hB _ _ _ e=>by unfold aI at e;split at e<;>first|exact dm 36 t yH e|exact dm 37 t yH e|exact dm 35 t yz e|exact dm 38 t yz e|exact dm 39 t FF e|exact dm 40 t Fz e|cases e
theorem m8:Zq P w t hB 4 56 lS:=okC 56 t λcx nd=>
 (ao (aJ (uN t (dg t hB) cx sv)))
theorem FD:Zq P w t hB 4 57 z9:=okC 57 t λcx nd=>
 (ao (aJ (jk cx.calm rfl (t.b 6) (ac (uN t (dg t hB) cx sv) (ac (aP (c_ (aP sv ak) (aS 0 t cx sv)) (c_ (aP (c_ ak sv) ak) (cz (aS 0 t cx sv) ak))) ah)))))
omit t hB in
theorem h_:DTy X 4 "soon" ["self","count"] aW:=λt hB _ _ _ e=>by unfold aW at e;split at e<;>first|exact dm 41 t m8 e|exact dm 42 t m8 e|exact dm 43 t m8 e|exact dm 44 t m8 e|exact dm 45 t m8 e|exact dm 46 t FD e|cases e
theorem Iw:Zq P w t hB 1 58 Gi:=okC 58 t λcx nd=>
 (ao (aJ (cz (cz (aS 0 t cx sv) ak) sv)))
theorem IB:Zq P w t hB 1 59 Gn:=okC 59 t λcx nd=>
 (ao (cX rfl (Or.inl rfl)))
omit t hB in
theorem lU:DTy X 1 "rank" ["self","at"] eU:=λt hB _ _ _ e=>by unfold eU at e;split at e<;>first|exact dm 47 t Iw e|exact dm 48 t IB e|cases e
theorem C6:Zq P w t hB 7 60 Cq:=okC 60 t λcx nd=>
 (ao (aJ (mH cx.hK cx.calm rfl (t.b 9) (cr ["at"] cx (bt cx.hK (cW t (bM t hB) cx sv (ac sv ah))) bQ (λ_ _ _ _ nd=>⟨sgN nd,aZ,bD t kN cx.comp (ac ak (ac (cW t (lU t hB) cx.comp sv (ac sv ah)) ah))⟩)))))
theorem yA:Zq P w t hB 6 61 wT:=okC 61 t λcx nd=>
 (ag (dH ["at"] cx nd (a5 rfl (t.b 1) (ac (aS 0 t cx sv) ah)) bQ (λ_ _ _ _ nd=>⟨sgN nd,aZ,cW t (dA t hB) cx.comp sv (ac sv (ac sv ah))⟩))
 (ag (a6 nd (aP (aS 0 t cx sv) ak))
 (ag (a6 nd ak)
 (ag (cj cx.po cx.calm (cD rfl (t.b 1) (ac (aS 3 t cx sv) ah)) (sgN nd) (ag (dH ["cell", "due"] cx nd (pP cx.hK rfl (t.b 10) (ac sv (ac sv ah))) (lY (eD bQ (eD bQ jS))) (λ_ _ _ _ nd=>⟨jI cx.comp.hK cx.comp.calm (cJ nd rfl (Or.inl rfl) (cJ nd rfl (Or.inl rfl) iB)),bW (SW.st (jG (cu cx.comp.hK cx.comp.hu sv sv) (iy (lE sv sv)))),sv⟩))
 (ag (dH ["cell", "due"] cx nd (pP cx.hK rfl (t.b 10) (ac sv (ac sv ah))) (lY (eD bQ (eD bQ jS))) (λ_ _ _ _ nd=>⟨jI cx.comp.hK cx.comp.calm (cJ nd rfl (Or.inl rfl) (cJ nd rfl (Or.inl rfl) iB)),bW (SW.st (jG (lE sv sv) (iy (cu cx.comp.hK cx.comp.hu sv sv)))),sv⟩))
 (ao (a6 nd (aP (c_ (aP (c_ sv sv) (cF cx.hK rfl (t.b 0) sv)) sv) (cF cx.hK rfl (t.b 0) sv)))))))
 (ao (cX rfl (Or.inl rfl)))))))
theorem Fp:Zq P w t hB 1 62 zS:=okC 62 t λcx nd=>
 (ag (dH ["other"] cx nd (a5 rfl (t.b 1) (ac (cF cx.hK rfl (t.b 0) sv) ah)) bQ (λ_ _ _ _ nd=>⟨sgN nd,bW (Ee cx.comp.hK cx.comp.hu (qU (ac (bj cx.comp sv sv) (ac sv ah))) (qU (ac (bj cx.comp sv sv) (ac sv ah)))),sv⟩))
 (ao (aJ (cF cx.hK rfl (t.b 0) sv))))
omit t hB in
theorem kR:DTy X 6 "measure" ["self","cells"] gW:=λt hB _ _ _ e=>by unfold gW at e;split at e<;>first|exact dm 49 t yA e|cases e
theorem IG:Zq P w t hB 7 63 Gs:=okC 63 t λcx nd=>
 (ag (a6 nd (cW t (gS t hB) cx sv (ac sv ah)))
 (ag (a6 nd (cW t (fX t hB) cx sv (ac sv ah)))
 (ag (dH ["at"] cx nd (a5 rfl (t.b 1) (ac (aS 0 t cx sv) ah)) bQ (λ_ _ _ _ nd=>⟨sgN nd,bW (iT cx.comp.hK cx.comp.hu (bj cx.comp sv sv) (cW t (gw t hB) cx.comp sv (ac sv (ac sv ah)))),sv⟩))
 (ag (dH ["at"] cx nd (bt cx.hK sv) bQ (λ_ _ _ _ nd=>⟨sgN nd,aZ,bD t kN cx.comp (ac ak (ac (bD t Fp cx.comp (ac sv (ac sv ah))) ah))⟩))
 (ao (aJ (aP (c_ (cW t (kR t hB) cx (aS 9 t cx sv) (ac sv ah)) (bD t kN cx (ac ak (ac (aS 0 t cx sv) ah)))) (mH cx.hK cx.calm rfl (t.b 9) sv))))))))
theorem Fg:Zq P w t hB 1 64 zL:=okC 64 t λcx nd=>
 (ag (a6 nd ak)
 (ag (mD cx.po (SW.st (jG (f7 sv (cF cx.hK rfl (t.b 0) sv)) (iy (cu cx.hK cx.hu (bj cx sv sv) (bj cx sv ak))))) (ao (a6 nd (aP sv ak))))
 (ao (cX rfl (Or.inl rfl)))))
theorem Iz:Zq P w t hB 2 65 Gm:=okC 65 t λcx nd=>
 (ag (bz (jV cx.hK cx.hu2 (bj cx sv ak) (g8 cx.hK sv (gJ (bD t Fg cx (ac sv ah))) l6)) (ao (aJ ak)) aT)
 (ag (a6 nd ak)
 (ag (mD cx.po (qL cx.hK cx.hu2 (cq (aP (bj cx sv ak) sv) sv) (g8 cx.hK sv (gJ ak) l6)) (ao (a6 nd (aP sv ak))))
 (ao (cX rfl (Or.inl rfl))))))
theorem IF:Zq P w t hB 7 66 zE:=okC 66 t λcx nd=>
 (ag (dH ["at"] cx nd (bt cx.hK (cW t (bM t hB) cx sv (ac sv ah))) bQ (λ_ _ _ _ nd=>⟨sgN nd,bW (iT cx.comp.hK cx.comp.hu sv ak),cz (aS 0 t cx.comp sv) sv⟩))
 (ao (aJ (aP (c_ (aS 0 t cx sv) (bD t Iz cx (ac sv (ac (aS 7 t cx sv) ah)))) (mH cx.hK cx.calm rfl (t.b 9) sv)))))
omit t hB in
theorem gv:DTy X 7 "measure" ["self","cells"] aN:=λt hB _ _ _ e=>by unfold aN at e;split at e<;>first|exact dm 50 t C6 e|exact dm 51 t C6 e|exact dm 49 t yA e|exact dm 52 t yA e|exact dm 53 t IG e|exact dm 54 t IF e|cases e
theorem Fq:Zq P w t hB 1 67 zT:=okC 67 t λcx nd=>
 (ag (bz (SW.st (jG (dX cx.hK (aS 8 t cx sv)) (iy (lE (cF cx.hK rfl (t.b 0) sv) ak)))) (ao (cQ 4 t cx hB cP (ac br ah))) aT)
 (ag (cj cx.po cx.calm (iV cx.hK sv) (sgN nd) (ao (bz (SW.st (gZ (f7 sv ak) (fU (oE sv (aS 0 t cx sv))))) (ao (cQ 4 t cx hB cP (ac br ah))) aT)))
 (ao (bz (iT cx.hK cx.hu (oJ cx.hK cx.calm rfl (t.b 0) rfl (t.b 8) sv) (cF cx.hK rfl (t.b 0) sv)) (ao (cQ 4 t cx hB cP (ac br ah))) aT))))
theorem kP:Zq P w t hB 6 68 ky:=okC 68 t λcx nd=>
 (ag (iA (bD t Fq cx (ac sv (ac sv ah))))
 (ao (aJ (cr ["at"] cx (a5 rfl (t.b 1) (ac (aS 0 t cx sv) ah)) bQ (λ_ _ _ _ nd=>⟨sgN nd,aZ,mI (qL cx.comp.hK cx.comp.hu2 sv sv) (cW t (dA t hB) cx.comp sv (ac sv (ac sv ah))) (bj cx.comp sv sv)⟩)))))
omit t hB in
theorem gH:DTy X 6 "turned" ["self","cells","named"] cC:=λt hB _ _ _ e=>by unfold cC at e;split at e<;>first|exact dm 55 t kP e|exact dm 56 t kP e|exact dm 57 t kP e|exact dm 58 t kP e|exact dm 59 t kP e|exact dm 60 t kP e|cases e
theorem E7:Zq P w t hB 7 69 zG:=okC 69 t λcx nd=>
 (ag (a6 nd (cW t (gH t hB) cx sv (ac sv (ac sv ah))))
 (ag (dH ["at"] cx nd (bt cx.hK (cW t (bM t hB) cx sv (ac sv ah))) bQ (λ_ _ _ _ nd=>⟨sgN nd,bW (qL cx.comp.hK cx.comp.hu2 sv sv),sv⟩))
 (ao (qM rfl (Or.inl rfl) rfl (Or.inl rfl)))))
theorem yK:Zq P w t hB 8 70 vx:=okC 70 t λcx nd=>
 (ag (a6 nd (cW t (db t hB) cx sv (ac sv ah)))
 (ag (a6 nd (iC ah))
 (c9 (i:=2) (ag (cj cx.po cx.calm (iV cx.hK sv) (sgN nd) (ag (tB cx (HU (bD t E7 cx (ac sv (ac sv (ac sv ah))))))
 (ao (a6 nd (bj cx (bj cx sv (tz ak)) ak)))))
 (ao (cX rfl (Or.inl rfl)))))))
theorem E8:Zq P w t hB 8 71 zH:=okC 71 t λcx nd=>
 (ag (a6 nd (aP (iC (ac (cW t (db t hB) cx sv (ac sv ah)) ah)) (cr ["row"] cx (bt cx.hK sv) bQ (λ_ _ _ _ nd=>⟨sgN nd,aZ,bj cx.comp sv ak⟩))))
 (c9 (i:=3) (ag (cj cx.po cx.calm (xE cx.hK rfl (t.b 3) sv) (jI cx.hK cx.calm (cJ nd rfl (Or.inl rfl) (cJ nd rfl (Or.inl rfl) iB))) (ao (bz (dX cx.hK (cW t (dh t hB) cx sv (ac sv ah))) (ao (cX rfl (Or.inl rfl))) aT)))
 (ao (aJ fV)))))
theorem E6:Zq P w t hB 9 72 zF:=okC 72 t λcx nd=>
 (ag (a6 nd (bD t yB cx (ac sv (ac sv ah))))
 (ag (a6 nd (bD t yK cx (ac sv (ac sv (ac sv ah)))))
 (c9 (i:=5) (ag (a6 nd (bD t E8 cx (ac sv (ac sv (ac sv ah)))))
 (ag (a6 nd (mI (pL sv fV) sv (g8 cx.hK sv l6 (gJ sv))))
 (ag (dH ["at"] cx nd (a5 rfl (t.b 1) (ac (aS 0 t cx sv) ah)) bQ (λ_ _ _ _ nd=>⟨sgN nd,(bW (dX cx.comp.hK (xI cx.comp.hK cx.comp.calm rfl (t.b 11) (cr ["row"] cx.comp (bt cx.comp.hK sv) bQ (λ_ _ _ _ nd=>⟨sgN nd,aZ,uM cx.comp.comp.hK cx.comp.comp.hu2 sv (bj cx.comp.comp sv ak)⟩))))),sv⟩))
 (ao (qM rfl (Or.inl rfl) rfl (Or.inl rfl)))))))))
theorem C8:Zq P w t hB 3 73 Ac:=okC 73 t λcx nd=>
 (ao (aJ (xI cx.hK cx.calm rfl (t.b 11) (cr ["other"] cx (bt cx.hK (cW t (dU t hB) cx sv (ac sv ah))) bQ (λ_ _ _ _ nd=>⟨sgN nd,aZ,bj cx.comp sv sv⟩)))))
omit t hB in
theorem gR:DTy X 3 "hangs_on_some" ["self","at","reached"] bZ:=λt hB _ _ _ e=>by unfold bZ at e;split at e<;>first|exact dm 61 t C8 e|exact dm 62 t C8 e|cases e
theorem C5:Zq P w t hB 4 74 zA:=okC 74 t λcx nd=>
 (ag (a6 nd (cr ["at"] cx (a5 rfl (t.b 1) (ac (aS 0 t cx sv) ah)) bQ (λ_ _ _ _ nd=>⟨sgN nd,aZ,uM cx.comp.hK cx.comp.hu2 sv sv⟩)))
 (ag (cj cx.po cx.calm (cD rfl (t.b 1) (ac (aS 0 t cx sv) ah)) (sgN nd) (ao (a6 nd (cr ["at"] cx (a5 rfl (t.b 1) (ac (aS 0 t cx sv) ah)) bQ (λ_ _ _ _ nd=>⟨sgN nd,aZ,HR (bj cx.comp sv sv) (pQ (cW t (gR t hB) cx.comp sv (ac sv (ac sv ah))))⟩)))))
 (ao (aJ (cr ["at"] cx (a5 rfl (t.b 1) (ac (aS 0 t cx sv) ah)) bQ (λ_ _ _ _ nd=>⟨sgN nd,bW (dX cx.comp.hK (bj cx.comp sv sv)),sv⟩))))))
theorem p6:Zq P w t hB 1 75 nS:=okC 75 t λcx nd=>
 (ao (aJ (oI cx.calm rfl (t.b 2) cH rfl (t.b 1) (ac (aS 0 t cx sv) ah))))
omit t hB in
theorem gQ:DTy X 4 "reach" ["self","spoiled"] aK:=λt hB _ _ _ e=>by unfold aK at e;split at e<;>first|exact dm 63 t C5 e|exact dm 64 t C5 e|exact dm 65 t p6 e|exact dm 66 t p6 e|exact dm 67 t p6 e|exact dm 68 t p6 e|cases e
theorem FH:Zq P w t hB 11 76 Dk:=okC 76 t λcx nd=>
 (ag (a6 nd (bD t E_ cx (ac sv ah)))
 (ag (a6 nd (bE 0 1 cx.hu rfl (λ_ _ _ h=>h) sv))
 (ag (a6 nd (bD t Fb cx (ac sv ah)))
 (ag (a6 nd (bD t IA cx (ac sv (ac sv ah))))
 (ag (a6 nd (bD t Fm cx (ac sv (ac sv ah))))
 (ag (a6 nd (bD t Fk cx (ac sv (ac sv (ac (uM cx.hK cx.hu2 (bE 0 0 cx.hu rfl (λ_ _ _ h=>h) sv) (iC (ac br (ac br (ac br ah))))) ah)))))
 (ag (bz (pK (dX cx.hK (cW t (dh t hB) cx sv (ac (cY cx.hK rfl (t.b 2) cH sv) ah)))) (ao (aJ lH)) aT)
 (ag (a6 nd (bD t yB cx (ac (cY cx.hK rfl (t.b 2) cH sv) (ac (cY cx.hK rfl (t.b 2) cH sv) ah))))
 (ag (a6 nd (cW t (db t hB) cx sv (ac (cY cx.hK rfl (t.b 2) cH sv) ah)))
 (ag (a6 nd (cW t (h_ t hB) cx sv (ac (cF cx.hK rfl (t.b 0) sv) ah)))
 (ag (bz (pK (xu C4 C4 (cW t (gv t hB) cx sv (ac (cY cx.hK rfl (t.b 2) cH sv) ah)) sv (uN t (dg t hB) cx sv))) (ao (aJ lH)) aT)
 (ag (a6 nd (iC (ac (cY cx.hK rfl (t.b 2) cH sv) (ac (cY cx.hK rfl (t.b 2) cH sv) (ac (cr ["_law_turn"] cx (bt cx.hK sv) bQ (λ_ _ _ _ nd=>⟨sgN nd,aZ,cY cx.comp.hK rfl (t.b 2) cH sv⟩)) ah)))))
 (ag (a6 nd (bD t E6 cx (ac sv (ac (bj cx sv ak) (ac (bj cx sv ak) (ac (bj cx sv ak) ah))))))
 (ag (bz (SW.st (gZ (iT cx.hK cx.hu sv (iC (ac sv (ac sv (ac sv ah))))) (gZ (pK (dX cx.hK (Er cx.hK wI rfl (t.b 12) ot rfl (t.b 4) ir sv))) (fU (iT cx.hK cx.hu (cF cx.hK rfl (t.b 0) sv) ak))))) (ao (aJ lH)) aT)
 (ag (a6 nd (iC ah))
 (ag (a6 nd fV)
 (ag (a6 nd (bD t yK cx (ac sv (ac (cY cx.hK rfl (t.b 2) cH sv) (ac (cr ["_law_turn"] cx (bt cx.hK sv) bQ (λ_ _ _ _ nd=>⟨sgN nd,aZ,cY cx.comp.hK rfl (t.b 2) cH sv⟩)) ah)))))
 (c9 (i:=14) (ag (cj cx.po cx.calm (cD rfl (t.b 1) (ac (aP (cF cx.hK rfl (t.b 0) sv) ak) ah)) (sgN nd) (ag (bz (SW.st (jG (pL sv fV) (iy (dX cx.hK (cW t (dh t hB) cx sv (ac (cY cx.hK rfl (t.b 2) cH sv) ah)))))) (ao (a6 nd sv)) aT)
 (ao (bz (f7 sv (cF cx.hK rfl (t.b 0) sv)) (ag (bz (pL sv fV) (ao (a6 nd (aP sv (cr ["_law_at"] cx (bt cx.hK (bj cx (bj cx sv sv) ak)) bQ (λ_ _ _ _ nd=>⟨sgN nd,bW (jV cx.comp.hK cx.comp.hu2 sv sv),sv⟩))))) aT)
 (ao (a6 nd (bj cx (bj cx sv sv) ak)))) aT))))
 (ag (a6 nd (cW t (gQ t hB) cx sv (ac (cr ["_law_fault"] cx (bt cx.hK sv) bQ (λ_ _ _ _ nd=>⟨sgN nd,aZ,bj cx.comp sv ak⟩)) ah)))
 (ag (bz (pK (dX cx.hK (Eu cx.hK cx.calm rfl (t.b 13) (cr ["_law_at"] cx (bt cx.hK sv) bQ (λ_ _ _ _ nd=>⟨sgN nd,aZ,uM cx.comp.hK cx.comp.hu2 sv sv⟩))))) (ao (aJ lH)) aT)
 (ag (bz (pL sv fV) (ao (aJ (pT (qT cx.hK cx.hu (bj cx sv ak) (g7 cx.hK rfl (t.b 7) sv)) (pQ (Es (bj cx sv ak) fV))))) aT)
 (ao (aJ (pT (qT cx.hK cx.hu (bj cx sv ak) (g7 cx.hK rfl (t.b 7) sv)) (pT (Be (bj cx sv ak) fV) (pQ (qT cx.hK cx.hu (bj cx sv ak) sv))))))))))))))))))))))))))))
end
end
section
variable{n i r k j cc p t T:Nat}{cs c0 l hs rs F ms:Lq}{ps ws:Ln}{f fc fl:Fl}{os:List (Lx)}{b sp a st x tp c v at_:Int}{o:PV}{al ip:Bool}{P:Lq->Bool}{g:Fl->Fl}{D:Lq->Nat->Int}{tns:List (Lq)}{w:List (Lq×Lq)}
abbrev LQ(l:List Int):=PV.lst .own (iL l)
abbrev LR(f:Fl)(l:List Int):=PV.lst f (iL l)
abbrev LS(n:Int):=some (PV.int n)
abbrev LU(l:List Int):=some (PV.lst .own (iL l))
abbrev LV(f:Fl)(l:List Int):=some (PV.lst f (iL l))
theorem tH(n k:Int)(h1:k<=n)(h2:n<=10):zU [.int n,.int k]=.ok .non:=by refine oM (e:=[LS n,LS k]) ?_;show DP [LS n,LS k]=_;exact b8 (by simp;rw[if_neg (),decide_eq_false ()]) aE
theorem tR(g:G8 n ws)(hf:fl.LD=fl)(hl:fl.LJ=false):zY [.int n,.lst fl (prL ws)]=.ok (.lst .own (prL (bw (ws.map mm)))):=by
 refine az ?_;show DS [LS n,some (.lst fl (prL ws)),none,none,none]=_;refine af (av (v:=.lst .own []) ()) ?_;refine f9 (λk e=>∃c d,e=[LS n,some (.lst fl (prL ws)),some (.lst .own (prL ((ws.take k).map mm))),c,d]) (xs:=prL ws) (fJ (by simp[hf]) hl () ()) ⟨_,_,rfl⟩ (λk x e hx hP=>?_) (λe hP=>?_)
 .obtain⟨c,d,rfl⟩:=hP;rw[prL_get]at hx;obtain⟨w,hw,rfl⟩:∃w,ws[k]?=some w/\x=prV w:=by
   cases e:ws[k]? with
   |none=>rw[e]at hx;cases hx
   |some w=>rw[e]at hx;cases hx;exact⟨w,rfl,rfl⟩
  have hk:k<ws.length:=(List.getElem?_eq_some_iff.mp hw).1;obtain⟨r1,r2,r3,r4,r5⟩:=g.rg w (List.mem_of_getElem? hw);have hn:((ws.take k).map mm).contains (mm w)=false:=by
   rw[Bool.eq_false_iff];intro z;have z':mm w ∈(ws.take k).map mm:=by simpa using z
   have nd:=g.nd;rw[<- List.take_append_drop k ws,map_append,nodup_append]at nd;refine nd.2.2 _ z' (mm w) (List.mem_map_of_mem ?_) rfl;rw[List.drop_eq_getElem_cons hk];obtain⟨_,e⟩:=List.getElem?_eq_some_iff.mp hw;rw[e];exact mem_cons_self
  have hn':mm w ∉(ws.map mm).take k:=by simp_all
  have ht:(ws.take (k+1)).map mm=(ws.take k).map mm++[mm w]:=by rw[take_add_one,hw];simp
  have hz:=g.sz;refine⟨_,cE rfl,bP (av (v:=prV (mm w)) (by simp[p1,sR,mm])) ?_⟩;refine bP (b8 (by simp[mm];rw[if_neg (),decide_eq_false ()]) aE) ?_;refine bP (b8 (by simp[mm];lia) aE) ?_;refine bP (b8 (by simp[hn']) aE) ?_;refine bC (fD (v:=prV (mm w)) () rfl () (by simp;lia)) ⟨some (prV w),some (prV (mm w)),?_⟩;rw[ht,<- BG];rfl
 .obtain⟨c,d,rfl⟩:=hP;refine a9 ?_ ();have e:ws.take (prL ws).length=ws:=by simp
  simp[p1,sX (by simpa using g.sz) g.nd]
theorem lD(a:Int):∀(ps:Ln),(∀x∈ps,x.1≠x.2)->(ps.filter λx=>decide (x.2=a)).length+(ps.filter λx=>decide (x.1=a)).length<=ps.length
 | [],_=>Nat.le_refl _
 |x::ps,h=>by
  have:=lD a ps λy hy=>h y (mem_cons_of_mem _ hy);have hx:=h x mem_cons_self;by_cases h1:x.2=a
  .have h2:x.1≠a:=λz=>hx (z.trans h1.symm);simp[h1,h2];lia
  .by_cases h2:x.1=a
   .simp[h1,h2];lia
   .simp[h1,h2];lia
theorem yP(ps:Ln)(a:Int)(h:ps.length<64)(hne:∀x∈ps,x.1≠x.2):vm [.tup (prL ps),.int a]=.ok (LQ (nbL ps a)):=by
 refine az ?_;show DI [some (.tup (prL ps)),LS a,none,none]=_;refine af (av (v:=LQ ((ps.filter λx=>decide (x.2=a)).map (·.1))) ?_) ?_
 .refine aF (xs:=prL ps) () (by simp;lia) ?_;unfold iL prL;rw[map_map];exact b_ ps λx _=>⟨[LS a,some (prV x)],by simp[tgN,aH,bF],by simp,λ_=>⟨by simp,rfl,rfl⟩⟩
 refine af (av (v:=.lst .own (iL ((ps.filter λx=>decide (x.1=a)).map (·.2)))) ?_) ?_
 .refine aF (xs:=prL ps) () (by simp;lia) ?_;rw[show iL ((ps.filter λx=>decide (x.1=a)).map (·.2))=(ps.filter λx=>decide (x.1=a)).map (PV.int ∘ Prod.snd)from map_map ..];exact b_ ps λx _=>⟨[LS a,some (prV x)],by simp[tgN,aH,bF],by simp,λ_=>⟨by simp,rfl,rfl⟩⟩
 refine a9 ?_ ();have h1:=lD a ps hne;simp;rw[dY () () (by simp;lia)];simp;rw[kH _ (by simp;lia)];rfl
abbrev net(fl:Fl)(n:Nat)(ps:Ln):PV:=.obj fl 8 [0,1,2] [.int n,.tup (prL ps),.tup ((range n).map λk:Nat=>.tup (iL (nbL ps k)))]
@[simp] def JU{p:Fl->Bool}:hasL p ((range n).map λk:Nat=>PV.tup (iL (nbL ps k)))=false:=by
 induction range n with
 |nil=>rfl
 |cons a l ih=>simp[hasL,PV.has,ih]
@[simp] def JT:mapL g ((range n).map λk:Nat=>PV.tup (iL (nbL ps k)))=(range n).map λk:Nat=>PV.tup (iL (nbL ps k)):=by
 induction range n with
 |nil=>rfl
 |cons a l ih=>simp[mapL,PV.LM,ih]
def w6(hk:k<n):vk [net .bor n ps,.int k]=.ok (LQ (nbL ps k)):=by
 refine az ?_;show AC [some (net .bor n ps),LS k]=_;refine a9 ?_ ();have e:aB (.tup ((range n).map λk:Nat=>PV.tup (iL (nbL ps k)))) (.int k)=.ok (.tup (iL (nbL ps k))):=by
  have hk':((range n).map λk:Nat=>PV.tup (iL (nbL ps k)))[k]?=some (.tup (iL (nbL ps k))):=by simp[hk]
  exact eA rfl hk' ()
 simp[au,bI,p1,da,e,a_]
def gj(ps:Ln)(i j:Nat):Prop:=((i:Int),(j:Int))∈ ps \/((j:Int),(i:Int))∈ ps
theorem zy(hr:r<n)(hn:n<=10)(g:∀x∈ps,0<=x.1/\x.1<n/\0<=x.2/\x.2<n) :
  ∃far,vj [net .bor n ps,.int r]=.ok (LQ far)/\ow n r (gj ps) far:=by
 have a0:au 0 (net .bor n ps)=.ok (.int n):=by simp[au,bI]
 have end_:∀e:En,(∃far a b c,e=[some (net .bor n ps),LS r,LU far,a,b,c]/\Far n r (gj ps) n 0 (λ_=>False) far)->∃far,dI 2 e=.ret (LQ far)/\ow n r (gj ps) far:=λe ⟨far,a,b,c,he,F⟩=>⟨far,by subst he;exact d_ rfl,F.dist⟩
 let P:Nat->En->Prop:=λs e=>∃far a b c,e=[some (net .bor n ps),LS r,LU far,a,b,c]/\Far n r (gj ps) s 0 (λ_=>False) far
 have loop:∃e2,dq (bH (ae (mUn (au 0) (aa 0)) am)) (tgN 3)
   (dq (bH (ae (mUn (au 0) (aa 0)) am)) (tgN 4)
   (mBr (aA (mOp pEq (mOp aB (aa 2) (aa 4)) (aa 3)))
   (dq (gK (bY b9 (aa 0) (ae (aa 4) am))) (tgN 5)
   (fq 2 (aa 5) (aq (dN min) (ae (mOp aB (aa 2) (aa 5)) (ae (mOp aO (aa 3) (LP 1)) am)))))
   ba)) [some (net .bor n ps),LS r,LU (((range n).map λ_=>(n:Int)).set r 0),none,none,none]=.next e2/\P (fe 0 n).length e2:=by
  refine kr P (bp (by simp[a0]) ()) ⟨_,_,_,_,rfl,Far.start hr (λi hi=>?_) ()⟩ (λs x e hx hP=>?_)
  .rw[gD _ (by simpa using hr)];simp[gt,hi]
  .obtain⟨far,a,b,c,rfl,F⟩:=hP;obtain⟨hs,rfl⟩:=dD hx
   suffices kE _ _ by obtain⟨e2,h1,h2⟩:=this;exact⟨_,e2,cE rfl,h1,h2⟩
   refine im (λk e=>∃far b c,e=[some (net .bor n ps),LS r,LU far,LS (0+(s:Int)),b,c]/\Far n r (gj ps) s k (λ_=>False) far) (bp (n:=n) (by simp[a0]) ()) ⟨_,_,_,rfl,F⟩ (λk x e hx hP=>?_) (λe hP=>?_)
   .obtain⟨far,b,c,rfl,F⟩:=hP;obtain⟨hk,rfl⟩:=dD hx;have ix:∀ (f:Fl) (i:Nat),i < n->aB (LR f far) (.int i)=.ok (.int (gt far i)):=λf i hi=>jd _ () (by
     have:i<far.length:=by rw[F.len];exact hi
     simp[gt,this])
    refine⟨_,cE rfl,?_⟩;by_cases hv:gt far k=s
    .refine lq (by simp[ix _ k hk,hv]) ?_;have nbs:∀o∈nbL ps k,∃j:Nat,o=j/\j<n/\gj ps j k:=λo ho=>by
      rcases gx.mp ho with q|q
      .have:=g _ q;exact⟨o.toNat,by lia,by lia,.inl (by rw[show((o.toNat:Nat):Int)=o by lia];exact q)⟩
      .have:=g _ q;exact⟨o.toNat,by lia,by lia,.inr (by rw[show((o.toNat:Nat):Int)=o by lia];exact q)⟩
     refine im (λq e=>∃far c,e=[some (net .bor n ps),LS r,LU far,LS (0+(s:Int)),LS (0+(k:Int)),c]/\Far n r (gj ps) s k (λj=>(j:Int)∈(nbL ps k).take q) far/\gt far k=s) (xs:=iL (nbL ps k)) ?_ ⟨far,_,rfl,F.none (),hv⟩ (λq x e hx hP=>?_) (λe hP=>?_)
     .have bk:=w6 (ps:=ps) hk;refine fJ (f:=.own) ?_ rfl () ();simp[b9,bk,aD]
     .obtain⟨far,c,rfl,F,hv⟩:=hP;rw[zh]at hx;obtain⟨o,ho,rfl⟩:∃o,(nbL ps k)[q]?=some o/\x=.int o:=by
       cases e:(nbL ps k)[q]? with
       |none=>rw[e]at hx;cases hx
       |some w=>rw[e]at hx;cases hx;exact⟨w,rfl,rfl⟩
      obtain⟨j,rfl,hj,aj⟩:=nbs o (List.mem_of_getElem? ho);have ix:∀ (f:Fl) (i:Nat),i < n->aB (LR f far) (.int i)=.ok (.int (gt far i)):=λf i hi=>jd _ () (by
       have:i<far.length:=by rw[F.len];exact hi
       simp[gt,this])
      obtain⟨F',hv'⟩:=F.relax hk hv hj aj hs;refine⟨_,cE rfl,bC (fI (v:=.int (min (gt far j) ((s:Int)+1))) (n:=j) (by simp[ix _ j hj,dN]) rfl () (gd (by rw[aX,F.len];exact hj)) ()) ⟨_,LS j,?_,?_,hv'⟩⟩
      .rw[km];rfl
      .have e:∀i:Nat,((i:Int)∈(nbL ps k).take (q+1))=((i:Int)∈(nbL ps k).take q\/i=j):=λi=>by rw[take_add_one,ho];simp;exact or_congr_right ⟨λh=>by lia,λh=>by lia⟩
       simp only[e];exact F'
     .obtain⟨far,c,rfl,F,hv⟩:=hP;refine⟨far,_,_,rfl,F.close λj hj a=>?_⟩;rw[aX,take_length];exact gx.mpr (a.elim .inr .inl)
    .refine lr (by simp[ix _ k hk,hv]) (bC aE ⟨far,_,_,rfl,F.skip hv⟩)
   .obtain⟨far,b,c,rfl,F⟩:=hP;rw[aQ]at F;exact⟨far,_,_,_,rfl,F.next⟩
 obtain⟨e2,h1,h2⟩:=loop;rw[aQ]at h2;obtain⟨far,h3,h4⟩:=end_ e2 h2;refine⟨far,az ?_,h4⟩;show Dw [some (net .bor n ps),LS r,none,none,none,none]=_;refine af (av (v:=.lst .own (iL ((range n).map λ_=>(n:Int)))) ?_) ?_
 .refine aF (bp (n:=n) (by simp[a0]) ()) (by rw[aQ];lia) ?_;rw[show iL ((range n).map λ_=>(n:Int))=(range n).map (λ_=>PV.int n)from by simp[iL]];exact bv (range n) λk _=>⟨[some (net .bor n ps),LS (0+k)],by simp[tgN,aH,bF],by simp[a0],rfl,rfl⟩
 refine af (fI (v:=.int 0) (n:=r) () rfl () (gd (by simpa using hr)) ()) ?_;rw[km];exact af h1 h3
def FT{far:Lq}(h:far≠[])(hb:∀x∈far,x<b):ef far<b:=hb _ (ke h).1
theorem Ci(g:G8 n ws)(h1:1<=n)(hn:n<=10)(hf:fl.LD.LF=.bor\/fl.LD.LF=.frz)(conn:∀S:Nat->Prop,S 0->(∀i<n,∀j<n,gj (bw (ws.map mm)) i j->S i->S j)->∀i<n,S i) :
  zI [.obj .own 8 [] [],.int n,.lst fl (prL ws)]=.ok (net .own n (bw (ws.map mm))):=by
 have hfl:fl.LD.LF.LD=fl.LD.LF:=by rcases hf with e|e<;>rw[e]<;>rfl
 have hfi:fl.LD.LF.LJ=false:=by rcases hf with e|e<;>rw[e]<;>rfl
 have o1:=tR g hfl hfi;have rg:∀x∈bw (ws.map mm),0<=x.1/\x.1<n/\0<=x.2/\x.2<n/\x.1≠x.2:=λx hx=>by
  obtain⟨w,hw,rfl⟩:=mem_map.mp ((b5 _).mem_iff.mp hx);have:=g.rg w hw;simp only[mm]
  lia
 have sz:(bw (ws.map mm)).length<64:=by rw[(b5 _).length_eq,length_map];exact g.sz
 generalize hps:bw (ws.map mm)=ps at *;have nb:∀k:Nat,vm [.tup (prL ps),.int k]=.ok (LQ (nbL ps k)):=λk=>yP ps k sz λx hx=>(rg x hx).2.2.2.2;obtain⟨far,e1,D⟩:=zy (r:=0) () hn λx hx=>⟨(rg x hx).1,(rg x hx).2.1,(rg x hx).2.2.1,(rg x hx).2.2.2.1⟩
 have hall:=D.all () conn;have hne:far≠[]:=λz=>by have:=D.len;rw[z]at this;simp at this;lia
 have hmx:ef far<n:=FT hne λx hx=>by obtain⟨i,hi,rfl⟩:=getElem_of_mem hx;have:=hall i (by rw[<- D.len];exact hi);simpa[gt,hi]using this
 refine dz (e:=[some (net .own n ps),LS n,some (.lst fl (prL ws))]) ?_ rfl;show Du [some (.obj .own 8 [] []),LS n,some (.lst fl (prL ws))]=_;have rf:=tH n 1 () ();refine af (iN (v:=.non) (by simp[rf,aD])) ?_;refine af (b7 (v:=.int n) () rfl () rfl ()) ?_;refine af (b7 (v:=.tup (prL ps)) ?_ rfl () rfl ()) ?_
 .simp[o1,aD,p1,fh,a_]
 refine af (b7 (v:=.tup ((range n).map λk:Nat=>.tup (iL (nbL ps k)))) ?_ rfl () rfl ()) ?_
 .simp;rw [aF (bp () ()) (by rw [aQ];lia)
   (bv (f:=λk:Nat=>.tup (iL (nbL ps k))) (range n) λk _=>⟨[some (.obj .bor 8 [0,1] [.int n,.tup (prL ps)]),LS (0+k)],by simp[tgN,aH,bF],by simp[au,bI,nb,aD,p1,fh,a_],by simp,by simp⟩)]
  simp[p1,fh,a_]
 refine b8 ?_ aE;have hi:far.isEmpty=false:=by cases far with|nil=>exact absurd rfl hne|cons a l=>rfl
 have e2:vj [net .bor n ps,.int 0]=.ok (LQ far):=e1;simp[e2,aD,p1,eF,a_,hi]
 lia
def cell(ns:Lq)(k:Nat):Int:=ns.getD k 0
def qo(ns:Lq)(k:Nat)(h:Scr fl):d4 [LR fl ns,.int k]=.ok (.int (cell ns k)):=by
 refine az ?_;show AE [LV fl ns,LS k]=_;unfold AE cell;by_cases hk:k<ns.length
 .refine dy (gh (by simp[h.LD,hk]) (a9 ?_));simp;rw[jd ns () (n:=ns.getD k 0) (by simp[hk])];simp
 .refine af (b8 (by simp[h.LD,hk]) aE) (a9 (by simp[List.getElem?_eq_none (Nat.le_of_not_lt hk)]))
theorem vH{m:Nat}(Wh:gE n m ws)(hr:r<n)(S:Nat->Prop)(h0:S r)(hc:∀i<n,∀j<n,gj (bw (ws.map mm)) i j->S i->S j):∀i<n,S i:=λi hi=>by
 have:=Wh.cn (λx=>S x.toNat) (λw hw=>?_) r i hr hi (by simpa using h0)
 .simpa using this
 .have rg:=Wh.rg w hw;have hm:mm w∈bw (ws.map mm):=(b5 _).mem_iff.mpr (List.mem_map_of_mem hw);have e1:((w.1.toNat:Nat):Int)=w.1:=by lia
  have e2:((w.2.toNat:Nat):Int)=w.2:=by lia
  have ad:gj (bw (ws.map mm)) w.1.toNat w.2.toNat:=by
   unfold gj;rw[e1,e2];rcases Int.le_total w.1 w.2 with h|h
   .left;rw[show(w.1,w.2)=mm w by simp only[mm,Prod.mk.injEq];lia];exact hm
   .right;rw[show(w.2,w.1)=mm w by simp only[mm,Prod.mk.injEq];lia];exact hm
  exact⟨hc _ () _ () ad,hc _ () _ () (ad.elim .inr .inl)⟩
def fnd(ws:Ln)(a:Int):Lq:=ws.flatMap λw=>(if w.1=a then [w.2]else [])++(if w.2=a then [w.1]else [])
noncomputable def oV:Lx->PV
 |none=>.non
 |some s=>.int s
def oL(os:List (Lx)):LB:=os.map oV
@[simp] def KC(os:List (Lx)):(oL os).length=os.length:=by simp[oL]
@[simp] def KD{p:Fl->Bool}:hasL p (oL os)=false:=by
 induction os with
 |nil=>rfl
 |cons o os ih=>cases o<;>simpa[oL,oV,hasL,PV.has]using ih
@[simp] def KB:mapL g (oL os)=oL os:=by
 induction os with
 |nil=>rfl
 |cons o os ih=>cases o<;>simpa[oL,oV,mapL,PV.LM]using ih
@[simp] def KF:PyData.canLayAll0 (dataL (oL os))=true:=by
 induction os with
 |nil=>rfl
 |cons o os ih=>cases o <;>(simp only[oL,map_cons,oV,dataL,PV.data,PyData.canLayAll0]at ih ⊢;rw[ih];rfl)
@[simp] def KE:PyData.depthAll (dataL (oL os))=0:=by
 induction os with
 |nil=>rfl
 |cons o os ih=>cases o <;>(simp only[oL,map_cons,oV,dataL,PV.data,PyData.depthAll]at ih ⊢;rw[ih];rfl)
def OkS(tp:Int)(os:List (Lx)):Prop:=∀s,some s∈os->0<=s/\s<tp
abbrev Rgs(ps:Ln)(n:Nat):Prop:=∀x∈ps,0<=x.1/\x.1<n/\0<=x.2/\x.2<n/\x.1≠x.2
abbrev Hnb(ps:Ln)(n:Nat):Prop:=∀i:Nat,∀x∈nbL ps i,0<=x/\x<n
def Fc(f:Fl):Prop:=f=.bor\/f=.frz
def Fc.le(h:Fc f):f.LD=f:=by rcases h with rfl|rfl<;>rfl
def Fc.tb(h:Fc f):f.LF=f:=by rcases h with rfl|rfl<;>rfl
def Fc.bo(h:Fc f):f.LH=f:=by rcases h with rfl|rfl<;>rfl
def Fc.nl(h:Fc f):f.LJ=false:=by rcases h with rfl|rfl<;>rfl
def Fc.of(h:Fc f\/f=.own):Fc f.LH:=by
 rcases h with(rfl|rfl)|rfl
 .exact .inl rfl
 .exact .inr rfl
 .exact .inl rfl
def jQ(hk:k<n):vk [net .frz n ps,.int k]=.ok (LQ (nbL ps k)):=by
 refine az ?_;show AC [some (net .frz n ps),LS k]=_;refine a9 ?_ ();have e:aB (.tup ((range n).map λk:Nat=>PV.tup (iL (nbL ps k)))) (.int k)=.ok (.tup (iL (nbL ps k))):=by
  have hk':((range n).map λk:Nat=>PV.tup (iL (nbL ps k)))[k]?=some (.tup (iL (nbL ps k))):=by simp[hk]
  exact eA rfl hk' ()
 simp[au,bI,p1,da,e,a_]
abbrev pnt(fl:Fl)(n:Nat)(ps:Ln):PV:=.obj fl 2 [4,0,7,8] [net .frz n ps,.int n,.int n,.bl false]
def v4:jC [.obj .own 2 [4] [net .frz n ps],.int n,.int n,.bl false]=.ok (pnt .own n ps):=by refine dz (e:=[some (pnt .own n ps),LS n,LS n,some (.bl false)]) ?_ rfl;show AA [some (.obj .own 2 [4] [net .frz n ps]),LS n,LS n,some (.bl false)]=_;refine af (b7 (v:=.int n) () rfl () rfl ()) ?_;refine af (b7 (v:=.int n) () rfl () rfl ()) ?_;exact b7 (ks:=[4,0,7]) (vs:=[net .frz n ps,.int n,.int n]) () rfl () rfl ()
def wX:sd [.obj .own 2 [4] [net .frz n ps],.int n,.int n]=.ok (pnt .own n ps):=by refine dz (e:=[some (pnt .own n ps),LS n,LS n]) ?_ rfl;exact iz (xs:=[.int n,.int n,.bl false]) rfl () () (by simpa using v4) (by simp[PV.has])
def wj:Gk [.obj .own 2 [] [],net .frz n ps]=.ok (pnt .own n ps):=by refine dz (e:=[some (pnt .own n ps),some (net .frz n ps)]) ?_ rfl;show Jr [some (.obj .own 2 [] []),some (net .frz n ps)]=_;refine af (dw rfl) ?_;refine af (b7 (v:=net .frz n ps) () rfl (by simp[PV.has]) rfl ()) ?_;have:=iz (env:=[some (.obj .own 2 [4] [net .frz n ps]),some (net .frz n ps)]) (ms:=ae (mUn (au 0) (aa 1)) (ae (mUn (au 0) (aa 1)) am)) (xs:=[.int n,.int n]) rfl (by simp[au,bI]) () (by simpa using wX) (by simp[PV.has]);simpa[PV.LM]using this
def kY(ps:Ln)(i:Nat):Lq:=(nbL ps i).filter λx=>decide (x <(i:Int))
theorem rV(hi:i<n)(hl:(nbL ps i).length<=1000):Gu [pnt .frz n ps,.int i]=.ok (LQ (kY ps i)):=by
 refine az ?_;show JA [some (pnt .frz n ps),LS i]=_;have be:=jQ (ps:=ps) hi;refine a9 ?_ ();have:=dO (env:=bF [1] 1 [some (pnt .frz n ps),LS i]) (g:=tgN 1) (mc:=aA (mOp pLt (aa 1) (aa 0))) (me:=aa 1) (λx=>decide (x <(i:Int))) (λx=>x) (nbL ps i) λx hx=>⟨[LS i,LS x],by simp[tgN,aH,bF],by simp,λ_=>by simp⟩
 rw[map_id']at this;exact aF (by simp[au,bI,b9,be,aD]) (by rw[aX];lia) this
def kT(l:Lq):Nat:=((range (l.length+1)).find? λj:Nat=>!l.contains (j:Int)).getD 0
theorem nv(l:Lq):((kT l:Nat):Int)∉ l/\∀j,j<kT l->(j:Int)∈ l:=by
 have ex:∃j,j<l.length+1/\(j:Int)∉ l:=by
  apply Classical.byContradiction;intro no;have h:=oT (l':=l) (Pairwise.map _ (λa b h e=>h ()) nodup_range) λx hx=>by obtain⟨k,hk,rfl⟩:=mem_map.mp hx;exact Classical.byContradiction λz=>no ⟨k,mem_range.mp hk,z⟩
  simp at h
  lia
 unfold kT;cases e:(range (l.length+1)).find? λj:Nat=>!l.contains (j:Int)with
 |none=>exfalso;obtain⟨j,h1,h2⟩:=ex;have:=List.find?_eq_none.mp e j (mem_range.mpr h1);simp at this;exact h2 this
 |some m=>have h1:=List.find?_some e;refine⟨by simpa using h1,λj hj=>?_⟩;have h2:=(List.find?_range_eq_some.mp e).2.2 j hj;simpa using h2
def yY{L':Lq}(h:∀x∈l,x∈L'):kT l<=L'.length:=by
 have:=oT (l':=L') (Pairwise.map _ (λa b h e=>h ()) nodup_range) λx hx=>by obtain⟨k,hk,rfl⟩:=mem_map.mp hx;exact h _ ((nv l).2 k (mem_range.mp hk))
 simpa using this
def lw(ps:Ln)(cs:Lq)(i:Nat):Int:=kT ((kY ps i).map λo=>gt cs o.toNat)
def p_(rg:Rgs ps n){o:Int}(h:o∈kY ps i):0<=o/\o<n/\o<i/\((o,(i:Int))∈ ps \/((i:Int),o)∈ ps):=by
 obtain⟨h1,h2⟩:=mem_filter.mp h;have h3:=gx.mp h1;simp at h2;rcases h3 with z|z
 .have:=rg _ z;exact⟨this.1,this.2.1,h2,.inl z⟩
 .have:=rg _ z;exact⟨this.2.2.1,this.2.2.2.1,h2,.inr z⟩
theorem vA(rg:Rgs ps n)(hi:i<n):0<=lw ps cs i/\lw ps cs i<n:=by
 unfold lw;have:=yY (l:=(kY ps i).map λo=>gt cs o.toNat) (L':=(range i).map λk=>gt cs k) λx hx=>by obtain⟨o,ho,rfl⟩:=mem_map.mp hx;have:=p_ rg ho;exact mem_map.mpr ⟨o.toNat,mem_range.mpr (),rfl⟩
 simp at this
 lia
theorem AY(rg:Rgs ps n)(hfc:Fc fc)(hl:∀i,(nbL ps i).length<=1000)(hn:cs.length=n)(hi:i<n):z8 [pnt .frz n ps,LR fc cs,.int i]=.ok (.int (lw ps cs i)):=by
 refine az ?_;show AJ [some (pnt .frz n ps),LV fc cs,LS i,none,none]=_;unfold AJ lw;have ha:=rV hi (hl i);have ll:(kY ps i).length<=1000:=Nat.le_trans (length_filter_le _ _) (hl i);refine af (av (v:=LQ ((kY ps i).map λo=>gt cs o.toNat)) ?_) ?_
 .refine aF (by simp[bu,ha,aD]) (by rw[aX];lia) (fC (λo=>gt cs o.toNat) (kY ps i) λo ho=>⟨[LV fc cs,LS o],by simp[tgN,aH,bF,hfc.bo],?_⟩);have:=p_ rg ho;simp[hfc.le,bX (cs:=cs) this.1 ()]
 have tkl:((kY ps i).map λo=>gt cs o.toNat).length<=1000:=by rw[length_map];exact ll
 generalize(kY ps i).map (λo=>gt cs o.toNat)=tk at *;obtain⟨m1,m2⟩:=nv tk;refine af (av (v:=.int 0) ()) ?_;have mb:kT tk<100000:=by
  have:=yY (L':=tk) λx hx=>hx
  lia
 refine vV (Fin:=λe=>e=[some (pnt .frz n ps),LV fc cs,LS i,LU tk,LS (kT tk)]) (λm e=>∃c:Nat,e=[some (pnt .frz n ps),LV fc cs,LS i,LU tk,LS c]/\m=kT tk-c/\c<=kT tk) (kT tk) mb ⟨0,rfl,by lia,by lia⟩ (λm e hP=>?_) λe hF=>?_
 .obtain⟨c,rfl,rfl,hc⟩:=hP;by_cases q:c=kT tk
  .subst q;exact .inl ⟨by simp;exact m1,rfl⟩
  .have:=m2 c ();exact .inr ⟨by simp;exact this,kT tk-(c+1),[some (pnt .frz n ps),LV fc cs,LS i,LU tk,LS (c+1:Nat)],by lia,.inl (av ()),c+1,rfl,rfl,by lia⟩
 .subst hF;exact d_ rfl
abbrev lea(fl:Fl)(c:Nat)(n:Nat)(ps:Ln)(os:List (Lx))(st tp:Int):PV:=.obj fl c [3,4,5,6,0,7,8] [.int tp,net .frz n ps,.tup (oL os),.int st,.int n,.int (tp+1),.bl true]
theorem uY(h1:1<=x)(h2:x<=10):vn [.int x]=.ok .non:=by refine g_ ⟨[LS x],?_⟩;show DO [LS x]=_;exact b8 (by simp[show ¬x<1 by lia,show ¬10<x by lia]) aE
theorem tD{gf:Fl}(hg:gf=.bor\/gf=.frz)(hf:f=.bor\/f=.frz)(hn:os.length=n)(ho:OkS tp os):zZ [net gf n ps,.lst f (oL os),.int tp]=.ok .non:=by
 have hf1:f.LD=f:=by rcases hf with rfl|rfl<;>rfl
 have hf2:f.LJ=false:=by rcases hf with rfl|rfl<;>rfl
 have hg1:gf.LD=gf:=by rcases hg with rfl|rfl<;>rfl
 refine g_ ?_;refine jf (b8 (by simp[hf1,p1,a_,au,bI,hn]) aE) ?_;refine l_ (λ_ e=>∃x,e=[some (net gf n ps),some (.lst f (oL os)),LS tp,x]) (λr=>∃e,r=.next e) (xs:=oL os) (fJ (by simp[hf1]) hf2 () ()) ⟨_,rfl⟩ (λk x e hx hP=>?_) (λe hP=>⟨e,rfl⟩);obtain⟨y,rfl⟩:=hP;simp only[oL,getElem?_map]at hx;obtain⟨o,ho1,rfl⟩:=map_eq_some_iff.mp hx;refine⟨_,cE rfl,.inl ⟨_,.inl (b8 ?_ aE),_,rfl⟩⟩;cases o with
 |none=>simp[oV,h8,PV.isNon]
 |some s=>have:=ho s (List.mem_of_getElem? ho1);simp[oV,h8,show ¬s<0 by lia,show ¬tp<=s by lia]
def v5:jC [.obj .own cc [3,4,5,6] [.int tp,net .frz n ps,.tup (oL os),.int st],.int n,.int (tp+1),.bl true]=.ok (lea .own cc n ps os st tp):=by refine dz (e:=[some (lea .own cc n ps os st tp),LS n,LS (tp+1),some (.bl true)]) ?_ rfl;refine af (b7 (v:=.int n) () rfl () rfl ()) ?_;refine af (b7 (v:=.int (tp+1)) () rfl () rfl ()) ?_;exact b7 (ks:=[3,4,5,6,0,7]) (vs:=[.int tp,net .frz n ps,.tup (oL os),.int st,.int n,.int (tp+1)]) () rfl () rfl ()
theorem rP{bk:Int}(hf:f.LD.LF=.bor\/f.LD.LF=.frz)(h1:1<=st)(h2:st<=10)(h3:1<=bk)(h4:bk<=10)(hn:os.length=n)(ho:OkS (st*bk) os):vw [.obj .own cc [] [],net .frz n ps,.lst f (oL os),.int st,.int bk]=.ok (lea .own cc n ps os st (st*bk)):=by refine dz (e:=[some (lea .own cc n ps os st (st*bk)),some (net .frz n ps),some (.lst f (oL os)),LS st,LS bk]) ?_ rfl;show DZ [some (.obj .own cc [] []),some (net .frz n ps),some (.lst f (oL os)),LS st,LS bk]=_;have r1:=uY h1 h2;have r2:=uY h3 h4;have r3:=tD (ps:=ps) (.inr rfl) hf hn ho;have mu:cK (.int st) (.int bk)=.ok (.int (st*bk)):=dF (.inl ⟨by lia,by lia⟩);generalize st*bk=tp at *;refine af (iN (v:=.non) (by simp[r1,aD])) ?_;refine af (iN (v:=.non) (by simp[r2,aD])) ?_;refine af (b7 (v:=.int tp) (by simp[mu]) rfl () rfl ()) ?_;refine af (iN (v:=.non) (by simp[au,bI,r3,aD])) ?_;refine af (dw rfl) ?_;refine af (b7 (v:=net .frz n ps) () rfl (by simp[PV.has]) rfl ()) ?_;refine af (b7 (v:=.tup (oL os)) (by simp[p1,fh,a_]) rfl () rfl ()) ?_;refine af (b7 (v:=.int st) () rfl () rfl ()) ?_;have:=iz (env:=[some (.obj .own cc [3,4,5,6] [.int tp,net .frz n ps,.tup (oL os),.int st]),some (net .frz n ps),some (.lst f (oL os)),LS st,LS bk]) (ms:=ae (mUn (au 0) (aa 1)) (ae (mOp aO (mUn (au 3) (aa 0)) (LP 1)) (ae (mC (.bl true)) am))) (xs:=[.int n,.int (tp+1),.bl true]) rfl (by simp[au,bI]) () (by simpa using v5) (by simp[PV.has]);simpa[PV.LM]using this
noncomputable def lJ(st tp c:Int):Bool:=decide (c≠tp)&&decide ((c+1)%st≠0)
def iP(ps:Ln)(st tp:Int)(cs:Lq)(i:Nat):Lq:=(((nbL ps i).map λo=>gt cs o.toNat).filter (lJ st tp)).map (· + 1)
def dW(ps:Ln)(os:List (Lx))(st tp:Int)(cs:Lq)(i:Nat):Int:=fP (iP ps st tp cs i ++(os.getD i none).toList++[tp])
def uT(h:l≠[]):eF fP (LR f l)=.ok (.int (fP l)):=by unfold eF;simp only[a_,ik];rw[if_neg (by simpa using h)]
def yL(hs:0<st):zR [lea .frz cc n ps os st tp,.int c]=.ok (.bl (lJ st tp c)):=by
 refine az ?_;show GZ [some (lea .frz cc n ps os st tp),LS c]=_;unfold GZ lJ;refine a9 ?_ ();by_cases h:c=tp
 .simp[au,bI,h]
 .simp[au,bI,h,bR hs]
theorem rQ{fc:Fl}(hfc:Fc fc){cc n:Nat}{ps:Ln}{os:List (Lx)}{st tp:Int}{cs:Lq}{i:Nat}(hcc:eV cc=some zR)(hnb:∀x∈nbL ps i,0<=x/\x<n)(hl:(nbL ps i).length<=1000)(hs:0<st)(hn:cs.length=n)(ho:os.length=n)(hi:i<n):r_ [lea .frz cc n ps os st tp,LR fc cs,.int i]=.ok (.int (dW ps os st tp cs i)):=by
 refine az ?_;show AH [some (lea .frz cc n ps os st tp),LV fc cs,LS i,none,none]=_;unfold AH;have e3:=hfc.bo;have be:=jQ (ps:=ps) hi;have l1:((nbL ps i).map λo=>gt cs o.toNat).length<=1000:=by simpa using hl
 refine af (av (v:=LQ ((nbL ps i).map λo=>gt cs o.toNat)) ?_) ?_
 .refine aF (xs:=iL (nbL ps i)) (by simp[au,bI,b9,be,aD]) (by rw[aX];lia) (fC (λo=>gt cs o.toNat) _ λx hx=>⟨[LV fc cs,LS x],by simp[tgN,aH,bF,e3],?_⟩);obtain⟨h1,h2⟩:=hnb x hx;simp[hfc.le,bX (f:=fc) (cs:=cs) (i:=x) () ()]
 simp only[s0_,s1_];have l2:(iP ps st tp cs i).length<=1000:=by unfold iP;rw[length_map];exact Nat.le_trans (length_filter_le _ _) l1
 refine af (av (v:=LQ (iP ps st tp cs i)) ?_) ?_
 .unfold iP;exact aF (xs:=iL ((nbL ps i).map λo=>gt cs o.toNat)) () (by rw[aX];lia) (dO (lJ st tp) (· + 1) _ λx hx=>⟨[some (lea .frz cc n ps os st tp),LS x],by simp[tgN,aH,bF],by simp[hcc,yL hs,aD],λ_=>by simp⟩)
 simp only[s0_,s1_];have hio:i<os.length:=by lia
 have ix:aB (.tup (oL os)) (.int (i:Int))=.ok (oV os[i]):=eA rfl (by simp[oL,hio]) (by cases os[i]<;>rfl);have eg:os.getD i none=os[i]:=by simp[hio]
 unfold dW;rw[eg];generalize os[i]=o at *;generalize iP ps st tp cs i=of at *;cases o with
 |none=>
  refine af (b8 (by simp[au,bI,ix,oV,h8,PV.isNon]) aE) (a9 ?_);have pl:aO (LR .lnt of) (.lst .own [.int tp])=.ok (LQ (of++[tp])):=by rw[dY () () (by simp;lia)];simp[iL]
  simp[au,bI,pl,p1,uT (l:=of++[tp]) ()]
 |some s=>
  refine af (gh (by simp[au,bI,ix,oV,h8,PV.isNon]) (fD (v:=.int s) (xs:=iL of) (by simp[au,bI,ix,oV]) rfl () (by rw[aX];lia))) ?_;simp only[s0_,s1_];rw[show iL of++[PV.int s]=iL (of++[s]) by simp[iL]];refine a9 ?_ ();have pl:aO (LR .lnt (of++[s])) (.lst .own [.int tp])=.ok (LQ (of++[s]++ [tp])):=by rw[dY () () (by simp;lia)];simp[iL]
  have pm:=uT (f:=.own) (l:=of++[s]++ [tp]) ();show _=Res.ok (PV.int (fP (of++[s]++ [tp])));generalize of++[s]=of2 at *;simp[au,bI,pl,p1];exact pm
def fs(n r:Nat):List (Lx):=(range n).map λi=>if i=r then some 0 else none
def Ji:oL (fs n r)=(range n).map λi=>oV (if i=r then some 0 else none):=by simp[oL,fs]
theorem nR(hf:f=.frz\/f=.own)(n1:1<=n)(n10:n<=10)(hr:r<n):r9 [.obj .own 5 [] [],net f n ps,.int r]=.ok (lea .own 5 n ps (fs n r) n n):=by
 refine dz (e:=[some (lea .own 5 n ps (fs n r) n n),some (net .frz n ps),LS r,some (.lst .frz (oL (fs n r)))]) ?_ rfl;show DR [some (.obj .own 5 [] []),some (net f n ps),LS r,none]=_;refine af (b8 (by simp[au,bI,show ¬(r:Int)<0 by lia,show ¬(n:Int)<= r by lia]) aE) ?_;refine af (av (v:=.lst .own (oL (fs n r))) ?_) ?_
 .refine aF (bp (n:=n) (by simp[au,bI]) ()) (by rw[aQ];lia) ?_;rw[Ji];refine bv (range n) λk hk=>⟨[LS r,LS (0+k)],by simp[tgN,aH,bF],?_,?_,?_⟩
  .by_cases e:k=r
   .simp[e,oV]
   .simp[e,oV,show ¬(k:Int)=r by lia]
  .by_cases e:k=r<;>simp[e,oV]
  .by_cases e:k=r<;>simp[e,oV]
 refine af (dw rfl) ?_;refine af (dw rfl) ?_;have efz:(net f n ps).LM Fl.LG=net .frz n ps:=by rcases hf with rfl|rfl<;>simp[PV.LM]
 simp only[s1_,efz];have li:=rP (cc:=5) (n:=n) (ps:=ps) (os:=fs n r) (st:=n) (bk:=1) (f:=.frz) (.inr rfl) () () () () (by simp [fs]) (λs hs=>by
  simp only[fs,mem_map]at hs;obtain⟨i,_,e⟩:=hs;split at e
  .cases e;lia
  .cases e)
 have:=iz (env:=[some (.obj .own 5 [] []),some (net .frz n ps),LS r,some (.lst .frz (oL (fs n r)))]) (ms:=ae (aa 1) (ae (aa 3) (ae (mUn (au 0) (aa 1)) (ae (LP 1) am)))) (xs:=[net .frz n ps,.lst .frz (oL (fs n r)),.int n,.int 1]) rfl (by simp[au,bI]) (by simp[PV.has]) (by simpa using li) (by simp[PV.has]);simpa[PV.LM]using this
structure OkM(n:Nat)(ms:Lq):Prop where
 ml:ms.length=n
 nd:ms.Nodup
 mr:∀x∈ms,0<=x/\x<=9
def ls(n:Nat)(ms:Lq):List (Lx):=ms.map λx=>some ((9-x)*n)
theorem yQ(N:OkM n ms)(n10:n<=10):zW [net .frz n ps,LR .bor ms]=.ok .non:=by have lu:=N.ml;refine g_ ?_;refine jf (b8 (by simp[p1,a_,au,bI,lu]) aE) ?_;refine jf (b8 (by simp[p1,a_,oZ (show ms.length<=1000 by lia),ss N.nd]) aE) ?_;refine l_ (λ_ e=>∃x,e=[some (net .frz n ps),LV .bor ms,x]) (λr=>∃e,r=.next e) (xs:=iL ms) (fJ (f:=.bor) () rfl () ()) ⟨_,rfl⟩ (λk x e hx hP=>?_) (λe hP=>⟨e,rfl⟩);obtain⟨y,rfl⟩:=hP;obtain⟨z,hz,rfl⟩:=ue hx;have:=N.mr z (List.mem_of_getElem? hz);refine⟨_,cE rfl,.inl ⟨_,.inl (b8 ?_ aE),_,rfl⟩⟩;simp[show ¬z<0 by lia,show ¬(9:Int)<z by lia]
theorem o3{fm:Fl}(hf:fm=.bor\/fm=.own)(N:OkM n ms)(n1:1<=n)(n10:n<=10):vq [.obj .own 6 [] [],net .frz n ps,LR fm ms]=.ok (lea .own 6 n ps (ls n ms) n (10*n)):=by
 refine dz (e:=[some (lea .own 6 n ps (ls n ms) n (10*n)),some (net .frz n ps),LV fm ms,some (.lst .frz (oL (ls n ms)))]) ?_ rfl;show DW [some (.obj .own 6 [] []),some (net .frz n ps),LV fm ms,none]=_;have e1:fm.LD.LF=.bor:=by rcases hf with rfl|rfl<;>rfl
 have rn:=yQ (ps:=ps) N n10;refine af (dw rfl) ?_;have efz:(net .frz n ps).LM Fl.LG=net .frz n ps:=by simp[PV.LM]
 simp only[s1_,efz];refine af (iN (v:=.non) (by simp[e1,rn,aD,PV.LM])) ?_;have eL:oL (ls n ms)=iL (ms.map λx=>(9-x)*n):=by simp[oL,ls,iL,oV]
 refine af (av (v:=.lst .own (oL (ls n ms))) ?_) ?_
 .rw[eL];refine aF () (by rw[aX,N.ml];lia) (fC (λx=>(9-x)*n) ms λx hx=>⟨[some (net .frz n ps),LS x],by simp[tgN,aH,bF,PV.LM],?_⟩);have m:cK (.int (9-x)) (.int (n:Int))=.ok (.int ((9-x)*n)):=dF (.inr ⟨by lia,by lia⟩);simp[au,bI,m]
 refine af (dw rfl) ?_;have li:=rP (cc:=6) (n:=n) (ps:=ps) (os:=ls n ms) (st:=n) (bk:=10) (f:=.frz) (.inr rfl) () () () () (by simp [ls,N.ml]) (λs hs=>by
  simp only[ls,mem_map]at hs;obtain⟨x,hx,e⟩:=hs;have:=N.mr x hx;cases e;have h1:0 <=(9-x)*(n:Int):=Int.mul_nonneg () ();have h2:(9-x)*(n:Int)<= 9*n:=Int.mul_le_mul_of_nonneg_right () ()
  lia)
 rw[Int.mul_comm (n:Int) 10]at li;have:=iz (env:=[some (.obj .own 6 [] []),some (net .frz n ps),LV fm ms,some (.lst .frz (oL (ls n ms)))]) (ms:=ae (aa 1) (ae (aa 3) (ae (mUn (au 0) (aa 1)) (ae (LP 10) am)))) (xs:=[net .frz n ps,.lst .frz (oL (ls n ms)),.int n,.int 10]) rfl (by simp[au,bI]) (by simp[PV.has]) (by simpa using li) (by simp[PV.has]);simpa[PV.LM]using this
abbrev gro(fl:Fl)(n:Nat)(ps:Ln)(r:Nat):PV:=.obj fl 7 [9,4,10,0,7,8] [lea fl 5 n ps (fs n r) n n,net .frz n ps,.int r,.int n,.int (((n:Int)+1)*((n:Int)+1)),.bl true]
def v8:jC [.obj .own 7 [9,4,10] [lea .own 5 n ps (fs n r) n n,net .frz n ps,.int r],.int n,.int (((n:Int)+1)*((n:Int)+1)),.bl true]=.ok (gro .own n ps r):=by refine dz (e:=[some (gro .own n ps r),LS n,LS (((n:Int)+1)*((n:Int)+1)),some (.bl true)]) ?_ rfl;refine af (b7 (v:=.int n) () rfl () rfl ()) ?_;refine af (b7 (v:=.int (((n:Int)+1)*((n:Int)+1))) () rfl () rfl ()) ?_;exact b7 (ks:=[9,4,10,0,7]) (vs:=[lea .own 5 n ps (fs n r) n n,net .frz n ps,.int r,.int n,.int (((n:Int)+1)*((n:Int)+1))]) () rfl () rfl ()
theorem rW(hf:f=.frz\/f=.own)(n1:1<=n)(n10:n<=10)(hr:r<n):vv [.obj .own 7 [] [],net f n ps,.int r]=.ok (gro .own n ps r):=by
 refine dz (e:=[some (gro .own n ps r),some (net .frz n ps),LS r]) ?_ rfl;show DY [some (.obj .own 7 [] []),some (net f n ps),LS r]=_;have fi:=nR (ps:=ps) (.inl rfl) n1 n10 hr;have mu:cK (.int ((n:Int)+1)) (.int ((n:Int)+1))=.ok (.int (((n:Int)+1)*((n:Int)+1))):=dF (.inl ⟨by lia,by lia⟩);have ri:=v8 (n:=n) (ps:=ps) (r:=r);generalize((n:Int)+1)*((n:Int)+1)=sq at mu ri;refine af (dw rfl) ?_;have efz:(net f n ps).LM Fl.LG=net .frz n ps:=by rcases hf with rfl|rfl<;>simp[PV.LM]
 simp only[s1_,efz];refine af (b7 (v:=lea .own 5 n ps (fs n r) n n) (by simp[fi,aD,PV.has]) rfl (by simp[PV.has]) rfl ()) ?_;refine af (b7 (v:=net .frz n ps) () rfl (by simp[PV.has]) rfl ()) ?_;refine af (b7 (v:=.int r) () rfl () rfl ()) ?_;have:=iz (env:=[some (.obj .own 7 [9,4,10] [lea .own 5 n ps (fs n r) n n,net .frz n ps,.int r]),some (net .frz n ps),LS r]) (ms:=ae (mUn (au 0) (aa 1)) (ae (mOp cK (mOp aO (mUn (au 0) (aa 1)) (LP 1)) (mOp aO (mUn (au 0) (aa 1)) (LP 1))) (ae (mC (.bl true)) am))) (xs:=[.int n,.int sq,.bl true]) rfl (by simp[au,bI,mu]) () (by simpa using ri) (by simp[PV.has]);simpa using this
def PT(n:Nat)(cs:Lq):Ln:=cs.map λc=>(c / ((n:Int)+1),c%((n:Int)+1))
def FA(n:Nat)(cs:Lq):Lq:=cs.map (· / ((n:Int)+1))
def CN(n:Nat)(cs:Lq):Lq:=cs.map (· % ((n:Int)+1))
@[simp] def K9:(FA n cs).length=cs.length:=by simp[FA]
@[simp] def G_:(CN n cs).length=cs.length:=by simp[CN]
def nea(ps:Ln)(fa:Lq)(i:Nat):Lq:=(nbL ps i).filter λo=>decide (gt fa o.toNat=gt fa i-1)
def eld(ps:Ln)(r:Nat)(fa:Lq)(i:Nat):Lx:=if i=r then none else if(nea ps fa i).isEmpty then none else some (fP (nea ps fa i))
def kZ(n:Nat)(ps:Ln)(r:Nat)(cs:Lq)(i:Nat):Lq:=((range n).filter λj=>decide (eld ps r (FA n cs) j=some (i:Int))).map (gt (CN n cs))
def dcn(n:Nat)(ps:Ln)(r:Nat)(cs:Lq)(i:Nat):Int:=min (n:Int) (1+(kZ n ps r cs i).sum)
def jv(n:Nat)(ps:Ln)(r:Nat)(cs:Lq)(i:Nat):Int:=
 dW ps (fs n r) n n (FA n cs) i*((n:Int)+1)+(if dW ps (fs n r) n n (FA n cs) i=gt (FA n cs) i then dcn n ps r cs i else gt (CN n cs) i)
theorem rq(hfc:Fc fc)(n10:n<=10)(hn:cs.length=n):Ab [gro .frz n ps r,LR fc cs]=.ok (.lst .own (prL (PT n cs))):=by
 refine az ?_;show D0 [some (gro .frz n ps r),LV fc cs]=_;refine a9 ?_ ();rw[show prL (PT n cs)=cs.map λc=>prV (c / ((n:Int)+1),c%((n:Int)+1)) by simp[prL,PT]];refine aF (xs:=iL cs) () (by rw[aX];lia) (bv cs λc _=>⟨[some (gro .frz n ps r),LS c],by simp[tgN,aH,bF,PV.LM],?_,by simp,by simp⟩);have np:(0:Int) <(n:Int)+1:=by lia
 simp[au,bI,bR np,fB np (show(n:Int)+1<1073741824 by lia),prV]
def qf(hfc:Fc fc)(n10:n<=10)(hn:cs.length=n):z7 [gro .frz n ps r,LR fc cs]=.ok (.lst .own (iL (FA n cs))):=by refine az ?_;show DU [some (gro .frz n ps r),LV fc cs]=_;refine a9 ?_ ();have pt:=rq (ps:=ps) (r:=r) hfc n10 hn;rw[show iL (FA n cs)=(PT n cs).map λx=>PV.int x.1 by simp[iL,FA,PT]];refine aF (xs:=prL (PT n cs)) (by rcases hfc with rfl|rfl<;>simp[fR,pt,aD,PV.LM]) (by simp[PT];lia) (bv (PT n cs) λx _=>⟨[some (prV x)],by simp[tgN,aH,bF,dB],?_,by simp,by simp⟩);simp
def lz(hfc:Fc fc)(n10:n<=10)(hn:cs.length=n):Gp [gro .frz n ps r,LR fc cs]=.ok (.lst .own (iL (CN n cs))):=by refine az ?_;show Ju [some (gro .frz n ps r),LV fc cs]=_;refine a9 ?_ ();have pt:=rq (ps:=ps) (r:=r) hfc n10 hn;rw[show iL (CN n cs)=(PT n cs).map λx=>PV.int x.2 by simp[iL,CN,PT]];refine aF (xs:=prL (PT n cs)) (by rcases hfc with rfl|rfl<;>simp[fR,pt,aD,PV.LM]) (by simp[PT];lia) (bv (PT n cs) λx _=>⟨[some (prV x)],by simp[tgN,aH,bF,dB],?_,by simp,by simp⟩);simp
def B7:oQ (LR f l)=.ok (if l.isEmpty then .non else .int (fP l)):=by unfold oQ;simp only[a_,ik]
theorem Ai{n:Nat}{ps:Ln}{r:Nat}{fa:Lq}{i:Nat}(hnb:∀x∈nbL ps i,0<=x/\x<n)(hl:(nbL ps i).length<=1000)(hn:fa.length=n)(hi:i<n):Gh [gro .frz n ps r,LR .bor fa,.int i]=.ok (oV (eld ps r fa i)):=by
 refine az ?_;show GX [some (gro .frz n ps r),LV .bor fa,LS i,none]=_;unfold GX eld;by_cases q:i=r
 .rw[if_pos q];exact dy (gh (by simp[au,bI,q]) (a9 (by simp[oV]) (by simp[oV])))
 rw[if_neg q];refine af (b8 (by simp[au,bI,show ¬(i:Int)=r by lia]) aE) ?_;have be:=jQ (ps:=ps) hi;refine af (av (v:=LQ (nea ps fa i)) ?_) ?_
 .have hz:nea ps fa i=((nbL ps i).filter λo=>decide (gt fa o.toNat=gt fa i-1)).map id:=by simp[nea]
  rw[hz];refine aF (xs:=iL (nbL ps i)) (by simp[au,bI,b9,be,aD]) (by rw[aX];lia) (dO (λo=>decide (gt fa o.toNat=gt fa i-1)) id _ λx hx=>⟨[LV .bor fa,LS i,LS x],by simp[tgN,aH,bF,Fl.LH],?_,λ_=>by simp⟩);obtain⟨h1,h2⟩:=hnb x hx;simp[bX (f:=.bor) (cs:=fa) (i:=x) () (),bX (f:=.bor) (cs:=fa) (i:=i) () ()]
 simp only[s0_,s1_];generalize nea ps fa i=l;refine a9 ?_ (by cases l<;>simp[oV]);simp only[Dl,gU,getElem?_cons_zero,getElem?_cons_succ,EV,Res.LO,PV.LM,Fl.LD,oU];rw[B7];cases l<;>simp[oV]
abbrev ELs(n:Nat)(ps:Ln)(r:Nat)(fa:Lq):List (Lx):=(range n).map (eld ps r fa)
def wV(hfc:Fc fc)(n10:n<=10)(hnb:Hnb ps n)(hl:∀i:Nat,(nbL ps i).length<=1000)(hn:cs.length=n):Gq [gro .frz n ps r,LR fc cs]=.ok (.lst .own (oL (ELs n ps r (FA n cs)))):=by
 refine az ?_;show Jv [some (gro .frz n ps r),LV fc cs,none]=_;have fo:=qf (ps:=ps) (r:=r) hfc n10 hn;refine af (av (v:=LQ (FA n cs)) (by rcases hfc with rfl|rfl<;>simp[eB,fo,aD,PV.LM])) ?_;refine a9 ?_ ();rw[show oL (ELs n ps r (FA n cs))=(range n).map λi=>oV (eld ps r (FA n cs) i) by simp[oL]];refine aF (bp (by simp[au,bI]) ()) (by rw[aQ];lia) (bv (range n) λk hk=>⟨[some (gro .frz n ps r),LV .bor (FA n cs),LS (0+k)],by simp[tgN,aH,bF,PV.LM],?_,?_,?_⟩)
 .have el:=Ai (r:=r) (hnb k) (hl k) (show(FA n cs).length=n by simpa using hn) (mem_range.mp hk);simp[jh,el,aD,PV.LM];cases eld ps r (FA n cs) k<;>simp[oV]
 .cases eld ps r (FA n cs) k<;>simp[oV]
 .cases eld ps r (FA n cs) k<;>simp[oV]
def qE(f:Nat->Int)(g:Nat->Lx):∀l:List Nat,jF (iL (l.map f)) (oL (l.map g))=l.map λi=>PV.tup [.int (f i),oV (g i)]
 | []=>rfl
 |i::l=>by have:=qE f g l;simp only[iL,oL,map_cons,jF]at this ⊢;rw[this]
def eqO(o:Lx)(i:Int):pEq (oV o) (.int i)=.ok (.bl (decide (o=some i))):=by
 cases o with
 |none=>simp[oV];rfl
 |some s=>simp[oV]
def gtR(l:Lq):(range l.length).map (gt l)=l:=by apply ext_getElem ();intro i h1 h2;simp[gt,h2]
theorem uB(hn:cs.length=n):∀i,i<n->0<=gt (CN n cs) i/\gt (CN n cs) i<=n:=λi hi=>by
 have hm:=cS (far:=CN n cs) (by simpa using hn▸hi);obtain⟨c,_,e⟩:=mem_map.mp hm;have:=emod_nonneg c (show(n:Int)+1≠0 by lia);have:=emod_lt_of_pos c (show(0:Int) <(n:Int)+1 by lia)
 lia
def nM(hn:cs.length=n)(hx:x∈kZ n ps r cs i):0<=x/\x<=n:=by obtain⟨j,hj,rfl⟩:=mem_map.mp hx;exact uB hn j (mem_range.mp (mem_filter.mp hj).1)
def zc:(kZ n ps r cs i).length<=n:=by have:=length_filter_le (λj=>decide (eld ps r (FA n cs) j=some (i:Int))) (range n);simpa[kZ]using this
theorem Ao(hfc:Fc fc)(n10:n<=10)(hnb:Hnb ps n)(hl:∀i:Nat,(nbL ps i).length<=1000)(hn:cs.length=n):Gw [gro .frz n ps r,LR fc cs,.int i]=.ok (.int (dcn n ps r cs i)):=by
 refine az ?_;show JC [some (gro .frz n ps r),LV fc cs,LS i,none]=_;have co:=lz (ps:=ps) (r:=r) hfc n10 hn;have eo:=wV (r:=r) hfc n10 hnb hl hn;have zp:jF (iL (CN n cs)) (oL (ELs n ps r (FA n cs)))=(range n).map λj=>PV.tup [.int (gt (CN n cs) j),oV (eld ps r (FA n cs) j)]:=by
  have:=qE (gt (CN n cs)) (eld ps r (FA n cs)) (range n)
  rwa [show(range n).map (gt (CN n cs))=CN n cs by have:=gtR (CN n cs);rw[G_,hn]at this;exact this]at this
 refine af (av (v:=.lst .own (iL (kZ n ps r cs i))) ?_) ?_
 .rw[show iL (kZ n ps r cs i)=((range n).filter λj=>decide (eld ps r (FA n cs) j=some (i:Int))).map λj=>PV.int (gt (CN n cs) j) by simp[iL,kZ]];refine aF ?_ (by simp;lia) (b_ (a:=λj=>PV.tup [.int (gt (CN n cs) j),oV (eld ps r (FA n cs) j)]) (range n) λj hj=>⟨[LS i,LS (gt (CN n cs) j),some (oV (eld ps r (FA n cs) j))],?_,?_,λ_=>⟨by simp,rfl,rfl⟩⟩)
  .unfold kf;rcases hfc with rfl|rfl<;>simp[dC,iM,co,eo,aD,PV.has,PV.LM,fk,zp]
  .cases eld ps r (FA n cs) j<;>rfl
  .have ob:∀o:Lx,PV.LM Fl.LD (oV o)=oV o:=λo=>by cases o<;>rfl
   simp[ob,eqO]
 have sm:ka (.lst .lnt (iL (kZ n ps r cs i)))=.ok (.int (kZ n ps r cs i).sum):=lZ (by have:=zc (n:=n) (ps:=ps) (r:=r) (cs:=cs) (i:=i);lia) λx hx=>by have:=nM hn hx;lia
 refine a9 ?_ ();simp[au,bI,p1,sm,dcn,dN]
theorem Cy(hfc:Fc fc)(n1:1<=n)(n10:n<=10)(hnb:Hnb ps n)(hl:∀i:Nat,(nbL ps i).length<=1000)(hn:cs.length=n)(hi:i<n):zX [gro .frz n ps r,LR fc cs,.int i]=.ok (.int (jv n ps r cs i)):=by
 refine az ?_;show DQ [some (gro .frz n ps r),LV fc cs,LS i,none,none,none]=_;have fo:=qf (ps:=ps) (r:=r) hfc n10 hn;have co:=lz (ps:=ps) (r:=r) hfc n10 hn;have dc:=Ao (r:=r) (i:=i) hfc n10 hnb hl hn;have fl:(FA n cs).length=n:=by simpa using hn
 have cl:(CN n cs).length=n:=by simpa using hn
 have ld:=rQ (.inl rfl) (cc:=5) (os:=fs n r) (st:=n) (tp:=n) rfl (hnb i) (hl i) () fl (by simp[fs]) hi;refine af (av (v:=LQ (FA n cs)) (by rcases hfc with rfl|rfl<;>simp[eB,fo,aD,PV.LM])) ?_;unfold jv;generalize dW ps (fs n r) n n (FA n cs) i=df at *;refine af (av (v:=.int df) (by simp[au,bI,ly,ld,aD,PV.has,PV.LM])) ?_;have ic:∀f,aB (LR f (CN n cs)) (.int (i:Int))=.ok (.int (gt (CN n cs) i)):=λf=>by simpa using bX (i:=i) () ()
 have ia:∀f,aB (LR f (FA n cs)) (.int (i:Int))=.ok (.int (gt (FA n cs) i)):=λf=>by simpa using bX (i:=i) () ()
 refine af (av (v:=.int (gt (CN n cs) i)) (by rcases hfc with rfl|rfl<;>simp[dC,co,ic,aD,PV.LM])) ?_;have mu:cK (.int df) (.int ((n:Int)+1))=.ok (.int (df*((n:Int)+1))):=dF (.inr ⟨by lia,by lia⟩);by_cases q:df=gt (FA n cs) i
 .rw[if_pos q];refine af (gh (by simp[ia,q]) (av (v:=.int (dcn n ps r cs i)) (by rcases hfc with rfl|rfl<;>simp[dE,dc,aD,PV.has,PV.LM]))) ?_;exact a9 (by simp[au,bI,mu]) ()
 .rw[if_neg q];refine af (b8 (by simp[ia,q]) aE) ?_;exact a9 (by simp[au,bI,mu]) ()
noncomputable def cU(at_:Int):Int->Lq->Lq
 |_,[]=>[]
 |k,p::ps=>if p=at_ then k::cU at_ (k+1) ps else cU at_ (k+1) ps
theorem gB:∀{k:Int}{ps:Lq}{x:Int},x∈cU at_ k ps->k<=x/\x<k+ps.length/\ps[(x-k).toNat]?=some at_
 |_,[],x,h=>by simp[cU]at h
 |k,p::ps,x,h=>by
  have key:x∈cU at_ (k+1) ps->k<=x/\x<k+(p::ps).length/\(p::ps)[(x-k).toNat]?=some at_:=λh=>by obtain⟨h1,h2,h3⟩:=gB h;refine⟨by lia,by simp;lia,?_⟩;rw[show(x-k).toNat=(x-(k+1)).toNat+1 by lia,getElem?_cons_succ];exact h3
  unfold cU at h;split at h
  .rename_i hp
   rcases mem_cons.mp h with rfl|h
   .refine⟨by lia,by simp;lia,by simp[hp]⟩
   .exact key h
  .exact key h
theorem nK{at_:Int}:∀{k:Int}{ps:Lq},(cU at_ k ps).length<=ps.length
 |_,[]=>by simp[cU]
 |k,p::ps=>by have:=nK (at_:=at_) (k:=k+1) (ps:=ps);unfold cU;split<;>simp<;>lia
def eZ(cs l:Lq):Int:=(l.map λk=>gt cs k.toNat).sum
def lx(n:Nat)(ps cs:Lq)(i:Nat):Int:=min (n:Int) (1+eZ cs (cU i 1 ps))
def jU{cs':Lq}:∀{l:Lq},(∀k∈l,gt cs k.toNat=gt cs' k.toNat)->eZ cs l=eZ cs' l
 | [],_=>rfl
 |k::l,h=>by have:=jU (cs':=cs') λx hx=>h x (mem_cons_of_mem _ hx);simp only[eZ,map_cons,sum_cons]at this ⊢;rw[h k mem_cons_self,this]
theorem qJ:∀{l:Lq},(∀k∈l,0<=gt cs k.toNat)->0<=eZ cs l
 | [],_=>by simp[eZ]
 |k::l,h=>by
  have:=qJ λx hx=>h x (mem_cons_of_mem _ hx);have h2:=h k mem_cons_self;simp only[eZ,map_cons,sum_cons]at this ⊢
  lia
def lh(l:Lq)(k:Nat)(h:k<l.length):gt l k=l[k]:=by simp[gt,h]
theorem uH:∀(l:Lq) (i:Nat) (d:Int),i<l.length->(l.set i (gt l i+d)).sum=l.sum+d
 | [],i,d,h=>by simp at h
 |x::l,0,d,_=>by simp[gt];lia
 |x::l,i+1,d,h=>by
  have:=uH l i d (by simpa using h);simp;have e:gt (x::l) (i+1)=gt l i:=by simp[gt]
  rw[e,this]
  lia
theorem y7:∀{l:Lq},(∀x∈l,0<=x)->∀x∈l,x<=l.sum
 | [],_,x,h=>by simp at h
 |y::l,hp,x,h=>by
  have h1:∀{l:Lq},(∀x∈l,0<=x)->0<=l.sum:=λ{l}=>by
   intro h
   induction l with
   |nil=>simp
   |cons a l ih=>
    have:=ih λx hx=>h x (mem_cons_of_mem _ hx);have:=h a mem_cons_self;simp
    lia
  have h0:=h1 λx hx=>hp x (mem_cons_of_mem y hx);have hy:=hp y mem_cons_self;simp;rcases mem_cons.mp h with rfl|h
  .lia
  .have:=y7 (λx hx=>hp x (mem_cons_of_mem y hx)) x h
   lia
def Tree(ps:Lq):Prop:=∀i (h:i<ps.length),0<=ps[i]/\ps[i]<= i
structure kD(ps hs:Lq)(j:Nat):Prop where
 len:hs.length=ps.length+1
 eqn:∀i:Nat,i<=ps.length->gt hs i=1+eZ hs (cU i (j+1) (ps.drop j))
 bnd:∀i:Nat,i<=ps.length->1<=gt hs i/\gt hs i<=ps.length+1
 sum:(hs.take (j+1)).sum=ps.length+1
theorem kD.step{ps:Lq}(T:Tree ps)(h:kD ps hs (j+1))(hj:j<ps.length):kD ps (hs.set ps[j].toNat (gt hs ps[j].toNat+gt hs (j+1))) j:=by
 obtain⟨t1,t2⟩:=T j hj;have ln:=h.len;have ha:ps[j].toNat<hs.length:=by lia
 have gs:=λi=>gD (gt hs ps[j].toNat+gt hs (j+1)) ha i;have dr:ps.drop j=ps[j]::ps.drop (j+1):=List.drop_eq_getElem_cons hj;have later:∀i:Int,eZ (hs.set ps[j].toNat (gt hs ps[j].toNat+gt hs (j+1))) (cU i (j+1+1) (ps.drop (j+1)))=eZ hs (cU i (j+1+1) (ps.drop (j+1))):=λi=>jU λk hk=>by have:=gB hk;rw[gs,if_neg ()]
 have e0:=h.eqn;have cast:((j+1:Nat):Int)+1=(j:Int)+1+1:=by lia
 rw[cast]at e0;have s1:(hs.set ps[j].toNat (gt hs ps[j].toNat+gt hs (j+1))).take (j+1)=(hs.take (j+1)).set ps[j].toNat (gt (hs.take (j+1)) ps[j].toNat+gt hs (j+1)):=by rw[List.take_set];congr 2;simp only[gt,getD_eq_getElem?_getD];rw[List.getElem?_take_of_lt ()]
 have s2:(hs.take (j+1+1)).sum=(hs.take (j+1)).sum+gt hs (j+1):=by
  have hlt:j+1<hs.length:=by lia
  rw[take_add_one,getElem?_eq_getElem hlt,Option.toList_some,sum_append,List.sum_singleton];simp[gt,hlt]
 have s3:((hs.set ps[j].toNat (gt hs ps[j].toNat+gt hs (j+1))).take (j+1)).sum=ps.length+1:=by rw[s1,uH _ _ _ (by simp;lia),<- s2];exact h.sum
 have low:∀i:Nat,i<=ps.length->1<=gt (hs.set ps[j].toNat (gt hs ps[j].toNat+gt hs (j+1))) i:=λi hi=>by rw[gs];have h1:=(h.bnd i hi).1;have h2:=(h.bnd (j+1) ()).1;have h3:=(h.bnd ps[j].toNat ()).1;split<;>lia
 refine⟨by simpa using ln,λi hi=>?_,λi hi=>⟨low i hi,?_⟩,s3⟩
 .rw[dr];unfold cU;by_cases hc:ps[j]=(i:Int)
  .rw[if_pos hc];have e1:eZ (hs.set ps[j].toNat (gt hs ps[j].toNat+gt hs (j+1))) (((j:Int)+1)::cU (i:Int) (j+1+1) (ps.drop (j+1)))=gt hs (j+1)+eZ hs (cU (i:Int) (j+1+1) (ps.drop (j+1))):=by have e2:=later i;simp only[eZ,map_cons,sum_cons]at e2 ⊢;rw[e2,show((j:Int)+1).toNat=j+1 by lia,gs,if_neg ()]
   rw[e1,gs,if_pos ()];have:=e0 i hi;rw[show ps[j].toNat=i by lia]
   lia
  .rw[if_neg hc,later,gs,if_neg ()];exact e0 i hi
 .by_cases hi2:i=ps[j].toNat
  .have hm:gt (hs.set ps[j].toNat (gt hs ps[j].toNat+gt hs (j+1))) i ∈(hs.set ps[j].toNat (gt hs ps[j].toNat+gt hs (j+1))).take (j+1):=by rw[List.mem_take_iff_getElem];refine⟨i,by simp;lia,?_⟩;simp[gt,show i<hs.length by lia]
   have nn:∀x ∈(hs.set ps[j].toNat (gt hs ps[j].toNat+gt hs (j+1))).take (j+1),0<=x:=λx hx=>by
    rw[List.mem_take_iff_getElem]at hx;obtain⟨k,hk,rfl⟩:=hx;have:=low k ();rw[lh _ _ ()]at this
    lia
   have:=y7 nn _ hm
   lia
  .rw[gs,if_neg hi2];exact(h.bnd i hi).2
theorem kD.first{ps:Lq}:kD ps ((range (ps.length+1)).map λ_=>(1:Int)) ps.length:=by
 have g:∀i,i<=ps.length->gt ((range (ps.length+1)).map λ_=>(1:Int)) i=1:=λi hi=>by simp[gt,show i<ps.length+1 by lia]
 have sm:∀n:Nat,((range n).map λ_=>(1:Int)).sum=n:=λn=>by
  induction n with
  |zero=>rfl
  |succ n ih=>rw[range_succ,map_append,sum_append,ih];simp
 refine⟨by simp,λi hi=>?_,λi hi=>by rw[g i hi];lia,?_⟩
 .rw[g i hi,List.drop_length];simp[cU,eZ]
 .rw[take_of_length_le (),sm]
  lia
structure n0(ps hs:Lq):Prop where
 len:hs.length=ps.length+1
 eqn:∀i:Nat,i<=ps.length->gt hs i=1+eZ hs (cU i 1 ps)
 bnd:∀i:Nat,i<=ps.length->1<=gt hs i/\gt hs i<=ps.length+1
def kD.last{ps:Lq}(h:kD ps hs 0):n0 ps hs:=⟨h.len,λi hi=>by simpa using h.eqn i hi,h.bnd⟩
theorem n0.due{ps:Lq}(P:n0 ps hs)(T:Tree ps)(hi:i<=ps.length)(h:∀k:Nat,i<k->k<=ps.length->gt cs k=gt hs k):lx (ps.length+1) ps cs i=gt hs i:=by
 unfold lx;have e:eZ cs (cU i 1 ps)=eZ hs (cU i 1 ps):=jU λk hk=>by
  obtain⟨h1,h2,h3⟩:=gB hk;have hlt:(k-1).toNat<ps.length:=by lia
  rw[getElem?_eq_getElem hlt]at h3;have:=T _ hlt;rw[Option.some.inj h3]at this;exact h _ () ()
 rw[e,<- P.eqn i hi];have:=(P.bnd i hi).2
 lia
theorem n0.calm{ps:Lq}(P:n0 ps hs)(T:Tree ps)(hn:cs.length=ps.length+1)(h:∀i,i<cs.length->lx (ps.length+1) ps cs i=gt cs i):cs=hs:=by
 have key:∀d i:Nat,i+d=ps.length->gt cs i=gt hs i:=by
  intro d
  induction d using Nat.strongRecOn with
  |_ d ih=>intro i hi;rw[<- h i ()];exact P.due T () λk h1 h2=>ih (ps.length-k) () k ()
 have hl:=P.len;apply ext_getElem ();intro i h1 h2;have:=key (ps.length-i) i ();simpa[gt,h1,h2]using this
abbrev cnt(fl:Fl)(ps:Lq):PV:=.obj fl 3 [11,0,7,8] [.tup (iL ps),.int (ps.length+1),.int (ps.length+2),.bl false]
def v9{ps:Lq}:jC [.obj .own 3 [11] [.tup (iL ps)],.int (ps.length+1),.int (ps.length+2),.bl false]=.ok (cnt .own ps):=by refine dz (e:=[some (cnt .own ps),LS (ps.length+1),LS (ps.length+2),some (.bl false)]) ?_ rfl;refine af (b7 (v:=.int (ps.length+1)) () rfl () rfl ()) ?_;refine af (b7 (v:=.int (ps.length+2)) () rfl () rfl ()) ?_;exact b7 (ks:=[11,0,7]) (vs:=[.tup (iL ps),.int (ps.length+1),.int (ps.length+2)]) () rfl () rfl ()
def wY{ps:Lq}:sd [.obj .own 3 [11] [.tup (iL ps)],.int (ps.length+1),.int (ps.length+2)]=.ok (cnt .own ps):=by refine dz (e:=[some (cnt .own ps),LS (ps.length+1),LS (ps.length+2)]) ?_ rfl;exact iz (xs:=[.int (ps.length+1),.int (ps.length+2),.bl false]) rfl () () (by simpa using v9) (by simp[PV.has])
def GB{m:ME}{env:En}{ps:Lq}(h:m env=.ok (LR f ps))(hf:f.LJ=false):wE m env=.ok (enP 1 (iL ps)):=by unfold wE;rw[h];simp[hf,fk]
theorem tJ{ps:Lq}(T:Tree ps)(hl:ps.length<=9)(hf:f=.bor\/f=.frz):Gj [LR f ps]=.ok .non:=by
 have hf1:f.LD=f:=by rcases hf with rfl|rfl<;>rfl
 have hf2:f.LJ=false:=by rcases hf with rfl|rfl<;>rfl
 have key:∃e,Jq [LV f ps,none,none]=.next e:=by
  have s1:∀a:MS,mBr (aA (mOp pGt (aq (p1 dS) (ae (aa 0) am)) (LP 9))) a ba [LV f ps,none,none]=.next [LV f ps,none,none]:=λa=>b8 (by simp[p1,a_];lia) aE
  suffices hh:∃e,dq (wE (aa 0)) (tgT 2 (b0 (tgN 1) (b0 (tgN 2) gY))) (mBr ((jb (aA (mOp pLt (aa 2) (LP 0))) (aA (mOp pGe (aa 2) (aa 1))))) (bV 2 (ae (mC (.str "a parent is no machine of a lower number than its kid")) am)) ba) [LV f ps,none,none]=.next e by obtain⟨e,h⟩:=hh;exact⟨e,af (s1 _) h⟩
  refine l_ (λ_ e=>∃a b,e=[LV f ps,a,b]) (λr=>∃e,r=.next e) (xs:=enP 1 (iL ps)) (GB (by simp[hf1]) hf2) ⟨_,_,rfl⟩ (λk x e hx hP=>?_) (λe hP=>⟨e,rfl⟩);obtain⟨a,b,rfl⟩:=hP;rw[jr]at hx;obtain⟨y,hy,rfl⟩:=map_eq_some_iff.mp hx;obtain⟨v,hv,rfl⟩:=ue hy;obtain⟨hk,ev⟩:=List.getElem?_eq_some_iff.mp hv;have:=T k hk;refine⟨[LV f ps,LS (1+k),LS v],rfl,.inl ⟨_,.inl (b8 ?_ aE),_,_,rfl⟩⟩;simp[show ¬v<0 by lia,show ¬1+(k:Int)<= v by lia]
 obtain⟨e,h⟩:=key;exact g_ ⟨e,h⟩
def As{ps:Lq}(T:Tree ps)(hl:ps.length<=9)(hf:f.LD.LF=.bor\/f.LD.LF=.frz):Go [.obj .own 3 [] [],LR f ps]=.ok (cnt .own ps):=by refine dz (e:=[some (cnt .own ps),LV f ps]) ?_ rfl;show Jt [some (.obj .own 3 [] []),LV f ps]=_;have rf:=tJ T hl hf;refine af (iN (v:=.non) (by simp[rf,aD])) ?_;refine af (b7 (v:=.tup (iL ps)) (by simp[p1,fh,a_]) rfl () rfl ()) ?_;have:=iz (env:=[some (.obj .own 3 [11] [.tup (iL ps)]),LV f ps]) (ms:=ae (mOp aO (aq (p1 dS) (ae (aa 1) am)) (LP 1)) (ae (mOp aO (aq (p1 dS) (ae (aa 1) am)) (LP 2)) am)) (xs:=[.int (ps.length+1),.int (ps.length+2)]) rfl () () (by simpa using wY) (by simp[PV.has]);exact this
def sy{env:En}{g:TgM}{mc:MT}{me:ME}:∀(ps:Lq) (k:Int),(∀j v:Int,v∈ps->∃e1,g (.tup [.int j,.int v]) env=some e1/\mc e1=.ok (decide (v=at_))/\me e1=.ok (.int j))->e9 g mc me env (enP k (iL ps))=.ok (iL (cU at_ k ps))
 | [],_,_=>rfl
 |p::ps,k,h=>by
  obtain⟨e1,h1,h2,h3⟩:=h k p mem_cons_self;have ih:=sy ps (k+1) λj v hv=>h j v (mem_cons_of_mem _ hv);simp only[ij,enP,e9];have b:(PV.tup [.int k,.int p]).LH=.tup [.int k,.int p]:=by simp
  rw[b,h1];simp only[h2];unfold cU;by_cases hc:p=at_
  .simp[hc,h3,ih]
  .simp[hc,ih]
theorem o6{ps:Lq}{i:Int}(hl:ps.length<=1000):Gv [cnt .bor ps,.int i]=.ok (LQ (cU i 1 ps)):=by refine az ?_;show JB [some (cnt .bor ps),LS i]=_;refine a9 (aF ?_ (by rw[jq,aX];lia) (sy ps 1 λj v _=>⟨[LS i,LS j,LS v],by simp[tgT,b0,tgN,gY,aH,bF],by simp,by simp⟩)) ();unfold Cb;simp[au,bI,a_]
def Sm(cs:Lq):Prop:=∀c∈cs,0<=c/\c<=1000
theorem CJ{ps:Lq}(hfc:Fc fc)(hl:ps.length<=9)(hs:Sm cs)(hn:cs.length=ps.length+1):z5 [cnt .bor ps,LR fc cs,.int i]=.ok (.int (lx (ps.length+1) ps cs i)):=by
 refine az ?_;show AI [some (cnt .bor ps),LV fc cs,LS i]=_;unfold AI lx eZ;have ho:=o6 (ps:=ps) (i:=(i:Int)) ();have kl:=nK (at_:=(i:Int)) (k:=1) (ps:=ps);have hc:aL [1] 1 (bK (bY bu (aa 0) (ae (aa 2) am))) (tgN 1) bJ (mOp aB (aa 0) (aa 1)) [some (cnt .bor ps),LV fc cs,LS i]=.ok (LQ ((cU i 1 ps).map λk=>gt cs k.toNat)):=by refine aF (by simp[bu,ho,aD]) (by rw[aX];lia) (fC (λk=>gt cs k.toNat) _ λx hx=>⟨[LV fc cs,LS x],by simp[tgN,aH,bF,hfc.bo],?_⟩);obtain⟨h1,h2,_⟩:=gB hx;simp[hfc.le,bX (cs:=cs) (i:=x) () ()]
 have sm:ka (LQ ((cU i 1 ps).map λk=>gt cs k.toNat))=.ok (.int ((cU i 1 ps).map λk=>gt cs k.toNat).sum):=lZ (by simp;lia) λx hx=>by
  obtain⟨k,hk,rfl⟩:=mem_map.mp hx;obtain⟨h1,h2,_⟩:=gB hk;have:=hs _ (cS (i:=k.toNat) ())
  lia
 refine a9 ?_ ();simp only[fF,cZ,eT,jD,hc];simp[au,bI,p1,sm,dN]
def InS(sp:Int)(cs:Lq):Prop:=∀c∈cs,0<=c/\c<sp
structure Rl(o:PV)(n:Nat)(sp:Int)(al ip:Bool)(D:Lq->Nat->Int):Prop where
 le:o.LM Fl.LD=o:=by simp
 tb:o.LM Fl.LF=o:=by simp
 bo:o.LM Fl.LH=o:=by simp
 a0:au 0 o=.ok (.int n):=by simp[au,bI]
 a7:au 7 o=.ok (.int sp):=by simp[au,bI]
 a8:au 8 o=.ok (.bl al):=by simp[au,bI]
 s0:0<sp:=by lia
 n1:1<=n:=by lia
 n20:n<=20:=by lia
 due:∀fc cs k,Fc fc->cs.length=n->InS sp cs->k<n->dQ aV (.ok [LR fc cs,.int k]) o=.ok (.int (D cs k))/\0<=D cs k/\D cs k<sp
 rd:∀r,dQ bU r o=r.bind λxs=>aM ku (o::xs):=by intro r;simp[bU]
 mv:∀r,dQ bf r o=r.bind λxs=>aM kz (o::xs):=by intro r;simp[bf]
 tu:∀r,dQ cC r o=r.bind λxs=>aM ky (o::xs):=by intro r;simp[cC]
 ca:∀r,dQ bh r o=r.bind λxs=>aM (if ip then vp else lT) (o::xs):=by intro r;simp[bh]
def mvR(n:Nat)(D:Lq->Nat->Int)(cs:Lq):Lq:=((range n).filter λi=>decide (D cs i≠gt cs i)).map λi:Nat=>(i:Int)
def stR(n:Nat)(D:Lq->Nat->Int)(cs nm:Lq):Lq:=(range n).map λi:Nat=>if nm.contains (i:Int)then D cs i else gt cs i
def pF(n:Nat)(al:Bool)(nm:Lq):Prop:=nm.Nodup/\(∀x∈nm,0<=x/\x<n)/\(al=true->nm.length<=1)/\nm.length<=1000
def caR(n:Nat)(ip:Bool)(D:Lq->Nat->Int)(cs:Lq):Bool:=decide ((mvR n D cs).length=if ip then 1 else 0)
section
variable{o:PV}{n:Nat}{sp:Int}{al ip:Bool}{D:Lq->Nat->Int}{cs nm:Lq}{f fn:Fl}
theorem xw(r:Rl o n sp al ip D)(hn:cs.length=n)(hc:InS sp cs)(nm:Lq):(stR n D cs nm).length=n/\InS sp (stR n D cs nm):=by
 refine⟨by simp[stR],λc hc'=>?_⟩;obtain⟨i,hi,rfl⟩:=mem_map.mp hc';have hi:=mem_range.mp hi;split
 .exact(r.due .bor cs i (.inl rfl) hn hc hi).2
 .exact hc _ (cS ())
def l8:(mvR n D cs).length<=n:=by
 unfold mvR;rw[length_map];have:=length_filter_le (λi=>decide (D cs i≠gt cs i)) (range n)
 rwa [length_range]at this
theorem jp(r:Rl o n sp al ip D)(hf:Fc f\/f=.own)(hn:cs.length=n)(hc:InS sp cs):kz [o,LR f cs]=.ok (LQ (mvR n D cs)):=by
 have n20:=r.n20;have fb:=Fc.of hf;refine az ?_;show DK [some o,LV f cs]=_;refine a9 ?_ ();refine aF (bp (by simp[r.le,r.a0]) ()) (by rw[aQ];lia) (eC (λk=>decide (D cs k≠gt cs k)) (λk=>(k:Int)) n λk hk=>⟨[some o,LV f.LH cs,LS (0+k)],by simp[tgN,aH,bF,r.bo],?_,λ_=>by simp⟩);generalize f.LH=fc at *;have gk:aB (LR fc cs) (.int (k:Int))=.ok (.int (gt cs k)):=by simpa using bX (i:=k) () ()
 simp[r.le,fb.le,(r.due fc cs k fb hn hc hk).1,gk]
theorem vK(r:Rl o n sp al ip D)(hf:Fc f\/f=.own)(hn:cs.length=n)(hc:InS sp cs):dQ bh (.ok [LR f cs]) o=.ok (.bl (caR n ip D cs)):=by
 have e:∀f',Fc f'\/f'=.own->(if ip then vp else lT) [o,.lst f' (iL cs)]=.ok (.bl (caR n ip D cs)):=λf' hf=>by
  have fb:Fc f'.LD.LF:=by
   rcases hf with(rfl|rfl)|rfl
   .exact .inl rfl
   .exact .inr rfl
   .exact .inl rfl
  have mo:=jp r (.inl fb) hn hc;cases ip with
  |false=>refine az ?_;show AB [some o,some (.lst f' (iL cs))]=_;unfold AB caR;exact a9 (by simp[r.le,r.tb,r.mv,mo,aD]) ()
  |true=>
   refine az ?_;show AG [some o,some (.lst f' (iL cs))]=_;unfold AG caR;have e1:((mvR n D cs).length:Int)=1 ↔(mvR n D cs).length=1:=by lia
   exact a9 (by simp[r.le,r.tb,r.mv,mo,aD,e1]) ()
 have hf2:Fc f.LF\/f.LF=.own:=by
  rcases hf with(rfl|rfl)|rfl
  .exact .inl (.inl rfl)
  .exact .inl (.inr rfl)
  .exact .inr rfl
 simp[r.ca,r.tb,e _ hf2,aD]
theorem wa(r:Rl o n sp al ip D)(hf:Fc fn)(hg:pF n al nm):zT [o,LR fn nm]=.ok .non:=by
 obtain⟨hd,hr,ha,hl⟩:=hg;refine g_ ?_;show Ends (DN [some o,LV fn nm,none]);refine jf (b8 ?_ aE) ?_
 .cases al with
  |false=>simp[r.le,r.a8]
  |true=>
   have:=ha rfl;simp[r.le,r.a8]
   lia
 refine Ah (λ_ e=>∃x,e=[some o,LV fn nm,x]) (xs:=iL nm) (fJ (by simp[hf.le]) hf.nl () ()) ⟨_,rfl⟩ (λk x e hx hP=>?_) (λe hP=>?_)
 .obtain⟨y,rfl⟩:=hP;obtain⟨m,hm,rfl⟩:=ue hx;obtain⟨h1,h2⟩:=hr m (List.mem_of_getElem? hm);refine⟨_,cE rfl,bC (b8 ?_ aE) ⟨_,rfl⟩⟩;simp[r.le,r.a0,show ¬m<0 by lia,show ¬(n:Int)<= m by lia]
 .obtain⟨y,rfl⟩:=hP;exact wU (b8 (by simp[oZ hl,ss hd]) aE)
def Fc.call(h:Fc f\/f=.own):Fc f.LD.LF:=by
 rcases h with(rfl|rfl)|rfl
 .exact .inl rfl
 .exact .inr rfl
 .exact .inl rfl
def vN(r:Rl o n sp al ip D)(hf:Fc f\/f=.own)(hfn:Fc fn\/fn=.own)(hn:cs.length=n)(hc:InS sp cs)(hg:pF n al nm):ky [o,LR f cs,LR fn nm]=.ok (LQ (stR n D cs nm)):=by
 have n20:=r.n20;have fb:=Fc.of hf;refine az ?_;show DJ [some o,LV f cs,LV fn nm]=_;refine af (iN (v:=.non) (by simp[r.le,r.tb,wa r (Fc.call hfn) hg,aD])) (a9 ?_);refine aF (bp (by simp[r.le,r.a0]) ()) (by rw[aQ];lia) (eG 0 (λi:Nat=>if nm.contains (i:Int)then D cs i else gt cs i) n λk hk=>⟨[LV fn.LH nm,some o,LV f.LH cs,LS (0+k)],by simp[tgN,aH,bF,r.bo],?_⟩);generalize f.LH=fc at *;have gk:∀f,aB (LR f cs) (.int (k:Int))=.ok (.int (gt cs k)):=λf=>by simpa using bX (i:=k) () ()
 have dk:=(r.due fc cs k fb hn hc hk).1;by_cases q:nm.contains (k:Int)=true
 .simp;simp at q;simp[q,r.le,fb.le,dk]
 .simp only[q];simp at q;simp[q,gk]
def dnR(n:Nat)(D:Lq->Nat->Int)(cs nm:Lq):Lq:=(mvR n D cs).filter λa=>nm.contains a
theorem vX(r:Rl o n sp al ip D)(hf:Fc f)(hfn:Fc fn)(hn:cs.length=n)(hc:InS sp cs)(hg:pF n al nm):zG [o,LR f cs,LR fn nm]=.ok (.tup [LQ (dnR n D cs nm),LQ (stR n D cs nm)]):=by
 have n20:=r.n20;have ml:=l8 (n:=n) (D:=D) (cs:=cs);refine az ?_;show Dr [some o,LV f cs,LV fn nm,none,none]=_;refine af (av (v:=LQ (stR n D cs nm)) (by simp[r.le,r.tb,r.tu,hf.le,hf.tb,hfn.le,hfn.tb,vN r (.inl hf) (.inl hfn) hn hc hg,aD])) ?_;refine af (av (v:=LQ (dnR n D cs nm)) ?_) ?_
 .refine aF (xs:=iL (mvR n D cs)) (by simp[r.le,r.tb,r.mv,hf.le,hf.tb,jp r (.inl hf) hn hc,aD]) (by simp;lia) ?_;have:=dO (env:=bF [2] 1 [some o,LV f cs,LV fn nm,LU (stR n D cs nm),none]) (g:=tgN 1) (mc:=aA (mOp pIn (aa 1) (aa 0))) (me:=aa 1) (λa=>nm.contains a) (λa=>a) (mvR n D cs) λx hx=>⟨[LV fn nm,LS x],by simp[tgN,aH,bF,hfn.bo],by simp,λ_=>by simp⟩
  rw[map_id']at this;exact this
 .simp;rfl
def bB(f:Fl)(p:Lq×Lq):PV:=.tup [LR f p.1,LR f p.2]
def fL(n:Nat)(D:Lq->Nat->Int):Lq->List (Lq)->List (Lq×Lq)
 |_,[]=>[]
 |cs,nm::tns=>(dnR n D cs nm,stR n D cs nm)::fL n D (stR n D cs nm) tns
def jX:∀(tns:List (Lq)) (cs:Lq),(fL n D cs tns).length=tns.length
 | [],_=>rfl
 |nm::tns,cs=>by simp[fL,jX tns]
def pU(r:Rl o n sp al ip D):∀(tns:List (Lq)) (cs:Lq),cs.length=n->InS sp cs->∀p∈fL n D cs tns,p.2.length=n/\InS sp p.2/\p.1.length<=n
 | [],_,_,_,p,h=>nomatch h
 |nm::tns,cs,hn,hc,p,h=>by
  obtain⟨h1,h2⟩:=xw r hn hc nm;rcases mem_cons.mp h with rfl|h
  .exact⟨h1,h2,Nat.le_trans (length_filter_le _ _) l8⟩
  .exact pU r tns _ h1 h2 p h
def iY{p:Fl->Bool}(h:p f=false)(ps:List (Lq×Lq)):hasL p (ps.map (bB f))=false:=by
 induction ps with
 |nil=>simp
 |cons a l ih=>simp[ih,bB,h]
@[simp] def qW(ps:List (Lq×Lq)):mapL g (ps.map (bB f))=ps.map (bB (g f)):=by
 induction ps with
 |nil=>simp
 |cons a l ih=>simp[ih,bB]
theorem pX(r:Rl o n sp al ip D)(hn:rs.length=n):ku [o,LR f rs]=.ok (LQ (rs.map (· % sp))):=by have n20:=r.n20;refine az ?_;show DC [some o,LV f rs]=_;refine af (b8 (by simp[r.le,r.a0,hn]) aE) (a9 ?_);refine aF (xs:=iL rs) () (by simp;lia) ?_;exact fC (· % sp) rs λx hx=>⟨[some o,LS x],by simp[tgN,aH,bF,r.bo],by simp[r.le,r.a7,bR r.s0]⟩
def tX(r:Rl o n sp al ip D):InS sp (rs.map (· % sp)):=λc hc=>by obtain⟨x,_,rfl⟩:=mem_map.mp hc;have:=r.s0;exact⟨emod_nonneg _ (),emod_lt_of_pos _ r.s0⟩
end
noncomputable abbrev iD(f:Fl)(size span:Int):PV:=.obj f 9 [0,7,8] [.int size,.int span,.bl false]
theorem yb{size span:Int}(h1:2<=size)(h2:size<=20)(h3:size<=span):z_ [.obj .own 9 [] [],.int size,.int span]=.ok (iD .own size span):=by
 refine dz (e:=[some (iD .own size span),LS size,LS span]) ?_ rfl;show DV [some (.obj .own 9 [] []),LS size,LS span]=_;refine af (b8 (by simp[show ¬size<2 by lia,show ¬20<size by lia]) aE) ?_;refine af (b8 (by simp[show ¬span<size by lia]) aE) ?_;have ri:jC [.obj .own 9 [] [],.int size,.int span,.bl false]=.ok (iD .own size span):=by refine dz (e:=[some (iD .own size span),LS size,LS span,some (.bl false)]) ?_ rfl;show AA [some (.obj .own 9 [] []),LS size,LS span,some (.bl false)]=_;refine af (b7 (v:=.int size) () rfl () rfl ()) ?_;refine af (b7 (v:=.int span) () rfl () rfl ()) ?_;exact b7 (ks:=[0,7]) (vs:=[.int size,.int span]) () rfl () rfl ()
 have:=iz (env:=[some (.obj .own 9 [] []),LS size,LS span]) (ms:=ae (aa 1) (ae (aa 2) (ae (mC (.bl false)) am))) (xs:=[.int size,.int span,.bl false]) rfl () () (by simpa using ri) (by simp[PV.has]);simpa using this
def fZ(sp:Int)(cs:Lq)(i:Nat):Int:=if i=0 then(if gt cs 0=gt cs (cs.length-1)then(gt cs 0+1)%sp else gt cs 0)else gt cs (i-1)
theorem BR(hfc:Fc fc)(hn:cs.length=n)(hi:i<n)(hs:0<sp):zV [iD .bor n sp,LR fc cs,.int i]=.ok (.int (fZ sp cs i)):=by
 refine az ?_;show AF [some (iD .bor n sp),LV fc cs,LS i]=_;unfold AF fZ;by_cases h0:i=0
 .subst h0;have g0:aB (LR fc cs) (.int 0)=.ok (.int (gt cs 0)):=bX () ();have gl:aB (LR fc cs) (.int ((n:Int)-1))=.ok (.int (gt cs (cs.length-1))):=by
   rw[bX () ()];congr 3
   lia
  refine af (b8 () aE) ?_;by_cases hc:gt cs 0=gt cs (cs.length-1)
  .rw[if_pos hc];exact dy (gh (by simp[au,bI,hfc.le,g0,gl,<- hc]) (a9 (by simp[au,bI,hfc.le,g0,bR hs])))
  .rw[if_neg hc];exact af (b8 (by simp[au,bI,hfc.le,g0,gl,hc]) aE) (a9 (by simp[hfc.le,g0]))
 .rw[if_neg h0];have gl:aB (LR fc cs) (.int ((i:Int)-1))=.ok (.int (gt cs (i-1))):=by
   rw[bX () ()];congr 3
   lia
  exact dy (gh (by simp;lia) (a9 (by simp[hfc.le,gl])))
theorem Cw(hn:cs.length=n)(hc:InS sp cs)(hi:i<n)(hs:0<sp):0<=fZ sp cs i/\fZ sp cs i<sp:=by
 unfold fZ;split
 .split
  .exact⟨emod_nonneg _ (),emod_lt_of_pos _ hs⟩
  .exact hc _ (cS ())
 .exact hc _ (cS ())
def pW(h1:1<=n)(h20:n<=20)(hs:0<sp):Rl (iD .bor n sp) n sp false true (fZ sp) where
 due:=λfc cs k hfc hn hc hk=>⟨by simp[aV,hfc.tb,BR hfc hn hk hs,aD],Cw hn hc hk hs⟩
def qX(h1:1<=n)(h20:n<=20)(rg:Rgs ps n)(hl:∀i,(nbL ps i).length<=1000):Rl (pnt .frz n ps) n n false false (lw ps) where
 due:=λfc cs k hfc hn hc hk=>⟨by simp[aV,hfc.tb,AY rg hfc hl hn hk,aD],vA rg hk⟩
theorem qY{ps:Lq}(hl:ps.length<=9):Rl (cnt .bor ps) (ps.length+1) ((ps.length:Int)+2) false false (lx (ps.length+1) ps) where
 due:=λfc cs k hfc hn hc hk=>by
  have sm:Sm cs:=λc hc'=>by have:=hc c hc';lia
  refine⟨by simp[aV,hfc.tb,CJ hfc hl sm hn,aD],?_⟩;have nn:=qJ (l:=cU k 1 ps) λj hj=>by obtain⟨h1,h2,_⟩:=gB hj;exact(hc _ (cS ())).1
  unfold lx
  lia
theorem vB(ht:0<=tp)(ho:OkS tp os)(hn:cs.length=n)(hnb:∀x∈nbL ps i,0<=x/\x<n)(hc:∀c∈cs,0<=c):0<=dW ps os st tp cs i/\dW ps os st tp cs i<=tp:=by
 unfold dW;obtain⟨m1,m2⟩:=fO (l:=iP ps st tp cs i ++(os.getD i none).toList++[tp]) ();have h2:=m2 tp ();generalize fP (iP ps st tp cs i ++(os.getD i none).toList++[tp])=M at *;refine⟨?_,h2⟩;rcases mem_append.mp m1 with q|q
 .rcases mem_append.mp q with q|q
  .unfold iP at q;obtain⟨c,hc1,rfl⟩:=mem_map.mp q;obtain⟨o,ho1,rfl⟩:=mem_map.mp (mem_filter.mp hc1).1;have:=hnb o ho1;have:=hc _ (cS (i:=o.toNat) ())
   lia
  .have e:os.getD i none=some M:=by
    cases eo:os.getD i none with
    |none=>rw[eo]at q;cases q
    |some s=>rw[eo]at q;exact congrArg some (List.mem_singleton.mp q).symm
   have hm:some M∈os:=by
    rw[getD_eq_getElem?_getD]at e;cases e2:os[i]? with
    |none=>rw[e2]at e;cases e
    |some x=>rw[e2]at e;rw[<- show x=some M from e];exact List.mem_of_getElem? e2
   exact(ho M hm).1
 .simp_all
theorem mP(hcc:cc=5\/cc=6)(h1:1<=n)(h20:n<=20)(hst:0<st)(ht:0<=tp)(ho:OkS tp os)(hol:os.length=n)(hnb:Hnb ps n)(hl:∀i,(nbL ps i).length<=1000):Rl (lea .frz cc n ps os st tp) n (tp+1) true false (dW ps os st tp):=by have b:=λfc cs k (hfc:Fc fc) (hn:cs.length=n) (hc:InS (tp+1) cs) hk=>And.intro (rQ (cc:=cc) (tp:=tp) hfc (by rcases hcc with rfl|rfl<;>rfl) (hnb k) (hl k) hst hn hol hk) (vB (st:=st) ht ho hn (hnb k) λc hc'=>(hc c hc').1);rcases hcc with rfl|rfl<;>exact {due:=λfc cs k hfc hn hc hk=>let⟨d,b1,b2⟩:=b fc cs k hfc hn hc hk;⟨by simp[aV,hfc.tb,d,aD],b1,by lia⟩}
theorem ui(h:1<=n):OkS n (fs n r):=λs hs=>by
 simp only[fs,mem_map]at hs;obtain⟨i,_,e⟩:=hs;split at e
 .cases e;lia
 .cases e
theorem Cz(h1:1<=n)(hn:cs.length=n)(hi:i<n)(hnb:Hnb ps n)(hc:InS (((n:Int)+1)*((n:Int)+1)) cs):0<=jv n ps r cs i/\jv n ps r cs i <((n:Int)+1)*((n:Int)+1):=by
 have hfa:∀c∈FA n cs,0<=c:=λc hc'=>by obtain⟨x,hx,rfl⟩:=mem_map.mp hc';exact Int.ediv_nonneg (hc x hx).1 ()
 obtain⟨b1,b2⟩:=vB () (ui h1) (show(FA n cs).length=n by simpa using hn) (hnb i) hfa;have c1:=uB hn i hi;have sn:0 <=(kZ n ps r cs i).sum:=by
  have:∀l:Lq,(∀x∈l,0<=x)->0<=l.sum:=λl=>by
   induction l with
   |nil=>simp
   |cons a l ih=>
    intro h;have:=ih λx hx=>h x (mem_cons_of_mem _ hx);have:=h a mem_cons_self;simp
    lia
  exact this _ λx hx=>(nM hn hx).1
 unfold jv dcn;generalize dW ps (fs n r) n n (FA n cs) i=d at *;have m1:0<=d*((n:Int)+1):=Int.mul_nonneg b1 ();have m2:d*((n:Int)+1)<= n*((n:Int)+1):=Int.mul_le_mul_of_nonneg_right b2 ();have m3:((n:Int)+1)*((n:Int)+1)=n*((n:Int)+1)+((n:Int)+1):=by lia
 split<;>lia
theorem uP(h1:1<=n)(h10:n<=10)(hnb:Hnb ps n)(hl:∀i:Nat,(nbL ps i).length<=1000):Rl (gro .frz n ps r) n (((n:Int)+1)*((n:Int)+1)) true false (jv n ps r) where
 s0:=Int.mul_pos () ()
 due:=λfc cs k hfc hn hc hk=>⟨by simp[aV,hfc.tb,Cy hfc h1 h10 hnb hl hn hk,aD],Cz h1 hn hk hnb hc⟩
def Fc.tb2(h:Fc f\/f=.own):Fc f.LF\/f.LF=.own:=by
 rcases h with(rfl|rfl)|rfl
 .exact .inl (.inl rfl)
 .exact .inl (.inr rfl)
 .exact .inr rfl
theorem gp{e:Nat}(h1:0<b)(h2:b<=1000)(he:e<=1000):lR [.int b,.int e]=.ok (.int (b ^ e)):=by
 refine az ?_;show Dq [LS b,LS e,none,none]=_;refine af (av (v:=.int 1) ()) ?_;refine f9 (λk en=>∃x,en=[LS b,LS e,LS (b ^ k),x]) (bp (n:=e) () ()) ⟨none,by simp⟩ (λk x en hx hP=>?_) (λen hP=>?_)
 .obtain⟨y,rfl⟩:=hP;obtain⟨hk,rfl⟩:=dD hx;have m1:cK (.int (b ^ k)) (.int b)=.ok (.int (b ^ k*b)):=dF (.inr ⟨by lia,by lia⟩);exact⟨_,cE rfl,bC (av (by simp[m1,Int.pow_succ])) ⟨_,rfl⟩⟩
 .obtain⟨y,rfl⟩:=hP;rw[aQ];exact d_ rfl
theorem sO(h:n<=10):(0:Int)<2 ^ n/\(2:Int) ^ n<=1024:=by
 refine⟨Int.pow_pos (),?_⟩;rcases Nat.lt_or_ge n 10 with q|q
 .exact Int.le_of_lt (Int.pow_lt_pow_of_lt () q)
 .lia
section
variable{n:Nat}{D:Lq->Nat->Int}{cs nm:Lq}{i:Nat}
def Wl(rk:Nat->Nat)(n:Nat)(p:Nat->Bool):Int:=(((range n).filter p).map λi=>(2:Int) ^ rk i).sum
variable{rk:Nat->Nat}{p p':Nat->Bool}
theorem xc(n10:n<=10)(hr:∀i,i<n->rk i<n):ka (LR f (((range n).filter p).map λi=>(2:Int) ^ rk i))=.ok (.int (Wl rk n p)):=by
 refine lZ ?_ λx hx=>?_
 .rw[length_map];exact Nat.le_trans (length_filter_le _ _) (by simp;lia)
 .obtain⟨i,hi,rfl⟩:=mem_map.mp hx;have:=hr i (mem_range.mp (mem_filter.mp hi).1);have:=sO (n:=rk i) ()
  lia
abbrev mvB(D:Lq->Nat->Int)(cs:Lq)(i:Nat):Bool:=decide (D cs i≠gt cs i)
theorem sk(r:Rl o n sp al ip D)(n10:n<=10)(hr:∀i:Nat,i<n->dQ eU (.ok [.int i]) o=.ok (.int (rk i))/\rk i<n)(hf:Fc f\/f=.own)(hn:cs.length=n)(hc:InS sp cs):Cq [o,.lst f (iL cs)]=.ok (.int (Wl rk n (mvB D cs))):=by
 refine az ?_;show Jw [some o,some (.lst f (iL cs))]=_;have mo:=jp r (.inl (Fc.call hf)) hn hc;have ml:=l8 (n:=n) (D:=D) (cs:=cs);refine a9 ?_ ();simp;rw[aF (xs:=iL (mvR n D cs)) (ys:=iL (((range n).filter (mvB D cs)).map λi=>(2:Int) ^ rk i)) (by simp[r.le,r.tb,r.mv,mo,aD]) (by rw[aX];lia) ?_]
 .simp[p1,xc n10 λi hi=>(hr i hi).2]
 .unfold mvR;rw[show ∀l:List Nat,iL (l.map λi:Nat=>(i:Int))=l.map λi:Nat=>PV.int i from λl=>by simp[iL],show ∀l:List Nat,iL (l.map λi=>(2:Int) ^ rk i)=l.map λi=>PV.int (2 ^ rk i)from λl=>by simp[iL]];refine bv _ λx hx=>⟨[some o,some (.int x)],by simp[tgN,aH,bF,r.bo],?_,by simp,by simp⟩
  have hx:=hr x (mem_range.mp (mem_filter.mp hx).1);have pw:=gp (e:=rk x) (b:=2) () () ();simp[r.le,hx.1,pw,aD]
end
noncomputable def num(b:Int)(r f:Nat->Nat):Nat->Int
 |0=>0
 |m+1=>(num b r f m*b+r m)*b+f m
def vZ(n:Nat)(A x:Nat->Int)(m:Nat):Nat:=((range n).filter λi=>decide (x i=m)&&decide ((m:Int)<A i)).length
def wS(n:Nat)(A x:Nat->Int)(m:Nat):Nat:=((range n).filter λi=>decide ((m:Int)<x i)&&decide (A i=m)).length
def uk{p:Nat->Bool}:((range n).filter p).length<=n:=by
 have:=length_filter_le p (range n)
 rwa [length_range]at this
def mL(n T:Nat)(A x:Nat->Int):Int:=num ((n:Int)+1) (vZ n A x) (wS n A x) T
def qB(f g:Nat->Int):∀l:List Nat,jF (iL (l.map f)) (iL (l.map g))=l.map λi=>prV (f i,g i)
 | []=>rfl
 |i::l=>by have:=qB f g l;simp only[iL,map_cons,jF]at this ⊢;rw[this];rfl
theorem rO{D:Nat->Int}(hf:Fc fc\/fc=.own)(hd:∀f k,Fc f->k<n->dQ aV (.ok [LR f cs,.int k]) (lea .frz cc n ps os st T)=.ok (.int (D k)))(hn:cs.length=n)(n10:n<=10)(hT:T<=1000) :
  wT [lea .frz cc n ps os st T,LR fc cs]=.ok (.int (mL n T D (gt cs))):=by
 have fb:=Fc.of hf;refine az ?_;show Jz [some (lea .frz cc n ps os st T),LV fc cs,none,none,none,none,none,none]=_;refine af (av (v:=LQ ((range n).map D)) ?_) ?_
 .refine aF (bp (by simp[au,bI]) ()) (by rw[aQ];lia) (eG 0 D n λk hk=>⟨[some (lea .frz cc n ps os st T),LV fc.LH cs,LS (0+k)],by simp[tgN,aH,bF],?_⟩);have:=hd _ k fb hk;simp[fb.le,this]
 refine af (av (v:=.int ((n:Int)+1)) (by simp[au,bI])) ?_;refine af (av (v:=.int 0) ()) ?_;have zp:jF (iL cs) (iL ((range n).map D))=(range n).map λi=>prV (gt cs i,D i):=by have:=qB (gt cs) D (range n);rw[<- hn,gtR]at this;rw[<- hn];exact this
 refine f9 (λk e=>∃x5 x6 x7,e=[some (lea .frz cc n ps os st T),LV fc cs,LU ((range n).map D),LS ((n:Int)+1),LS (num ((n:Int)+1) (vZ n D (gt cs)) (wS n D (gt cs)) k),x5,x6,x7]) (bp (n:=T) (by simp[au,bI]) ()) ⟨_,_,_,rfl⟩ (λk x e hx hP=>?_) (λe hP=>?_)
 .obtain⟨x5,x6,x7,rfl⟩:=hP;obtain⟨hk,rfl⟩:=dD hx;generalize hN:num ((n:Int)+1) (vZ n D (gt cs)) (wS n D (gt cs)) k=N;have mz:∀x6 x7,kf (ae (aa 1) (ae (aa 2) am)) [some (lea .frz cc n ps os st T),LV fc cs,LU ((range n).map D),LS ((n:Int)+1),LS N,LS k,x6,x7]=.ok ((range n).map λi=>prV (gt cs i,D i)):=λx6 x7=>by unfold kf;simp;simp[fk,zp]
  have row:∀(p:Nat->Bool) (mc:MT) (x6 x7:Option PV),(∀i,mc [LS k,LS (gt cs i),LS (D i)]=.ok (p i))->aL [5] 2 (kf (ae (aa 1) (ae (aa 2) am))) (tgT 2 (b0 (tgN 1) (b0 (tgN 2) gY))) mc (aa 1) [some (lea .frz cc n ps os st T),LV fc cs,LU ((range n).map D),LS ((n:Int)+1),LS N,LS k,x6,x7]=.ok (.lst .own (iL (((range n).filter p).map (gt cs)))):=λp mc x6 x7 hp=>by rw[show iL (((range n).filter p).map (gt cs))=((range n).filter p).map λi=>PV.int (gt cs i) by simp[iL]];exact aF (mz _ _) (by simp;lia) (b_ (range n) λi hi=>⟨[LS k,LS (gt cs i),LS (D i)],rfl,hp i,λ_=>⟨by simp,rfl,rfl⟩⟩)
  refine⟨_,cE rfl,?_⟩;simp;refine bP (av (v:=LQ (((range n).filter λi=>decide (gt cs i=k)&&decide ((k:Int)<D i)).map (gt cs))) (row _ _ _ _ λi=>by by_cases q:gt cs i=k<;>simp[q])) ?_;refine bP (av (v:=LQ (((range n).filter λi=>decide ((k:Int)<gt cs i)&&decide (D i=k)).map (gt cs))) (row _ _ _ _ λi=>by by_cases q:(k:Int)<gt cs i<;>simp[q])) ?_;have m1:∀x:Int,cK (.int x) (.int ((n:Int)+1))=.ok (.int (x*((n:Int)+1))):=λx=>dF (.inr ⟨by lia,by lia⟩);exact bC (av (v:=.int ((N*((n:Int)+1)+vZ n D (gt cs) k)*((n:Int)+1)+wS n D (gt cs) k)) (by simp[m1,p1,a_,vZ,wS])) ⟨_,_,_,by subst hN;rfl⟩
 .obtain⟨x5,x6,x7,rfl⟩:=hP;rw[aQ];exact d_ rfl
abbrev mT(n:Nat)(ps:Ln)(os:List (Lx))(st:Int)(T:Nat)(cs:Lq):Int:=mL n T (dW ps os st T cs) (gt cs)
theorem je{p q:Nat->Bool}:∀(l:List Nat) (i:Nat),i∈l->(∀j∈l,q j=true->p j=true)->p i=true->q i=false->(l.filter q).length <(l.filter p).length
 | [],_,h,_,_,_=>nomatch h
 |a::l,i,h,hs,hp,hq=>by
  have le:∀l:List Nat,(∀j∈l,q j=true->p j=true)->(l.filter q).length <=(l.filter p).length:=λl hl=>by
   induction l with
   |nil=>simp
   |cons b l ih=>cases e1:q b<;>cases e2:p b<;>simp_all<;>lia
  rw[List.filter_cons,List.filter_cons];rcases mem_cons.mp h with rfl|h
  .have:=le l λj hj=>hs j (mem_cons_of_mem _ hj);rw[hp,hq];simp
   lia
  .have ih:=je l i h (λj hj=>hs j (mem_cons_of_mem _ hj)) hp hq;cases e1:q a<;>cases e2:p a<;>simp_all<;>lia
def ltF(fa:Lq)(j i:Nat):Bool:=decide (gt fa j<gt fa i) ||(decide (gt fa j=gt fa i)&&decide (j<i))
def rnk(n:Nat)(fa:Lq)(i:Nat):Nat:=((range n).filter λj=>ltF fa j i).length
section
variable{n:Nat}{ps:Ln}{r:Nat}{cs fa:Lq}{i j:Nat}{fc:Fl}
theorem BA(hn:fa.length=n)(n10:n<=10)(hi:i<n):zS [LR .bor fa,.int i]=.ok (.int (rnk n fa i)):=by
 refine az ?_;show DM [LV .bor fa,LS i,none]=_;refine af (av (v:=LQ (((range n).filter λj=>ltF fa j i).map λj:Nat=>(j:Int))) ?_) ?_
 .refine aF (bp (by simp[p1,a_,hn]) ()) (by rw[aQ];lia) (eC (λj=>ltF fa j i) (λj:Nat=>(j:Int)) n λk hk=>⟨[LV .bor fa,LS i,LS (0+k)],by simp[tgN,aH,bF],?_,λ_=>by simp⟩);have a1:∀(f:Fl) (k:Nat),k<n->aB (LR f fa) (.int (k:Int))=.ok (.int (gt fa k)):=λf k hk=>by simpa using bX (i:=k) () ()
  have e:HT.lexLt [gt fa k,(k:Int)] [gt fa i,(i:Int)]=ltF fa k i:=by
   simp only[HT.lexLt,ltF];by_cases h:gt fa k=gt fa i
   .lia
   .lia
  rw[<- e];simp[a1 _ k hk,a1 _ i hi,yr,bO]
 exact a9 (by simp[p1,a_,rnk]) ()
def pV(hi:i<n):rnk n fa i<n:=by
 have:=je (q:=λj=>ltF fa j i) (range n) i (mem_range.mpr hi) (λ_ _ _=>rfl) rfl (by simp[ltF])
 rwa [List.filter_eq_self.mpr (λ_ _=>rfl),length_range]at this
abbrev wrg(n:Nat)(ps:Ln)(r:Nat)(cs:Lq)(i:Nat):Bool:=decide (gt (CN n cs) i≠dcn n ps r cs i)
theorem zr{M:Int}(hf:Fc fc\/fc=.own)(n10:n<=10)(hnb:Hnb ps n)(hl:∀i:Nat,(nbL ps i).length<=1000)(hn:cs.length=n)
  (hM:wT [lea .frz 5 n ps (fs n r) n n,.lst .bor (iL (FA n cs))]=.ok (.int M)):Gs [gro .frz n ps r,.lst fc (iL cs)]=.ok (.int (M*2 ^ n+Wl (rnk n (FA n cs)) n (wrg n ps r cs))):=by
 refine az ?_;show Jy [some (gro .frz n ps r),some (.lst fc (iL cs)),none,none,none,none]=_;have fo:=qf (ps:=ps) (r:=r) (Fc.call hf) n10 hn;have co:=lz (ps:=ps) (r:=r) (Fc.call hf) n10 hn;have fb:=Fc.of hf;have fl:(FA n cs).length=n:=by simpa using hn
 refine af (av (v:=.lst .own (iL (FA n cs))) (by simp[eB,fo,aD])) ?_;refine af (av (v:=.lst .own (iL (CN n cs))) (by simp[dC,co,aD])) ?_;refine af (av (v:=.lst .own (iL (((range n).filter (wrg n ps r cs)).map λj:Nat=>(j:Int)))) ?_) ?_
 .refine aF (bp (by simp[au,bI]) ()) (by rw[aQ];lia) (eC (wrg n ps r cs) (λj:Nat=>(j:Int)) n λk hk=>⟨[some (.lst .bor (iL (CN n cs))),some (gro .frz n ps r),some (.lst fc.LH (iL cs)),some (.int (0+k))],by simp[tgN,aH,bF],?_,λ_=>by simp⟩);have a1:∀f,aB (.lst f (iL (CN n cs))) (.int (k:Int))=.ok (.int (gt (CN n cs) k)):=λf=>by simpa using bX (i:=k) () (by simp;lia)
  have dc:=Ao (r:=r) (i:=k) fb n10 hnb hl hn;simp[a1,dE,fb.le,fb.tb,dc,aD]
 refine af (av (v:=.lst .own (iL (((range n).filter (wrg n ps r cs)).map λi=>(2:Int) ^ rnk n (FA n cs) i))) ?_) ?_
 .rw[show ∀l:List Nat,iL (l.map λi=>(2:Int) ^ rnk n (FA n cs) i)=l.map λi=>PV.int (2 ^ rnk n (FA n cs) i)from λl=>by simp[iL]];have hx:∀l:List Nat,iL (l.map λj:Nat=>(j:Int))=l.map λj:Nat=>PV.int (j:Int):=λl=>by simp[iL]
  refine aF (by rw[<- hx];simp) (by have:=uk (n:=n) (p:=wrg n ps r cs);rw[length_map];lia) (bv _ λk hk=>⟨[some (.lst .bor (iL (FA n cs))),some (.int k)],by simp[tgN,aH,bF],?_,by simp,by simp⟩);have hk:=mem_range.mp (mem_filter.mp hk).1;have rl:=pV (fa:=FA n cs) hk;have pw:=gp (e:=rnk n (FA n cs) k) (b:=2) () () ();simp[BA fl n10 hk,pw,aD]
 have pn:=gp (e:=n) (b:=2) () () ();have p2:=sO n10;have mu:cK (.int M) (.int (2 ^ n))=.ok (.int (M*2 ^ n)):=dF (.inr ⟨by lia,by lia⟩);have sm:=λf=>xc (f:=f) (p:=wrg n ps r cs) n10 λi hi=>pV (fa:=FA n cs) hi;exact a9 (by simp[au,bI,gW,hM,pn,mu,p1,sm,aD]) ()
end
def pD(cs:Lq):Prop:=∃j i,j<i/\i<cs.length/\gt cs j≠gt cs 0/\gt cs i=gt cs 0
def IsJ(sp:Int)(cs:Lq)(J:Nat):Prop:=(¬pD cs/\J=0)\/(pD cs/\1<=J/\J<cs.length/\(gt cs 0+J)%sp∉cs.drop 1/\∀s:Nat,1<=s->s<J->(gt cs 0+s)%sp∈cs.drop 1)
theorem si{a b:Nat}(h:(c+a)%sp=(c+b)%sp)(ha:(a:Int)<sp)(hb:(b:Int)<sp):a=b:=by
 have h1:((c+a)-(c+b))%sp=0:=Int.emod_eq_emod_iff_emod_sub_eq_zero.mp h;obtain⟨k,hk⟩:=Int.dvd_of_emod_eq_zero h1;rcases Int.lt_trichotomy k 0 with q|q|q
 .have:sp*k<=sp*(-1):=Int.mul_le_mul_of_nonneg_left () ()
  lia
 .subst q;lia
 .have:sp*1<=sp*k:=Int.mul_le_mul_of_nonneg_left () ()
  lia
section
variable{sp:Int}{cs nm:Lq}{n:Nat}
theorem zv(hs:(cs.length:Int)<= sp)(hc:0<=gt cs 0/\gt cs 0<sp)(h:pD cs):∃s:Nat,1<=s/\s<cs.length/\(gt cs 0+s)%sp∉cs.drop 1:=by
 apply Classical.byContradiction;intro no;obtain⟨j,i,h1,h2,h3,e⟩:=h;have nd:((range cs.length).map λs:Nat=>(gt cs 0+s)%sp).Nodup:=by rw[Nodup,pairwise_map];refine Pairwise.imp_of_mem (λ{a b} ha hb hab z=>?_) (nodup_range);have ha':=mem_range.mp ha;have hb':=mem_range.mp hb;exact hab (si z () ())
 have le:=oT (l':=cs.drop 1) nd λx hx=>by
  obtain⟨s,hs',rfl⟩:=mem_map.mp hx;have hs2:=mem_range.mp hs';by_cases q:s=0
  .subst q;refine lK.mpr ⟨i,by lia,h2,?_⟩;rw[e,show gt cs 0+((0:Nat):Int)=gt cs 0 by lia,emod_eq_of_lt hc.1 hc.2]
  .exact Classical.byContradiction λz=>no ⟨s,by lia,hs2,z⟩
 simp at le
 lia
theorem xt(hfc:Fc fc)(h1:1<=cs.length)(h2:cs.length<=1000)(hs:(cs.length:Int)<= sp)(hc:0<=gt cs 0/\gt cs 0<sp):∃J:Nat,Gm [LR fc cs,.int sp]=.ok (.int J)/\IsJ sp cs J:=by
 have g0:aB (LR fc cs) (.int 0)=.ok (.int (gt cs 0)):=bX () ();have bg:∃b:Nat,zL [LR fc cs]=.ok (.int b)/\b<=cs.length/\(gt cs 0∈cs.drop b↔pD cs):=by
  suffices hh:jw (Dz [LV fc cs,none]) (λv=>∃b:Nat,v=.int b/\b<=cs.length/\(gt cs 0∈cs.drop b↔pD cs)) by obtain⟨v,h3,b,rfl,h4⟩:=hh;exact⟨b,az h3,h4⟩
  refine cw (av (v:=.int 1) ()) ?_;refine mQ (Fin:=λe=>∃b:Nat,e=[LV fc cs,LS b]/\b<=cs.length/\(∀i,i<b->gt cs i=gt cs 0)/\(b<cs.length->gt cs b≠gt cs 0)) (λm e=>∃b:Nat,e=[LV fc cs,LS b]/\m=cs.length-b/\b<=cs.length/\∀i,i<b->gt cs i=gt cs 0) (cs.length-1) () ⟨1,rfl,rfl,h1,λi hi=>by lia⟩ (λm e hP=>?_) λe hF=>?_
  .obtain⟨b,rfl,rfl,b2,al⟩:=hP;by_cases q:b<cs.length
   .have gb:aB (LR fc cs) (.int (b:Int))=.ok (.int (gt cs b)):=by simpa using bX (i:=b) () ()
    by_cases q2:gt cs b=gt cs 0
    .refine .inr ⟨by simp[p1,a_,hfc.le,g0,gb,q2];lia,cs.length-(b+1),[LV fc cs,LS (b+1:Nat)],by lia,.inl (av ()),b+1,rfl,rfl,by lia,λi hi=>?_⟩;by_cases z:i=b
     .rw[z];exact q2
     .exact al i ()
    .exact .inl ⟨by simp[p1,a_,hfc.le,g0,gb,q2],b,rfl,b2,al,λ_=>q2⟩
   .exact .inl ⟨by simp[p1,a_];lia,b,rfl,b2,al,λz=>absurd z q⟩
  .obtain⟨b,rfl,hb,al,nx⟩:=hF;refine eE (d_ rfl) ⟨b,rfl,hb,?_⟩;rw[lK];constructor
   .rintro⟨i,h1,h2,e⟩;have hb:=nx ();refine⟨b,i,?_,h2,hb,e⟩;rcases Nat.lt_or_eq_of_le h1 with q|q
    .exact q
    .lia
   .rintro⟨j,i,h1,h2,h3,e⟩;have:¬j<b:=λz=>h3 (al j z);exact⟨i,by lia,h2,e⟩
 obtain⟨b,e1,bl,B⟩:=bg
 suffices hh:jw (Js [LV fc cs,LS sp,none]) (λv=>∃J:Nat,v=.int J/\IsJ sp cs J) by obtain⟨v,h3,J,rfl,h4⟩:=hh;exact⟨J,az h3,h4⟩
 have cb:jN (iL cs) (some (b:Int)) none=iL (cs.drop b):=pf cs b bl;have c1:jN (iL cs) (some 1) none=iL (cs.drop 1):=pf cs 1 h1;have sp0:0<sp:=by lia
 by_cases st:pD cs
 .have hm:=B.mpr st;refine cw (b8 (by simp only[qg,jD,sf,vy,o9,gU,Gx,fF,cZ,eT];simp[hfc.le,hfc.tb,g0,e1,aD,cb];exact hm) aE) ?_;refine cw (av (v:=.int 1) ()) ?_;obtain⟨s0,f1,f2,f3⟩:=zv hs hc st;refine mQ (Fin:=λe=>∃J:Nat,e=[LV fc cs,LS sp,LS J]/\IsJ sp cs J) (λm e=>∃s:Nat,e=[LV fc cs,LS sp,LS s]/\m=s0-s/\1<=s/\s<=s0/\∀t:Nat,1<=t->t<s->(gt cs 0+t)%sp∈cs.drop 1) (s0-1) () ⟨1,rfl,rfl,by lia,f1,λt a b=>by lia⟩ (λm e hP=>?_) λe hF=>?_
  .obtain⟨s,rfl,rfl,b1,b2,al⟩:=hP;have tst:aA (mOp pIn (mOp dM (mOp aO (mOp aB (aa 0) (LP 0)) (aa 2)) (aa 1)) (gy (aa 0) (ib (LP 1)) gL)) [LV fc cs,LS sp,LS s]=.ok (decide ((gt cs 0+s)%sp∈cs.drop 1)):=by simp[hfc.le,g0,c1,bR sp0]
   by_cases q:(gt cs 0+s)%sp∈cs.drop 1
   .have ns:s≠s0:=λz=>f3 ();refine .inr ⟨by lia,s0-(s+1),[LV fc cs,LS sp,LS (s+1:Nat)],by lia,.inl (av ()),s+1,rfl,rfl,by lia,by lia,λt t1 t2=>?_⟩;by_cases z:t=s
    .rw[z];exact q
    .exact al t t1 ()
   .exact .inl ⟨by lia,s,rfl,.inr ⟨st,b1,by lia,q,al⟩⟩
  .obtain⟨J,rfl,hJ⟩:=hF;exact eE (d_ rfl) ⟨J,rfl,hJ⟩
 .have hm:gt cs 0∉cs.drop b:=λz=>st (B.mp z);exact xP (by simp only[qg,jD,sf,vy,o9,gU,Gx,fF,cZ,eT];simp[hfc.le,hfc.tb,g0,e1,aD,cb];exact hm) (eE (a9 ()) ⟨0,rfl,.inl ⟨st,rfl⟩⟩)
def G7{J J':Nat}(h:IsJ sp cs J)(h':IsJ sp cs J'):J=J':=by
 rcases h with⟨s,rfl⟩ |⟨s,a1,a2,a3,a4⟩<;>rcases h' with⟨s',rfl⟩ |⟨s',b1,b2,b3,b4⟩
 .rfl
 .exact absurd s' s
 .exact absurd s s'
 .rcases Nat.lt_trichotomy J J' with q|q|q
  .exact absurd (b4 J a1 q) a3
  .exact q
  .exact absurd (a4 J' b1 q) b3
end
section
variable{n:Nat}{rk:Nat->Nat}{p:Nat->Bool}
theorem pZ:∀(n:Nat) (l:List Nat),l.Nodup->(∀x∈l,x<n)->(l.map λx=>2 ^ x).sum<2 ^ n
 |0,l,_,h=>by
  cases l with
  |nil=>decide
  |cons x l=>exact absurd (h x mem_cons_self) ()
 |n+1,l,nd,h=>by
  by_cases q:n∈l
  .have p:=List.perm_cons_erase q;rw[(p.map λx=>2 ^ x).sum_nat,map_cons,sum_cons];have nd':=nodup_cons.mp (p.nodup_iff.mp nd);have:=pZ n (l.erase n) nd'.2 λx hx=>by
    have h1:=h x (List.mem_of_mem_erase hx);have h2:x≠n:=λe=>nd'.1 (e▸hx)
    lia
   lia
  .have:=pZ n l nd λx hx=>by
    have h1:=h x hx;have h2:x≠n:=λe=>q (e▸hx)
    lia
   lia
theorem oB:∀l:List Nat,((l.sum:Nat):Int)=(l.map λx:Nat=>(x:Int)).sum
 | []=>by simp
 |x::l=>by
  have:=oB l;simp
  lia
theorem xh{K:Nat}(inj:∀i j,i<n->j<n->rk i=rk j->i=j)(hk:∀i,i<n->p i=true->rk i<K):0<=Wl rk n p/\Wl rk n p<2 ^ K:=by
 have mm:∀i ∈(range n).filter p,i<n/\p i=true:=λi hi=>⟨mem_range.mp (mem_filter.mp hi).1,(mem_filter.mp hi).2⟩
 have nd:(((range n).filter p).map rk).Nodup:=by rw[Nodup,pairwise_map];exact Pairwise.imp_of_mem (λ{a b} ha hb hab e=>hab (inj a b (mm a ha).1 (mm b hb).1 e)) (nodup_range.filter _)
 have b:=pZ K (((range n).filter p).map rk) nd λx hx=>by obtain⟨i,hi,rfl⟩:=mem_map.mp hx;exact hk i (mm i hi).1 (mm i hi).2
 have e:Wl rk n p=(((((range n).filter p).map rk).map λx=>2 ^ x).sum:Nat):=by rw[oB];unfold Wl;congr 1;simp[Function.comp_def]
 rw[e];exact⟨by lia,by lia⟩
end
theorem uf{x' r' r:Int}(hb:0<b)(h:x'<x)(h1:r'<b)(h2:0<=r):x'*b+r'<x*b+r:=by
 have:(x'+1)*b<=x*b:=Int.mul_le_mul_of_nonneg_right () ();rw[Int.add_mul,Int.one_mul]at this
 lia
def sj(le:o.LM Fl.LD=o)(a0:au 0 o=.ok (.int n))(n10:n<=10):vt [o]=.ok (.int (2 ^ n-1)):=by have pn:=gp (e:=n) (b:=2) () () ();refine az ?_;show DX [some o]=_;exact a9 (by simp[le,a0,pn,aD]) ()
theorem yN{r f:Nat->Nat}(hb:0<b)(hr:∀m,(r m:Int)<b)(hf:∀m,(f m:Int)<b):∀t,0<=num b r f t/\num b r f t<b ^ (2*t)
 |0=>by simp[num]
 |t+1=>by
  obtain⟨h1,h2⟩:=yN hb hr hf t;have e:b ^ (2*(t+1))=b ^ (2*t)*b*b:=by rw[show 2*(t+1)=2*t+1+1 by lia,Int.pow_succ,Int.pow_succ]
  have a:=uf (r:=0) hb h2 (hr t) ();have c:=uf (r:=0) hb a (hf t) ();have p1:=Int.mul_nonneg h1 (show 0<=b by lia);have p2:=Int.mul_nonneg (show 0<=num b r f t*b+r t by lia) (show 0<=b by lia);simp only[num];rw[e];simp at a c;exact⟨by lia,c⟩
theorem Da{A x:Nat->Int}:0<=mL n T A x/\mL n T A x <((n:Int)+1) ^ (2*T):=yN () (λm=>by have:=uk (n:=n) (p:=λi=>decide (x i=m)&&decide ((m:Int)<A i));unfold vZ;lia) (λm=>by have:=uk (n:=n) (p:=λi=>decide ((m:Int)<x i)&&decide (A i=m));unfold wS;lia) T
theorem rN(hf:Fc f)(n10:n<=10)(hT:T<=100):zB [lea f cc n ps os st T]=.ok (.int (((n:Int)+1) ^ (2*T)-1)):=by have pn:=gp (e:=2*T) (b:=(n:Int)+1) () () ();rw[show((2*T:Nat):Int)=2*(T:Int) by lia]at pn;have mu:cK (.int 2) (.int (T:Int))=.ok (.int (2*(T:Int))):=dF (.inl ⟨by decide,by decide⟩);refine az ?_;exact a9 (by simp[au,bI,pn,mu,aD]) ()
section
variable{n:Nat}{sp:Int}{cs nm:Lq}
def bc(cs:Lq):Nat->Int
 |0=>0
 |j+1=>bc cs j+if gt cs j=gt cs (j+1)then 0 else 1
def bS(cs:Lq):Nat->Int
 |0=>0
 |m+1=>bS cs m+bc cs m
theorem uC{c:Int}:∀m,((((range (m+1)).filter λi=>decide (fZ sp cs i≠gt cs i)).filter λi=>decide (i≠0)).map λi:Nat=>c-i).sum=bS cs (m+1)+(c-1-m)*bc cs m
 |0=>by simp[bS,bc]
 |m+1=>by
  have ih:=uC (c:=c) m;have d:fZ sp cs (m+1)=gt cs m:=rfl;rw[range_succ,List.filter_append,List.filter_append,map_append,sum_append,ih];have e:c-1-(m:Int)=(c-1-((m+1:Nat):Int))+1:=by lia
  simp only[bS,bc];by_cases q:gt cs m=gt cs (m+1)
  .simp[d,q,e,Int.add_mul]
   lia
  .simp[d,q,e,Int.add_mul,Int.mul_add]
   lia
theorem D2:∀m,(0<=bc cs m/\bc cs m<=m)/\0<=bS cs m/\2*bS cs m<=m*((m:Int)-1)
 |0=>by simp[bc,bS]
 |m+1=>by
  obtain⟨⟨h1,h2⟩,h3,h4⟩:=D2 m;have e:((m+1:Nat):Int)*(((m+1:Nat):Int)-1)=m*((m:Int)-1)+2*m:=by lia
  simp only[bc,bS];refine⟨by lia,by lia,?_⟩;rw[e];lia
theorem rj(n20:n<=20):z6 [iD .bor n sp]=.ok (.int (3*n*((n:Int)-1) / 2)):=by refine az ?_;show DT [some (iD .bor n sp)]=_;have m1:cK (.int 3) (.int (n:Int))=.ok (.int (3*n)):=dF (.inl ⟨by decide,by decide⟩);have m2:cK (.int (3*(n:Int))) (.int ((n:Int)-1))=.ok (.int (3*n*((n:Int)-1))):=dF (.inl ⟨by lia,by lia⟩);have d2:eO (.int (3*(n:Int)*((n:Int)-1))) (.int 2)=.ok (.int (3*n*((n:Int)-1) / 2)):=fB () ();exact a9 (by simp[au,bI,m1,m2,d2]) ()
theorem A4(h:0<=b/\b<sp)(h2:2<=sp):(b+1)%sp≠b/\0 <=(b+1)%sp/\(b+1)%sp<sp:=by
 refine⟨?_,emod_nonneg _ (),emod_lt_of_pos _ ()⟩;by_cases q:b+1<sp
 .rw[emod_eq_of_lt () q];lia
 .rw[show b+1=sp by lia,Int.emod_self];lia
structure Cs(n:Nat)(sp:Int)(cs:Lq)(p:Nat)(a b:Int):Prop where
 len:cs.length=n
 pn:p<n
 lo:∀i,i<p->gt cs i=a
 hi:∀i,p<=i->i<n->gt cs i=b
 ra:0<=a/\a<sp
 rb:0<=b/\b<sp
 ne:p≠0->a≠b
theorem Cs.due(h:Cs n sp cs p a b)(h2:2<=sp):∀i<n,(fZ sp cs i≠gt cs i↔i=p):=λi hi=>by
 have hl:=h.len;have hp:=h.pn;unfold fZ;by_cases h0:i=0
 .subst h0;rw[if_pos rfl];by_cases p0:p=0
  .subst p0;have g0:=h.hi 0 () ();have gl:=h.hi (cs.length-1) () ();rw[if_pos (g0.trans gl.symm),g0];simp[(A4 h.rb h2).1]
  .have g0:=h.lo 0 ();have gl:=h.hi (cs.length-1) () ();have:=h.ne p0
   lia
 .rw[if_neg h0];rcases Nat.lt_trichotomy i p with q|q|q
  .rw[h.lo i q,h.lo (i-1) ()];simp;lia
  .subst q;rw[h.lo (i-1) (),h.hi i () hi];simp[h.ne h0]
  .rw[h.hi i () hi,h.hi (i-1) () ()];simp;lia
def uj{f:Nat->Bool}(hp:p<n)(h:∀i<n,(f i=true↔i=p)):(range n).filter f=[p]:=by
 have e:(range n).filter f=(range n).filter λi=>i==p:=List.filter_congr λi hi=>by have:=h i (mem_range.mp hi);rw[Bool.eq_iff_iff,this];simp
 rw[e];have hd:(range n).Nodup:=nodup_range;have hm:p∈range n:=mem_range.mpr hp;have:(range n).filter (λi=>i==p)=replicate ((range n).count p) p:=by rw[List.filter_beq]
 rw[this,Nodup.count hd,if_pos hm];rfl
theorem Jn(hn:cs.length=n)(n2:2<=n)(hc:InS sp cs)(h:caR n true (fZ sp) cs=true):∃p a b,Cs n sp cs p a b:=by
 simp only[caR,mvR,length_map,decide_eq_true_eq]at h;obtain⟨p,hp⟩:=List.length_eq_one_iff.mp h;have hm:∀i,i<n->(fZ sp cs i≠gt cs i↔i=p):=λi hi=>by
  have:i ∈(range n).filter (λi=>decide (fZ sp cs i≠gt cs i))↔ i=p:=by rw[hp];simp
  rw[<- this,mem_filter];simp[hi]
 have pn:p<n:=by
  have:p ∈(range n).filter (λi=>decide (fZ sp cs i≠gt cs i)):=by rw[hp];simp
  exact mem_range.mp (mem_filter.mp this).1
 have sm:∀i,i+1<n->i+1≠p->gt cs (i+1)=gt cs i:=λi hi hne=>by exact Classical.byContradiction λz=>hne ((hm (i+1) hi).mp λe=>z (e.symm.trans rfl))
 have lo:∀i,i<p->gt cs i=gt cs 0:=λi=>by
  induction i with
  |zero=>intro _;rfl
  |succ i ih=>intro hi;rw[sm i () ()];exact ih ()
 have hi:∀i,p<=i->i<n->gt cs i=gt cs p:=λi=>by
  induction i with
  |zero=>intro h1 _;rw[show p=0 by lia]
  |succ i ih=>
   intro h1 h2;by_cases e:i+1=p
   .rw[e]
   .rw[sm i h2 e];exact ih () ()
 refine⟨p,gt cs 0,gt cs p,hn,pn,lo,hi,hc _ (cS ()),hc _ (cS ()),λp0 e=>?_⟩;have:=(hm p pn).mpr rfl;obtain⟨q,rfl⟩:∃q,p=q+1:=⟨p-1,by lia⟩
 refine this ?_;rw[show fZ sp cs (q+1)=gt cs q from rfl,lo q (),e]
def qk(h:Cs n sp cs p a b)(s2:2<=sp):caR n true (fZ sp) cs=true:=by simp only[caR,mvR];rw[uj h.pn λi hi=>by simpa using h.due s2 i hi];rfl
end
section
variable{n:Nat}{fa:Lq}{i j:Nat}
theorem xN(hi:i<n)(h:ltF fa i j=true):rnk n fa i<rnk n fa j:=
 je (range n) i (mem_range.mpr hi) (λk _ q=>by
  simp only[ltF,or_eq_true,and_eq_true,decide_eq_true_eq]at *
  lia) h (by simp[ltF])
theorem Bs(hi:i<n)(hj:j<n)(e:rnk n fa i=rnk n fa j):i=j:=by
 apply Classical.byContradiction;intro h;have:ltF fa i j=true\/ltF fa j i=true:=by
  simp only[ltF,or_eq_true,and_eq_true,decide_eq_true_eq]
  lia
 rcases this with q|q
 .have:=xN hi q;lia
 .have:=xN hj q;lia
end
def zu(hi:i<n):(fs n r).getD i none=if i=r then some 0 else none:=by simp[fs,hi]
def In(n:Nat)(cs:Lq):Prop:=∀c∈cs,0<=c/\c<=n
abbrev DF(ps:Ln)(n r:Nat)(cs:Lq)(i:Nat):Int:=dW ps (fs n r) n n cs i
theorem oS(h0:0<=c)(h1:c<=n)(hn:1<=n):lJ n n c=true↔c+1<n:=by
 simp only[lJ,and_eq_true,decide_eq_true_eq];constructor
 .rintro⟨h2,h3⟩;apply Classical.byContradiction;intro z;have:c+1=n:=by lia
  rw[this,Int.emod_self]at h3;exact h3 rfl
 .intro h;refine⟨by lia,?_⟩;rw[emod_eq_of_lt () h]
  lia
theorem nq(n1:1<=n)(hc:In n cs)(hn:cs.length=n)(hnb:∀x∈nbL ps i,0<=x/\x<n):x∈iP ps n n cs i↔∃j∈nbL ps i,gt cs j.toNat+1=x/\x<n:=by
 simp only[iP,mem_map,mem_filter];constructor
 .rintro⟨c,⟨⟨j,hj,rfl⟩,h⟩,rfl⟩;obtain⟨h1,h2⟩:=hnb j hj;have hm:=hc _ (cS (i:=j.toNat) ());exact⟨j,hj,rfl,(oS hm.1 hm.2 n1).mp h⟩
 .rintro⟨j,hj,rfl,h⟩;obtain⟨h1,h2⟩:=hnb j hj;have hm:=hc _ (cS (i:=j.toNat) ());exact⟨gt cs j.toNat,⟨⟨j,hj,rfl⟩,(oS hm.1 hm.2 n1).mpr h⟩,rfl⟩
theorem wW(n1:1<=n)(hr:r<n)(hc:In n cs)(hn:cs.length=n)(hnb:∀x∈nbL ps r,0<=x/\x<n):DF ps n r cs r=0:=by
 unfold DF dW;rw[zu hr,if_pos rfl];obtain⟨a1,a2⟩:=fO (l:=iP ps n n cs r ++(some (0:Int)).toList++[(n:Int)]) ();have h1:=a2 0 ();have h2:∀x∈iP ps n n cs r ++(some (0:Int)).toList++[(n:Int)],0<=x:=λx hx=>by
  simp only[mem_append,toList,mem_cons,List.not_mem_nil,or_false]at hx;rcases hx with(hx|hx)|hx
  .obtain⟨j,hj,h3,h4⟩:=(nq n1 hc hn hnb).mp hx;obtain⟨h5,h6⟩:=hnb j hj;have:=(hc _ (cS (i:=j.toNat) ())).1
   lia
  .lia
  .lia
 have:=h2 _ a1
 lia
def Ak(n1:1<=n)(hi:i<n)(hir:i≠r)(hc:In n cs)(hn:cs.length=n)(hnb:∀x∈nbL ps i,0<=x/\x<n):(DF ps n r cs i=n\/∃j∈nbL ps i,gt cs j.toNat+1=DF ps n r cs i/\DF ps n r cs i<n)/\∀j∈nbL ps i,gt cs j.toNat+1<n->DF ps n r cs i<=gt cs j.toNat+1:=by
 unfold DF dW;rw[zu hi,if_neg hir];obtain⟨a1,a2⟩:=fO (l:=iP ps n n cs i ++(none:Lx).toList++[(n:Int)]) ();refine⟨?_,λj hj hlt=>a2 _ ?_⟩
 .simp only[mem_append,toList,mem_cons,List.not_mem_nil,or_false]at a1;rcases a1 with hx|hx
  .exact .inr ((nq n1 hc hn hnb).mp hx)
  .exact .inl hx
 .rw[mem_append,mem_append];exact .inl (.inl ((nq n1 hc hn hnb).mpr ⟨j,hj,rfl,hlt⟩))
def Lv(F:Lq)(k:Int)(v:Int)(i:Nat):Prop:=min (gt F i) k<=v/\(gt F i<k->v<=gt F i)
theorem Lv.less{k:Int}(h:Lv F (k+1) v i):Lv F k v i:=⟨by have:=h.1;lia,λz=>h.2 ()⟩
structure dG(n r:Nat)(ps:Ln)(F:Lq):Prop where
 n1:1<=n
 n10:n<=10
 hr:r<n
 D:ow n r (gj ps) F
 all:∀i<n,gt F i<n
 rg:∀x∈ps,0<=x.1/\x.1<n/\0<=x.2/\x.2<n
section
variable{n r:Nat}{ps:Ln}{F:Lq}
theorem dG.nb(N:dG n r ps F)(i:Nat):∀x∈nbL ps i,0<=x/\x<n:=λx hx=>by
 rcases gx.mp hx with hx|hx
 .have:=N.rg _ hx;lia
 .have:=N.rg _ hx;lia
theorem dG.adj(N:dG n r ps F)(hx:x∈nbL ps i):gj ps i x.toNat:=by have:=N.nb i x hx;unfold gj;rw[show((x.toNat:Nat):Int)=x by lia];exact(gx.mp hx).elim .inr .inl
def uv(h:gj ps i j):(j:Int)∈ nbL ps i:=gx.mpr (h.elim .inr .inl)
theorem dG.step(N:dG n r ps F){k:Int}(hc:In n cs)(hn:cs.length=n)(h:∀j,j<n->Lv F k (gt cs j) j)(hi:i<n):Lv F (k+1) (DF ps n r cs i) i/\0<=DF ps n r cs i/\DF ps n r cs i<=n:=by
 have n1:=N.n1;by_cases hir:i=r
 .subst hir;rw[wW n1 hi hc hn (N.nb i)];have:=N.D.rt;refine⟨⟨by lia,λ_=>by lia⟩,by lia,by lia⟩
 .obtain⟨m1,m2⟩:=Ak n1 hi hir hc hn (N.nb i);have ai:=N.all i hi;refine⟨⟨?_,λhlt=>?_⟩,?_⟩
  .rcases m1 with e |⟨j,hj,e,_⟩
   .lia
   .have hb:=N.nb i j hj;have l:=(h j.toNat ()).1;have ad:gj ps j.toNat i:=(N.adj hj).elim .inr .inl;have u:=N.D.up j.toNat () i hi ad
    lia
  .obtain⟨h1,j,hj,ad,ej⟩:=N.D.dn i hi hir ai;have hm:=uv ad;have l:=(h j hj).2 ();have:=m2 _ hm (by simp;lia);simp at this
   lia
  .rcases m1 with e |⟨j,hj,e,e2⟩
   .lia
   .have hb:=N.nb i j hj;have:=(hc _ (cS (i:=j.toNat) ())).1
    lia
theorem dG.zero(N:dG n r ps F)(hc:In n cs)(hn:cs.length=n):∀j,j<n->Lv F 0 (gt cs j) j:=λj hj=>by have:=(hc _ (cS (i:=j) ())).1;have:=N.D.rng j hj;exact⟨by lia,λz=>by lia⟩
theorem dG.last(N:dG n r ps F)(hn:cs.length=n)(h:∀j,j<n->Lv F n (gt cs j) j):cs=F:=by
 apply ext_getElem (by rw[hn,N.D.len]);intro i h1 h2;have a:=N.all i ();obtain⟨l1,l2⟩:=h i ();have e:gt cs i=gt F i:=by lia
 simpa[gt,h1,h2]using e
def dG.calm(N:dG n r ps F)(hc:In n cs)(hn:cs.length=n)(h:∀i,i<cs.length->DF ps n r cs i=gt cs i):cs=F:=by
 have key:∀k:Nat,∀j,j<n->Lv F k (gt cs j) j:=λk=>by
  induction k with
  |zero=>exact N.zero hc hn
  |succ k ih=>intro j hj;have:=(N.step hc hn ih hj).1;rw[h j ()]at this;simpa using this
 exact N.last hn (key n)
def dG.inF(N:dG n r ps F):In n F:=λc hc=>by
 obtain⟨i,hi,rfl⟩:=List.mem_iff_getElem.mp hc;have hi':i<n:=by rw[<- N.D.len];exact hi
 have:=N.D.rng i hi';simp only[gt,getD_eq_getElem?_getD,getElem?_eq_getElem hi]at this;exact this
theorem dG.rest(N:dG n r ps F):∀i,i<F.length->DF ps n r F i=gt F i:=λi hi=>by
 have hi':i<n:=by rw[<- N.D.len];exact hi
 have:=(N.step (k:=n) N.inF N.D.len (λj hj=>⟨by lia,λ_=>by lia⟩) hi').1;have a:=N.all i hi';obtain⟨l1,l2⟩:=this
 lia
end
section
abbrev DL(ps:Ln)(n:Nat)(ms:Lq)(cs:Lq)(i:Nat):Int:=dW ps (ls n ms) n ((n:Int)*10) cs i
theorem By(n1:1<=n)(h:(c+1)%(n:Int)≠ 0):(c+1)%(n:Int)=c%n+1:=by
 have h1:=emod_nonneg c (show(n:Int)≠ 0 by lia);have h2:=emod_lt_of_pos c (show(0:Int)<n by lia);have e:c+1=c%n+1+n*(c / n):=by have:=Int.emod_add_mul_ediv c n;lia
 rw[e,Int.add_mul_emod_self_left]at h ⊢;by_cases q:c%n+1=n
 .rw[q,Int.emod_self]at h;exact absurd rfl h
 .exact emod_eq_of_lt () ()
structure iu(n r:Nat)(ps:Ln)(ms F:Lq)(M:Int):Prop where
 n1:1<=n
 n10:n<=10
 hr:r<n
 D:ow n r (gj ps) F
 all:∀i<n,gt F i<n
 rg:∀x∈ps,0<=x.1/\x.1<n/\0<=x.2/\x.2<n
 ml:ms.length=n
 m0:0<=M
 m9:M<=9
 nr:gt ms r=M
 nl:∀i<n,i≠r->gt ms i<M
 mx:ef ms=M
 mr:∀x∈ms,0<=x/\x<=9
variable{n r:Nat}{ps:Ln}{ms F:Lq}{M:Int}
def iu.nb(N:iu n r ps ms F M)(i:Nat):∀x∈nbL ps i,0<=x/\x<n:=λx hx=>by
 rcases gx.mp hx with hx|hx
 .have:=N.rg _ hx;lia
 .have:=N.rg _ hx;lia
def iu.adj(N:iu n r ps ms F M)(hx:x∈nbL ps i):gj ps i x.toNat:=by have:=N.nb i x hx;unfold gj;rw[show((x.toNat:Nat):Int)=x by lia];exact(gx.mp hx).elim .inr .inl
def iu.due(N:iu n r ps ms F M)(hi:i<n):(DL ps n ms cs i=(n:Int)*10\/DL ps n ms cs i=(9-gt ms i)*n\/∃j∈nbL ps i,gt cs j.toNat+1=DL ps n ms cs i/\(gt cs j.toNat+1)%(n:Int)≠ 0)/\DL ps n ms cs i <=(9-gt ms i)*n/\∀j∈nbL ps i,gt cs j.toNat ≠(n:Int)*10->(gt cs j.toNat+1)%(n:Int)≠ 0->DL ps n ms cs i<=gt cs j.toNat+1:=by
 have hm:i<ms.length:=by rw[N.ml];exact hi
 have es:(ls n ms).getD i none=some ((9-gt ms i)*n):=by simp[ls,gt,hm]
 unfold DL dW;rw[es];obtain⟨a1,a2⟩:=fO (l:=iP ps n ((n:Int)*10) cs i ++(some ((9-gt ms i)*(n:Int))).toList++[(n:Int)*10]) ();refine⟨?_,a2 _ (),λj hj h1 h2=>a2 _ ?_⟩
 .generalize fP (iP ps n ((n:Int)*10) cs i ++(some ((9-gt ms i)*(n:Int))).toList++[(n:Int)*10])=d at a1;simp only[mem_append,toList,mem_cons,List.not_mem_nil,or_false]at a1;rcases a1 with(hx|hx)|hx
  .simp only[iP,mem_map,mem_filter]at hx;obtain⟨c,⟨⟨j,hj,rfl⟩,h⟩,rfl⟩:=hx;simp only[lJ,and_eq_true,decide_eq_true_eq]at h;exact .inr (.inr ⟨j,hj,rfl,h.2⟩)
  .exact .inr (.inl hx)
  .exact .inl hx
 .rw[mem_append,mem_append];refine .inl (.inl ?_);simp only[iP,mem_map,mem_filter];exact⟨gt cs j.toNat,⟨⟨j,hj,rfl⟩,by simp[lJ,h1,h2]⟩,rfl⟩
noncomputable abbrev Q(n:Nat)(M:Int):Int:=(9-M)*n
theorem iu.starts(N:iu n r ps ms F M)(hi:i<n):(i=r->(9-gt ms i)*(n:Int)=Q n M)/\(i≠r->Q n M+n <=(9-gt ms i)*(n:Int))/\Q n M <=(9-gt ms i)*(n:Int):=by
 have h1:i≠r->Q n M+n <=(9-gt ms i)*(n:Int):=λh=>by
  have:=N.nl i hi h;have e:(9-gt ms i)*(n:Int)=Q n M+n+(M-gt ms i-1)*n:=by lia
  have:0 <=(M-gt ms i-1)*(n:Int):=Int.mul_nonneg () ()
  lia
 have h0:i=r->(9-gt ms i)*(n:Int)=Q n M:=λh=>by rw[h,N.nr]
 refine⟨h0,h1,?_⟩;by_cases h:i=r
 .rw[h0 h];lia
 .have:=h1 h;lia
theorem iu.top(N:iu n r ps ms F M):Q n M+n <=(n:Int)*10/\0<=Q n M:=by
 have h1:(n:Int)*10=Q n M+n+M*n:=by lia
 have h2:0<=M*(n:Int):=Int.mul_nonneg N.m0 ();have h3:0 <=(9-M)*(n:Int):=Int.mul_nonneg (by have:=N.m9;lia) ();exact⟨by lia,h3⟩
def Iv(n:Nat)(F:Lq)(M:Int)(t:Nat)(v:Int)(i:Nat):Prop:=(v<Q n M->(t:Int)<= v%n)/\(n<=t->Lv F ((t:Int)-n) (v-Q n M) i)
theorem Iv.less(h:Iv n F M (t+1) v i):Iv n F M t v i:=
 ⟨λz=>by have:=h.1 z;lia,λz=>by
  have:=h.2 ();rw[show((t+1:Nat):Int)-n=(t:Int)-n+1 by lia]at this;exact this.less⟩
theorem iu.step(N:iu n r ps ms F M)(h:∀j,j<n->Iv n F M t (gt cs j) j)(hi:i<n):Iv n F M (t+1) (DL ps n ms cs i) i:=by
 have n1:=N.n1;obtain⟨d1,d2,d3⟩:=N.due (cs:=cs) hi;obtain⟨s1,s2,s3⟩:=N.starts hi;obtain⟨t1,t2⟩:=N.top;have p1:DL ps n ms cs i<Q n M->((t+1:Nat):Int)<= DL ps n ms cs i%n:=λz=>by
  rcases d1 with e|e |⟨j,hj,e,e2⟩
  .lia
  .lia
  .have hb:=N.nb i j hj;have l:=(h j.toNat ()).1 ();rw[<- e,By n1 e2]
   lia
 refine⟨p1,λht=>?_⟩;have ai:=N.all i hi;have di:=N.D.rng i hi;have dl:n<=t+1->Q n M<=DL ps n ms cs i:=λht=>by
  apply Classical.byContradiction;intro z;have:=emod_lt_of_pos (DL ps n ms cs i) (show(0:Int)<n by lia)
  lia
 by_cases q:n<=t
 .rw[show((t+1:Nat):Int)-n=(t:Int)-n+1 by lia];by_cases hir:i=r
  .have:=s1 hir;have f0:=N.D.rt;rw[<- hir]at f0;refine⟨by lia,λ_=>by lia⟩
  .have s2:=s2 hir;refine⟨?_,λhlt=>?_⟩
   .rcases d1 with e|e |⟨j,hj,e,_⟩
    .lia
    .lia
    .have hb:=N.nb i j hj;have l:=((h j.toNat ()).2 q).1;have ad:gj ps j.toNat i:=(N.adj hj).elim .inr .inl;have u:=N.D.up j.toNat () i hi ad
     lia
   .obtain⟨h1,j,hj,ad,ej⟩:=N.D.dn i hi hir ai;have hm:=uv ad;obtain⟨l1,l2⟩:=(h j hj).2 q;have ec:gt cs j+1=gt F i+Q n M:=by lia
    have:=d3 _ hm (by simp;lia) (by
     simp;rw[ec,Int.add_mul_emod_self_right,emod_eq_of_lt () ai]
     lia)
    simp at this
    lia
 .rw[show((t+1:Nat):Int)-n=0 by lia];exact⟨by lia,λz=>by lia⟩
theorem iu.zero(N:iu n r ps ms F M):∀j,j<n->Iv n F M 0 (gt cs j) j:=λj hj=>by exact⟨λ_=>emod_nonneg _ (),λz=>by lia⟩
abbrev TT(n:Nat)(M:Int)(F:Lq):Lq:=F.map (· + Q n M)
def D3(hi:i<F.length):gt (TT n M F) i=gt F i+Q n M:=by simp[gt,hi]
theorem iu.last(N:iu n r ps ms F M)(hn:cs.length=n)(h:∀j,j<n->Iv n F M (2*n) (gt cs j) j):cs=TT n M F:=by
 apply ext_getElem (by simp[hn,N.D.len]);intro i h1 h2;have a:=N.all i ();obtain⟨l1,l2⟩:=(h i ()).2 ();have e:gt cs i=gt (TT n M F) i:=by
  rw[D3 (by simp_all)]
  lia
 have e1:gt cs i=cs[i]:=by simp[gt,h1]
 have e2:gt (TT n M F) i=(TT n M F)[i]:=by simp only[gt,getD_eq_getElem?_getD,getElem?_eq_getElem h2,Option.getD_some]
 rw[<- e1,<- e2,e]
def iu.calm(N:iu n r ps ms F M)(hn:cs.length=n)(h:∀i,i<cs.length->DL ps n ms cs i=gt cs i):cs=TT n M F:=by
 have key:∀k:Nat,∀j,j<n->Iv n F M k (gt cs j) j:=λk=>by
  induction k with
  |zero=>exact N.zero
  |succ k ih=>
   intro j hj;have:=N.step ih hj
   rwa [h j ()]at this
 exact N.last hn (key (2*n))
end
theorem sV{f g:Nat->Int}:∀(l:List Nat),(∀j∈l,f j<=g j)->(l.map f).sum <=(l.map g).sum
 | [],_=>by simp
 |x::l,h=>by
  have:=sV l λj hj=>h j (mem_cons_of_mem _ hj);have:=h x mem_cons_self;simp
  lia
theorem jT{f g:Nat->Int}:∀(l:List Nat),(l.map λj=>f j+g j).sum=(l.map f).sum+(l.map g).sum
 | []=>by simp
 |x::l=>by
  have:=jT (f:=f) (g:=g) l;simp
  lia
theorem pJ:∀n:Nat,((range n).map λj=>if j=i then a else 0).sum=if i<n then a else 0
 |0=>by simp
 |n+1=>by
  rw[range_succ,map_append,sum_append,pJ n];simp;by_cases h:n=i
  .subst h;simp
  .lia
def jH{p:Nat->Bool}{f:Nat->Int}:∀l:List Nat,((l.filter p).map f).sum=(l.map λj=>if p j then f j else 0).sum
 | []=>by simp
 |x::l=>by
  have:=jH (p:=p) (f:=f) l;by_cases h:p x=true
  .simp[h,this]
  .simp[h,this]
section
variable{n:Nat}{ps:Ln}{r:Nat}{cs:Lq}{fa:Lq}
theorem jg{e:Int}(h:eld ps r fa i=some e):i≠r/\e∈nbL ps i/\gt fa e.toNat=gt fa i-1/\∀x∈nbL ps i,gt fa x.toNat=gt fa i-1->e<=x:=by
 unfold eld at h;by_cases q:i=r
 .lia
 rw[if_neg q]at h;by_cases q2:(nea ps fa i).isEmpty=true
 .lia
 rw[if_neg q2]at h;cases h;obtain⟨a1,a2⟩:=fO (by simpa using q2);obtain⟨b1,b2⟩:=mem_filter.mp a1;exact⟨q,b1,by lia,λx hx hy=>a2 x (mem_filter.mpr ⟨hx,by lia⟩)⟩
def InG(n:Nat)(cs:Lq):Prop:=∀c∈cs,0<=c/\c <((n:Int)+1)*((n:Int)+1)
theorem InG.far(hc:InG n cs):∀c∈FA n cs,0<=c/\c <=(n:Int):=λc hx=>by obtain⟨x,hm,rfl⟩:=mem_map.mp hx;obtain⟨h1,h2⟩:=hc x hm;have a:=Int.ediv_nonneg h1 (show 0 <=(n:Int)+1 by lia);have b:=Int.ediv_lt_of_lt_mul (show 0 <(n:Int)+1 by lia) h2;exact⟨a,by lia⟩
def vf(hi:i<cs.length):gt (FA n cs) i=gt cs i / ((n:Int)+1):=by simp[FA,gt,hi]
def zq(hi:i<cs.length):gt (CN n cs) i=gt cs i%((n:Int)+1):=by simp[CN,gt,hi]
theorem CB(hn:cs.length=n):0<=dcn n ps r cs i/\dcn n ps r cs i<=n:=by
 have:0 <=(kZ n ps r cs i).sum:=by
  have h:∀l:Lq,(∀x∈l,0<=x)->0<=l.sum:=λl=>by
   induction l with
   |nil=>intro _;simp
   |cons x l ih=>
    intro h;have:=ih λy hy=>h y (mem_cons_of_mem _ hy);have:=h x mem_cons_self;simp
    lia
  exact h _ λx hx=>(nM hn hx).1
 unfold dcn
 lia
theorem sW{m:Int}(hb:0<=b/\b<=m):(a*(m+1)+b) / (m+1)=a/\(a*(m+1)+b)%(m+1)=b:=by
 have hm:m+1≠0:=by lia
 constructor
 .rw[Int.add_comm,Int.add_mul_ediv_right _ _ hm,Int.ediv_eq_zero_of_lt hb.1 ()];lia
 .rw[Int.add_comm,Int.add_mul_emod_self_right];exact emod_eq_of_lt hb.1 ()
def pcn(n:Nat)(ps:Ln)(r:Nat)(cs:Lq)(i:Nat):Int:=if dW ps (fs n r) n n (FA n cs) i=gt (FA n cs) i then dcn n ps r cs i else gt (CN n cs) i
def BS(hn:cs.length=n)(hi:i<n):0<=pcn n ps r cs i/\pcn n ps r cs i<=n:=by
 unfold pcn;split
 .exact CB hn
 .exact uB hn i hi
def Aj(hn:cs.length=n)(hi:i<n):jv n ps r cs i / ((n:Int)+1)=dW ps (fs n r) n n (FA n cs) i/\jv n ps r cs i%((n:Int)+1)=pcn n ps r cs i:=sW (BS hn hi)
theorem CI{m:Int}(hm:0<m):a=b↔a / m=b / m/\a%m=b%m:=by
 constructor
 .lia
 .intro⟨h1,h2⟩;rw[<- Int.mul_ediv_add_emod a m,<- Int.mul_ediv_add_emod b m,h1,h2]
end
section
variable{n r:Nat}{ps:Ln}{F:Lq}
def qI{f:Nat->Nat->Int}(m:List Nat):∀l:List Nat,(l.map λj=>(m.map λc=>f j c).sum).sum=(m.map λc=>(l.map λj=>f j c).sum).sum
 | []=>by
  have:∀m:List Nat,(m.map λ_=>(0:Int)).sum=0:=λm=>by induction m<;>simp_all
  simp[this m]
 |j::l=>by have:=qI (f:=f) m l;simp;rw[this,<- jT]
def kG:∀l:List Nat,(l.map λ_=>(0:Int)).sum=0
 | []=>rfl
 |x::l=>by simp[kG l]
def upE(ps:Ln)(r:Nat)(F:Lq)(j:Nat):Nat->Lx
 |0=>some (j:Int)
 |m+1=>match upE ps r F j m with
  |some c=>eld ps r F c.toNat
  |none=>none
def cnu(ps:Ln)(r:Nat)(F:Lq)(j:Nat):Nat->Nat->Int
 |0,_=>0
 |k+1,i=>cnu ps r F j k i+(if upE ps r F j k=some (i:Int)then 1 else 0)
def hdn(n:Nat)(ps:Ln)(r:Nat)(F:Lq)(i:Nat):Int:=((range n).map λj=>cnu ps r F j n i).sum
theorem pH(N:dG n r ps F)(hj:j<n):∀(m:Nat) (c:Int),upE ps r F j m=some c->0<=c/\c<n/\gt F c.toNat=gt F j-m
 |0,c,h=>by
  simp only[upE,Option.some.injEq]at h;subst h;simp
  lia
 |m+1,c,h=>by
  simp only[upE]at h;cases e:upE ps r F j m with
  |none=>rw[e]at h;cases h
  |some c'=>
   rw[e]at h;obtain⟨h1,h2,h3⟩:=pH N hj m c' e;obtain⟨_,g1,g2,_⟩:=jg h;have:=N.nb _ _ g1;refine⟨this.1,this.2,?_⟩
   lia
theorem vI(N:dG n r ps F)(hj:j<n):∀(k i:Nat),cnu ps r F j (k+1) i=(if j=i then 1 else 0)+((range n).map λc=>if eld ps r F c=some (i:Int)then cnu ps r F j k c else 0).sum
  |0,i=>by
    have:((range n).map λc=>if eld ps r F c=some (i:Int)then cnu ps r F j 0 c else 0).sum=0:=by rw[show(λc=>if eld ps r F c=some (i:Int)then cnu ps r F j 0 c else 0)=λ_=>(0:Int) by simp[cnu]];exact kG _
    rw[this];show 0+(if upE ps r F j 0=some (i:Int)then 1 else 0)=_;by_cases e:j=i
    . rw[if_pos e,if_pos (by rw[e];rfl)];rfl
    . rw [if_neg e,if_neg (show ¬ upE ps r F j 0=some (i:Int) from λz=>by
        have z':some (j:Int)=some (i:Int):=z;simp at z'
        lia)]
  |k+1,i=>by
    have ih:=vI N hj k i;have e1:cnu ps r F j (k+1+1) i=cnu ps r F j (k+1) i+(if upE ps r F j (k+1)=some (i:Int)then 1 else 0):=rfl;have e2:(λc=>if eld ps r F c=some (i:Int)then cnu ps r F j (k+1) c else 0)=λc=>(if eld ps r F c=some (i:Int)then cnu ps r F j k c else 0)+(if eld ps r F c=some (i:Int)then(if upE ps r F j k=some (c:Int)then(1:Int)else 0)else 0):=by
      funext c;by_cases q:eld ps r F c=some (i:Int)
      . simp only[q];rfl
      . simp[q]
    rw[e2,jT];have e3:((range n).map λc=>if eld ps r F c=some (i:Int)then(if upE ps r F j k=some (c:Int)then(1:Int)else 0)else 0).sum=if upE ps r F j (k+1)=some (i:Int)then 1 else 0:=by
      have hh:∀x,upE ps r F j k=x->((range n).map λc=>if eld ps r F c=some (i:Int)then(if upE ps r F j k=some (c:Int)then(1:Int)else 0)else 0).sum=if upE ps r F j (k+1)=some (i:Int)then 1 else 0:=λx e=>by
       cases x with
       |none=>
        have u1:upE ps r F j (k+1)=none:=by simp only[upE,e]
        rw[show(λc:Nat=>if eld ps r F c=some (i:Int)then(if upE ps r F j k=some (c:Int)then(1:Int)else 0)else 0)=λ_=>(0:Int) by simp_all,u1];simpa using kG (range n)
       |some c'=>
        obtain⟨h1,h2,_⟩:=pH N hj k c' e;have u1:upE ps r F j (k+1)=eld ps r F c'.toNat:=by simp only[upE,e]
        rw [u1,show (λc:Nat=>if eld ps r F c=some (i:Int) then (if upE ps r F j k=some (c:Int) then (1:Int) else 0) else 0)=λc:Nat=>if c=c'.toNat then (if eld ps r F c'.toNat=some (i:Int) then 1 else 0) else 0 by
          funext c;rw[e];by_cases q:c=c'.toNat
          . subst q;rw[if_pos rfl,if_pos (show some c'=some ((c'.toNat:Nat):Int) by congr 1;lia)]
          . rw[if_neg q,if_neg (show ¬some c'=some (c:Int) by lia)];simp]
        rw[pJ,if_pos ()]
      exact hh _ rfl
    lia
theorem AW(N:dG n r ps F)(hj:j<n):upE ps r F j n=none:=by
 cases e:upE ps r F j n with
 |none=>rfl
 |some c=>
  obtain⟨h1,h2,h3⟩:=pH N hj n c e;have:=N.all j hj;have:=(N.D.rng c.toNat ()).1
  lia
def CH(N:dG n r ps F)(hj:j<n)(i:Nat):cnu ps r F j n i=(if j=i then 1 else 0)+((range n).map λc=>if eld ps r F c=some (i:Int)then cnu ps r F j n c else 0).sum:=by have h:=vI N hj n i;have e:cnu ps r F j (n+1) i=cnu ps r F j n i+(if upE ps r F j n=some (i:Int)then 1 else 0):=rfl;rw[AW N hj]at e;rw[<- h,e];simp
def ve(N:dG n r ps F)(hi:i<n):hdn n ps r F i=1+(((range n).filter λc=>decide (eld ps r F c=some (i:Int))).map (hdn n ps r F)).sum:=by
 have e1:hdn n ps r F i=((range n).map λj=>(if j=i then(1:Int)else 0)+((range n).map λc=>if eld ps r F c=some (i:Int)then cnu ps r F j n c else 0).sum).sum:=by unfold hdn;congr 1;exact map_congr_left λj hj=>CH N (mem_range.mp hj) i
 rw[e1,jT,pJ,if_pos hi,qI,jH];congr 2;refine map_congr_left λc _=>?_;by_cases q:eld ps r F c=some (i:Int)
 .simp only[q];rfl
 .simp only[q,if_false];simpa using kG (range n)
theorem uo(N:dG n r ps F)(hj:j<n):∀(k i:Nat),0<=cnu ps r F j k i/\cnu ps r F j k i<=if gt F j-gt F i<k then 1 else 0
 |0,i=>by simp only[cnu];split<;>lia
 |k+1,i=>by
  obtain⟨h1,h2⟩:=uo N hj k i;simp only[cnu];by_cases q:upE ps r F j k=some (i:Int)
  .rw[if_pos q];have:=(pH N hj k _ q).2.2;rw[toNat_natCast]at this
   lia
  .lia
def GC(N:dG n r ps F)(hi:i<n)(h:i≠r):∃e,eld ps r F i=some e:=by
 obtain⟨_,j,hj,ad,ej⟩:=N.D.dn i hi h (N.all i hi);have hm:(j:Int)∈ nea ps F i:=mem_filter.mpr ⟨uv ad,by simp[ej]⟩;unfold eld;rw[if_neg h,if_neg]
 .exact⟨_,rfl⟩
 .intro z;rw[List.isEmpty_iff.mp z]at hm;cases hm
def uI:∀n:Nat,((range n).map λ_=>(1:Int)).sum=n
 |0=>rfl
 |n+1=>by rw[range_succ,map_append,sum_append,uI n];simp
theorem Ck(N:dG n r ps F)(i:Nat):0<=hdn n ps r F i/\hdn n ps r F i<=n:=by
 unfold hdn;constructor
 .have:=sV (f:=λ_=>(0:Int)) (g:=λj=>cnu ps r F j n i) (range n) λj hj=>(uo N (mem_range.mp hj) n i).1
  rwa [kG]at this
 .have:=sV (f:=λj=>cnu ps r F j n i) (g:=λ_=>(1:Int)) (range n) λj hj=>by have:=(uo N (mem_range.mp hj) n i).2;split at this<;>lia
  rwa [uI]at this
theorem CC(N:dG n r ps F)(hf:FA n cs=F)(hi:i<n)(hk:∀c,c<n->eld ps r F c=some (i:Int)->gt (CN n cs) c=hdn n ps r F c):dcn n ps r cs i=hdn n ps r F i:=by
 have h:=ve N hi;have b:=(Ck N i).2;have e:kZ n ps r cs i=((range n).filter λc=>decide (eld ps r F c=some (i:Int))).map (hdn n ps r F):=by unfold kZ;rw[hf];refine map_congr_left λc hc=>?_;obtain⟨h1,h2⟩:=mem_filter.mp hc;exact hk c (mem_range.mp h1) ()
 unfold dcn;rw[e,<- h]
 lia
def Pg(n:Nat)(ps:Ln)(r:Nat)(F:Lq)(k:Nat)(c:Int)(i:Nat):Prop:=Lv F ((min k n:Nat):Int) (c / ((n:Int)+1)) i/\(n<=k->2*(n:Int)-k<=gt F i->c%((n:Int)+1)=hdn n ps r F i)
theorem Pg.less(h:Pg n ps r F (k+1) c i):Pg n ps r F k c i:=by
 refine⟨?_,λh1 h2=>h.2 () ()⟩;have h1:=h.1;by_cases q:k<n
 .rw[Nat.min_eq_left ()]at h1;rw[Nat.min_eq_left ()];exact Lv.less ()
 .rw[Nat.min_eq_right ()]at h1;rw[Nat.min_eq_right ()];exact h1
theorem Pg.zero(N:dG n r ps F)(hc:InG n cs)(hn:cs.length=n):∀j,j<n->Pg n ps r F 0 (gt cs j) j:=λj hj=>by refine⟨?_,λh=>absurd h ()⟩;have:=N.zero hc.far (by simpa using hn) j hj;rw[vf ()]at this;simpa using this
def D4(N:dG n r ps F)(hn:cs.length=n)(hk:n<=k)(h:∀j,j<n->Pg n ps r F k (gt cs j) j):FA n cs=F:=by
 refine N.last (by simpa using hn) λj hj=>?_;have:=(h j hj).1;rw[Nat.min_eq_right hk]at this
 rwa [vf ()]
theorem Pg.step(N:dG n r ps F)(hc:InG n cs)(hn:cs.length=n)(h:∀j,j<n->Pg n ps r F k (gt cs j) j)(hi:i<n):Pg n ps r F (k+1) (jv n ps r cs i) i:=by
 obtain⟨e1,e2⟩:=Aj hn hi;have fl:(FA n cs).length=n:=by simpa using hn
 refine⟨?_,λh1 h2=>?_⟩
 .rw[e1];have:=(N.step hc.far fl (λj hj=>by rw[vf ()];exact(h j hj).1) hi).1;by_cases q:k<n
  .rw[Nat.min_eq_left ()]at this;rw[Nat.min_eq_left ()];simpa using this
  .rw[Nat.min_eq_right ()]at this;rw[Nat.min_eq_right ()];exact this.less
 .have ai:=N.all i hi;have hk:n<=k:=by lia
  have hf:=D4 N hn hk h;rw[e2];have rs:=N.rest i ();unfold pcn;rw[hf,if_pos rs];refine CC N hf hi λc hcn he=>?_;have:=(jg he).2.2.1;rw[toNat_natCast]at this;rw[zq ()];exact(h c hcn).2 hk ()
structure uy(n:Nat)(ps:Ln)(r:Nat)(F cs:Lq):Prop where
 fa:FA n cs=F
 cn:∀i,i<n->gt (CN n cs) i=hdn n ps r F i
theorem uy.of(N:dG n r ps F)(hn:cs.length=n)(h:∀j,j<n->Pg n ps r F (2*n) (gt cs j) j):uy n ps r F cs:=
 ⟨D4 N hn () h,λi hi=>by
  have:=N.D.rng i hi;rw[zq ()];exact(h i hi).2 () ()⟩
def uy.calm(N:dG n r ps F)(hc:InG n cs)(hn:cs.length=n)(h:∀i,i<cs.length->jv n ps r cs i=gt cs i):uy n ps r F cs:=by
 refine uy.of N hn ?_;have key:∀k:Nat,∀j,j<n->Pg n ps r F k (gt cs j) j:=λk=>by
  induction k with
  |zero=>exact Pg.zero N hc hn
  |succ k ih=>
   intro j hj;have:=Pg.step N hc hn ih hj
   rwa [h j ()]at this
 exact key _
end
def tri:Nat->Nat
 |0=>0
 |k+1=>tri k+k
def uR{α:Type}(y:α)(xs:List α):PR.jx xs.length y xs=xs++[y]:=by simp[PR.jx]
theorem AT(ti mo:Int)(n1:1<=n)(n2:n<=10):∃ts ms:Ln,zK [.int n,.int ti,.int mo]=.ok (.lst .own (prL (ts++ms)))/\gE n 55 (ts++ms)/\ts.length+1=n/\Tree (ts.map (·.1)):=by
 suffices hh:jw (Dx [LS n,LS ti,LS mo,none,none,none]) (λv=>∃ts ms:Ln,v=.lst .own (prL (ts++ms))/\gE n 55 (ts++ms)/\ts.length+1=n/\Tree (ts.map (·.1))) by obtain⟨v,h1,ts,ms,rfl,h2⟩:=hh;exact⟨ts,ms,az h1,h2⟩
 obtain⟨od,hod⟩:∃od:Lq,od=(range n).map λk:Nat=>(k:Int):=⟨_,rfl⟩
 have hlen:od.length=n:=by simp_all
 have odn:od.Nodup:=by rw[hod];exact Pairwise.map _ (λa b h z=>h ()) nodup_range
 have od1:∀i:Nat,i<n->od.getD i 0=(i:Int):=λi hi=>by rw[hod];simp[hi]
 refine cw (av (v:=.lst .own []) ()) ?_;refine hZ (λq e=>∃ws t a,e=[LS n,LS t,LS mo,some (.lst .own (prL ws)),a,none]/\PR.Tree n od (q+1) ws/\Tree (ws.map (·.1))/\∀w∈ws,w.1<w.2) (xs:=fe 1 (n-1)) ?_ ⟨[],ti,_,rfl,PR.Tree.start hlen n1,λi h=>by simp at h,λw h=>nomatch h⟩ (λq x e hx hP=>?_) (λe hP=>?_)
 .rw[Bv (lo:=1) (hi:=n) () () ()];rw[show((n:Int)-1).toNat=n-1 by lia]
 .obtain⟨ws,t,a,rfl,T,G1,G2⟩:=hP;obtain⟨hq,rfl⟩:=dD hx;have lt:=T.ln;have kp:(0:Int)<1+(q:Int):=by lia
  have b1:=emod_nonneg t (show(1:Int)+q≠0 by lia);have b2:=emod_lt_of_pos t kp;have dv:eO (.int t) (.int (1+(q:Int)))=.ok (.int (t / (1+(q:Int)))):=fB kp ();refine⟨_,cE rfl,bP (fD (v:=prV (t%(1+(q:Int)),1+(q:Int))) (by simp[bR kp,prV]) rfl () (by rw[j_];lia)) (bC (av (v:=.int (t / (1+(q:Int)))) (by simp[dv])) ⟨ws++[(t%(1+(q:Int)),1+(q:Int))],t / (1+(q:Int)),LS (1+(q:Int)),by simp[prL],?_,λi h=>?_,λw hw=>?_⟩)⟩
  .rw[<- uR];refine T.more (j:=(t%(1+(q:Int))).toNat) odn () () (.inr ?_);rw[od1 _ (),od1 _ ()];congr 1<;>lia
  .rw[length_map,length_append,List.length_singleton]at h;simp;by_cases z:i<ws.length
   .rw[List.getElem_append_left (by simpa using z)];exact G1 i (by simpa using z)
   .rw[List.getElem_append_right (by simpa using z)];simp
    lia
  .rcases mem_append.mp hw with hw|hw
   .exact G2 w hw
   .simp_all
 obtain⟨ts,t,a,rfl,T,G1,G2⟩:=hP;rw[aQ,show n-1+1=n by lia]at T;have Wh:=T.whole (by rw[hod]);have tln:=T.ln;have t10:∀k,k<=10->tri k<=45:=by decide
 refine hZ (λk e=>∃ms m a b,e=[LS n,LS t,LS m,some (.lst .own (prL (ts++ms))),a,b]/\gE n (10+tri k) (ts++ms)/\∀w∈ts++ms,w.2<w.1->w.1<k) (bp (n:=n) () ()) ⟨[],mo,a,none,by simp,by rw[append_nil];exact⟨Wh.rg,Wh.nd,Nat.le_trans Wh.ln n2,Wh.cn⟩,λw hw h=>by rw[append_nil]at hw;have:=G2 w hw;lia⟩ (λk x e hx hP=>?_) (λe hP=>?_)
 .obtain⟨ms,m,a,b,rfl,Wh,lo⟩:=hP;obtain⟨hk,rfl⟩:=dD hx;refine⟨_,cE rfl,?_⟩;simp only[s1_,Int.zero_add];have tk:=t10 k ();refine im (λj e=>∃ms m b,e=[LS n,LS t,LS m,some (.lst .own (prL (ts++ms))),LS k,b]/\gE n (10+tri k+j) (ts++ms)/\∀w∈ts++ms,w.2<w.1->w.1<k \/(w.1=k/\w.2<j)) (bp (n:=k) () ()) ⟨ms,m,_,rfl,Wh,λw hw h=>.inl (lo w hw h)⟩ (λj y e hy hP=>?_) (λe hP=>?_)
  .obtain⟨ms,m,b,rfl,Wh,lo⟩:=hP;obtain⟨hj,rfl⟩:=dD hy;have wl:=Wh.ln;have d3:eO (.int m) (.int 3)=.ok (.int (m / 3)):=fB () ();refine⟨_,cE rfl,?_⟩;simp only[s0_,s1_,Int.zero_add];by_cases hc:m%3=0/\((j:Int),(k:Int))∉ ts++ms
   .obtain⟨c1,c2⟩:=hc;have c3:((k:Int),(j:Int))∉ ts++ms:=λz=>by
     have:=lo _ z (show(j:Int)<k by lia)
     lia
    refine bP (gh (by simp[sR,bR,c1];simpa using c2) (fD (v:=prV ((k:Int),(j:Int))) (by rfl) rfl () (by rw[j_];lia))) (bC (av (v:=.int (m / 3)) (by simp[d3])) ⟨ms++[((k:Int),(j:Int))],m / 3,LS j,by simp[prL],?_,λw hw h=>?_⟩)
    .rw[<- append_assoc,<- uR];exact Wh.more ⟨by lia,by lia⟩ ⟨by lia,by lia⟩ () c3 c2
    .rw[<- append_assoc]at hw;rcases mem_append.mp hw with hw|hw
     .have:=lo w hw h
      lia
     .rw[List.mem_singleton.mp hw];exact .inr ⟨rfl,by lia⟩
   .refine bP (b8 ?_ aE) (bC (av (by simp[d3])) ⟨ms,m / 3,LS j,rfl,Wh.keep,λw hw h=>?_⟩)
    .by_cases c1:m%3=0
     .have c2:((j:Int),(k:Int))∈ ts++ms:=Classical.byContradiction λz=>hc ⟨c1,z⟩;simp[sR,bR,c1];exact λz=>(mem_append.mp c2).resolve_left z
     .simp[bR,c1]
    .have:=lo w hw h
     lia
  .obtain⟨ms,m,b,rfl,Wh,lo⟩:=hP;rw[aQ]at Wh lo;exact⟨ms,_,_,_,rfl,by rw[show 10+tri (k+1)=10+tri k+k by simp[tri];lia];exact Wh,λw hw h=>by have:=lo w hw h;lia⟩
 .obtain⟨ms,m,a,b,rfl,Wh,_⟩:=hP;rw[aQ]at Wh;have tn:=t10 n n2;exact eE (d_ rfl) ⟨ts,ms,rfl,⟨Wh.rg,Wh.nd,by have:=Wh.ln;lia,Wh.cn⟩,tln,G1⟩
def Af{α β:Type}(f:α->β):∀(l:List α) (j:Nat),(l.map f).eraseIdx j=(l.eraseIdx j).map f
 | [],_|_::_,0=>rfl
 |x::l,j+1=>by simp[Af f l j]
def qh:∀(l:Lq) (j:Nat) (h:j<l.length),(l[j]::l.eraseIdx j).Perm l
 |_::_,0,_=>.refl _
 |x::l,j+1,h=>(List.Perm.swap _ _ _).trans ((qh l j (by simpa using h)).cons x)
theorem FM(c:Int)(n2:n<=10):∃ms:Lq,zM [.int n,.int c]=.ok (LQ ms)/\OkM n ms:=by
 suffices hh:jw (DA [LS n,LS c,none,none,none]) (λv=>∃ms:Lq,v=LQ ms/\OkM n ms) by obtain⟨v,h1,ms,rfl,h2⟩:=hh;exact⟨ms,az h1,h2⟩
 refine cw (av (v:=LQ [0,1,2,3,4,5,6,7,8,9]) rfl) ?_;refine cw (av (v:=.lst .own []) ()) ?_;refine hZ (λk e=>∃po ms c a,e=[LS n,LS c,LU po,LU ms,a]/\ms.length=k/\po.length+k=10/\(ms++po).Nodup/\∀x∈ms++po,0<=x/\x<=9) (bp (n:=n) () ()) ⟨[0,1,2,3,4,5,6,7,8,9],[],c,none,rfl,rfl,rfl,by decide,by decide⟩ (λk x e hx hP=>?_) (λe hP=>?_)
 .obtain⟨po,ms,c,a,rfl,l1,l2,nd,rg⟩:=hP;obtain⟨hk,rfl⟩:=dD hx;have kp:(0:Int)<po.length:=by lia
  have b1:=emod_nonneg c (show(po.length:Int)≠ 0 by lia);have b2:=emod_lt_of_pos c kp;obtain⟨j,hj⟩:∃j:Nat,c%(po.length:Int)=j:=⟨(c%(po.length:Int)).toNat,by lia⟩
  have jl:j<po.length:=by lia
  have dv:eO (.int c) (.int (10-(k:Int)))=.ok (.int (c / (10-(k:Int)))):=fB () ();have ap:kh 3 2 (mOp dM (aa 1) (aq (p1 dS) (ae (aa 2) am))) [LS n,LS c,LU po,LU ms,LS (0+k)]=.next [LS n,LS c,LU (po.eraseIdx j),LU (ms++[po[j]]),LS (0+k)]:=by
   unfold kh;have e:(mOp dM (aa 1) (aq (p1 dS) (ae (aa 2) am))) [LS n,LS c,LU po,LU ms,LS (0+k)]=.ok (.int (j:Int)):=by simp[p1,a_,bR kp,hj]
   rw[e];simp only[getElem?_cons_zero,getElem?_cons_succ];have g:(iL po)[(j:Int).toNat]?=some (.int po[j]):=by simp[iL,jl]
   rw[g];simp only[];rw[if_pos ⟨by decide,by lia,by simp[fk],by simp[fk],by simp;lia,by simp;lia⟩];have er:(iL po).eraseIdx (j:Int).toNat=iL (po.eraseIdx j):=by simp[iL,Af]
   rw[er];simp[iL]
  refine⟨_,cE rfl,bP ap (bC (av (v:=.int (c / (10-(k:Int)))) (by simp[dv])) ⟨po.eraseIdx j,ms++[po[j]],_,_,rfl,by simp[l1],by rw[List.length_eraseIdx,if_pos jl];lia,?_,λx hx=>?_⟩)⟩
  .have pm:(ms++[po[j]]++ po.eraseIdx j).Perm (ms++po):=by rw[append_assoc];exact(qh po j jl).append_left ms
   exact pm.symm.nodup nd
  .have pm:(ms++[po[j]]++ po.eraseIdx j).Perm (ms++po):=by rw[append_assoc];exact(qh po j jl).append_left ms
   exact rg x (pm.mem_iff.mp hx)
 .obtain⟨po,ms,c,a,rfl,l1,l2,nd,rg⟩:=hP;rw[aQ]at l1;exact eE (d_ rfl) ⟨ms,rfl,l1,(nodup_append.mp nd).1,λx hx=>rg x (mem_append_left _ hx)⟩
def isB(x:LC)(b:Bool):Bool:=match x with
 |.ok (.bl c)=>c==b
 |_=>false
def ee{x:LC}{b:Bool}(h:isB x b=true):x=.ok (.bl b):=by
 unfold isB at h;split at h
 .rw[eq_of_beq h]
 .cases h
noncomputable def kiS:Nat->Str
 |0=>"pass"
 |1=>"paint"
 |2=>"count"
 |3=>"far"
 |4=>"lead"
 |_=>"grow"
def tdV(k n:Nat)(ws:Ln)(pa ms:Lq)(r:Nat)(sp:Int):PV:=.box 0 [.str (kiS k),.int n,.lst .frz (prL ws),LR .frz pa,LR .frz ms,.int r,.int sp]
structure Td(k n:Nat)(ws:Ln)(pa ms:Lq)(r:Nat)(sp:Int):Prop where
 k6:k<6
 n1:1<=n
 n7:n<=7
 p2:k=0->2<=n
 wh:gE n 55 ws
 pl:pa.length+1=n
 tr:Tree pa
 nm:OkM n ms
 rn:r<n
 sn:(n:Int)<= sp
section
variable{k n:Nat}{ws:Ln}{pa ms:Lq}{r:Nat}{sp:Int}
def sU(g:Fl->Fl)(h:g .frz=.frz):(tdV k n ws pa ms r sp).LM g=tdV k n ws pa ms r sp:=by simp[tdV,PV.LM,h]
@[simp] def HG:(tdV k n ws pa ms r sp).LM Fl.LD=tdV k n ws pa ms r sp:=sU _ rfl
@[simp] def Ld:(tdV k n ws pa ms r sp).LM Fl.LF=tdV k n ws pa ms r sp:=sU _ rfl
def xo(p:Fl->Bool)(h:p .frz=false):(tdV k n ws pa ms r sp).has p=false:=by simp[tdV,PV.has,h]
def jt:b6 0 0 (tdV k n ws pa ms r sp)=.ok (.str (kiS k)):=rfl
def kF:b6 0 1 (tdV k n ws pa ms r sp)=.ok (.int n):=rfl
def AZ:b6 0 2 (tdV k n ws pa ms r sp)=.ok (.lst .frz (prL ws)):=by simp[b6,tdV]
def HH:b6 0 3 (tdV k n ws pa ms r sp)=.ok (LR .frz pa):=by simp[b6,tdV]
def vP:b6 0 4 (tdV k n ws pa ms r sp)=.ok (LR .frz ms):=by simp[b6,tdV]
def xp:b6 0 5 (tdV k n ws pa ms r sp)=.ok (.int r):=rfl
def Ea:b6 0 6 (tdV k n ws pa ms r sp)=.ok (.int sp):=rfl
end
theorem AX(fl:Fl)(ns:Lq)(h:Scr fl):∃k n ws pa ms r sp,zJ [LR fl ns]=.ok (tdV k n ws pa ms r sp)/\Td k n ws pa ms r sp:=by
 have cl:∀k:Nat,d4 [LR fl ns,.int k]=.ok (.int (cell ns k)):=λk=>qo ns k h;have c0:d4 [LR fl ns,.int 0]=.ok (.int (cell ns 0)):=cl 0;have c1:d4 [LR fl ns,.int 1]=.ok (.int (cell ns 1)):=cl 1;have c2:d4 [LR fl ns,.int 2]=.ok (.int (cell ns 2)):=cl 2;have c3:d4 [LR fl ns,.int 3]=.ok (.int (cell ns 3)):=cl 3;generalize cell ns 0=z0 at c0;generalize cell ns 1=z1 at c1;generalize cell ns 2=z2 at c2;generalize cell ns 3=z3 at c3;obtain⟨k,hk⟩:∃k:Nat,z0%6=k:=⟨(z0%6).toNat,by lia⟩
 have k6:k<6:=by lia
 obtain⟨m,hm⟩:∃m:Nat,1+z0 / 6%6=m:=⟨(1+z0 / 6%6).toNat,by lia⟩
 obtain⟨n,hn⟩:∃n:Nat,n=if k=0 then m+1 else m:=⟨_,rfl⟩
 have n7:1<=n/\n<=7/\(k=0->2<=n):=by lia
 obtain⟨ts,tm,hw,Wh,tl,tr⟩:=AT (n:=n) z1 z2 () ();obtain⟨ms,hms,N⟩:=FM (n:=n) z3 ();have np:(0:Int)<n:=by lia
 obtain⟨r,hr⟩:∃r:Nat,z3%(n:Int)=r:=⟨(z3%(n:Int)).toNat,by have:=emod_nonneg z3 (show(n:Int)≠ 0 by lia);lia⟩
 have rn:r<n:=by have:=emod_lt_of_pos z3 np;lia
 have d6:eO (.int z0) (.int 6)=.ok (.int (z0 / 6)):=fB () ();have d2:eO (.int z3) (.int 2)=.ok (.int (z3 / 2)):=fB () ();have p59:rA (.int 10) (.int 59)=.ok (.int 100000000000000000000000000000000000000000000000000000000000):=by rfl
 have m59:dM (.int (z3 / 2)) (.int 100000000000000000000000000000000000000000000000000000000000)=.ok (.int (z3 / 2%100000000000000000000000000000000000000000000000000000000000)):=bR ();have b59:=emod_nonneg (z3 / 2) (show(100000000000000000000000000000000000000000000000000000000000:Int)≠ 0 by decide);generalize z3 / 2%100000000000000000000000000000000000000000000000000000000000=w at m59 b59;obtain⟨sp,hsp,sn⟩:∃sp:Int,sp=(if z3%2=1 then(n:Int)+w else(n:Int)+z3 / 2%7)/\(n:Int)<= sp:=⟨_,rfl,by lia⟩
 refine⟨k,n,ts++tm,ts.map (·.1),ms,r,sp,az ?_,k6,n7.1,n7.2.1,n7.2.2,Wh,by simpa using tl,tr,N,rn,sn⟩;show Dv [LV fl ns,none,none,none,none,none,none,none,none,none]=_;refine af (av (v:=.int z0) (by simp[h.LD,h.LF,c0,aD])) ?_;refine af (av (v:=.int z3) (by simp[h.LD,h.LF,c3,aD])) ?_;refine af (av (v:=.str (kiS k)) ?_) ?_
 .simp;simp[bR,hk];have:k=0\/k=1\/k=2\/k=3\/k=4\/k=5:=by lia
  rcases this with rfl|rfl|rfl|rfl|rfl|rfl<;>rfl
 refine af (av (v:=.int m) (by simp[d6,bR,hm])) ?_;have ek:pEq (.str (kiS k)) (.str "pass")=.ok (.bl (decide (k=0))):=by
  have:k=0\/k=1\/k=2\/k=3\/k=4\/k=5:=by lia
  rcases this with rfl|rfl|rfl|rfl|rfl|rfl<;>exact ee (by decide +kernel)
 refine af (e:=[LV fl ns,LS z0,LS z3,some (.str (kiS k)),LS n,none,none,none,none,none]) ?_ ?_
 .by_cases q:k=0
  .rw[decide_eq_true q]at ek;refine gh (by simp[ek,PV.LM]) ?_;rw[hn,if_pos q];exact av () () rfl
  .rw[decide_eq_false q]at ek;refine b8 (by simp[ek,PV.LM]) ?_;rw[hn,if_neg q];exact aE
 refine af (av (v:=.lst .own (prL (ts++tm))) (by simp[h.LD,h.LF,c1,c2,hw,aD])) ?_;refine af (av (v:=.int ((n:Int)+z3 / 2%7)) (by simp[d2,bR])) ?_;refine af (e:=[LV fl ns,LS z0,LS z3,some (.str (kiS k)),LS n,some (.lst .own (prL (ts++tm))),LS sp,none,none,none]) ?_ ?_
 .by_cases q:z3%2=1
  .refine gh (by simp[bR,q]) ?_;rw[hsp,if_pos q];exact av (by simp[d2,p59,m59]) () rfl
  .refine b8 (by simp[bR,q]) ?_;rw[hsp,if_neg q];exact aE
 refine af (av (v:=.lst .own (iL (ts.map (·.1)))) ?_) ?_
 .refine aF (xs:=prL ts) ?_ (by rw[j_];lia) ?_
  .have ec:jN (prL (ts++tm)) none (some ((n:Int)-1))=prL ts:=by rw[show(n:Int)-1=(ts.length:Int) by lia];rw[Ap _ _ ()];simp[prL]
   simp[ec]
  .rw[show iL (ts.map (·.1))=ts.map λw=>PV.int w.1 by simp[iL]];exact bv (a:=prV) ts λw _=>⟨[some (prV w)],by simp[tgN,aH,bF,dB],by rfl,by simp,by simp⟩
 refine af (av (v:=LQ ms) (by simp[hms,aD])) ?_;refine af (dw rfl) (af (dw rfl) (af (dw rfl) ?_));unfold u_;simp[p9,bR np,hr,PV.LM,tdV,PV.has]
end
section
def sw1(n:Nat)(D:Lq->Nat->Int):Nat->Lq->Lq
 |0,cs=>cs
 |m+1,cs=>stR n D (sw1 n D m cs) [(m:Int)]
def swK(n:Nat)(D:Lq->Nat->Int):Nat->Lq->Lq
 |0,cs=>cs
 |k+1,cs=>sw1 n D n (swK n D k cs)
theorem pM{m:Nat}(hi:i<n):gt (stR n D cs [(m:Int)]) i=if i=m then D cs i else gt cs i:=by
 have:gt (stR n D cs [(m:Int)]) i=if [(m:Int)].contains (i:Int)then D cs i else gt cs i:=by simp[stR,gt,hi]
 rw[this];by_cases q:i=m
 .simp[q]
 .rw[if_neg q,if_neg (by simp;lia)]
structure Sp(n:Nat)(sp:Int)(D:Lq->Nat->Int):Prop where
 d:∀cs k,cs.length=n->InS sp cs->k<n->0<=D cs k/\D cs k<sp
section
variable{n:Nat}{sp:Int}{D:Lq->Nat->Int}{cs:Lq}
def Sp.st(S:Sp n sp D)(hn:cs.length=n)(hc:InS sp cs)(nm:Lq):(stR n D cs nm).length=n/\InS sp (stR n D cs nm):=by
 refine⟨by simp[stR],λc hc'=>?_⟩;obtain⟨i,hi,rfl⟩:=mem_map.mp hc';have hi:=mem_range.mp hi;split
 .exact S.d cs i hn hc hi
 .exact hc _ (cS ())
def Sp.sw1(S:Sp n sp D)(hn:cs.length=n)(hc:InS sp cs):∀m,(sw1 n D m cs).length=n/\InS sp (sw1 n D m cs)
 |0=>⟨hn,hc⟩
 |m+1=>let⟨h1,h2⟩:=S.sw1 hn hc m;S.st h1 h2 _
def Sp.swK(S:Sp n sp D)(hn:cs.length=n)(hc:InS sp cs):∀m,(swK n D m cs).length=n/\InS sp (swK n D m cs)
 |0=>⟨hn,hc⟩
 |m+1=>let⟨h1,h2⟩:=S.swK hn hc m;S.sw1 h1 h2 _
def vL(h:∀i,i<n->D cs i=gt cs i):caR n false D cs=true:=by
 have:mvR n D cs=[]:=by unfold mvR;rw[List.filter_eq_nil_iff.mpr λi hi=>by simp[h i (mem_range.mp hi)]];rfl
 simp[caR,this]
def CL(h:caR n false D cs=true):∀i,i<n->D cs i=gt cs i:=λi hi=>Classical.byContradiction λz=>by have:(i:Int)∈ mvR n D cs:=mem_map.mpr ⟨i,mem_filter.mpr ⟨mem_range.mpr hi,by simpa using z⟩,rfl⟩;simp[caR]at h;rw[h]at this;cases this
structure Lev(n:Nat)(sp:Int)(D:Lq->Nat->Int)(P:Nat->Int->Nat->Prop):Prop where
 S:Sp n sp D
 z:∀cs,cs.length=n->InS sp cs->∀i,i<n->P 0 (gt cs i) i
 le:∀k v i,P (k+1) v i->P k v i
 st:∀cs k,cs.length=n->InS sp cs->(∀j,j<n->P k (gt cs j) j)->∀i,i<n->P (k+1) (D cs i) i
 un:∀v v' i,i<n->P (2*n) v i->P (2*n) v' i->v=v'
theorem Lev.conv{P:Nat->Int->Nat->Prop}(L:Lev n sp D P)(hn:cs.length=n)(hc:InS sp cs):caR n false D (swK n D (2*n) cs)=true:=by
 have one:∀(k m:Nat) (cs:Lq),m<=n->cs.length=n->InS sp cs->(∀j,j<n->P k (gt cs j) j)->∀j,j<n->P k (gt (sw1 n D m cs) j) j/\(j<m->P (k+1) (gt (sw1 n D m cs) j) j):=λk m cs hm hn hc h=>by
  induction m with
  |zero=>exact λj hj=>⟨h j hj,λz=>by lia⟩
  |succ m ih=>
   have ih:=ih ();obtain⟨h1,h2⟩:=L.S.sw1 hn hc m;intro j hj;have e:gt (sw1 n D (m+1) cs) j=if j=m then D (sw1 n D m cs) j else gt (sw1 n D m cs) j:=pM hj
   rw[e];split
   .have:=L.st _ k h1 h2 (λi hi=>(ih i hi).1) j hj;exact⟨L.le _ _ _ this,λ_=>this⟩
   .exact⟨(ih j hj).1,λz=>(ih j hj).2 ()⟩
 have all:∀k,∀j,j<n->P k (gt (swK n D k cs) j) j:=λk=>by
  induction k with
  |zero=>exact L.z cs hn hc
  |succ k ih=>obtain⟨h1,h2⟩:=L.S.swK hn hc k;exact λj hj=>(one k n _ (Nat.le_refl _) h1 h2 ih j hj).2 hj
 obtain⟨h1,h2⟩:=L.S.swK hn hc (2*n);exact vL λi hi=>L.un _ _ i hi (L.le _ _ _ (L.st _ _ h1 h2 (all _) i hi)) (all _ i hi)
structure ou(n:Nat)(hg:Nat->Lq)(rk:Nat->Nat)(D:Lq->Nat->Int):Prop where
 up:∀i,i<n->∀j∈hg i,0<=j/\j<n/\rk i<rk j.toNat
 rl:∀i,i<n->rk i<n
 loc:∀cs cs' i,i<n->(∀j∈hg i,gt cs j.toNat=gt cs' j.toNat)->D cs i=D cs' i
variable{hg:Nat->Lq}{rk:Nat->Nat}
theorem ou.conv(H:ou n hg rk D):caR n false D (swK n D (2*n) cs)=true:=by
 have keep:∀(k:Nat) (m:Nat) (cs:Lq),m<n->(∀i,i<n->n-k<=rk i->D cs i=gt cs i)->(∀i,i<n->n-k<=rk i->D (stR n D cs [(m:Int)]) i=gt (stR n D cs [(m:Int)]) i)/\(∀i,i<n->n-(k+1)<= rk i->(i=m\/D cs i=gt cs i)->D (stR n D cs [(m:Int)]) i=gt (stR n D cs [(m:Int)]) i):=λk m cs hm h=>by
  have key:∀i,i<n->n-(k+1)<= rk i->D (stR n D cs [(m:Int)]) i=D cs i:=λi hi hr=>H.loc _ _ i hi λj hj=>by
   obtain⟨h1,h2,h3⟩:=H.up i hi j hj;rw[pM ()];split
   .exact h _ () ()
   .rfl
  refine⟨λi hi hr=>?_,λi hi hr ho=>?_⟩
  .rw[key i hi (),pM hi];split
   .rfl
   .exact h i hi hr
  .rw[key i hi hr,pM hi];split
   .rfl
   .lia
 have one:∀(k m:Nat) (cs:Lq),m<=n->(∀i,i<n->n-k<=rk i->D cs i=gt cs i)->(∀i,i<n->n-k<=rk i->D (sw1 n D m cs) i=gt (sw1 n D m cs) i)/\∀i,i<m->n-(k+1)<= rk i->D (sw1 n D m cs) i=gt (sw1 n D m cs) i:=λk m cs hm h=>by
  induction m with
  |zero=>exact⟨h,λi hi=>by lia⟩
  |succ m ih=>
   obtain⟨a,b⟩:=ih ();obtain⟨c,d⟩:=keep k m (sw1 n D m cs) () a;refine⟨c,λi hi hr=>d i () hr ?_⟩;by_cases q:i=m
   .exact .inl q
   .exact .inr (b i () hr)
 have all:∀k,∀i,i<n->n-k<=rk i->D (swK n D k cs) i=gt (swK n D k cs) i:=λk=>by
  induction k with
  |zero=>exact λi hi hr=>by have:=H.rl i hi;lia
  |succ k ih=>exact λi hi hr=>(one k n _ (Nat.le_refl _) ih).2 i hi hr
 exact vL λi hi=>all (2*n) i hi ()
noncomputable def rch(hg:Nat->Lq)(sp:Nat->Bool):Nat->Nat->Bool
 |0,i=>sp i
 |t+1,i=>rch hg sp t i ||(hg i).any λj=>rch hg sp t j.toNat
def xT{sp:Nat->Bool}:∀{t t':Nat},t<=t'->rch hg sp t i=true->rch hg sp t' i=true:=by
 intro t t' hle h
 induction hle with
 |refl=>exact h
 |step _ ih=>simp[rch,ih]
theorem xS{sp:Nat->Bool}(H:ou n hg rk D):∀d i t,i<n->n-rk i=d->d<=t->rch hg sp (t+1) i=true->rch hg sp t i=true:=by
 intro d
 induction d using Nat.strongRecOn with
 |_ d ih=>
  intro i t hi hd ht h;have h0:=H.rl i hi;obtain⟨u,rfl⟩:∃u,t=u+1:=⟨t-1,by lia⟩
  rw[rch,or_eq_true,any_eq_true]at h;rcases h with h |⟨j,hj,h⟩
  .exact h
  .obtain⟨h1,h2,h3⟩:=H.up i hi j hj;have:=ih (n-rk j.toNat) () j.toNat u () rfl () h;rw[rch,or_eq_true,any_eq_true];exact .inr ⟨j,hj,this⟩
theorem Ez{sp:Nat->Bool}(H:ou n hg rk D)(hi:i<n){j:Int}(hj:j∈hg i)(h:rch hg sp n j.toNat=true):rch hg sp n i=true:=
 xS H (n-rk i) i n hi rfl () (by rw[rch,or_eq_true,any_eq_true];exact .inr ⟨j,hj,h⟩)
theorem ou.quiet(H:ou n hg rk D){sp:Nat->Bool}(h0:caR n false D c0=true)(h:∀i,i<n->rch hg sp n i=false->gt cs i=gt c0 i)(hi:i<n)(hd:D cs i≠gt cs i):rch hg sp n i=true:=Classical.byContradiction λz=>by
 have z':rch hg sp n i=false:=by simpa using z
 refine hd ?_;rw[h i hi z',<- CL h0 i hi];refine H.loc _ _ i hi λj hj=>h _ (by have:=H.up i hi j hj;lia) ?_;exact Classical.byContradiction λw=>z (Ez H hi hj (by simpa using w))
end
def Sp.of(r:Rl o n sp al ip D):Sp n sp D:=⟨λcs k hn hc hk=>(r.due .bor cs k (.inl rfl) hn hc hk).2⟩
inductive Spo(n:Nat)(sp:Int)(c0:Lq):Lq->Nat->Prop
 |zero:Spo n sp c0 c0 0
 |more {cs:Lq}{c p:Nat}{v:Int}:Spo n sp c0 cs c->p<n->0<=v->v<sp->Spo n sp c0 (cs.set p v) (c+1)
def Spo.in_{c:Nat}(h:Spo n sp c0 cs c)(hn:c0.length=n)(hc:InS sp c0):cs.length=n/\InS sp cs:=by
 induction h with
 |zero=>exact⟨hn,hc⟩
 |more _ hp h1 h2 ih=>
  refine⟨by simpa using ih.1,λx hx=>?_⟩;rcases List.mem_or_eq_of_mem_set hx with hx|rfl
  .exact ih.2 x hx
  .exact⟨h1,h2⟩
def pick(n:Nat)(R:Nat->Bool):Lq:=((range n).filter R).map λi:Nat=>(i:Int)
structure Kx(o:PV)(n:Nat)(sp:Int)(ip:Bool)(D:Lq->Nat->Int):Prop where
 cv:ip=false->∀cs:Lq,cs.length=n->InS sp cs->caR n false D (swK n D (2*n) cs)=true
 ms:∃(M:Lq->Int) (mo:Int) (so:Nat->Int),(∀f cs,Fc f\/f=.own->cs.length=n->InS sp cs->dQ aN (.ok [LR f cs]) o=.ok (.int (M cs)))/\dQ aI (.ok []) o=.ok (.int mo)/\
  (∀c:Nat,c<=1000->dQ aW (.ok [.int c]) o=.ok (.int (so c))/\so c<=mo)/\∀c0 cs c,c0.length=n->InS sp c0->caR n ip D c0=true->Spo n sp c0 cs c->M cs<=so c
 rc:∀sl:Lq,∃R:Nat->Bool,(∀f,Fc f\/f=.own->dQ aK (.ok [LR f sl]) o=.ok (LQ (pick n R)))/\(∀i:Nat,sl.contains (i:Int)=true->R i=true)/\
  ∀c0 cs:Lq,caR n ip D c0=true->(∀i,i<n->R i=false->gt cs i=gt c0 i)->∀i,i<n->D cs i≠gt cs i->R i=true
section
variable{o:PV}{n:Nat}{sp:Int}{al ip:Bool}{D:Lq->Nat->Int}
theorem tK(r:Rl o n sp al ip D)(h:∀x,dQ aK x o=x.bind λxs=>aM nS (o::xs))(sl:Lq):∃R:Nat->Bool,(∀f,Fc f\/f=.own->dQ aK (.ok [LR f sl]) o=.ok (LQ (pick n R)))/\(∀i:Nat,sl.contains (i:Int)=true->R i=true)/\
  ∀c0 cs:Lq,caR n ip D c0=true->(∀i,i<n->R i=false->gt cs i=gt c0 i)->∀i,i<n->D cs i≠gt cs i->R i=true:=by
 have n20:=r.n20;refine⟨λ_=>true,λf hf=>?_,λ_ _=>rfl,λ_ _ _ _ _ _ _=>rfl⟩;have e1:fe 0 n=iL (pick n λ_=>true):=by unfold pick;rw[List.filter_eq_self.mpr (λ_ _=>rfl)];simp[fe,iL]
 have e2:jm [.int (n:Int)]=.ok (LQ (pick n λ_=>true)):=by simp[jm,show(n:Int)<= 1000000 by lia,e1]
 have e3:∀x,nS [o,x]=.ok (LQ (pick n λ_=>true)):=λx=>by refine az ?_;show DE [some o,some x]=_;exact a9 (by simp[r.le,r.a0,e2]) ()
 rw[h];simp[r.tb,e3,aD]
def uK(r:Rl o n sp al ip D)(h:∀x,dQ aW x o=x.bind λxs=>aM lS (o::xs)){M:Lq->Int}{mo:Int}(me:∀f cs,Fc f\/f=.own->cs.length=n->InS sp cs->dQ aN (.ok [LR f cs]) o=.ok (.int (M cs)))(mq:dQ aI (.ok []) o=.ok (.int mo))(bd:∀cs,cs.length=n->InS sp cs->M cs<=mo) :
  ∃(M:Lq->Int) (mo:Int) (so:Nat->Int),(∀f cs,Fc f\/f=.own->cs.length=n->InS sp cs->dQ aN (.ok [LR f cs]) o=.ok (.int (M cs)))/\dQ aI (.ok []) o=.ok (.int mo)/\
  (∀c:Nat,c<=1000->dQ aW (.ok [.int c]) o=.ok (.int (so c))/\so c<=mo)/\∀c0 cs c,c0.length=n->InS sp c0->caR n ip D c0=true->Spo n sp c0 cs c->M cs<=so c:=by
 refine⟨M,mo,λ_=>mo,me,mq,λc _=>⟨?_,Int.le_refl _⟩,λc0 cs c hn hc _ h=>bd _ (h.in_ hn hc).1 (h.in_ hn hc).2⟩;have e3:lS [o,.int c]=.ok (.int mo):=by refine az ?_;show Dy [some o,LS c]=_;exact a9 (by simp[r.le,mq]) ()
 rw[h];simp[r.tb,e3,aD]
end
section
variable{n r:Nat}{ps:Ln}{ms F:Lq}{M:Int}
theorem Cc(N:dG n r ps F)(R:Rl o n ((n:Int)+1) al ip (dW ps (fs n r) n n)):Lev n ((n:Int)+1) (dW ps (fs n r) n n) (λk v i=>Lv F k v i) where
 S:=.of R
 z:=λcs hn hc=>N.zero (λc h=>by have:=hc c h;lia) hn
 le:=λk v i h=>Lv.less (by simpa using h)
 st:=λcs k hn hc h i hi=>by have:=(N.step (λc h=>by have:=hc c h;lia) hn h hi).1;simpa using this
 un:=λv v' i hi h h'=>by
  have a:=N.all i hi;obtain⟨h1,h2⟩:=h;obtain⟨h3,h4⟩:=h'
  lia
theorem y3(N:iu n r ps ms F M)(R:Rl o n (10*(n:Int)+1) al ip (dW ps (ls n ms) n (10*n))):Lev n (10*(n:Int)+1) (dW ps (ls n ms) n (10*n)) (λk v i=>Iv n F M k v i) where
 S:=.of R
 z:=λcs hn hc=>N.zero
 le:=λk v i h=>h.less
 st:=λcs k hn hc h i hi=>by
  have:=N.step h hi;unfold DL at this
  rwa [show(n:Int)*10=10*n from Int.mul_comm _ _]at this
 un:=λv v' i hi h h'=>by
  have a:=N.all i hi;obtain⟨h1,h2⟩:=h.2 ();obtain⟨h3,h4⟩:=h'.2 ()
  lia
theorem y4(N:dG n r ps F)(R:Rl o n (((n:Int)+1)*((n:Int)+1)) al ip (jv n ps r)):Lev n (((n:Int)+1)*((n:Int)+1)) (jv n ps r) (λk v i=>Pg n ps r F k v i) where
 S:=.of R
 z:=λcs hn hc=>Pg.zero N hc hn
 le:=λk v i h=>h.less
 st:=λcs k hn hc h i hi=>Pg.step N hc hn h hi
 un:=λv v' i hi h h'=>by have a:=N.all i hi;have d:=N.D.rng i hi;rw[CI (show(0:Int) <(n:Int)+1 by lia)];have e1:=h.2 () ();have e2:=h'.2 () ();obtain⟨h1,h2⟩:=h.1;obtain⟨h3,h4⟩:=h'.1;exact⟨by lia,by rw[e1,e2]⟩
end
section
variable{n r:Nat}{ps:Ln}{os:List (Lx)}{st:Int}
theorem rR{cc T:Nat}(hcc:cc=5\/cc=6)(n10:n<=10)(hT:T<=100)(R:Rl (lea .frz cc n ps os st T) n ((T:Int)+1) true false (dW ps os st T))(cv:∀cs:Lq,cs.length=n->InS ((T:Int)+1) cs->caR n false (dW ps os st T) (swK n (dW ps os st T) (2*n) cs)=true):Kx (lea .frz cc n ps os st T) n ((T:Int)+1) false (dW ps os st T) where
 cv:=λ_=>cv
 ms:=uK R (λx=>by rcases hcc with rfl|rfl<;>simp[aW])
  (λf cs hf hn hc=>by
   have:=rO (st:=st) (T:=T) (Fc.tb2 hf) (λf k hf hk=>(R.due f cs k hf hn hc hk).1) hn n10 ();rcases hcc with rfl|rfl<;>simp[aN,this,aD])
  (by rcases hcc with rfl|rfl<;>simp[aI,rN (.inr rfl) n10 hT,aD])
  (λcs hn hc=>Int.le_sub_one_of_lt (Da (n:=n) (T:=T) (A:=dW ps os st T cs) (x:=gt cs)).2)
 rc:=tK R (λx=>by rcases hcc with rfl|rfl<;>simp[aK])
theorem Ce(N:dG n r ps F)(R:Rl (gro .frz n ps r) n (((n:Int)+1)*((n:Int)+1)) true false (jv n ps r))(hnb:Hnb ps n)(hl:∀i:Int,(nbL ps i).length<=1000):Kx (gro .frz n ps r) n (((n:Int)+1)*((n:Int)+1)) false (jv n ps r) where
 cv:=λ_ cs hn hc=>(y4 N R).conv hn hc
 ms:=by
  have n1:=N.n1;have h10:=N.n10;have lm:=λf hf=>rN (cc:=5) (T:=n) (ps:=ps) (os:=fs n r) (st:=n) (f:=f) hf h10 ();have pn:=gp (e:=n) (b:=2) () () ();have p2:=sO h10;have mu:∀B:Int,cK (.int B) (.int (2 ^ n))=.ok (.int (B*2 ^ n)):=λB=>dF (.inr ⟨by lia,by lia⟩);have gm:Aa [gro .frz n ps r]=.ok (.int (((n:Int)+1) ^ (2*n)*2 ^ n-1)):=by refine az ?_;refine a9 ?_ ();simp[au,bI,jM,lm .frz (.inr rfl),pn,mu,aD]
  have rf:=mP (os:=fs n r) (st:=n) (.inl rfl) n1 () () () (ui n1) (by simp[fs]) hnb hl;refine uK R (λx=>by simp[aW]) (M:=λcs=>mT n ps (fs n r) n n (FA n cs)*2 ^ n+Wl (rnk n (FA n cs)) n (wrg n ps r cs)) (mo:=((n:Int)+1) ^ (2*n)*2 ^ n-1) (λf cs hf hn hc=>?_) (by simp[aI,gm,aD]) (λcs hn hc=>?_)
  .have fl:(FA n cs).length=n:=by simpa using hn
   have hi:InS ((n:Int)+1) (FA n cs):=λc hc'=>by
    have:=InG.far hc c hc'
    lia
   have hM:=rO (.inl (.inl rfl)) (λf k hf hk=>(rf.due f _ k hf fl hi hk).1) fl h10 ();have:=zr (Fc.tb2 hf) h10 hnb (λi=>hl i) hn hM;simp[aN,this,aD]
  .obtain⟨a1,a2⟩:=Da (n:=n) (T:=n) (A:=dW ps (fs n r) n n (FA n cs)) (x:=gt (FA n cs));obtain⟨b1,b2⟩:=xh (rk:=rnk n (FA n cs)) (p:=wrg n ps r cs) (λi j h1 h2 e=>Bs h1 h2 e) (λi hi _=>pV hi);show mL n n _ _*_+_<=_;generalize(2:Int) ^ n=PN at *;have c:=uf (r:=0) p2.1 a2 b2 ()
   lia
 rc:=tK R (λx=>by simp[aK])
end
def bL(bs:List Bool):LB:=bs.map .bl
def rL(hg:Nat->Lq)(sp:Nat->Bool)(n t:Nat):List Bool:=(range n).map (rch hg sp t)
@[simp] def K3{p:Fl->Bool}{bs:List Bool}:hasL p (bL bs)=false:=by
 induction bs with
 |nil=>rfl
 |cons b bs ih=>simpa[bL,hasL,PV.has]using ih
@[simp] def K2{bs:List Bool}:mapL g (bL bs)=bL bs:=by
 induction bs with
 |nil=>rfl
 |cons b bs ih=>simpa[bL,mapL,PV.LM]using ih
section
variable{o:PV}{n:Nat}{sp:Int}{al ip:Bool}{D:Lq->Nat->Int}{hg:Nat->Lq}{rk:Nat->Nat}
def tL{s:Nat->Bool}(hk:k<n):aB (.lst f (bL (rL hg s n t))) (.int k)=.ok (.bl (rch hg s t k)):=eA rfl (by simp[bL,rL,hk]) rfl
theorem zm(r:Rl o n sp al ip D)(H:ou n hg rk D)(ho:∀k:Nat,k<n->dQ bu (.ok [.int k]) o=.ok (LQ (hg k))/\(hg k).length<=1000){s:Nat->Bool}(hk:k<n):Ac [o,.int k,.lst .bor (bL (rL hg s n t))]=.ok (.bl ((hg k).any λj=>rch hg s t j.toNat)):=by
 have hl:=(ho k hk).2;refine az ?_;show JH [some o,LS k,some (.lst .bor (bL (rL hg s n t)))]=_;refine a9 ?_ ();simp;rw[aF (xs:=iL (hg k)) (ys:=((hg k).map λj=>rch hg s t j.toNat).map .bl) (by simp[r.le,(ho k hk).1]) (by rw[aX];lia) ?_]
 .have hb:kb lC (.lst .own (((hg k).map λj=>rch hg s t j.toNat).map .bl))=.ok (.bl ((hg k).any λj=>rch hg s t j.toNat)):=by
   unfold kb;dsimp only;rw[lB];simp[lC]
   try rfl
  simp only[p1,Res.LO,hb]
 .rw[map_map];refine bv (a:=PV.int) (hg k) λj hj=>⟨[some (.lst .bor (bL (rL hg s n t))),LS j],by simp[tgN,aH,bF],?_,by simp,by simp⟩
  obtain⟨h1,h2,_⟩:=H.up k hk j hj;have:=tL (hg:=hg) (s:=s) (t:=t) (k:=j.toNat) (f:=.bor) (n:=n) ();rw[show((j.toNat:Nat):Int)=j by lia]at this;simp[this]
def xR(r:Rl o n sp al false D)(H:ou n hg rk D)(ho:∀k:Nat,k<n->dQ bu (.ok [.int k]) o=.ok (LQ (hg k))/\(hg k).length<=1000)(hs:∀x,dQ bZ x o=x.bind λxs=>aM Ac (o::xs))(hr:∀x,dQ aK x o=x.bind λxs=>aM zA (o::xs))(sl:Lq) :
  ∃R:Nat->Bool,(∀f,Fc f\/f=.own->dQ aK (.ok [LR f sl]) o=.ok (LQ (pick n R)))/\(∀i:Nat,sl.contains (i:Int)=true->R i=true)/\
  ∀c0 cs:Lq,caR n false D c0=true->(∀i,i<n->R i=false->gt cs i=gt c0 i)->∀i,i<n->D cs i≠gt cs i->R i=true:=by
 have n20:=r.n20;refine⟨rch hg (λi=>sl.contains (i:Int)) n,λf hf=>?_,λi h=>xT (t:=0) () h,λc0 cs h0 h i hi hd=>H.quiet h0 h hi hd⟩;generalize hsp:(λi:Nat=>sl.contains (i:Int))=s;have key:∀f,zA [o,LR f sl]=.ok (LQ (pick n (rch hg s n))):=λf=>by
  refine az ?_;show Jo [some o,LV f sl,none,none]=_;refine af (av (v:=.lst .own (bL (rL hg s n 0))) ?_) ?_
  .refine aF (bp (n:=n) (by simp[r.le,r.a0]) ()) (by rw[aQ];lia) ?_;rw[show bL (rL hg s n 0)=(range n).map (PV.bl ∘ s) by simp[bL,rL,rch]];exact bv (range n) λk hk=>⟨[LV f.LH sl,LS (0+k)],by simp[tgN,aH,bF],by rw[<- hsp];simp,by simp,by simp⟩
  refine f9 (λt e=>∃x3,e=[some o,LV f sl,some (.lst .own (bL (rL hg s n t))),x3]) (bp (n:=n) (by simp[r.le,r.a0]) ()) ⟨_,rfl⟩ (λt x e hx hP=>?_) (λe hP=>?_)
  .obtain⟨x3,rfl⟩:=hP;refine⟨_,cE rfl,bC (av ?_) ⟨_,rfl⟩⟩;refine aF (bp (n:=n) (by simp[r.le,r.a0]) ()) (by rw[aQ];lia) ?_;rw[show bL (rL hg s n (t+1))=(range n).map (PV.bl ∘ rch hg s (t+1)) by simp[bL,rL]];refine bv (range n) λk hk=>⟨[some (.lst .bor (bL (rL hg s n t))),some o,LS (0+k)],by simp[tgN,aH,bF,r.bo],?_,by simp,by simp⟩
   have hk':=mem_range.mp hk;have i1:=tL (hg:=hg) (s:=s) (t:=t) (f:=.bor) hk';have so:=zm r H ho (s:=s) (t:=t) hk';by_cases q:rch hg s t k=true
   .simp[i1,q,rch]
   .simp[i1,q,rch,r.le,r.tb,hs,so,aD]
  .obtain⟨x3,rfl⟩:=hP;rw[aQ];refine a9 (aF (bp (by simp[r.le,r.a0]) ()) (by rw[aQ];lia) (eC (rch hg s n) (λk=>(k:Int)) n λk hk=>⟨[some (.lst .bor (bL (rL hg s n n))),LS (0+k)],by simp[tgN,aH,bF],?_,λ_=>by simp⟩)) ();have i1:=tL (hg:=hg) (s:=s) (t:=n) (f:=.bor) hk;simp[i1]
 rw[hr];simp[r.tb,key,aD]
end
theorem za{n:Nat}{ps:Ln}(h1:1<=n)(n10:n<=10)(rg:Rgs ps n)(hl:∀i,(nbL ps i).length<=1000):Kx (pnt .frz n ps) n n false (lw ps):=by
 have r:=qX h1 () rg hl;have H:ou n (kY ps) (λi=>n - 1 - i) (lw ps):=⟨λi hi j hj=>by have:=p_ rg hj;lia,λi hi=>by lia,λcs cs' i hi h=>by
  unfold lw;rw[map_congr_left h]⟩
 have rk:∀i:Nat,i<n->Gi [pnt .frz n ps,.int i]=.ok (.int ((n-1-i:Nat):Int)):=λi hi=>by refine az ?_;show Jp [some (pnt .frz n ps),LS i]=_;exact a9 (by simp[au,bI];lia) ()
 refine⟨λ_ cs _ _=>H.conv,uK r (λx=>by simp[aW]) (M:=λcs=>Wl (λi=>n-1-i) n (mvB (lw ps) cs)) (mo:=2 ^ n-1) (λf cs hf hn hc=>?_) (by simp[aI,sj (o:=pnt .frz n ps) () (by simp[au,bI]) n10,aD]) (λcs hn hc=>?_),xR r H (λk hk=>⟨by simp[bu,rV hk (hl k),aD],Nat.le_trans (length_filter_le _ _) (hl k)⟩) (λx=>by simp[bZ]) (λx=>by simp[aK])⟩
 .have:=sk (rk:=λi=>n-1-i) r n10 (λi hi=>⟨by simp[eU,rk i hi,aD],by lia⟩) (Fc.tb2 hf) hn hc;simp[aN,this,aD]
 .exact Int.le_sub_one_of_lt (xh (λi j h1 h2 e=>by lia) (λi hi _=>by lia)).2
theorem zb{ps:Lq}(T:Tree ps)(hl:ps.length<=9):Kx (cnt .bor ps) (ps.length+1) ((ps.length:Int)+2) false (lx (ps.length+1) ps):=by
 have r:=qY hl;have H:ou (ps.length+1) (λi=>cU i 1 ps) id (lx (ps.length+1) ps):=⟨λi hi j hj=>by
  obtain⟨h1,h2,h3⟩:=gB hj;obtain⟨k4,k5⟩:=List.getElem?_eq_some_iff.mp h3;have:=T _ k4;simp only[id]
  lia,λi hi=>hi,λcs cs' i hi h=>by
  unfold lx;rw[jU h]⟩
 have rk:∀i:Nat,Gn [cnt .bor ps,.int i]=.ok (.int i):=λi=>by refine az ?_;exact d_ rfl
 refine⟨λ_ cs _ _=>H.conv,uK r (λx=>by simp[aW]) (M:=λcs=>Wl id (ps.length+1) (mvB (lx (ps.length+1) ps) cs)) (mo:=2 ^ (ps.length+1)-1) (λf cs hf hn hc=>?_) (by simp[aI,sj (o:=cnt .bor ps) (n:=ps.length+1) () (by simp[au,bI]) (),aD]) (λcs hn hc=>?_),xR r H (λk hk=>⟨by simp[bu,o6 (ps:=ps) (i:=k) (),aD],Nat.le_trans nK ()⟩) (λx=>by simp[bZ]) (λx=>by simp[aK])⟩
 .have:=sk (rk:=id) r () (λi hi=>⟨by simp[eU,rk i,aD],hi⟩) (Fc.tb2 hf) hn hc;simp[aN,this,aD]
 .exact Int.le_sub_one_of_lt (xh (λi j h1 h2 e=>e) (λi hi _=>hi)).2
section
variable{n:Nat}{sp:Int}{cs:Lq}
theorem x_(n2:2<=n)(n20:n<=20)(hs:(n:Int)<= sp)(hn:cs.length=n)(hc:InS sp cs):∃J:Nat,IsJ sp cs J/\∀f,Fc f\/f=.own->zE [iD .bor n sp,.lst f (iL cs)]=.ok (.int (n*J+bS cs n)):=by
 have r:=pW (sp:=sp) () n20 ();have hc0:=hc _ (cS (i:=0) ());have so:=λf hf=>xt (fc:=f) hf () () () hc0;obtain⟨J,_,hJ⟩:=so .bor (.inl rfl);refine⟨J,hJ,λf hf=>az ?_⟩;obtain⟨J',e1,hJ'⟩:=so _ (Fc.call hf);rw[G7 hJ' hJ]at e1;show Jx [some (iD .bor n sp),some (.lst f (iL cs)),none]=_;have mo:=jp r (.inl (Fc.call hf)) hn hc;have ml:=l8 (n:=n) (D:=fZ sp) (cs:=cs);have ws:((((range n).filter λi=>decide (fZ sp cs i≠gt cs i)).filter λi=>decide (i≠0)).map λi:Nat=>(n:Int)-i).sum=bS cs n:=by
  obtain⟨m,rfl⟩:∃m,n=m+1:=⟨n-1,by lia⟩
  have:=uC (sp:=sp) (cs:=cs) (c:=((m+1:Nat):Int)) m;rw[show((m+1:Nat):Int)-1-m=0 by lia,Int.zero_mul,Int.add_zero]at this;exact this
 have sm:∀g:Fl,ka (.lst g (iL ((((range n).filter λi=>decide (fZ sp cs i≠gt cs i)).filter λi=>decide (i≠0)).map λi:Nat=>(n:Int)-i)))=.ok (.int (bS cs n)):=λg=>by
  rw[<- ws];refine lZ ?_ λx hx=>?_
  .rw[length_map];refine Nat.le_trans (length_filter_le _ _) (Nat.le_trans (length_filter_le _ _) (by simp;lia))
  .obtain⟨i,hi,rfl⟩:=mem_map.mp hx;have:=mem_range.mp (mem_filter.mp (mem_filter.mp hi).1).1
   lia
 refine af (av (v:=.lst .own (iL ((((range n).filter λi=>decide (fZ sp cs i≠gt cs i)).filter λi=>decide (i≠0)).map λi:Nat=>(n:Int)-i))) ?_) ?_
 .refine aF (xs:=iL (mvR n (fZ sp) cs)) (by simp[r.mv,mo,aD]) (by rw[aX];lia) ?_;unfold mvR;rw[show ∀l:List Nat,iL (l.map λi:Nat=>(i:Int))=l.map λi:Nat=>PV.int i from λl=>by simp[iL],show ∀l:List Nat,iL (l.map λi:Nat=>(n:Int)-i)=l.map λi:Nat=>PV.int ((n:Int)-i)from λl=>by simp[iL]];exact b_ _ λx _=>⟨[some (iD .bor n sp),some (.int x)],by simp[tgN,aH,bF],by simp,λ_=>by simp[au,bI]⟩
 have mu:cK (.int (n:Int)) (.int (J:Int))=.ok (.int (n*J)):=dF (.inl ⟨by lia,by lia⟩);generalize List.map (λi:Nat=>(n:Int)-i) _=WS at *;exact a9 (by simp[au,bI,e1,aD,mu,p1,sm]) ()
theorem CP:∀m,bc cs m<=bc cs (m+1):=λm=>by simp only[bc];split<;>lia
theorem JI(m:Nat):bS cs (m+1)<= m*bc cs m:=by
 induction m with
 |zero=>simp[bS,bc]
 |succ m ih=>
  have h:=CP (cs:=cs) m;have e:bS cs (m+1+1)=bS cs (m+1)+bc cs (m+1):=rfl;have m1:(m:Int)*bc cs m<=m*bc cs (m+1):=Int.mul_le_mul_of_nonneg_left h ();have e2:((m+1:Nat):Int)*bc cs (m+1)=m*bc cs (m+1)+bc cs (m+1):=by lia
  lia
theorem GP(hp:p<cs.length)(m:Nat):bc (cs.set p v) m<=bc cs m+(if p<m then 1 else 0)+(if p<=m/\0<p then 1 else 0):=by
 induction m with
 |zero=>simp only[bc];split<;>split<;>lia
 |succ m ih=>
  have b:∀(P:Prop) [Decidable P],0 <=(if P then(0:Int)else 1)/\(if P then(0:Int)else 1)<= 1:=λP _=>by lia
  simp only[bc];by_cases q1:m=p
  .lia
  .by_cases q2:m+1=p
   .lia
   .rw[gD v hp,gD v hp,if_neg q1,if_neg q2]
    lia
structure Flt(n:Nat)(sp:Int)(cs:Lq)(c:Nat):Prop where
 len:cs.length=n
 rg:InS sp cs
 vs:∃vs:Lq,vs.length<=c+2/\∀x∈cs,x∈vs
 bs:bc cs (n-1)<= 2*c+1
theorem Flt.more{c:Nat}(h:Flt n sp cs c)(hp:p<n)(hv:0<=v/\v<sp):Flt n sp (cs.set p v) (c+1):=by
 obtain⟨vs,v1,v2⟩:=h.vs;refine⟨by rw[length_set];exact h.len,λx hx=>?_,⟨v::vs,by simp;lia,λx hx=>?_⟩,?_⟩
 .rcases List.mem_or_eq_of_mem_set hx with hx|hx
  .exact h.rg x hx
  .rw[hx];exact hv
 .rcases List.mem_or_eq_of_mem_set hx with hx|hx
  .exact mem_cons_of_mem _ (v2 x hx)
  .rw[hx];exact mem_cons_self
 .have:=GP (v:=v) (by rw[h.len];exact hp) (n-1);have:=h.bs;have b:∀(P:Prop) [Decidable P],(if P then(1:Int)else 0)<= 1:=λP _=>by lia
  lia
theorem Cs.flt(h:Cs n sp cs p a b)(hc:InS sp cs):Flt n sp cs 0:=by
 have hl:=h.len;refine⟨hl,hc,⟨[a,b],by simp,λx hx=>?_⟩,?_⟩
 .obtain⟨i,hi,e⟩:=getElem_of_mem hx;have eg:gt cs i=x:=by rw[<- e];simp[gt,hi]
  rw[<- eg];by_cases q:i<p
  .simp[h.lo i q]
  .simp[h.hi i () ()]
 .have:∀m,m<n->bc cs m<=if p<=m then 1 else 0:=λm=>by
   induction m with
   |zero=>intro _;simp only[bc];split<;>lia
   |succ m ih=>
    intro hm;simp only[bc];by_cases q:m+1=p
    .lia
    .have e:gt cs m=gt cs (m+1):=by
      by_cases q2:m+1<p
      .rw[h.lo m (),h.lo (m+1) q2]
      .rw[h.hi m () (),h.hi (m+1) () hm]
     split at ih<;>split<;>lia
  have pn:=h.pn;have:=this (n-1) ();split at this<;>lia
theorem K8{vs:Lq}{J:Nat}(hs:(cs.length:Int)<= sp)(hc:InS sp cs)(hv:∀c∈cs,c∈vs)(h1:1<=cs.length)(hJ:IsJ sp cs J):J<=vs.length:=by
 rcases hJ with⟨_,rfl⟩ |⟨st,j1,j2,j3,j4⟩
 .lia
 .have nd:((range J).map λs:Nat=>(gt cs 0+s)%sp).Nodup:=by rw[Nodup,pairwise_map];refine Pairwise.imp_of_mem (λ{a b} ha hb hab z=>?_) (nodup_range);have ha':=mem_range.mp ha;have hb':=mem_range.mp hb;exact hab (si z () ())
  have le:=oT (l':=vs) nd λx hx=>by
   obtain⟨s,hs',rfl⟩:=mem_map.mp hx;have hs2:=mem_range.mp hs';by_cases q:s=0
   .subst q;have h0:=hc _ (cS (i:=0) ());rw[show gt cs 0+((0:Nat):Int)=gt cs 0 by lia,emod_eq_of_lt h0.1 h0.2];exact hv _ (cS ())
   .exact hv _ (List.mem_of_mem_drop (j4 s () hs2))
  simpa using le
noncomputable def qP(n:Nat)(c:Nat):Int:=min (3*(n:Int)*(n-1) / 2) (((c:Int)+2)*n+(2*c+1)*(n-1))
theorem Cd(n2:2<=n)(n20:n<=20)(hs:(n:Int)<= sp):Kx (iD .bor n sp) n sp true (fZ sp):=by
 have r:=pW (sp:=sp) () n20 ();obtain⟨J,hJ⟩:∃J:Lq->Nat,∀cs:Lq,cs.length=n->InS sp cs->IsJ sp cs (J cs)/\∀f,Fc f\/f=.own->zE [iD .bor n sp,LR f cs]=.ok (.int (n*(J cs)+bS cs n)):=⟨λcs=>Classical.epsilon λJ=>IsJ sp cs J/\∀f,Fc f\/f=.own->zE [iD .bor n sp,LR f cs]=.ok (.int (n*J+bS cs n)),λcs hn hc=>Classical.epsilon_spec (x_ n2 n20 hs hn hc)⟩
 refine⟨λz=>(nomatch z),⟨λcs=>n*J cs+bS cs n,3*n*((n:Int)-1) / 2,qP n,λf cs hf hn hc=>by simp[aN,(hJ cs hn hc).2 _ (Fc.tb2 hf),aD],by simp[aI,rj n20,aD],λc hc=>⟨?_,by unfold qP;lia⟩,λc0 cs c hn hc h0 h=>?_⟩,tK r (λx=>by simp[aK])⟩
 .have so:z9 [iD .bor n sp,.int c]=.ok (.int (qP n c)):=by refine az ?_;show AK [some (iD .bor n sp),LS c]=_;unfold AK qP;have mo:=rj (sp:=sp) n20;have m1:cK (.int ((c:Int)+2)) (.int (n:Int))=.ok (.int (((c:Int)+2)*n)):=dF (.inr ⟨by lia,by lia⟩);have m2:cK (.int 2) (.int (c:Int))=.ok (.int (2*c)):=dF (.inl ⟨by decide,by decide⟩);have m3:cK (.int (2*(c:Int)+1)) (.int ((n:Int)-1))=.ok (.int ((2*c+1)*(n-1))):=dF (.inr ⟨by lia,by lia⟩);exact a9 (by simp[au,bI,aI,mo,aD,m1,m2,m3,dN]) ()
  simp[aW,so,aD]
 .obtain⟨p,a,b,C⟩:=Jn hn n2 hc h0;have fl:Flt n sp cs c:=by
   induction h with
   |zero=>exact C.flt hc
   |more _ hp h1 h2 ih=>exact ih.more hp ⟨h1,h2⟩
  obtain⟨hJ,_⟩:=hJ cs fl.len fl.rg;obtain⟨vs,v1,v2⟩:=fl.vs;have hl:=fl.len;have j:=K8 () fl.rg v2 () hJ;obtain⟨q,hq⟩:∃q,n=q+1:=⟨n-1,by lia⟩
  have w:=JI (cs:=cs) q;have bb:=fl.bs;obtain⟨_,b1,b2⟩:=D2 (cs:=cs) n;rw[hq]at bb;have m1:(n:Int)*J cs<=n*(c+2):=Int.mul_le_mul_of_nonneg_left () ();have m2:(q:Int)*bc cs q<=q*(2*c+1):=Int.mul_le_mul_of_nonneg_left bb ();have jn:J cs<=n-1:=by rcases hJ with⟨_,e⟩ |⟨_,_,e,_⟩<;>lia
  have m4:(n:Int)*J cs<=n*((n:Int)-1):=Int.mul_le_mul_of_nonneg_left () ();rw[<- hq]at w;unfold qP;rw[Int.mul_comm ((c:Int)+2) n,Int.mul_comm (2*(c:Int)+1) _,show(n:Int)-1=q by lia,Int.mul_assoc 3];rw[show(n:Int)-1=q by lia]at m4 b2;show(n:Int)*J cs+bS cs n<=_
  lia
end
end
section
def Cu(a b:Int):eqD (.int a) (.int b)=(b==a):=rfl
def Ba:∀l:Lq,(iL l).all shp=true
 | []=>rfl
 |a::l=>by simp
def uL:∀l:Lq,(iL l).all smp=true
 | []=>rfl
 |a::l=>by have:=uL l;unfold iL at *;rw[map_cons,all_cons,this];rfl
theorem zk(hl:l.length<=1000)(h:a∈l)(f:Fl):∃j:Nat,fW (LR f l) (.int a)=.ok (.int j)/\l[j]?=some a/\∀i<j,l[i]?≠some a:=by
 have fi:∀l:Lq,(iL l).findIdx? (eqD (.int a))=l.findIdx? (·==a):=λl=>by
  induction l with
  |nil=>rfl
  |cons b l ih=>have e:iL (b::l)=.int b::iL l:=rfl;rw[e,List.findIdx?_cons,List.findIdx?_cons,ih,Cu]
 unfold fW;simp only[Ba,uL,Bool.and_true,and_eq_true];rw[if_pos ⟨rfl,by simp;lia⟩,fi];cases e:l.findIdx? (·==a)with
 |none=>rw[List.findIdx?_eq_none_iff]at e;have:=e a h;simp at this
 |some j=>
  obtain⟨h1,h2,h3⟩:=List.findIdx?_eq_some_iff_getElem.mp e;refine⟨j,rfl,?_,λi hi q=>?_⟩
  .simp_all
  .obtain⟨h4,h5⟩:=List.getElem?_eq_some_iff.mp q;exact h3 i hi (by rw[h5];simp)
section
variable{k n:Nat}{ws:Ln}{pa ms:Lq}{r:Nat}{sp:Int}
theorem Td.net(T:Td k n ws pa ms r sp){q:Nat}(hq:q<n):∃F,dG n q (bw (ws.map mm)) F:=by
 have n7:=T.n7;have rg:∀x∈bw (ws.map mm),0<=x.1/\x.1<n/\0<=x.2/\x.2<n:=λx hx=>by
  obtain⟨w,hw,rfl⟩:=mem_map.mp ((b5 _).mem_iff.mp hx);have:=T.wh.rg w hw;simp only[mm]
  lia
 obtain⟨F,_,Df⟩:=zy hq () rg;exact⟨F,T.n1,by lia,hq,Df,Df.all hq λS h0 hc=>vH T.wh hq S h0 hc,rg⟩
theorem Td.netL(T:Td k n ws pa ms r sp):∃q F,q<n/\dG n q (bw (ws.map mm)) F/\iu n q (bw (ws.map mm)) ms F (ef ms)/\ms≠[]/\fW (LR .frz ms) (.int (ef ms))=.ok (.int (q:Nat)):=by
 have n1:=T.n1;have n7:=T.n7;have O:=T.nm;have hme:ms≠[]:=λz=>by have:=O.ml;rw[z]at this;simp at this;lia
 obtain⟨mx1,mx2⟩:=ke hme;obtain⟨q,px,hj,_⟩:=zk (by have:=O.ml;lia) mx1 .frz;obtain⟨hq0,hq1⟩:=List.getElem?_eq_some_iff.mp hj;have hq:q<n:=by have:=O.ml;lia
 obtain⟨F,N⟩:=T.net hq;have gq:gt ms q=ef ms:=by rw[lh _ _ hq0];exact hq1
 exact ⟨q,F,hq,N,⟨N.n1,N.n10,hq,N.D,N.all,N.rg,O.ml,(O.mr _ mx1).1,(O.mr _ mx1).2,gq,λi hi hir=>by
  have hi':i<ms.length:=by have:=O.ml;lia
  have le:=mx2 ms[i] (getElem_mem hi');have ne:ms[i]≠ ef ms:=λz=>hir ((getElem_inj O.nd).mp (z.trans hq1.symm));rw[lh _ _ hi']
  lia,rfl,O.mr⟩,hme,px⟩
end
inductive Kn(n:Nat)(ps:Ln)(pa ms:Lq)(r:Nat)(sp:Int):Nat->Int->Bool->(Lq->Nat->Int)->Prop
 |pass:Kn n ps pa ms r sp 0 sp true (fZ sp)
 |paint:Kn n ps pa ms r sp 1 n false (lw ps)
 |count:Kn n ps pa ms r sp 2 ((n:Int)+1) false (lx n pa)
 |far:Kn n ps pa ms r sp 3 ((n:Int)+1) false (dW ps (fs n r) n n)
 |lead:Kn n ps pa ms r sp 4 (10*(n:Int)+1) false (dW ps (ls n ms) n (10*n))
 |grow:Kn n ps pa ms r sp 5 (((n:Int)+1)*((n:Int)+1)) false (jv n ps r)
structure KR(O o:PV)(n:Nat)(sp:Int)(al ip:Bool)(D:Lq->Nat->Int):Prop where
 own:O.has Fl.LK=false
 nl:O.LL=true
 lb:(O.LM Fl.LD).LM Fl.LF=o
 bb:O.LM Fl.LH=o
 la0:au 0 (O.LM Fl.LD)=.ok (.int n)
 la8:au 8 (O.LM Fl.LD)=.ok (.bl al)
 r:Rl o n sp al ip D
def isI(x:LC)(j:Nat):Bool:=match x with
 |.ok (.int c)=>c==j
 |_=>false
def FJ{x:LC}(h:isI x j=true):x=.ok (.int j):=by
 unfold isI at h;split at h
 .rw[eq_of_beq h]
 .cases h
def ot3(n:Nat)(ps:Ln)(ms:Lq)(r:Nat):LB:=[lea .own 6 n ps (ls n (ms.map λx=>9-x)) n (10*n),lea .own 5 n ps (fs n r) n n,gro .own n ps r]
theorem FU(N:OkM n ms)(n1:1<=n):OkS (10*(n:Int)) (ls n ms):=λs hs=>by
 simp only[ls,mem_map]at hs;obtain⟨x,hx,e⟩:=hs;have:=N.mr x hx;cases e;have h1:0 <=(9-x)*(n:Int):=Int.mul_nonneg () ();have h2:(9-x)*(n:Int)<= 9*n:=Int.mul_le_mul_of_nonneg_right () ()
 lia
section
variable{k n:Nat}{ws:Ln}{pa ms:Lq}{r:Nat}{sp:Int}
theorem ww(T:Td k n ws pa ms r sp):o8 [net .frz n ps,tdV k n ws pa ms r sp]=.ok (.lst .own (ot3 n ps ms (n-1-r))):=by
 have n1:=T.n1;have n7:=T.n7;have rn:=T.rn;have N:=T.nm;have O:OkM n (ms.map λx=>9 - x):=⟨by simp [N.ml],Pairwise.map _ (λa b h e=>h ()) N.nd,λx hx=>by
  obtain⟨y,hy,rfl⟩:=mem_map.mp hx;have:=N.mr y hy
  lia⟩
 have ld:=o3 (ps:=ps) (.inr rfl) O n1 ();have fi:=nR (ps:=ps) (r:=n-1-r) (.inl rfl) n1 () ();have gi:=rW (ps:=ps) (r:=n-1-r) (.inl rfl) n1 () ();have hc:∀x2,aL [] 1 (bK (mUn (b6 0 4) (aa 1))) (tgN 0) bJ (mOp eM (LP 9) (aa 0)) [some (net .frz n ps),some (tdV k n ws pa ms r sp),x2]=.ok (LQ (ms.map λx=>9-x)):=λx2=>
  aF (by simp[vP]) (by rw[aX,N.ml];lia) (fC (λx=>9-x) ms λx _=>⟨[LS x],by simp[tgN,aH,bF,dB],by simp⟩)
 refine az ?_;show AD [some (net .frz n ps),some (tdV k n ws pa ms r sp),none]=_;unfold AD ot3;refine af (av (v:=.int ((n-1-r:Nat):Int)) (by simp[kF,xp];lia)) ?_;simp;refine a9 ?_ (by simp[PV.has]);simp only[lv,cZ,ul,eT,hc];simp[ld,fi,gi,aD,PV.has]
theorem Br(T:Td k n ws pa ms r sp):∃O o sp' al ip D,rZ [tdV k n ws pa ms r sp]=.ok O/\KR O o n sp' al ip D/\Kn n (bw (ws.map mm)) pa ms r sp k sp' ip D/\Kx o n sp' ip D/\al=decide (3<=k):=by
 have n1:=T.n1;have n7:=T.n7;have k6:=T.k6;have rn:=T.rn;have sn:=T.sn;have Gd:=T.wh.good ();have hin:=Ci (fl:=.own) Gd n1 () (.inl rfl) λS h0 hc=>vH T.wh () S h0 hc;have rg:∀x∈bw (ws.map mm),0<=x.1/\x.1<n/\0<=x.2/\x.2<n/\x.1≠x.2:=λx hx=>by
  obtain⟨w,hw,rfl⟩:=mem_map.mp ((b5 _).mem_iff.mp hx);have:=Gd.rg w hw;simp only[mm]
  lia
 have hl:∀i,(nbL (bw (ws.map mm)) i).length<=1000:=λi=>by
  unfold nbL;rw[(d9 _).length_eq,length_append,length_map,length_map];have h1:=length_filter_le (λx:Int×Int=>decide (x.2=(i:Int))) (bw (ws.map mm));have h2:=length_filter_le (λx:Int×Int=>decide (x.1=(i:Int))) (bw (ws.map mm));have h3:(bw (ws.map mm)).length<64:=by rw[(b5 _).length_eq,length_map];exact Gd.sz
  lia
 obtain⟨F,NF⟩:=T.net rn;obtain⟨q',F',_,_,NL,_⟩:=T.netL;generalize bw (ws.map mm)=ps at *;have hnb:∀i:Nat,∀x∈nbL ps i,0<=x/\x<n:=λi x hx=>by
  rcases gx.mp hx with q|q
  .have:=rg _ q;lia
  .have:=rg _ q;lia
 have np:(0:Int)<n:=by lia
 have run:∀O,sH [some (tdV k n ws pa ms r sp),none,none,none,none]=.ret O->rZ [tdV k n ws pa ms r sp]=.ok O:=λO h=>az h;have e0:pEq (.str (kiS k)) (.str "pass")=.ok (.bl (decide (k=0))):=by
  have:k=0\/k=1\/k=2\/k=3\/k=4\/k=5:=by lia
  rcases this with rfl|rfl|rfl|rfl|rfl|rfl<;>exact ee (by decide +kernel)
 have e2:pEq (.str (kiS k)) (.str "count")=.ok (.bl (decide (k=2))):=by
  have:k=0\/k=1\/k=2\/k=3\/k=4\/k=5:=by lia
  rcases this with rfl|rfl|rfl|rfl|rfl|rfl<;>exact ee (by decide +kernel)
 have s1:=av (i:=1) (m:=mUn (b6 0 0) (aa 0)) (env:=[some (tdV k n ws pa ms r sp),none,none,none,none]) (v:=.str (kiS k)) (by simp[Fl.LD,jt]) (by simp[PV.LL,PV.has]) rfl;simp only[s0_,s1_]at s1;by_cases k0:k=0
 .have n2:=T.p2 k0;have pi:=yb (size:=(n:Int)) (span:=sp) () () ();rw[decide_eq_true k0]at e0;refine⟨iD .own n sp,iD .bor n sp,_,_,_,_,run _ ?_,⟨by simp[PV.has],by simp[PV.LL,PV.has],by simp[Fl.LD,Fl.LF],by simp[Fl.LH],by simp[au,bI],by simp[au,bI],pW () () ()⟩,by subst k0;exact .pass,Cd n2 () sn,by simp[k0]⟩;unfold sH;exact af s1 (dy (gh (by simp[e0,PV.LM]) (a9 (by simp[Fl.LD,kF,Ea,pi,aD,PV.has]) (by simp[PV.LL,PV.has]))))
 rw[decide_eq_false k0]at e0;by_cases k2:k=2
 .rw[decide_eq_true k2]at e2;have pl:=T.pl;have hci:=As (f:=.own) T.tr () (.inl rfl);have rc:=qY (ps:=pa) ();have kc:=zb T.tr ();rw[show pa.length+1=n by lia]at rc kc;refine⟨cnt .own pa,cnt .bor pa,_,_,_,_,run _ ?_,⟨by simp[PV.has],by simp[PV.LL,PV.has],by simp[Fl.LD,Fl.LF],by simp[Fl.LH],by simp[au,bI];lia,by simp[au,bI],rc⟩,by subst k2;rw[show(pa.length:Int)+2=n+1 by lia];exact .count,kc,by simp[k2]⟩;unfold sH;exact af s1 (af (b8 (by simp[e0,PV.LM]) aE) (dy (gh (by simp[e2,PV.LM]) (a9 (by simp[Fl.LD,HH,p1,da,a_,hci,aD,PV.has]) (by simp[PV.LL,PV.has])))))
 rw[decide_eq_false k2]at e2;have oth:=ww (ps:=ps) T;have N:=T.nm;have pi:=wj (n:=n) (ps:=ps);have fi:=nR (f:=.frz) (ps:=ps) (r:=r) (.inl rfl) n1 () rn;have li:=o3 (ps:=ps) (fm:=.own) (.inr rfl) N n1 ();have gi:=rW (f:=.frz) (ps:=ps) (r:=r) (.inl rfl) n1 () rn;have ohas:∀p:Fl->Bool,p .own=false->p .frz=false->hasL p (ot3 n ps ms (n-1-r))=false:=λp h1 h2=>by simp[ot3,PV.has,h1,h2]
 have ob:=ohas Fl.LK rfl rfl;have ol:=ohas Fl.LJ rfl rfl;obtain⟨F3,hF3⟩:∃F3,F3=mapL Fl.LG (ot3 n ps ms (n-1-r)):=⟨_,rfl⟩
 have F3l:F3.length=3:=by rw[hF3];simp[ot3]
 have F3m:∀g:Fl->Fl,g .frz=.frz->mapL g F3=F3:=λg hg=>by rw[hF3];simp[ot3,hg,Fl.LG]
 have F3h:hasL Fl.LJ F3=false:=by rw[hF3];simp[ot3,PV.has,Fl.LG]
 have so:∀x3 x4,aG 3 (aq (aM o8) (ae (aa 2) (ae (aa 0) am))) [some (tdV k n ws pa ms r sp),some (.str (kiS k)),some (net .frz n ps),x3,x4]=.next [some (tdV k n ws pa ms r sp),some (.str (kiS k)),some (net .frz n ps),some (.lst .own (ot3 n ps ms (n-1-r))),x4]:=λx3 x4=>av (v:=.lst .own (ot3 n ps ms (n-1-r))) (by simp[Fl.LD,Fl.LF,oth,aD,PV.has,ob]) (by simp[PV.LL,PV.has,ol]) rfl;obtain⟨R3,hR3,R3f⟩:∃R3:LB,mBr (aA (mOp pEq (mOp dM (mOp aB (mUn (b6 0 4) (aa 0)) (LP 0)) (LP 2)) (LP 1))) (aG 3 (aq (aM o8) (ae (aa 2) (ae (aa 0) am)))) ba [some (tdV k n ws pa ms r sp),some (.str (kiS k)),some (net .frz n ps),some (.lst .own []),none]=.next [some (tdV k n ws pa ms r sp),some (.str (kiS k)),some (net .frz n ps),some (.lst .own R3),none]/\(mapL Fl.LG R3=F3\/mapL Fl.LG R3=[]):=by
  have g0:aB (LR .frz ms) (.int 0)=.ok (.int (gt ms 0)):=bX () (by have:=N.ml;lia);by_cases q:gt ms 0%2=1
  .exact⟨ot3 n ps ms (n-1-r),gh (by simp[vP,g0,bR,q]) (so _ _),.inl hF3.symm⟩
  .exact⟨[],b8 (by simp[vP,g0,bR,q]) aE,.inr rfl⟩
 have Q3:(mapL Fl.LG R3).length<=3/\(∀g:Fl->Fl,g .frz=.frz->mapL g (mapL Fl.LG R3)=mapL Fl.LG R3)/\hasL Fl.LJ (mapL Fl.LG R3)=false:=by
  rcases R3f with e|e<;>rw[e]
  .exact⟨by lia,F3m,F3h⟩
  .exact⟨by simp,λg _=>by simp,by simp⟩
 clear R3f;obtain⟨q1,q2,q3⟩:=Q3;generalize hE3:mapL Fl.LG R3=E3 at q1 q2 q3;have q2l:=q2 Fl.LD rfl;have q2f:=q2 Fl.LG rfl;have f3l:=F3m Fl.LD rfl;have key:∀(j:Nat) (v:PV),(∀x3 x4,kg fW (fv (ae (mC (.str "paint")) (ae (mC (.str "far")) (ae (mC (.str "lead")) (ae (mC (.str "grow")) am))))) (aa 1) [some (tdV k n ws pa ms r sp),some (.str (kiS k)),some (net .frz n ps),x3,x4]=.ok (.int (j:Int)))->[pnt .frz n ps,lea .frz 5 n ps (fs n r) n n,lea .frz 6 n ps (ls n ms) n (10*n),gro .frz n ps r][j]?=some v->v.has Fl.LI=false->v.LL=true->rZ [tdV k n ws pa ms r sp]=.ok v:=λj v hj hv h1 h2=>by
  refine run v ?_;unfold sH;refine af s1 (af (b8 (by simp[e0,PV.LM]) aE) (af (b8 (by simp[e2,PV.LM]) aE) (af (av (v:=net .own n ps) (by simp[kF,AZ,p1,da,a_,hin,aD,PV.has]) (by simp[PV.LL,PV.has]) rfl) (af (dw (v:=net .own n ps) rfl) ?_))));have efn:(net .own n ps).LM Fl.LG=net .frz n ps:=by simp[Fl.LG]
  simp only[s0_,s1_,efn];refine af (av (v:=.lst .own []) ()) (af hR3 ?_);refine af (av (v:=.lst .own [pnt .own n ps,lea .own 5 n ps (fs n r) n n]) ?_ (by simp[PV.LL,PV.has]) rfl) ?_
  .simp only[lv,cZ,ul,eT];simp[Fl.LD,Fl.LF,xp,pi,fi,aD,PV.has]
  simp only[s0_,s1_];refine af (dw (v:=.lst .own [pnt .own n ps,lea .own 5 n ps (fs n r) n n]) rfl) (af (dw (v:=.lst .own R3) rfl) ?_);have ef4:(PV.lst .own [pnt .own n ps,lea .own 5 n ps (fs n r) n n]).LM Fl.LG=.lst .frz [pnt .frz n ps,lea .frz 5 n ps (fs n r) n n]:=by simp[Fl.LG]
  have ef3:∀R:LB,(PV.lst .own R).LM Fl.LG=.lst .frz (mapL Fl.LG R):=λR=>by simp[PV.LM,Fl.LG]
  simp only[s0_,s1_,ef4,ef3,hE3];refine af (av (v:=.lst .own (pnt .frz n ps::lea .frz 5 n ps (fs n r) n n::lea .own 6 n ps (ls n ms) n (10*n)::gro .own n ps r::E3)) ?_ (by simp[PV.LL,PV.has,q3]) rfl) ?_
  .simp only[jD,lv,cZ,ul,eT,gU,getElem?_cons_zero,getElem?_cons_succ];simp[Fl.LD,Fl.LF,xp,vP,p1,da,a_,li,gi,aD,PV.has,PV.LM,q2l];rw[dY () () ()];simp only[Res.LO];rw[dY () () (by simp;lia)];rfl
  simp only[s0_,s1_];refine af (dw rfl) ?_;have ef5:mapL Fl.LG (pnt .frz n ps::lea .frz 5 n ps (fs n r) n n::lea .own 6 n ps (ls n ms) n (10*n)::gro .own n ps r::E3)=pnt .frz n ps::lea .frz 5 n ps (fs n r) n n::lea .frz 6 n ps (ls n ms) n (10*n)::gro .frz n ps r::E3:=by simp[Fl.LG,q2f]
  simp only[s0_,s1_,ef3,ef5];refine af (so _ _) (af (dw (v:=.lst .own (ot3 n ps ms (n-1-r))) rfl) ?_);simp only[s0_,s1_,ef3,<- hF3];refine a9 ?_ h2;simp only[jD,hj];simp[Fl.LD,PV.LM,q2l,f3l];rw[dY () () (by simp;lia)];simp only[Res.LO];refine eA (k:=j) rfl ?_ h1;have j4:j<4:=(List.getElem?_eq_some_iff.mp hv).1;rw[<- hv];have:j=0\/j=1\/j=2\/j=3:=by lia
  rcases this with rfl|rfl|rfl|rfl<;>rfl
 have ix:∀(j:Nat),isI (kg fW (fv (ae (mC (.str "paint")) (ae (mC (.str "far")) (ae (mC (.str "lead")) (ae (mC (.str "grow")) am))))) (mC (.str (kiS k))) []) j=true->∀x3 x4,kg fW (fv (ae (mC (.str "paint")) (ae (mC (.str "far")) (ae (mC (.str "lead")) (ae (mC (.str "grow")) am))))) (aa 1) [some (tdV k n ws pa ms r sp),some (.str (kiS k)),some (net .frz n ps),x3,x4]=.ok (.int (j:Int)):=λj hj x3 x4=>FJ hj;have:k=1\/k=3\/k=4\/k=5:=by lia
 rcases this with rfl|rfl|rfl|rfl
 .exact⟨pnt .frz n ps,pnt .frz n ps,_,_,_,_,key 0 _ (ix 0 (by decide +kernel)) rfl (by simp[PV.has,Fl.LI]) (by simp[PV.LL,PV.has]),⟨by simp[PV.has],by simp[PV.LL,PV.has],by simp,by simp,by simp[au,bI],by simp[au,bI],qX n1 () rg hl⟩,.paint,za n1 (Nat.le_trans n7 ()) rg hl,rfl⟩
 .have R:=mP (cc:=5) (ps:=ps) (.inl rfl) n1 () np () (ui (r:=r) n1) (by simp[fs]) hnb hl;exact⟨lea .frz 5 n ps (fs n r) n n,lea .frz 5 n ps (fs n r) n n,_,_,_,_,key 1 _ (ix 1 (by decide +kernel)) rfl (by simp[PV.has,Fl.LI]) (by simp[PV.LL,PV.has]),⟨by simp[PV.has],by simp[PV.LL,PV.has],by simp,by simp,by simp[au,bI],by simp[au,bI],R⟩,.far,rR (T:=n) (.inl rfl) (Nat.le_trans n7 ()) (Nat.le_trans n7 ()) R (λcs hn hc=>(Cc NF R).conv hn hc),rfl⟩
 .have R:=mP (cc:=6) (ps:=ps) (.inr rfl) n1 () np () (FU N n1) (by simp[ls,N.ml]) hnb hl;have kx:Kx (lea .frz 6 n ps (ls n ms) n (10*n)) n (10*(n:Int)+1) false (dW ps (ls n ms) n (10*n)):=by
   have e:((10*n:Nat):Int)=10*(n:Int):=by lia
   have:=rR (n:=n) (T:=10*n) (ps:=ps) (os:=ls n ms) (st:=n) (.inr rfl) () ();rw[e]at this;exact this R λcs hn hc=>(y3 NL R).conv hn hc
  exact⟨lea .frz 6 n ps (ls n ms) n (10*n),lea .frz 6 n ps (ls n ms) n (10*n),_,_,_,_,key 2 _ (ix 2 (by decide +kernel)) rfl (by simp[PV.has,Fl.LI]) (by simp[PV.LL,PV.has]),⟨by simp[PV.has],by simp[PV.LL,PV.has],by simp,by simp,by simp[au,bI],by simp[au,bI],R⟩,.lead,kx,rfl⟩
 .exact⟨gro .frz n ps r,gro .frz n ps r,_,_,_,_,key 3 _ (ix 3 (by decide +kernel)) rfl (by simp[PV.has,Fl.LI]) (by simp[PV.LL,PV.has]),⟨by simp[PV.has],by simp[PV.LL,PV.has],by simp,by simp,by simp[au,bI],by simp[au,bI],uP n1 () hnb λi=>hl i⟩,.grow,Ce NF (uP n1 (Nat.le_trans n7 ()) hnb λi=>hl i) hnb hl,rfl⟩
end
theorem uu{ws:Ln}{i j:Nat}:gj (bw (ws.map mm)) i j ↔((i:Int),(j:Int))∈ ws \/((j:Int),(i:Int))∈ ws:=by
 have key:∀a b:Int,(a,b)∈ bw (ws.map mm)->(a,b)∈ ws \/(b,a)∈ ws:=λa b h=>by
  obtain⟨⟨x,y⟩,hw,e⟩:=mem_map.mp ((b5 _).mem_iff.mp h);simp only[mm,Prod.mk.injEq]at e;by_cases q:x<=y
  .lia
  .lia
 have back:∀a b:Int,(a,b)∈ ws->(a,b)∈ bw (ws.map mm)\/(b,a)∈ bw (ws.map mm):=λa b h=>by
  have hm:mm (a,b)∈ bw (ws.map mm):=(b5 _).mem_iff.mpr (List.mem_map_of_mem h);by_cases q:a<=b
  .rw[show mm (a,b)=(a,b) by simp only[mm,Int.min_eq_left q,Int.max_eq_right q]]at hm;exact .inl hm
  .rw[show mm (a,b)=(b,a) by simp only[mm,Int.min_eq_right (show b<=a by lia),Int.max_eq_left (show b<=a by lia)]]at hm;exact .inr hm
 constructor
 .rintro(h|h)
  .exact key _ _ h
  .exact(key _ _ h).symm
 .rintro(h|h)
  .exact back _ _ h
  .exact(back _ _ h).symm
def rlx(F:Lq)(w:Int×Int):Lq:=
 (F.set w.1.toNat (min (gt F w.1.toNat) (gt F w.2.toNat+1))).set w.2.toNat (min (gt F w.2.toNat) (min (gt F w.1.toNat) (gt F w.2.toNat+1)+1))
theorem Ey{F:Lq}{n:Nat}{w:Int×Int}(hn:F.length=n)(h:0<=w.1/\w.1<n/\0<=w.2/\w.2<n/\w.1≠w.2)(i:Nat):gt (rlx F w) i=if i=w.2.toNat then min (gt F w.2.toNat) (min (gt F w.1.toNat) (gt F w.2.toNat+1)+1)else if i=w.1.toNat then min (gt F w.1.toNat) (gt F w.2.toNat+1)else gt F i:=by unfold rlx;rw[gD _ (by simp;lia),gD _ ()]
section
variable{k n:Nat}{ws:Ln}{pa ms:Lq}{r:Nat}{sp:Int}{q:Nat}{F0:Lq}
structure Fi(n:Nat)(F0:Lq)(t:Int)(F:Lq):Prop where
 len:F.length=n
 lo:∀i<n,gt F0 i<=gt F i
 eq:∀i<n,gt F0 i<=t->gt F i=gt F0 i
theorem Fi.step{t:Int}{F:Lq}{w:Int×Int}(I:Fi n F0 t F)(h:0<=w.1/\w.1<n/\0<=w.2/\w.2<n/\w.1≠w.2)(h1:gt F0 w.1.toNat<=gt F0 w.2.toNat+1)(h2:gt F0 w.2.toNat<=gt F0 w.1.toNat+1) :
  Fi n F0 t (rlx F w)/\(∀i<n,gt (rlx F w) i<=gt F i)/\(gt F0 w.1.toNat<=t->gt F0 w.2.toNat=gt F0 w.1.toNat+1->gt (rlx F w) w.2.toNat=gt F0 w.2.toNat)/\(gt F0 w.2.toNat<=t->gt F0 w.1.toNat=gt F0 w.2.toNat+1->gt (rlx F w) w.1.toNat=gt F0 w.1.toNat):=by
 have g:=Ey I.len h;have la:=I.lo w.1.toNat ();have lb:=I.lo w.2.toNat ();have ea:=I.eq w.1.toNat ();have eb:=I.eq w.2.toNat ();have ne:w.1.toNat≠w.2.toNat:=by lia
 have lo:∀i<n,gt F0 i<=gt (rlx F w) i:=λi hi=>by
  rw[g];have:=I.lo i hi;split
  .subst_vars;lia
  .lia
 have le:∀i<n,gt (rlx F w) i<=gt F i:=λi hi=>by
  rw[g];split
  .subst_vars;lia
  .lia
 refine⟨⟨by simp[rlx,I.len],lo,λi hi ht=>?_⟩,le,λa b=>?_,λa b=>?_⟩
 .have:=lo i hi;have:=le i hi;have:=I.eq i hi ht
  lia
 .have:=lo w.2.toNat ();rw[g,if_pos rfl]at this ⊢
  lia
 .have:=lo w.1.toNat ();rw[g,if_neg ne,if_pos rfl]at this ⊢
  lia
theorem qb(T:Td k n ws pa ms r sp)(hq:q<n)(D:ow n q (gj (bw (ws.map mm))) F0)(all:∀i<n,gt F0 i<n):rY [tdV k n ws pa ms r sp,.int q]=.ok (LQ F0):=by
 have n7:=T.n7;have W:=T.wh;refine az ?_;show Ds [some (tdV k n ws pa ms r sp),LS q,none,none,none]=_;refine af (av (v:=LQ ((range n).map λ_=>(n:Int))) ?_) ?_
 .exact aF (bp (by simp[kF]) ()) (by rw[aQ];lia) (eG 0 (λ_:Nat=>(n:Int)) n λj hj=>⟨[some (tdV k n ws pa ms r sp),LS (0+j)],by simp[tgN,aH,bF,sU Fl.LH rfl],by simp[kF]⟩)
 have s0:=fI (env:=[some (tdV k n ws pa ms r sp),LS q,LU ((range n).map λ_=>(n:Int)),none,none]) (i:=2) (m:=LP 0) (mk:=aa 1) rfl rfl rfl (by exact gd (by simpa using hq)) rfl;refine af s0 ?_;simp;have I0:Fi n F0 0 (((range n).map λ_=>(n:Int)).set q 0):=by
  have g:∀i<n,gt (((range n).map λ_=>(n:Int)).set q 0) i=if i=q then 0 else n:=λi hi=>by
   rw[gD _ (by simpa using hq)];split
   .rfl
   .simp[gt,hi]
  refine⟨by simp,λi hi=>?_,λi hi h0=>?_⟩
  .rw[g i hi];have:=all i hi;split
   .subst_vars;have:=D.rt;lia
   .lia
  .rw[g i hi];split
   .subst_vars;exact D.rt.symm
   .rename_i z
    have:=(D.dn i hi z (all i hi)).1
    lia
 generalize((range n).map λ_=>(n:Int)).set q 0=F at I0;refine f9 (λt e=>∃F x3 x4,e=[some (tdV k n ws pa ms r sp),LS q,LU F,x3,x4]/\Fi n F0 t F) (bp (n:=n) (by simp[kF]) ()) ⟨F,none,none,rfl,I0⟩ (λt x e hx hP=>?_) (λe hP=>?_)
 .obtain⟨F,x3,x4,rfl,I⟩:=hP;refine⟨_,cE rfl,?_⟩;refine im (λj e=>∃F x4,e=[some (tdV k n ws pa ms r sp),LS q,LU F,some x,x4]/\Fi n F0 t F/\∀w∈ws.take j,(gt F0 w.1.toNat<=t->gt F0 w.2.toNat=gt F0 w.1.toNat+1->gt F w.2.toNat=gt F0 w.2.toNat)/\(gt F0 w.2.toNat<=t->gt F0 w.1.toNat=gt F0 w.2.toNat+1->gt F w.1.toNat=gt F0 w.1.toNat)) (xs:=prL ws) (fJ (f:=.frz) (by simp[AZ]) rfl () ()) ⟨F,x4,rfl,I,λw hw=>by simp at hw⟩ (λj y e hy hP=>?_) (λe hP=>?_)
  .obtain⟨F,x4,rfl,I,hd⟩:=hP;rw[prL_get]at hy;obtain⟨w,hw,rfl⟩:=map_eq_some_iff.mp hy;have wr:=W.rg w (List.mem_of_getElem? hw);have ad:gj (bw (ws.map mm)) w.1.toNat w.2.toNat:=uu.mpr (.inl (by rw[toNat_of_nonneg wr.1,toNat_of_nonneg wr.2.2.1];exact List.mem_of_getElem? hw));have u1:=D.up _ () _ () ad;have u2:=D.up _ () _ () (Or.symm ad);obtain⟨J,le,a1,a2⟩:=I.step wr u2 u1;have ln:=I.len;have p0:aB (prV w) (.int 0)=.ok (.int w.1):=rfl;have p1':aB (prV w) (.int 1)=.ok (.int w.2):=rfl;have g1:∀(G:Lq),G.length=n->aB (LR .lnt G) (.int w.1)=.ok (.int (gt G w.1.toNat)):=λG hG=>bX () ();have g2:∀(G:Lq),G.length=n->aB (LR .lnt G) (.int w.2)=.ok (.int (gt G w.2.toNat)):=λG hG=>bX () ();have i1:∀(G:Lq),G.length=n->ixN (iL G).length w.1=some w.1.toNat:=λG hG=>by
    have:=gd (n:=(iL G).length) (k:=w.1.toNat) (by rw[aX];lia)
    rwa [show((w.1.toNat:Nat):Int)=w.1 by lia]at this
   have i2:∀(G:Lq),G.length=n->ixN (iL G).length w.2=some w.2.toNat:=λG hG=>by
    have:=gd (n:=(iL G).length) (k:=w.2.toNat) (by rw[aX];lia)
    rwa [show((w.2.toNat:Nat):Int)=w.2 by lia]at this
   refine⟨_,cE rfl,?_⟩;have F1l:(F.set w.1.toNat (min (gt F w.1.toNat) (gt F w.2.toNat+1))).length=n:=by simpa using ln
   have F1a:gt (F.set w.1.toNat (min (gt F w.1.toNat) (gt F w.2.toNat+1))) w.1.toNat=min (gt F w.1.toNat) (gt F w.2.toNat+1):=by rw[gD _ (),if_pos rfl]
   have F1b:gt (F.set w.1.toNat (min (gt F w.1.toNat) (gt F w.2.toNat+1))) w.2.toNat=gt F w.2.toNat:=by rw[gD _ (),if_neg ()]
   have e1:=fI (env:=[some (tdV k n ws pa ms r sp),LS q,LU F,some x,some (prV w)]) (i:=2) (m:=aq (dN min) (ae (mOp aB (aa 2) (mOp aB (aa 4) (LP 0))) (ae (mOp aO (mOp aB (aa 2) (mOp aB (aa 4) (LP 1))) (LP 1)) am))) (mk:=mOp aB (aa 4) (LP 0)) (v:=.int (min (gt F w.1.toNat) (gt F w.2.toNat+1))) (by simp[p0,g1 F ln,g2 F ln,dN]) rfl () (i1 F ln) rfl;refine bP e1 ?_;simp only[s1_,km];have e2:=fI (env:=[some (tdV k n ws pa ms r sp),LS q,LU (F.set w.1.toNat (min (gt F w.1.toNat) (gt F w.2.toNat+1))),some x,some (prV w)]) (i:=2) (m:=aq (dN min) (ae (mOp aB (aa 2) (mOp aB (aa 4) (LP 1))) (ae (mOp aO (mOp aB (aa 2) (mOp aB (aa 4) (LP 0))) (LP 1)) am))) (mk:=mOp aB (aa 4) (LP 1)) (v:=.int (min (gt F w.2.toNat) (min (gt F w.1.toNat) (gt F w.2.toNat+1)+1))) (by simp[p0,g1 _ F1l,g2 _ F1l,F1a,F1b,dN]) rfl () (i2 _ F1l) rfl;refine bC e2 ⟨rlx F w,some (prV w),?_,J,λv hv=>?_⟩
   .simp only[s1_,km];rfl
   .rw[take_add_one,hw]at hv;simp at hv;rcases hv with hv|rfl
    .obtain⟨d1,d2⟩:=hd v hv;have vr:=W.rg v (mem_of_mem_take hv);refine⟨λa b=>?_,λa b=>?_⟩
     .have:=J.lo v.2.toNat ();have:=le v.2.toNat ()
      lia
     .have:=J.lo v.1.toNat ();have:=le v.1.toNat ()
      lia
    .exact⟨a1,a2⟩
  .obtain⟨F,x4,rfl,I,hd⟩:=hP;refine⟨F,_,_,rfl,I.len,I.lo,λi hi ht=>?_⟩;by_cases z:gt F0 i<=t
   .exact I.eq i hi z
   .have zi:i≠q:=λe=>by subst e;have:=D.rt;lia
    obtain⟨h1,j,hj,ad,ej⟩:=D.dn i hi zi (all i hi);rw[show(prL ws).length=ws.length by simp,take_length]at hd;rcases uu.mp ad with hw|hw
    .have:=(hd _ hw).2;simp at this;exact this () ()
    .have:=(hd _ hw).1;simp at this;exact this () ()
 .obtain⟨F,x3,x4,rfl,I⟩:=hP;rw[aQ]at I;have e:F=F0:=ext_getElem (by rw[I.len,D.len]) λi h1 h2=>by
   have hi:i<n:=by rw[<- I.len];exact h1
   have:=I.eq i hi (by have:=all i hi;lia);simpa[gt,h1,h2]using this
  rw[e];exact d_ rfl
end
theorem ze(h:0<n):ixN n (-1)=some (n-1):=by
 unfold ixN;rw[if_neg (),if_pos ()];congr 1
 lia
section
variable{k n:Nat}{ws:Ln}{pa ms:Lq}{r:Nat}{sp:Int}
theorem wb(T:Td 2 n ws pa ms r sp):∃hs:Lq,jB [tdV 2 n ws pa ms r sp]=.ok (LQ hs)/\n0 pa hs:=by
 have pl:=T.pl;have n7:=T.n7
 suffices hh:jw (sI [some (tdV 2 n ws pa ms r sp),none,none,none,none,none,none]) (λv=>∃hs:Lq,v=LQ hs/\n0 pa hs) by obtain⟨v,h1,hs,rfl,h2⟩:=hh;exact⟨hs,az h1,h2⟩
 refine cw (av (v:=.int n) (by simp[kF])) ?_;have e1:pEq (.str (kiS 2)) (.str "far")=.ok (.bl false):=ee (by decide +kernel);have e2:pEq (.str (kiS 2)) (.str "lead")=.ok (.bl false):=ee (by decide +kernel);have e3:pEq (.str (kiS 2)) (.str "grow")=.ok (.bl false):=ee (by decide +kernel);refine cw (b8 (by simp[jt,e1]) aE) ?_;refine cw (b8 (by simp[jt,e2]) aE) ?_;refine cw (b8 (by simp[jt,e3]) aE) ?_;refine cw (av (v:=LQ ((range (pa.length+1)).map λ_=>(1:Int))) ?_) ?_
 .exact aF (bp (by simp;lia) ()) (by rw[aQ];lia) (eG 0 (λ_:Nat=>(1:Int)) (pa.length+1) λk hk=>⟨[LS (0+k)],by simp[tgN,aH,bF,dB],by simp⟩)
 have rn:n9 (pa.length:Int) 0 (-1)=pa.length:=by
  unfold n9 Builtin.Range.rangeSize;simp
  lia
 refine hZ (λk e=>k<=pa.length/\∃hs x5 x6,e=[some (tdV 2 n ws pa ms r sp),LS n,none,none,LU hs,x5,x6]/\kD pa hs (pa.length-k)) (xs:=jJ pa.length (-1) pa.length) ?_ ⟨by lia,_,_,_,rfl,kD.first⟩ (λk x e hx hP=>?_) (λe hP=>?_)
 .unfold oW;simp[inM];rw[show(n:Int)-1=pa.length by lia,rn];simp
  lia
 .obtain⟨hk,hs,x5,x6,rfl,H⟩:=hP;have hlt:k<pa.length:=by have:=(List.getElem?_eq_some_iff.mp hx).1;simpa[jJ]using this
  have ex:x=.int ((pa.length:Int)-k):=by simp[jJ,hlt]at hx;rw[<- hx,Int.sub_eq_add_neg]
  subst ex;obtain⟨j,hj⟩:∃j:Nat,pa.length-k=j+1:=⟨pa.length-k-1,by lia⟩
  rw[hj]at H;have hj2:j<pa.length:=by lia
  have T2:=T.tr j hj2;have ln:=H.len;have S:=H.step T.tr hj2;have i1:aB (LR .frz pa) (.int ((pa.length:Int)-k-1))=.ok (.int pa[j]):=by rw[bX () ()];rw[show((pa.length:Int)-k-1).toNat=j by lia,lh _ _ hj2]
  have i2:aB (LR .lnt hs) (.int pa[j])=.ok (.int (gt hs pa[j].toNat)):=bX () ();have i3:aB (LR .lnt hs) (.int ((pa.length:Int)-k))=.ok (.int (gt hs (j+1))):=by
   rw[bX () ()];congr 3
   lia
  refine⟨_,cE rfl,?_⟩;refine bP (av (v:=.int pa[j]) (by simp[HH,i1])) ?_;have ix:ixN (iL hs).length pa[j]=some pa[j].toNat:=by
   have:=gd (n:=(iL hs).length) (k:=pa[j].toNat) (by rw[aX];lia)
   rwa [show((pa[j].toNat:Nat):Int)=pa[j] by lia]at this
  refine bC (fI (v:=.int (gt hs pa[j].toNat+gt hs (j+1))) (by simp[i2,i3]) rfl () ix ()) ⟨by lia,hs.set pa[j].toNat (gt hs pa[j].toNat+gt hs (j+1)),LS ((pa.length:Int)-k),some (.int pa[j]),?_,?_⟩
  .simp
  .rw[show pa.length-(k+1)=j by lia];exact S
 .obtain⟨_,hs,x5,x6,rfl,H⟩:=hP;have:pa.length-(jJ (pa.length:Int) (-1) pa.length).length=0:=by simp[jJ]
  rw[this]at H;exact eE (d_ rfl) ⟨hs,rfl,H.last⟩
def nt(h:caR n false D cs=true):∀i,i<n->D cs i=gt cs i:=λi hi=>by
 have e:mvR n D cs=[]:=by simpa[caR]using h
 by_cases q:D cs i=gt cs i
 .exact q
 .have:(i:Int)∈ mvR n D cs:=mem_map.mpr ⟨i,mem_filter.mpr ⟨mem_range.mpr hi,by simpa using q⟩,rfl⟩;rw[e]at this;cases this
def iE(hr:jB [tdV k n ws pa ms r sp]=.ok (LQ hs))(e:cs=hs):jB [tdV k n ws pa ms r sp]=.ok (LQ cs):=e▸hr
theorem HY(T:Td 2 n ws pa ms r sp)(hn:cs.length=n)(h:caR n false (lx n pa) cs=true):jB [tdV 2 n ws pa ms r sp]=.ok (LQ cs):=by
 obtain⟨hs,h1,P⟩:=wb T;have pl:=T.pl;refine iE h1 (P.calm T.tr () λi hi=>?_);have:=nt h i ()
 rwa [<- pl]at this
theorem HX(T:Td 3 n ws pa ms r sp)(hn:cs.length=n)(hc:InS ((n:Int)+1) cs)(h:caR n false (dW (bw (ws.map mm)) (fs n r) n n) cs=true):jB [tdV 3 n ws pa ms r sp]=.ok (LQ cs):=by obtain⟨F,N⟩:=T.net T.rn;have lf:=qb T T.rn N.D N.all;have e1:pEq (.str (kiS 3)) (.str "far")=.ok (.bl true):=ee (by decide +kernel);refine iE (az ?_) (N.calm (λc h=>by have:=hc c h;lia) hn λi hi=>nt h i ());show sI [some (tdV 3 n ws pa ms r sp),none,none,none,none,none,none]=_;refine af (av (v:=.int n) (by simp[kF])) ?_;exact dy (gh (by simp[jt,e1]) (a9 (by simp[xp,lf,aD])))
theorem HW(T:Td 4 n ws pa ms r sp)(hn:cs.length=n)(h:caR n false (dW (bw (ws.map mm)) (ls n ms) n (10*n)) cs=true):jB [tdV 4 n ws pa ms r sp]=.ok (LQ cs):=by
 have n7:=T.n7;have O:=T.nm;obtain⟨q,F,hq,N,L,hme,px⟩:=T.netL;have lf:=qb T hq N.D N.all;have e1:pEq (.str (kiS 4)) (.str "far")=.ok (.bl false):=ee (by decide +kernel);have e2:pEq (.str (kiS 4)) (.str "lead")=.ok (.bl true):=ee (by decide +kernel);have TE:TT n (ef ms) F=(range n).map λi=>(9-ef ms)*n+gt F i:=by
  refine ext_getElem (by simp[N.D.len]) λi h1 h2=>?_;have hi:i<F.length:=by simp_all
  have:=D3 (n:=n) (M:=ef ms) hi;rw[lh _ _ h1]at this;rw[this];simp[Q]
  lia
 refine iE (az ?_) (L.calm hn λi hi=>by have:=nt h i ();rwa [Int.mul_comm]at this);show sI [some (tdV 4 n ws pa ms r sp),none,none,none,none,none,none]=_;have pm:eF ef (LR .frz ms)=.ok (.int (ef ms)):=by unfold eF;simp only[a_,ik];rw[if_neg (by simpa using hme)]
 refine af (av (v:=.int n) (by simp[kF])) ?_;refine af (b8 (by simp[jt,e1]) aE) (dy (gh (by simp[jt,e2]) ?_));refine af (av (v:=.int (ef ms)) (by simp[vP,p1,pm])) ?_;refine af (av (v:=LQ F) (by simp[kg,vP,px,lf,aD])) ?_;refine a9 ?_ ();rw[TE];refine aF (bp () ()) (by rw[aQ];lia) (eG 0 (λi:Nat=>(9-ef ms)*n+gt F i) n λi hi=>⟨[LS (ef ms),LS n,LV .bor F,LS (0+i)],by simp[tgN,aH,bF],?_⟩);have gi:aB (LR .bor F) (.int (i:Int))=.ok (.int (gt F i)):=by simpa using bX (i:=i) () (by have:=N.D.len;lia)
 have mu:cK (.int (9-ef ms)) (.int (n:Int))=.ok (.int ((9-ef ms)*n)):=dF (.inr ⟨by lia,by lia⟩);simp[gi,mu]
end
section
variable{k n:Nat}{ws:Ln}{pa ms:Lq}{r:Nat}{sp:Int}{F:Lq}
theorem nJ(T:Td k n ws pa ms r sp){i:Nat}:∃L:Lq,r8 [tdV k n ws pa ms r sp,.int i]=.ok (LQ L)/\L.Pairwise (·<=·)/\(∀o,o∈L↔o∈nbL (bw (ws.map mm)) i)/\L.length<=1000:=by
 have wl:=T.wh.ln
 let A:Lq:=(ws.filter λw=>decide (w.1=(i:Int))).map (·.2)
 let B:Lq:=(ws.filter λw=>decide (w.2=(i:Int))).map (·.1)
 have la:A.length<=55:=by
  simp only[A,length_map];have:=length_filter_le (λw:Int×Int=>decide (w.1=(i:Int))) ws
  lia
 have lb:B.length<=55:=by
  simp only[B,length_map];have:=length_filter_le (λw:Int×Int=>decide (w.2=(i:Int))) ws
  lia
 have sl:(A++B).length<64:=by
  have h1:∀l:Ln,(∀w∈l,w.1≠w.2)->(l.filter λw=>decide (w.1=(i:Int))).length+(l.filter λw=>decide (w.2=(i:Int))).length<=l.length:=λl=>by
   induction l with
   |nil=>intro _;simp
   |cons w l ih=>
    intro h;have:=ih λv hv=>h v (mem_cons_of_mem _ hv);have ne:=h w mem_cons_self;by_cases a:w.1=(i:Int)<;>by_cases b:w.2=(i:Int)
    .lia
    .simp[a,b];lia
    .simp[a,b];lia
    .simp[a,b];lia
  have:=h1 ws λw hw=>(T.wh.rg w hw).2.2.2.2;simp only[A,B,length_append,length_map]
  lia
 refine⟨iU (A++B),az ?_,kI _,λo=>?_,by rw[(d9 _).length_eq];lia⟩
 .show DG [some (tdV k n ws pa ms r sp),LS i,none]=_;have p0:∀w,aB (prV w) (.int 0)=.ok (.int w.1):=λ_=>rfl;have p1':∀w,aB (prV w) (.int 1)=.ok (.int w.2):=λ_=>rfl;have cA:∀x2,aL [1] 1 (bK (mUn (b6 0 2) (aa 0))) (tgN 1) (aA (mOp pEq (mOp aB (aa 1) (LP 0)) (aa 0))) (mOp aB (aa 1) (LP 1)) [some (tdV k n ws pa ms r sp),LS i,x2]=.ok (LQ A):=λx2=>by
   refine aF (xs:=prL ws) (by simp[AZ]) (by simp;lia) ?_;have:=b_ (env:=bF [1] 1 [some (tdV k n ws pa ms r sp),LS i,x2]) (g:=tgN 1) (mc:=aA (mOp pEq (mOp aB (aa 1) (LP 0)) (aa 0))) (me:=mOp aB (aa 1) (LP 1)) (a:=prV) (f:=λw=>PV.int w.2) (p:=λw=>decide (w.1=(i:Int))) ws λw _=>⟨[LS i,some (prV w)],by simp[tgN,aH,bF],by simp,λ_=>⟨by simp,by simp,by simp⟩⟩
   simpa[A,iL,prL,Function.comp_def]using this
  have cB:∀x2,aL [1] 1 (bK (mUn (b6 0 2) (aa 0))) (tgN 1) (aA (mOp pEq (mOp aB (aa 1) (LP 1)) (aa 0))) (mOp aB (aa 1) (LP 0)) [some (tdV k n ws pa ms r sp),LS i,x2]=.ok (LQ B):=λx2=>by
   refine aF (xs:=prL ws) (by simp[AZ]) (by simp;lia) ?_;have:=b_ (env:=bF [1] 1 [some (tdV k n ws pa ms r sp),LS i,x2]) (g:=tgN 1) (mc:=aA (mOp pEq (mOp aB (aa 1) (LP 1)) (aa 0))) (me:=mOp aB (aa 1) (LP 0)) (a:=prV) (f:=λw=>PV.int w.1) (p:=λw=>decide (w.2=(i:Int))) ws λw _=>⟨[LS i,some (prV w)],by simp[tgN,aH,bF],by simp,λ_=>⟨by simp,by simp,by simp⟩⟩
   simpa[B,iL,prL,Function.comp_def]using this
  refine af (av (cA none)) ?_;simp;refine a9 ?_ ();have so:=kH (f:=.own) (A++B) sl;simp only[fF,cZ,jD,cB];simp;rw[dY () () (by simp;lia)];simp[so]
 .rw[(d9 _).mem_iff,gx];have key:∀a b:Int,(a,b)∈ bw (ws.map mm)\/(b,a)∈ bw (ws.map mm)↔(a,b)∈ ws \/(b,a)∈ ws:=λa b=>by
   have ng:∀w∈ws,0<=w.1/\0<=w.2:=λw hw=>by have:=T.wh.rg w hw;lia
   have ng2:∀x∈bw (ws.map mm),0<=x.1/\0<=x.2:=λx hx=>by
    obtain⟨w,hw,rfl⟩:=mem_map.mp ((b5 _).mem_iff.mp hx);have:=ng w hw;simp only[mm]
    lia
   by_cases h0:0<=a/\0<=b
   .have:=uu (ws:=ws) (i:=a.toNat) (j:=b.toNat);unfold gj at this
    rwa [toNat_of_nonneg h0.1,toNat_of_nonneg h0.2]at this
   .constructor
    .rintro(h|h)
     .exact absurd (ng2 _ h) h0
     .exact absurd (ng2 _ h).symm h0
    .rintro(h|h)
     .exact absurd (ng _ h) h0
     .exact absurd (ng _ h).symm h0
  rw[key];simp only[A,B,mem_append,mem_map,mem_filter,decide_eq_true_eq];constructor
  .lia
  .rintro(h|h)
   .exact .inr ⟨_,⟨h,rfl⟩,rfl⟩
   .exact .inl ⟨_,⟨h,rfl⟩,rfl⟩
end
section
variable{k n:Nat}{ws:Ln}{pa ms:Lq}{r:Nat}{sp:Int}{F:Lq}{ps:Ln}
def sS(n:Nat)(ps:Ln)(r:Nat)(F:Lq)(p:Nat->Bool)(i:Nat):Int:=((range n).map λc=>if p c&&decide (eld ps r F c=some (i:Int))then hdn n ps r F c else 0).sum
theorem Ev{p p':Nat->Bool}{a:Nat}(ha:a<n)(h0:p a=false)(h:∀c,c<n->p' c=(p c||decide (c=a)))(i:Nat):sS n ps r F p' i=sS n ps r F p i+if eld ps r F a=some (i:Int)then hdn n ps r F a else 0:=by
 unfold sS;have e:((range n).map λc=>if p' c&&decide (eld ps r F c=some (i:Int))then hdn n ps r F c else 0)=(range n).map λc=>(if p c&&decide (eld ps r F c=some (i:Int))then hdn n ps r F c else 0)+(if c=a then(if eld ps r F a=some (i:Int)then hdn n ps r F a else 0)else 0):=by
  refine map_congr_left λc hc=>?_;rw[h c (mem_range.mp hc)];by_cases q:c=a
  .lia
  .simp[q]
 rw[e,jT,pJ,if_pos ha]
def mK{p p':Nat->Bool}(h:∀c,c<n->∀i:Nat,eld ps r F c=some (i:Int)->p c=p' c)(i:Nat):sS n ps r F p i=sS n ps r F p' i:=by
 unfold sS;congr 1;refine map_congr_left λc hc=>?_;by_cases z:eld ps r F c=some (i:Int)
 .rw[h c (mem_range.mp hc) i z]
 .simp[z]
def xJ(N:dG n r ps F){p:Nat->Bool}(hi:i<n)(h:∀c,c<n->eld ps r F c=some (i:Int)->p c=true):1+sS n ps r F p i=hdn n ps r F i:=by
 rw[ve N hi,jH];unfold sS;congr 2;refine map_congr_left λc hc=>?_;by_cases z:eld ps r F c=some (i:Int)
 .simp[h c (mem_range.mp hc) z]
 .simp[z]
theorem qO{L:Lq}(hs:L.Pairwise (·<=·)){e:Int}(he:e∈L)(hm:∀x∈L,e<=x):L[0]?=some e:=by
 cases L with
 |nil=>cases he
 |cons a l=>
  rcases mem_cons.mp he with rfl|h
  .rfl
  .have h1:=(pairwise_cons.mp hs).1 e h;have h2:=hm a mem_cons_self;rw[show a=e by lia];rfl
theorem wH(T:Td k n ws pa ms r sp)(N:dG n r (bw (ws.map mm)) F):zN [tdV k n ws pa ms r sp]=.ok (LQ ((range n).map λi=>gt F i*((n:Int)+1)+hdn n (bw (ws.map mm)) r F i)):=by
 have n7:=T.n7;have lf:=qb T T.rn N.D N.all;have FL:=N.D.len;have bs:=λi=>nJ T (i:=i);generalize bw (ws.map mm)=ps at *;have gF:∀(f:Fl) (i:Nat),i<n->aB (LR f F) (.int (i:Int))=.ok (.int (gt F i)):=λf i hi=>by simpa using bX (i:=i) () ()
 refine az ?_;show DB [some (tdV k n ws pa ms r sp),none,none,none,none,none,none]=_;refine af (av (v:=.int n) (by simp[kF])) ?_;refine af (av (v:=LQ F) (by simp[xp,lf,aD])) ?_;refine af (av (v:=LQ ((range n).map λ_=>(1:Int))) ?_) ?_
 .exact aF (bp () ()) (by rw[aQ];lia) (eG 0 (λ_:Nat=>(1:Int)) n λj hj=>⟨[LS (0+j)],by simp[tgN,aH,bF,dB],by simp⟩)
 have rn:n9 (n:Int) 0 (-1)=n:=by
  unfold n9 Builtin.Range.rangeSize;simp
  lia
 refine f9 (λj e=>∃C x4 x5 x6,e=[some (tdV k n ws pa ms r sp),LS n,LU F,LU C,x4,x5,x6]/\C.length=n/\∀i<n,gt C i=1+sS n ps r F (λc=>decide ((n:Int)-j<gt F c)) i) (xs:=jJ n (-1) n) ?_ ⟨(range n).map λ_=>(1:Int),none,none,none,rfl,by simp,λi hi=>?_⟩ (λj x e hx hP=>?_) (λe hP=>?_)
 .unfold oW;simp[inM,rn]
  lia
 .have e:sS n ps r F (λc=>decide ((n:Int)-(0:Nat)<gt F c)) i=0:=by refine(congrArg List.sum (map_congr_left λc hc=>?_)).trans (kG (range n));have:=N.all c (mem_range.mp hc);simp[show ¬(n:Int)<gt F c by lia]
  rw[e];simp[gt,hi]
 .obtain⟨C,x4,x5,x6,rfl,Cl,hC⟩:=hP;have jl:j<n:=by have:=(List.getElem?_eq_some_iff.mp hx).1;simpa[jJ]using this
  have ex:x=.int ((n:Int)-j):=by simp[jJ,jl]at hx;rw[<- hx,Int.sub_eq_add_neg]
  subst ex;obtain⟨t,ht⟩:∃t:Int,t=(n:Int)-j:=⟨_,rfl⟩
  rw[<- ht];refine⟨_,cE rfl,?_⟩;refine im (λa e=>a<=n/\∃C x5 x6,e=[some (tdV k n ws pa ms r sp),LS n,LU F,LU C,LS t,x5,x6]/\C.length=n/\∀i<n,gt C i=1+sS n ps r F (λc=>decide (t<gt F c) ||(decide (gt F c=t)&&decide (c<a))) i) (bp (n:=n) () ()) ⟨by lia,C,x5,x6,rfl,Cl,λi hi=>?_⟩ (λa y e hy hP=>?_) (λe hP=>?_)
  .rw[hC i hi,ht];exact congrArg (1 + ·) (mK (λc _ _ _=>by simp) i)
  .obtain⟨an,C,x5,x6,rfl,Cl,hC⟩:=hP;obtain⟨ha,rfl⟩:=dD hy;refine⟨_,cE rfl,?_⟩;have ga:=gF .lnt a ha;by_cases q:gt F a=t
   .have ar:a≠r:=λz=>by have:=N.D.rt;rw[<- z]at this;lia
    obtain⟨e,he⟩:=GC N ha ar;obtain⟨_,e2,e3,e4⟩:=jg he;have eb:=N.nb a e e2;obtain⟨L,hL,Ls,Lm,Ll⟩:=bs a;have Fe:∀o∈L,0<=o/\o<n:=λo ho=>N.nb a o ((Lm o).mp ho);have hm:e∈L.filter λo=>decide (gt F o.toNat=t-1):=mem_filter.mpr ⟨(Lm e).mpr e2,by simp;lia⟩;have hd:=qO (Ls.filter λo=>decide (gt F o.toNat=t-1)) hm λx hx=>by obtain⟨x1,x2⟩:=mem_filter.mp hx;exact e4 x ((Lm x).mp x1) ()
    have Ca:gt C a=hdn n ps r F a:=by rw[hC a ha];refine xJ N ha λc hc hec=>?_;have:=(jg hec).2.2.1;simp at this;simp[show t<gt F c by lia]
    refine lq (by simp[ga,q]) (bP (av (v:=LQ (L.filter λo=>decide (gt F o.toNat=t-1))) ?_) ?_)
    .refine aF (xs:=iL L) (by simp[hL,aD]) (by rw[aX];lia) ?_;have:=dO (env:=bF [2,4] 1 [some (tdV k n ws pa ms r sp),LS n,LU F,LU C,LS t,LS (0+(a:Int)),x6]) (g:=tgN 2) (mc:=aA (mOp pEq (mOp aB (aa 0) (aa 2)) (mOp eM (aa 1) (LP 1)))) (me:=aa 2) (λo=>decide (gt F o.toNat=t - 1)) (λo=>o) L λo ho=>⟨[LV .bor F,LS t,LS o],by simp [tgN,aH,bF],by
      have ob:=Fe o ho;have go:aB (LR .bor F) (.int o)=.ok (.int (gt F o.toNat)):=bX () ();simp[go],λ_=>by simp⟩
     rw[map_id']at this;exact this
    generalize L.filter (λo=>decide (gt F o.toNat=t-1))=E at hd;have ie:aB (LR .lnt E) (.int 0)=.ok (.int e):=jd _ () hd;have ce:aB (LR .lnt C) (.int e)=.ok (.int (gt C e.toNat)):=bX () ();have ca:aB (LR .lnt C) (.int (a:Int))=.ok (.int (gt C a)):=by simpa using bX (i:=a) () ()
    have ix:ixN (iL C).length e=some e.toNat:=by
     have:=gd (n:=(iL C).length) (k:=e.toNat) (by rw[aX];lia)
     rwa [show((e.toNat:Nat):Int)=e by lia]at this
    have s1:=fI (env:=[some (tdV k n ws pa ms r sp),LS n,LU F,LU C,LS t,LS (0+(a:Int)),LU E]) (i:=3) (m:=mOp aO (mOp aB (aa 3) (mOp aB (aa 6) (LP 0))) (mOp aB (aa 3) (aa 5))) (mk:=mOp aB (aa 6) (LP 0)) (v:=.int (gt C e.toNat+hdn n ps r F a)) (by simp[ie,ce,ca,Ca]) rfl (by simp[ie]) ix rfl;refine bC s1 ⟨by lia,C.set e.toNat (gt C e.toNat+hdn n ps r F a),LS (0+(a:Int)),LU E,?_,by simpa using Cl,λi hi=>?_⟩
    .simp
    .have ad:=Ev (F:=F) (ps:=ps) (r:=r) (p:=λc=>decide (t<gt F c) ||(decide (gt F c=t)&&decide (c<a))) (p':=λc=>decide (t<gt F c) ||(decide (gt F c=t)&&decide (c<a+1))) ha (by simp[q]) (λc hc=>by lia) i;rw[ad,gD _ (),he];by_cases z:i=e.toNat
     .rw[if_pos z,if_pos (by rw[z,toNat_of_nonneg eb.1]),z,hC e.toNat ()]
      lia
     .rw[if_neg z,if_neg (λw=>z ()),hC i hi]
      lia
   .refine lr (by simp[ga,q]) (bC aE ⟨by lia,C,_,_,rfl,Cl,λi hi=>?_⟩);rw[hC i hi];refine congrArg (1 + ·) (mK (λc hc _ _=>?_) i);by_cases z:c=a
    .subst z;simp[q]
    .lia
  .obtain⟨_,C,x5,x6,rfl,Cl,hC⟩:=hP;rw[aQ]at hC;refine⟨C,_,_,_,rfl,Cl,λi hi=>?_⟩;rw[hC i hi];refine congrArg (1 + ·) (mK (λc hc _ _=>?_) i);by_cases z:t<gt F c
   .lia
   .lia
 .obtain⟨C,x4,x5,x6,rfl,Cl,hC⟩:=hP;have l0:(jJ (n:Int) (-1) n).length=n:=by simp[jJ]
  have hC':∀i<n,gt C i=hdn n ps r F i:=λi hi=>by
   rw[hC i hi];refine xJ N hi λc hc hec=>?_;obtain⟨_,e2,e3,_⟩:=jg hec;have:=N.D.rng i hi;simp at e3;simp
   lia
  refine a9 ?_ ();refine aF (bp () ()) (by rw[aQ];lia) (eG 0 (λi:Nat=>gt F i*((n:Int)+1)+hdn n ps r F i) n λi hi=>⟨[LV .bor F,LS n,LV .bor C,LS (0+i)],by simp[tgN,aH,bF],?_⟩);have gi:=gF .bor i hi;have gc:aB (LR .bor C) (.int (i:Int))=.ok (.int (gt C i)):=by simpa using bX (i:=i) () ()
  have mu:cK (.int (gt F i)) (.int ((n:Int)+1))=.ok (.int (gt F i*((n:Int)+1))):=dF (.inr ⟨by lia,by lia⟩);simp[gi,gc,mu,hC' i hi]
theorem HV(T:Td 5 n ws pa ms r sp)(hn:cs.length=n)(hc:InS (((n:Int)+1)*((n:Int)+1)) cs)(h:caR n false (jv n (bw (ws.map mm)) r) cs=true):jB [tdV 5 n ws pa ms r sp]=.ok (LQ cs):=by
 obtain⟨F,N⟩:=T.net T.rn;have lg:=wH T N;have R:uy n (bw (ws.map mm)) r F cs:=uy.calm N hc hn λi hi=>nt h i ();have e1:pEq (.str (kiS 5)) (.str "far")=.ok (.bl false):=ee (by decide +kernel);have e2:pEq (.str (kiS 5)) (.str "lead")=.ok (.bl false):=ee (by decide +kernel);have e3:pEq (.str (kiS 5)) (.str "grow")=.ok (.bl true):=ee (by decide +kernel);refine iE (hs:=(range n).map λi=>gt F i*((n:Int)+1)+hdn n (bw (ws.map mm)) r F i) (az ?_) ?_
 .show sI [some (tdV 5 n ws pa ms r sp),none,none,none,none,none,none]=_;refine af (av (v:=.int n) (by simp[kF])) ?_;exact af (b8 (by simp[jt,e1]) aE) (af (b8 (by simp[jt,e2]) aE) (dy (gh (by simp[jt,e3]) (a9 (by simp[lg,aD])))))
 .refine ext_getElem (by simp[hn]) λi h1 h2=>?_;have hi:i<n:=by lia
  have a:=R.cn i hi;rw[zq ()]at a;have b:gt (FA n cs) i=gt F i:=by rw[R.fa]
  rw[vf ()]at b;rw[<- lh _ _ h1];simp;rw[<- a,<- b];have:=Int.emod_add_mul_ediv (gt cs i) ((n:Int)+1);rw[Int.mul_comm]at this
  lia
end
end
section
section
variable{n:Nat}{sp:Int}
def wr(c0:Lq)(fs:Ln):Lq:=fs.foldl (λcs p=>cs.set p.1.toNat p.2) c0
def sM(fs:Ln):∀c0,(wr c0 fs).length=c0.length:=by
 induction fs with
 |nil=>exact λ_=>rfl
 |cons p fs ih=>exact λc0=>by rw[wr,foldl_cons,<- wr,ih];simp
def uD{fs:Ln}{p:Int×Int}(h:fs[k]?=some p):wr c0 (fs.take (k+1))=(wr c0 (fs.take k)).set p.1.toNat p.2:=by rw[take_succ,h];simp[wr]
def prL_get{fs:Ln}{k:Nat}{x:PV}(h:(prL fs)[k]?=some x):∃p,fs[k]?=some p/\x=.tup [.int p.1,.int p.2]:=by unfold prL at h;rw[getElem?_map]at h;obtain⟨p,h1,h2⟩:=map_eq_some_iff.mp h;exact⟨p,h1,h2.symm⟩
theorem qN{c0:Lq}{fs:Ln}{f g:Fl}(hg:Fc g.LG)(hl:c0.length<=1000)(hf:∀p∈fs,0<=p.1/\p.1<c0.length):vi [LR f c0,.lst g (prL fs)]=.ok (LQ (wr c0 fs)):=by
 refine az ?_;show Dp [LV f c0,some (.lst g (prL fs)),none,none,none]=_;refine af (av (v:=LQ c0) ()) ?_;refine af (dw rfl) ?_;have efz:(PV.lst g (prL fs)).LM Fl.LG=.lst g.LG (prL fs):=by simp
 simp;generalize g.LG=g at *;refine f9 (λk e=>∃x3 x4,e=[LV f c0,some (.lst g (prL fs)),LU (wr c0 (fs.take k)),x3,x4]) (xs:=prL fs) (fJ (by simp[hg.le]) hg.nl () ()) ⟨_,_,rfl⟩ (λk x e hx hP=>?_) (λe hP=>?_)
 .obtain⟨x3,x4,rfl⟩:=hP;obtain⟨p,hp,rfl⟩:=prL_get hx;obtain⟨p0,p1⟩:=hf p (List.mem_of_getElem? hp);have wl:=sM (fs.take k) c0;obtain⟨i,hi⟩:∃i:Nat,p.1=i:=⟨p.1.toNat,by lia⟩
  have e2:¬((wr c0 (fs.take k)).length:Int)<= p.1:=by lia
  refine⟨[LV f c0,some (.lst g (prL fs)),LU (wr c0 (fs.take k)),LS p.1,LS p.2],rfl,bP (b8 (by simp[show ¬p.1<0 by lia,e2]) aE) (bC (fI (v:=.int p.2) (j:=p.1) () rfl () (by rw[hi];exact gd (by simp;lia)) ()) ⟨LS p.1,LS p.2,?_⟩)⟩;rw[uD hp,hi];simp[iL]
 .obtain⟨x3,x4,rfl⟩:=hP;rw[show(prL fs).length=fs.length by simp,take_length];exact d_ rfl
end
noncomputable def fcR(P:Lq->Bool):List (Lq)->Option Nat
 | []=>none
 |c::l=>if P c then some 0 else(fcR P l).map (· + 1)
theorem Dj:∀{l:List (Lq)}{k:Nat}{c:Lq},(∀j d,j<k->l[j]?=some d->P d=false)->l[k]?=some c->P c=true->fcR P l=some k
 | [],k,c,_,h,_=>by simp at h
 |d::l,0,c,_,h,hp=>by simp at h;subst h;simp[fcR,hp]
 |d::l,k+1,c,hf,h,hp=>by have h0:=hf 0 d () rfl;have:=Dj (λj e hj he=>hf (j+1) e () he) h hp;simp[fcR,h0,this]
def Di:∀{l:List (Lq)},(∀(j:Nat) d,l[j]?=some d->P d=false)->fcR P l=none
 | [],_=>rfl
 |d::l,hf=>by have h0:=hf 0 d rfl;have:=Di λj e he=>hf (j+1) e he;simp[fcR,h0,this]
def nV:Option Nat->PV
 |none=>.non
 |some k=>.int k
section
variable{o:PV}{n:Nat}{sp:Int}{al ip:Bool}{D:Lq->Nat->Int}
theorem uq{rows:List (Lq×Lq)}{fr:Fl}(r:Rl o n sp al ip D)(hrl:rs.length=n)(hrow:∀p∈rows,p.2.length=n/\InS sp p.2/\p.1.length<=n)(hl:rows.length<=1000) :
  zH [o,LR f rs,.lst fr (rows.map (bB .frz))]=.ok (nV (fcR (caR n ip D) (rs.map (· % sp)::rows.map (·.2)))):=by
 have key:Dt [some o,LV f rs,some (.lst fr (rows.map (bB .frz))),none,none,none]=.ret (nV (fcR (caR n ip D) (rs.map (· % sp)::rows.map (·.2)))):=by
  have hc:aL [] 1 (bK (aa 2)) (tgN 0) bJ (mOp aB (aa 0) (LP 1)) [some o,LV f rs,some (.lst fr (rows.map (bB .frz))),none,none,none]=.ok (.lst .own (llL .frz (rows.map (·.2)))):=by
   refine aF (xs:=rows.map (bB .frz)) () (by simp;lia) ?_;rw[show llL .frz (rows.map (·.2))=rows.map λp=>LR .frz p.2 by simp[llL]];refine bv (a:=bB .frz) rows λp _=>⟨[some (bB .frz p)],by simp[tgN,aH,bF,dB,bB],?_,by simp,by simp⟩
   have i1:aB (bB .frz p) (.int 1)=.ok (LR .frz p.2):=eA rfl rfl ();have ml:(bB .frz p).LM Fl.LD=bB .frz p:=by simp[bB]
   simp[ml,i1]
  have rd:=pX (f:=f.LD.LF) r hrl;have hcs:∀c∈rs.map (· % sp)::rows.map (·.2),c.length=n/\InS sp c:=λc hc=>by
   rcases mem_cons.mp hc with rfl|hc
   .exact⟨by simpa using hrl,tX r⟩
   .obtain⟨p,hp,rfl⟩:=mem_map.mp hc;exact⟨(hrow p hp).1,(hrow p hp).2.1⟩
  refine af (av (v:=.lst .own (LQ (rs.map (· % sp))::llL .frz (rows.map (·.2)))) ?_ (by simp[PV.has,eR _ Fl.LJ .frz rfl]) rfl) ?_
  .simp only[jD,hc,lv,cZ,eT,um,gU];simp only[getElem?_cons_zero,getElem?_cons_succ,kM,Res.LO,r.le,r.rd];simp[r.tb,rd,aD];rw[dY () () (by simp;lia)];simp
  refine af (dw rfl) ?_;have efz:(PV.lst .own (LQ (rs.map (· % sp))::llL .frz (rows.map (·.2)))).LM Fl.LG=.lst .frz (llL .frz (rs.map (· % sp)::rows.map (·.2))):=by simp
  simp only[s0_,s1_,efz];generalize rs.map (· % sp)::rows.map (·.2)=css at *;have it:rK (aa 3) [some o,LV f rs,some (.lst fr (rows.map (bB .frz))),some (.lst .frz (llL .frz css)),none,none]=.ok (enP 0 (llL .frz css)):=by unfold rK;simp[fk,eR _ Fl.LI .frz rfl,eR _ Fl.LJ .frz rfl]
  have lp:=l_ (g:=tgT 2 (b0 (tgN 4) (b0 (tgN 5) gY))) (body:=mBr (et (bY bh (aa 0) (ae (aa 5) am))) (dI 4) ba)
   (λk e=>(∀j d,j<k->css[j]?=some d->caR n ip D d=false)/\∃a b,e=[some o,LV f rs,some (.lst fr (rows.map (bB .frz))),some (.lst .frz (llL .frz css)),a,b])
   (λout=>(∃ k,fcR (caR n ip D) css=some k/\out=.ret (.int k)) \/ (fcR (caR n ip D) css=none/\∃ e,out=.next e)) it ⟨λj d hj=>absurd hj (not_lt_zero j),_,_,rfl⟩ (λk x e hx hP=>by
    obtain⟨hf,a,b,rfl⟩:=hP;rw[jr]at hx;obtain⟨y,hy,rfl⟩:=map_eq_some_iff.mp hx;obtain⟨c,hc1,rfl⟩:=va _ _ hy;obtain⟨c1,c2⟩:=hcs c (List.mem_of_getElem? hc1);have ca:=vK r (.inl (.inr rfl)) c1 c2;refine⟨[some o,LV f rs,some (.lst fr (rows.map (bB .frz))),some (.lst .frz (llL .frz css)),LS (0+k),LV .frz c],rfl,?_⟩;by_cases q:caR n ip D c=true
    .refine .inr (.inr (.inl ⟨.int k,gh (by simp[r.le,ca,q]) (by simp[dI]),.inl ⟨k,Dj hf hc1 q,rfl⟩⟩))
    .have q:caR n ip D c=false:=by simpa using q
     refine .inl ⟨_,.inl (b8 (by simp[r.le,ca,q]) aE),λj d hj hd=>?_,_,_,rfl⟩;by_cases e:j=k
     .lia
     .exact hf j d () hd) (λe hP=>by
    obtain⟨hf,a,b,rfl⟩:=hP;refine .inr ⟨Di λj d hd=>hf j d ?_ hd,_,rfl⟩;rw[jq,qa];exact(List.getElem?_eq_some_iff.mp hd).1)
  rcases lp with⟨k,e1,e2⟩ |⟨e1,e,e2⟩
  .rw[e1];exact dy e2
  .rw[e1];exact af e2 (a9 (by simp[nV]) (by simp[nV]))
 exact az key
end
section
variable{o:PV}{n:Nat}{sp:Int}{al ip:Bool}{D:Lq->Nat->Int}{cs nm:Lq}{f:Fl}
def oN:∀(l:List (Lq)) (cs nm:Lq),fL n D cs (l++[nm])=fL n D cs l++[(dnR n D (l.foldl (stR n D) cs) nm,stR n D (l.foldl (stR n D) cs) nm)]
 | [],_,_=>rfl
 |a::l,cs,nm=>by simp[fL,oN l]
def y_(ps:List (Lq×Lq))(p:Lq×Lq):aB (.lst f (ps.map (bB .frz)++ [bB .frz p])) (.int (-1))=.ok (bB .frz p):=by unfold aB;simp only[a_,atI];rw[ze ()];simp[bB]
def xM(p:Lq×Lq):aB (bB .frz p) (.int 0)=.ok (LR .frz p.1)/\aB (bB .frz p) (.int 1)=.ok (LR .frz p.2):=⟨eA rfl rfl (),eA rfl rfl ()⟩
theorem xK{ft fi:Fl}(r:Rl o n sp al ip D)(ht:Fc ft.LG)(hi:Fc fi.LG)(hn:rs.length=n)(hg:∀nm∈tns,pF n al nm)(hl:tns.length<=1000):vx [o,LR f rs,.lst ft (llL fi tns)]=.ok (.lst .own ((fL n D (rs.map (· % sp)) tns).map (bB .frz))):=by
 refine az ?_;show D1 [some o,LV f rs,some (.lst ft (llL fi tns)),none,none,none]=_;refine af (av (v:=LQ (rs.map (· % sp))) (by simp[r.le,r.tb,r.rd,pX r hn,aD])) ?_;refine af (av (v:=.lst .own []) ()) ?_;refine af (dw rfl) ?_;have efz:(PV.lst ft (llL fi tns)).LM Fl.LG=.lst ft.LG (llL fi.LG tns):=by simp
 simp;generalize ft.LG=gt' at *;generalize fi.LG=gi at *;have h1:Fl.LI gi=false:=by rcases hi with rfl|rfl<;>rfl
 have c1:(rs.map (· % sp)).length=n:=by simpa using hn
 have c2:=tX (rs:=rs) r;generalize rs.map (· % sp)=c0 at *;refine f9 (λk e=>∃g x5,(Fc g\/g=.own)/\((tns.take k).foldl (stR n D) c0).length=n/\InS sp ((tns.take k).foldl (stR n D) c0)/\e=[some o,LV f rs,some (.lst gt' (llL gi tns)),LV g ((tns.take k).foldl (stR n D) c0),some (.lst .own ((fL n D c0 (tns.take k)).map (bB .frz))),x5]) (xs:=llL gi tns) (fJ (by simp[ht.le,hi.le]) ht.nl (eR _ _ _ h1) (eR _ _ _ hi.nl)) ⟨.own,_,.inr rfl,c1,c2,rfl⟩ (λk x e hx hP=>?_) (λe hP=>?_)
 .obtain⟨g,x5,hg',d1,d2,rfl⟩:=hP;obtain⟨nm,hnm,rfl⟩:=va _ _ hx;have ro:=vX r (Fc.call hg') hi d1 d2 (hg nm (List.mem_of_getElem? hnm));have rl:=jX (n:=n) (D:=D) (tns.take k) c0;rw[length_take]at rl;have s1:tns.take (k+1)=tns.take k++[nm]:=by rw[take_succ,hnm];rfl
  obtain⟨e1,e2⟩:=xw r d1 d2 nm;rw[s1,oN,List.foldl_append,foldl_cons,List.foldl_nil,map_append,map_cons,map_nil];generalize(tns.take k).foldl (stR n D) c0=cs at *;generalize fL n D c0 (tns.take k)=rows at *;refine⟨_,cE rfl,?_⟩;refine bP (fD (v:=bB .frz (dnR n D cs nm,stR n D cs nm)) (by simp[mFz,r.le,r.tb,hi.le,hi.tb,ro,aD,bB]) rfl (by simp[bB]) (by simp;lia)) ?_;refine bC (av ?_) ⟨.frz,LV gi nm,.inl (.inr rfl),e1,e2,rfl⟩;have li:=y_ (f:=.lnt) rows (dnR n D cs nm,stR n D cs nm);have ra:=(xM (dnR n D cs nm,stR n D cs nm)).2;have ml:mapL Fl.LD (rows.map (bB .frz)++ [bB .frz (dnR n D cs nm,stR n D cs nm)])=rows.map (bB .frz)++ [bB .frz (dnR n D cs nm,stR n D cs nm)]:=by have:=qW (f:=.frz) (g:=Fl.LD) (rows++[(dnR n D cs nm,stR n D cs nm)]);simpa using this
  simp[ml,li,ra]
 .obtain⟨g,x5,_,_,_,rfl⟩:=hP;rw[qa,take_length];exact d_ rfl
end
section
variable{o:PV}{n:Nat}{sp:Int}{al ip:Bool}{D:Lq->Nat->Int}{cs:Lq}
theorem FO:∀x∈mvR n D cs,0<=x/\x<n:=λx hx=>by
 obtain⟨k,hk,rfl⟩:=mem_map.mp hx;have:=mem_range.mp (mem_filter.mp hk).1
 lia
def cV(b:Option Nat)(rows:List (Lq×Lq)):List (Lq×Lq):=match b with
 |none=>rows
 |some k=>rows.take k
def gX(w:List (Lq×Lq))(i:Nat):Bool:=w.any λp=>p.1.contains (i:Int)
end
def Au:PyData.canLayAll0 (dataL (prL ps))=true:=by
 induction ps with
 |nil=>rfl
 |cons n ns ih=>simp only[mS,dataL,PyData.canLayAll0,ih];rfl
theorem An:PyData.depthAll (dataL (prL ps))<= 1:=by
 induction ps with
 |nil=>exact zero_le _
 |cons n ns ih=>
  have e:PyData.depth (prV n).data=1:=rfl;simp only[mS,dataL,PyData.depthAll]
  lia
def sw(f g:Fl):∀(xss:List (Lq)),dataL (llL f xss)=dataL (llL g xss)
 | []=>rfl
 |xs::xss=>by rw[nD,nD];unfold dataL;rw[sw f g xss];rfl
def vJ(f:Fl):∀(xss:List (Lq)),PyData.canLayAll0 (dataL (llL f xss))=true
 | []=>rfl
 |xs::xss=>by rw[nD];unfold dataL PyData.canLayAll0;rw[vJ f xss];simp[PV.data,PyData.canLay0]
theorem vE(f:Fl):∀(xss:List (Lq)),PyData.depthAll (dataL (llL f xss))<= 1
 | []=>by simp[dataL,PyData.depthAll]
 |xs::xss=>by
  have:=vE f xss;unfold dataL PyData.depthAll;simp[PV.data,PyData.depth]
  lia
section
variable{o:PV}{n:Nat}{sp:Int}{al ip:Bool}{D:Lq->Nat->Int}{cs:Lq}
def Fc.fz(h:Fc f):f.LG=f:=by rcases h with rfl|rfl<;>rfl
theorem zx:∀{l:List (Lq)}{k:Nat},fcR P l=some k->k<l.length
 | [],k,h=>by simp[fcR]at h
 |c::l,k,h=>by
  unfold fcR at h;split at h
  .cases h;simp
  .obtain⟨j,h1,rfl⟩:=map_eq_some_iff.mp h;have:=zx h1;simp;lia
def G0(hf:Fc f)(i:Nat)(hl:w.length<=1000):et (aq (p1 (kb lC)) (ae (aL [1] 1 (bK (aa 0)) (tgN 1) bJ (mOp pIn (aa 0) (mOp aB (aa 1) (LP 0)))) am)) [some (.lst f (w.map (bB .frz))),LS (0+(i:Int))]=.ok (gX w i):=by
 have hc:aL [1] 1 (bK (aa 0)) (tgN 1) bJ (mOp pIn (aa 0) (mOp aB (aa 1) (LP 0))) [some (.lst f (w.map (bB .frz))),LS (0+(i:Int))]=.ok (.lst .own ((w.map λp=>p.1.contains (i:Int)).map .bl)):=by
  refine aF (xs:=w.map (bB .frz)) () (by simp;lia) ?_;rw[map_map];refine bv w λp _=>⟨[LS (0+(i:Int)),some (bB .frz p)],by simp[tgN,aH,bF,bB],?_,by simp,by simp⟩
  have i0:aB (bB .frz p) (.int 0)=.ok (LR .frz p.1):=eA rfl rfl ();have ml:(bB .frz p).LM Fl.LD=bB .frz p:=by simp[bB]
  simp[ml,i0]
 have hb:kb lC (.lst .own ((w.map λp=>p.1.contains (i:Int)).map .bl))=.ok (.bl (gX w i)):=by
  unfold kb;dsimp only;rw[lB];simp[lC,gX]
  try rfl
 simp only[se,fF,cZ,eT,hc,Res.LO,p1,hb];rfl
theorem B8{fs:Ln}{g ft fi:Fl}(r:Rl o n sp al ip D)(hf:Fc f)(hg:Fc g)(hft:Fc ft)(hfi:Fc fi)(hn:c0.length=n)(hfs:∀p∈fs,0<=p.1/\p.1<n)(hgd:∀nm∈tns,pF n al nm)(hl:tns.length<=1000) :
  zF [o,LR f c0,.lst g (prL fs),.lst ft (llL fi tns)]=.ok (.tup [LQ (pick n (gX (cV (fcR (caR n ip D) ((wr c0 fs).map (· % sp)::(fL n D ((wr c0 fs).map (· % sp)) tns).map (·.2))) (fL n D ((wr c0 fs).map (· % sp)) tns)))),nV (fcR (caR n ip D) ((wr c0 fs).map (· % sp)::(fL n D ((wr c0 fs).map (· % sp)) tns).map (·.2)))]):=by
 have n20:=r.n20;have so:=qN (c0:=c0) (f:=f) (by rw[hg.fz];exact hg) () (by rw[hn];exact hfs);have wl:(wr c0 fs).length=n:=(sM fs c0).trans hn;have ru:=xK (f:=.bor) r (by rw[hft.fz];exact hft) (by rw[hfi.fz];exact hfi) wl hgd hl;have rin:=pU r tns ((wr c0 fs).map (· % sp)) (by simpa using wl) (tX r);have rlen:=jX (n:=n) (D:=D) tns ((wr c0 fs).map (· % sp));have cal:=uq (f:=.bor) (fr:=.frz) r wl rin ();refine az ?_;show Do [some o,LV f c0,some (.lst g (prL fs)),some (.lst ft (llL fi tns)),none,none,none,none,none]=_;refine af (av (v:=LQ (wr c0 fs)) (by simp[hf.le,hf.tb,hg.le,hg.tb,so,aD])) ?_;generalize fL n D ((wr c0 fs).map (· % sp)) tns=rows at *;have rb:hasL Fl.LK (rows.map (bB .frz))=false:=iY rfl rows;have rn:hasL Fl.LJ (rows.map (bB .frz))=false:=iY rfl rows;refine af (av (v:=.lst .own (rows.map (bB .frz))) (by simp[r.le,r.tb,hft.le,hft.tb,hfi.le,hfi.tb,ru,aD,rb]) (by simp[PV.has,rn]) rfl) ?_;refine af (dw rfl) ?_;have efz:(PV.lst .own (rows.map (bB .frz))).LM Fl.LG=.lst .frz (rows.map (bB .frz)):=by simp
 simp;have bl:∀k,fcR (caR n ip D) ((wr c0 fs).map (· % sp)::rows.map (·.2))=some k->k<=rows.length:=λk h=>by
  have:=zx h;simp at this
  lia
 generalize fcR (caR n ip D) ((wr c0 fs).map (· % sp)::rows.map (·.2))=b at *;have nb:(nV b).has Fl.LK=false:=by cases b<;>simp[nV]
 have nn:(nV b).LL=true:=by cases b<;>simp[nV]
 refine af (av (by simp[r.le,r.tb,cal,aD,nb]) nn rfl) ?_;obtain⟨fw,hfw,hset⟩:∃fw:Fl,Fc fw.LH/\aG 7 (t8 (aA (mOp gP (aa 6) (mC .non))) (aa 5) (gy (aa 5) gL (ib (aa 6)))) [some o,LV f c0,some (.lst g (prL fs)),some (.lst ft (llL fi tns)),LU (wr c0 fs),some (.lst .frz (rows.map (bB .frz))),some (nV b),none,none]=.next [some o,LV f c0,some (.lst g (prL fs)),some (.lst ft (llL fi tns)),LU (wr c0 fs),some (.lst .frz (rows.map (bB .frz))),some (nV b),some (.lst fw ((cV b rows).map (bB .frz))),none]:=by
  have zn:∀(l:List (Lq×Lq)) f,(PV.lst f (l.map (bB .frz))).LL=true\/f=.lnt:=λl f=>by have:=iY (p:=Fl.LJ) (f:=.frz) rfl l;cases f<;>simp[PV.has,this,Fl.LJ]
  cases b with
  |none=>exact⟨.frz,.inr rfl,av (v:=.lst .frz (rows.map (bB .frz))) (by simp[nV,gP,PV.isNon]) ((zn rows .frz).resolve_right ()) rfl⟩
  |some k=>refine⟨.own,.inl rfl,av (v:=.lst .own ((rows.take k).map (bB .frz))) ?_ ((zn _ .own).resolve_right ()) rfl⟩;have ct:jN (rows.map (bB .frz)) none (some (k:Int))=(rows.map (bB .frz)).take k:=Ap _ k (by simpa using bl k rfl);simp[nV,gP,PV.isNon,ct]
 refine af hset ?_;have wlen:(cV b rows).length<=1000:=by
  cases b with
  |none=>simp only[cV];lia
  |some k=>simp only[cV,length_take];lia
 refine af (av (v:=LQ (pick n (gX (cV b rows)))) ?_) ?_
 .unfold pick;refine aF (bp (by simp[r.le,r.a0]) ()) (by rw[aQ];lia) (eC (gX (cV b rows)) (λk=>(k:Int)) n λk hk=>⟨[some (.lst fw.LH ((cV b rows).map (bB .frz))),LS (0+k)],by simp[tgN,aH,bF],G0 hfw k wlen,λ_=>by simp⟩)
 rfl
theorem mB{R:Nat->Bool}(hR:∀cs:Lq,(∀i,i<n->R i=false->gt cs i=gt c0 i)->∀i,i<n->D cs i≠gt cs i->R i=true):∀(tns:List (Lq)) (cs:Lq),(∀i,i<n->R i=false->gt cs i=gt c0 i)->∀p∈fL n D cs tns,∀x∈p.1,R x.toNat=true
 | [],_,_,p,h=>nomatch h
 |nm::tns,cs,hc,p,h=>by
  rcases mem_cons.mp h with rfl|h
  .intro x hx;have hm:=(mem_filter.mp hx).1;obtain⟨i,hi,rfl⟩:=mem_map.mp hm;obtain⟨h1,h2⟩:=mem_filter.mp hi;have:=hR cs hc i (mem_range.mp h1) ();simpa using this
  .refine mB hR tns _ (λi hi hr=>?_) p h;have e:gt (stR n D cs nm) i=if nm.contains (i:Int)then D cs i else gt cs i:=by simp[stR,gt,hi]
   rw[e];split
   .have:D cs i=gt cs i:=Classical.byContradiction λz=>by rw[hR cs hc i hi z]at hr;cases hr
    rw[this];exact hc i hi hr
   .exact hc i hi hr
theorem xA{fs:Ln}(hs:0<sp)(hn:c0.length=n)(hc:InS sp c0)(hf:∀p∈fs,0<=p.1/\p.1<n):∀k,k<=fs.length->Spo n sp c0 ((wr c0 (fs.take k)).map (· % sp)) k
 |0,_=>by
  have e:(wr c0 (fs.take 0)).map (· % sp)=c0:=by have:c0.map (· % sp)=c0.map id:=map_congr_left λx hx=>emod_eq_of_lt (hc x hx).1 (hc x hx).2;simpa[wr]using this
  rw[e];exact .zero
 |k+1,hk=>by
  have ih:=xA hs hn hc hf k ();have hp:fs[k]?=some fs[k]:=by simp
  have hp2:=hf _ (getElem_mem (n:=k) ());rw[uD hp,List.map_set];exact ih.more () (emod_nonneg _ ()) (emod_lt_of_pos _ hs)
def D6{fs:Ln}(h:∀p∈fs,p.1.toNat≠i):∀c0:Lq,gt (wr c0 fs) i=gt c0 i:=by
 induction fs with
 |nil=>exact λ_=>rfl
 |cons p fs ih=>intro c0;rw[wr,foldl_cons,<- wr,ih λq hq=>h q (mem_cons_of_mem _ hq)];have:=h p mem_cons_self;simp[gt,getElem?_set_ne this]
end
def hV(f a b c d:Fl)(cs:Lq)(fs:Ln)(tns:List (Lq)):PV:=.lst f [LR a cs,.lst b (prL fs),.lst c (llL d tns)]
theorem IM{a b c d f' a' b' c' d':Fl}{fs:Ln}:pNe (hV f a b c d cs fs tns) (hV f' a' b' c' d' cs fs tns)=.ok (.bl false):=by
 refine B1 ?_ ?_
 .unfold hV;simp only[PV.data,dataL];rw[sw d d']
 .have h1:=vE d tns;have h2:=An (ps:=fs);simp[hV,shp,SeqAt.shaped,PV.data,dataL,PyData.canLay0,PyData.canLayAll0,PyData.depth,PyData.depthAll,vJ,Au]
  lia
end
section
section
variable{fl:Fl}{ns:Lq}{n:Nat}
theorem wR(h:Scr fl)(n1:1<=n)(n7:n<=20):∃fs:Ln,zQ [LR fl ns,.int n]=.ok (.lst .own (prL fs))/\(∀p∈fs,0<=p.1/\p.1<n)/\fs.length<=3:=by
 suffices hh:jw (DH [LV fl ns,LS n,none,none,none,none]) (λv=>∃fs:Ln,v=.lst .own (prL fs)/\(∀p∈fs,0<=p.1/\p.1<n)/\fs.length<=3) by obtain⟨v,h1,fs,rfl,h2⟩:=hh;exact⟨fs,az h1,h2⟩
 have np:(0:Int)<n:=by lia
 have cl:∀k:Nat,d4 [LR fl ns,.int k]=.ok (.int (cell ns k)):=λk=>qo ns k h;have c4:d4 [LR fl ns,.int 4]=.ok (.int (cell ns 4)):=cl 4;have mu:cK (.int (cell ns 4)) (.int 48271)=.ok (.int (cell ns 4*48271)):=dF (.inr ⟨by decide,by decide⟩);obtain⟨c,hc⟩:∃c,cell ns 4*48271%2147483647=c:=⟨_,rfl⟩
 have d3:eO (.int c) (.int 3)=.ok (.int (c / 3)):=fB () ();obtain⟨m,hm⟩:∃m:Nat,1+c%3=m:=⟨(1+c%3).toNat,by lia⟩
 refine cw (av (v:=.int c) (by simp[h.LD,h.LF,c4,aD,mu,bR,hc])) ?_;refine cw (av (v:=.lst .own []) ()) ?_;refine hZ (λk e=>∃fs x4 x5,e=[LV fl ns,LS n,LS c,some (.lst .own (prL fs)),x4,x5]/\(∀p∈fs,0<=p.1/\p.1<n)/\fs.length=k) (bp (n:=m) (by simp[bR,hm]) ()) ⟨[],_,_,rfl,nofun,rfl⟩ (λk x e hx hP=>?_) (λe hP=>?_)
 .obtain⟨fs,x4,x5,rfl,hf,hl⟩:=hP;obtain⟨hk,rfl⟩:=dD hx;have ck:d4 [LR fl ns,.int (5+(k:Int))]=.ok (.int (cell ns (5+k))):=by have:=cl (5+k);simpa using this
  generalize cell ns (5+k)=z at ck;have d7:eO (.int z) (.int 7)=.ok (.int (z / 7)):=fB () ();have p59:rA (.int 10) (.int 59)=.ok (.int 100000000000000000000000000000000000000000000000000000000000):=by rfl
  have m2:cK (.int 2) (.int 100000000000000000000000000000000000000000000000000000000000)=.ok (.int 200000000000000000000000000000000000000000000000000000000000):=by rfl
  have mm:dM (.int (z / 7)) (.int 200000000000000000000000000000000000000000000000000000000000)=.ok (.int (z / 7%200000000000000000000000000000000000000000000000000000000000)):=bR ();generalize z / 7%200000000000000000000000000000000000000000000000000000000000=w at mm;refine⟨_,cE rfl,?_⟩;simp only[s1_,Int.zero_add];refine bP (av (v:=.int (c / 3%n)) (by simp[d3,bR np])) ?_;have last:∀a:Int,0<=a->a<n->kE (dJ 3 (kW (ae (aa 5) (ae (mOp eM (mOp dM (mOp eO (aq (aM d4) (ae (aa 0) (ae (mOp aO (LP 5) (aa 4)) am))) (LP 7)) (mOp cK (LP 2) (mOp rA (LP 10) (LP 59)))) (mOp rA (LP 10) (LP 59))) am))) [LV fl ns,LS n,LS c,some (.lst .own (prL fs)),LS k,LS a]) (λe=>∃fs x4 x5,e=[LV fl ns,LS n,LS c,some (.lst .own (prL fs)),x4,x5]/\(∀p∈fs,0<=p.1/\p.1<n)/\fs.length=k+1):=λa a0 a1=>
   bC (fD (v:=prV (a,w - 100000000000000000000000000000000000000000000000000000000000)) (by simp [h.LD,h.LF,ck,aD,d7,p59,m2,mm,prV]) rfl () (by rw [j_];lia)) ⟨fs ++ [(a,w - 100000000000000000000000000000000000000000000000000000000000)],LS k,LS a,by simp [prL],λp hp=>by
    rcases mem_append.mp hp with hp|hp
    .exact hf p hp
    .rw[List.mem_singleton.mp hp];exact⟨a0,a1⟩,by simp[hl]⟩
  by_cases q:(k:Int)=0\/c%2=0
  .refine bP (gh ?_ (av (v:=.int (z%n)) (by simp[h.LD,h.LF,ck,aD,bR np]))) (last _ (emod_nonneg _ ()) (emod_lt_of_pos _ np));by_cases q1:k=0
   .simp[q1]
   .have q2:c%2=0:=by lia
    simp[bR,q2]
  .refine bP (b8 ?_ aE) (last _ (emod_nonneg _ ()) (emod_lt_of_pos _ np));simp[show ¬k=0 by lia,bR,show ¬c%2=0 by lia]
 .obtain⟨fs,x4,x5,rfl,hf,hl⟩:=hP;rw[aQ]at hl;exact eE (d_ rfl) ⟨fs,rfl,hf,by lia⟩
theorem xj(h:Scr fl)(hl:ns.length<=63)(n1:1<=n)(n7:n<=20)(al:Bool):∃tns:List (Lq),zP [LR fl ns,.int n,.bl al]=.ok (.lst .own (llL .own tns))/\(∀nm∈tns,pF n al nm)/\tns.length<=63:=by
 have np:(0:Int)<n:=by lia
 have ec:jN (iL ns) (some 4) (some 204)=iL ((ns.take 204).drop 4):=GH ns 4 204 rfl rfl;have yl:((ns.take 204).drop 4).length<=63:=by simp;lia
 generalize(ns.take 204).drop 4=ys at ec yl
 let F:Int->Lq:=λz=>if al then [z / 5%n]else((range n).filter λk:Nat=>decide (Builtin.bitAnd (z / 2 ^ k) 1=1)).map λk:Nat=>(k:Int)
 refine⟨ys.map F,az ?_,λnm hm=>?_,by simpa using yl⟩
 .show DD [LV fl ns,LS n,some (.bl al)]=_;rw[show llL .own (ys.map F)=ys.map λz=>LQ (F z) by simp[llL]];have nb:(PV.lst .own (ys.map λz=>LQ (F z))).LL=true:=by have:=eR (ys.map F) Fl.LJ .own rfl;rw[show llL .own (ys.map F)=ys.map λz=>LQ (F z) by simp[llL]]at this;simp only[yO,Cm,this];rfl
  cases al with
  |true=>refine dy (gh () (a9 ?_ nb));refine aF (xs:=iL ys) (by simp[h.LD,ec]) (by rw[aX];lia) ?_;exact bv ys λz _=>⟨[some (.int n),some (.int z)],by simp[tgN,aH,bF],by simp[fB (show(0:Int)<5 by decide) (),bR np,F],by simp,by simp⟩
  |false=>refine af (b8 () aE) (a9 ?_ nb);refine aF (xs:=iL ys) (by simp[h.LD,ec]) (by rw[aX];lia) ?_;exact bv ys λz _=>⟨[some (.int n),some (.int z)],by simp[tgN,aH,bF],aF (bp () ()) (by rw[aQ];lia) (eC (λk:Nat=>decide (Builtin.bitAnd (z / 2 ^ k) 1=1)) (λk=>(k:Int)) n λk hk=>⟨[some (.int z),some (.int (0+k))],by simp[tgN,aH,bF],by simp[EU,gu,yt],λ_=>by simp⟩),by simp,by simp⟩
 .obtain⟨z,_,rfl⟩:=mem_map.mp hm;cases al with
  |true=>exact⟨by simp[F],λx hx=>by simp[F]at hx;rw[hx];exact⟨emod_nonneg _ (),emod_lt_of_pos _ np⟩,λ_=>by simp[F],by simp[F]⟩
  |false=>
   refine⟨Pairwise.map _ (λa b h e=>h ()) (nodup_range.filter _),λx hx=>?_,nofun,?_⟩
   .obtain⟨k,hk,rfl⟩:=mem_map.mp hx;have:=mem_range.mp (mem_filter.mp hk).1
    lia
   .have:=length_filter_le (λk:Nat=>decide (Builtin.bitAnd (z / 2 ^ k) 1=1)) (range n);simp only[F,length_map,Bool.false_eq_true,if_false];rw[length_range]at this
    lia
end
end
section
section
variable{n:Nat}{sp:Int}
theorem oP{c:Nat}(n2:2<=n)(s2:2<=sp)(ha:0<=a/\a<sp)(hb:0<=b/\b<sp)(c1:1<=c)(cn:c<=n):caR n true (fZ sp) (replicate c a++replicate (n-c) b)=true:=by
 have gl:∀i,i<n->gt (replicate c a++replicate (n-c) b) i=if i<c then a else b:=λi hi=>by
  unfold gt;by_cases q:i<c
  .simp[q,getElem?_append_left]
  .rw[if_neg q,getD_eq_getElem?_getD,getElem?_append_right (by simp;lia)];simp[show i-c<n-c by lia]
 have hl:(replicate c a++replicate (n-c) b).length=n:=by simp;lia
 by_cases q:a=b
 .subst q;exact qk ⟨hl,by lia,λi hi=>by lia,λi _ hi=>by rw[gl i hi,ite_self],ha,ha,λz=>absurd rfl z⟩ s2
 .by_cases q2:c=n
  .exact qk ⟨hl,by lia,λi hi=>by lia,λi _ hi=>by rw[gl i hi,if_pos ()],hb,ha,λz=>absurd rfl z⟩ s2
  .exact qk (p:=c) ⟨hl,by lia,λi hi=>by rw[gl i (),if_pos hi],λi h1 hi=>by simp_all,ha,hb,λ_=>q⟩ s2
end
def CK(h:caR n false D cs=true):∀i,i<n->D cs i=gt cs i:=nt h
section
variable{k n:Nat}{ws:Ln}{pa ms:Lq}{r:Nat}{sp sp':Int}{al ip:Bool}{D:Lq->Nat->Int}{o:PV}{fl:Fl}{ns:Lq}
theorem yo(T:Td k n ws pa ms r sp)(cn:c0.length=n)(hc:caR n false (lw (bw (ws.map mm))) c0=true){x1 x3 x5 x6:Option PV}:jw (aw (aG 7 (fv am)) (aw (dq (bH (ae (aa 2) am)) (tgN 4)
  (aw (aG 8 (aL [4,7] 1 (bK (aq (aM r8) (ae (aa 0) (ae (aa 4) am)))) (tgN 2) (aA (mOp pLt (aa 2) (aa 0))) (mOp aB (aa 1) (aa 2))))
  (dJ 7 (aq (p1 (eF fP)) (ae (aL [8] 1 (bH (ae (aa 2) am)) (tgN 1) (aA (mOp fj (aa 1) (aa 0))) (aa 1)) am)))))
  (dI 7)) [some (tdV k n ws pa ms r sp),x1,LS n,x3,none,x5,x6,none,none]) (λv=>v=LQ c0):=by
 have n7:=T.n7;have rg:∀x∈bw (ws.map mm),0<=x.1/\x.1<n/\0<=x.2/\x.2<n/\x.1≠x.2:=λx hx=>by
  obtain⟨w,hw,rfl⟩:=mem_map.mp ((b5 _).mem_iff.mp hx);have:=T.wh.rg w hw;simp only[mm]
  lia
 refine cw (av (v:=.lst .own []) ()) ?_;refine hZ (λi e=>∃x4 x8,e=[some (tdV k n ws pa ms r sp),x1,LS n,x3,x4,x5,x6,LU (c0.take i),x8]) (bp (n:=n) () ()) ⟨_,_,rfl⟩ (λi x e hx hP=>?_) (λe hP=>?_)
 .obtain⟨x4,x8,rfl⟩:=hP;obtain⟨hi,rfl⟩:=dD hx;obtain⟨L,hL,_,Lm,Ll⟩:=nJ T;have ci:=CK hc i hi;have dr:=vA (cs:=c0) rg hi;rw[ci]at dr;unfold lw at ci;obtain⟨s1,s2⟩:=nv ((kY (bw (ws.map mm)) i).map λo=>gt c0 o.toNat);obtain⟨tk,htk⟩:∃tk,(L.filter λo=>decide (o <(i:Int))).map (λo=>gt c0 o.toNat)=tk:=⟨_,rfl⟩
  have tm:∀x,x∈tk↔x ∈(kY (bw (ws.map mm)) i).map λo=>gt c0 o.toNat:=λx=>by
   rw[<- htk,mem_map,mem_map];constructor
   .exact λ⟨o,ho,e⟩=>⟨o,mem_filter.mpr ⟨(Lm o).mp (mem_filter.mp ho).1,(mem_filter.mp ho).2⟩,e⟩
   .exact λ⟨o,ho,e⟩=>⟨o,mem_filter.mpr ⟨(Lm o).mpr (mem_filter.mp ho).1,(mem_filter.mp ho).2⟩,e⟩
  generalize kT ((kY (bw (ws.map mm)) i).map λo=>gt c0 o.toNat)=m at ci s1 s2;refine⟨_,cE rfl,?_⟩;simp;refine bP (av (v:=LQ tk) ?_) ?_
  .refine aF (xs:=iL L) (by simp[hL,aD]) (by rw[aX];lia) ?_;rw[<- htk];refine dO (λo=>decide (o <(i:Int))) (λo=>gt c0 o.toNat) L λo ho=>⟨[LS i,LV .bor (c0.take i),LS o],by simp[tgN,aH,bF],by simp,λq=>?_⟩
   have o0:0<=o:=by
    rcases gx.mp ((Lm o).mp ho)with z|z
    .have:=rg _ z;lia
    .have:=rg _ z;lia
   have:=bX (f:=.bor) (cs:=c0.take i) o0 (by rw[length_take];lia);rw[show gt (c0.take i) o.toNat=gt c0 o.toNat by simp[gt,show o.toNat<i by lia]]at this;simp[this]
  simp;have cc:aL [8] 1 (bH (ae (aa 2) am)) (tgN 1) (aA (mOp fj (aa 1) (aa 0))) (aa 1) [some (tdV k n ws pa ms r sp),x1,LS n,x3,LS i,x5,x6,LU (c0.take i),LU tk]=.ok (LQ (((range n).filter λc:Nat=>!tk.contains (c:Int)).map λc:Nat=>(c:Int))):=
   aF (bp () ()) (by rw[aQ];lia) (eC (λc:Nat=>!tk.contains (c:Int)) (λc=>(c:Int)) n λc hc=>⟨[LV .bor tk,LS (0+c)],by simp[tgN,aH,bF],by simp,λ_=>by simp⟩)
  have mm':(m:Int) ∈ ((range n).filter λc:Nat=>!tk.contains (c:Int)).map λc:Nat=>(c:Int):=mem_map.mpr ⟨m,mem_filter.mpr ⟨mem_range.mpr (),by
   have:(m:Int)∉ tk:=λz=>s1 ((tm _).mp z);simpa using this⟩,rfl⟩
  obtain⟨i1,i2⟩:=fO (List.ne_nil_of_mem mm');have le:=i2 _ mm';have ge:(m:Int)<= fP (((range n).filter λc:Nat=>!tk.contains (c:Int)).map λc:Nat=>(c:Int)):=by
   obtain⟨c,hcm,e⟩:=mem_map.mp i1;have c1:(c:Int)∉ tk:=by simpa using(mem_filter.mp hcm).2
   exact Classical.byContradiction λz=>c1 ((tm _).mpr (s2 c ()))
  have pm:eF fP (LQ (((range n).filter λc:Nat=>!tk.contains (c:Int)).map λc:Nat=>(c:Int)))=.ok (.int (gt c0 i)):=by unfold eF;simp only[a_,ik];rw[if_neg (λz=>List.ne_nil_of_mem mm' (List.isEmpty_iff.mp z)),show fP _=gt c0 i by lia]
  generalize((range n).filter λc:Nat=>!tk.contains (c:Int)).map (λc:Nat=>(c:Int))=C at cc pm;refine bC (fD (v:=.int (gt c0 i)) (by simp only[fF,cZ,cc];simp[p1,pm]) rfl () (by simp;lia)) ⟨LS i,LU tk,?_⟩;rw[take_succ,show c0[i]?=some (gt c0 i) by simp[gt,show i<c0.length by lia]];simp[iL]
 .obtain⟨x4,x8,rfl⟩:=hP;rw[aQ,<- cn,take_length];exact eE (d_ rfl) rfl
theorem At(T:Td k n ws pa ms r sp)(K:Kn n (bw (ws.map mm)) pa ms r sp k sp' ip D)(R:Rl o n sp' al ip D)(X:Kx o n sp' ip D)(h:Scr fl):∃c0,zD [tdV k n ws pa ms r sp,LR fl ns]=.ok (LQ c0)/\c0.length=n/\InS sp' c0/\caR n ip D c0=true:=by
 have n1:=T.n1;have n7:=T.n7;have sn:=T.sn;have np:(0:Int)<n:=by lia
 have c3:d4 [LR fl ns,.int 3]=.ok (.int (cell ns 3)):=qo ns 3 h;generalize cell ns 3=c at c3;have st:∀rest:MS,GY=(aw (aG 2 (mUn (b6 0 1) (aa 0))) (aw (aG 3 (aq (aM d4) (ae (aa 1) (ae (LP 3) am)))) rest))->∀v,rest [some (tdV k n ws pa ms r sp),LV fl ns,LS n,LS c,none,none,none,none,none]=.ret v->zD [tdV k n ws pa ms r sp,LR fl ns]=.ok v:=λrest e v hv=>by refine az ?_;show GY [some (tdV k n ws pa ms r sp),LV fl ns,none,none,none,none,none,none,none]=_;rw[e];refine af (av (v:=.int n) (by simp[kF])) (af (av (v:=.int c) (by simp[h.LD,h.LF,c3,aD])) ?_);exact hv
 have e0:pEq (.str (kiS k)) (.str "pass")=.ok (.bl (decide (k=0))):=by
  have:=T.k6;have:k=0\/k=1\/k=2\/k=3\/k=4\/k=5:=by lia
  rcases this with rfl|rfl|rfl|rfl|rfl|rfl<;>exact ee (by decide +kernel)
 have e1:pEq (.str (kiS k)) (.str "paint")=.ok (.bl (decide (k=1))):=by
  have:=T.k6;have:k=0\/k=1\/k=2\/k=3\/k=4\/k=5:=by lia
  rcases this with rfl|rfl|rfl|rfl|rfl|rfl<;>exact ee (by decide +kernel)
 cases ip with
 |true=>
  cases K with
  |pass=>
   have n2:=T.p2 rfl;have s0:0<sp:=by lia
   have d3:eO (.int c) (.int 3)=.ok (.int (c / 3)):=fB () ();have d7:eO (.int c) (.int 7)=.ok (.int (c / 7)):=fB () ();have d49:eO (.int c) (.int 49)=.ok (.int (c / 49)):=fB () ();obtain⟨p,hp⟩:∃p:Nat,c / 3%(n:Int)=p:=⟨(c / 3%(n:Int)).toNat,by have:=emod_nonneg (c / 3) (show(n:Int)≠ 0 by lia);lia⟩
   have pn:p<n:=by have:=emod_lt_of_pos (c / 3) np;lia
   have a1:=emod_nonneg (c / 7) (show sp≠0 by lia);have a2:=emod_lt_of_pos (c / 7) s0;have b1:=emod_nonneg (c / 7%sp+1+c / 49%(sp-1)) (show sp≠0 by lia);have b2:=emod_lt_of_pos (c / 7%sp+1+c / 49%(sp-1)) s0;have rep:∀(a:Int) (m:Nat),(range m).map (λ_=>a)=replicate m a:=λa m=>by rw[List.map_const',length_range]
   have cp:∀(j m:Nat) (a:Int) (mi:ME) (env:En),env[j]?=some (LS a)->m<=100->mi env=.ok (.int m)->aL [j] 1 (bH (ae mi am)) (tgN 1) bJ (aa 0) env=.ok (LQ (replicate m a)):=λj m a mi env hj hm he=>by rw[<- rep];exact aF (bp (by simp[he]) ()) (by rw[aQ];lia) (eG 0 (λ_=>a) m λk hk=>⟨[LS a,LS (0+k)],by simp[tgN,aH,bF,hj],by simp⟩)
   have ca:caR n true (fZ sp) (replicate p (c / 7%sp)++ replicate (n-p) ((c / 7%sp+1+c / 49%(sp-1))%sp))=true:=by
    by_cases q:p=0
    .have:=oP n2 () ⟨b1,b2⟩ ⟨b1,b2⟩ () (Nat.le_refl n);simpa[q]using this
    .exact oP n2 () ⟨a1,a2⟩ ⟨b1,b2⟩ () ()
   refine⟨_,st _ rfl _ (dy (gh (by simp[jt,e0]) ?_)),by simp;lia,λx hx=>?_,ca⟩
   .refine af (av (v:=.int p) (by simp[d3,bR np,hp])) ?_;refine af (av (v:=.int (c / 7%sp)) (by simp[Ea,d7,bR s0])) ?_;refine af (av (v:=.int ((c / 7%sp+1+c / 49%(sp-1))%sp)) (by simp[Ea,d49,bR s0,bR (show 0<sp-1 by lia)])) ?_;refine a9 ?_ ();generalize c / 7%sp=a at *;generalize(a+1+c / 49%(sp-1))%sp=b at *;rw[jD,cp 5 p a _ _ rfl () (),cp 6 (n-p) b _ _ rfl () (by simp;lia)];simp;rw[dY () () (by simp;lia)];simp
   .rcases mem_append.mp hx with hx|hx
    .simp_all
    .simp_all
 |false=>
  have z1:(replicate n (0:Int)).length=n:=by simp
  have z2:InS sp' (replicate n (0:Int)):=λx hx=>by rw[List.eq_of_mem_replicate hx];exact⟨by lia,R.s0⟩
  obtain⟨l1,l2⟩:=(Sp.of R).swK z1 z2 (2*n);have cc:=X.cv rfl _ z1 z2;generalize swK n D (2*n) (replicate n 0)=c0 at *;refine⟨c0,?_,l1,l2,cc⟩;have fin:k≠0->k≠1->jB [tdV k n ws pa ms r sp]=.ok (LQ c0)->zD [tdV k n ws pa ms r sp,LR fl ns]=.ok (LQ c0):=λk0 k1 hr=>
   st _ rfl _ (af (b8 (by simp[jt,e0,k0]) aE) (af (b8 (by simp[jt,e1,k1]) aE) (a9 (by simp[hr,aD]))))
  cases K with
  |paint=>obtain⟨v,hv,rfl⟩:=yo T l1 cc;exact st _ rfl _ (af (b8 (by simp[jt,e0]) aE) (dy (gh (by simp[jt,e1]) hv)))
  |count=>exact fin () () (HY T l1 cc)
  |far=>exact fin () () (HX T l1 l2 cc)
  |lead=>exact fin () () (HW T l1 cc)
  |grow=>exact fin () () (HV T l1 l2 cc)
end
end
section
def FP{d:Nat->Option (LB->LC)}{r:Res (LB)}{x:PV}(h:x.LM Fl.LF=o)(ho:o.LM Fl.LF=o):dQ d r x=dQ d r o:=by
 subst h;cases x with
 |obj f c ks vs=>
  rw[PV.LM]at ho ⊢;unfold dQ;dsimp only;cases d c with
  |none=>rfl
  |some m=>
   cases r with
   |ok xs=>simp only[Av,wD,ho];rfl
   |exc c|stuck=>rfl
 |_=>first|rfl|simp[dQ]
def tl1(t:Lq)(p:Lq×Lq):Lq:=t++p.1.filter λa=>!t.contains a
def tfd(w:List (Lq×Lq)):Lq:=w.foldl tl1 []
def uF:∀(w:List (Lq×Lq)) (t:Lq),t.Nodup->(∀p∈w,p.1.Nodup)->(w.foldl tl1 t).Nodup/\∀x,x∈w.foldl tl1 t↔x∈t\/∃p∈w,x∈p.1
 | [],t,h,_=>⟨h,λx=>by simp⟩
 |p::w,t,h,hw=>by
  have n1:(tl1 t p).Nodup:=by unfold tl1;rw[nodup_append];exact⟨h,(hw p mem_cons_self).filter _,λa ha b hb e=>by simp_all⟩
  obtain⟨h1,h2⟩:=uF w (tl1 t p) n1 λq hq=>hw q (mem_cons_of_mem _ hq);refine⟨h1,λx=>?_⟩;rw[foldl_cons,h2];have:x∈tl1 t p↔x∈t\/x∈p.1:=by unfold tl1;by_cases q:x∈t<;>simp[q]
  rw[this,or_assoc];simp
def xm{w:List (Lq×Lq)}{k:Nat}{p:Lq×Lq}(h:w[k]?=some p):tfd (w.take (k+1))=tl1 (tfd (w.take k)) p:=by rw[take_succ,h];simp[tfd]
section
variable{n:Nat}{D:Lq->Nat->Int}
def uO:∀(tns:List (Lq)) (cs:Lq),∀p∈fL n D cs tns,p.1.Nodup/\∀x∈p.1,0<=x/\x<n
 | [],_,p,h=>nomatch h
 |nm::tns,cs,p,h=>by
  rcases mem_cons.mp h with rfl|h
  .exact⟨Pairwise.filter _ (Pairwise.map _ (λa b h e=>h ()) (nodup_range.filter _)),λx hx=>FO x (mem_filter.mp hx).1⟩
  .exact uO tns _ p h
def mW{R:Nat->Bool}:x∈pick n R↔∃i:Nat,i<n/\R i=true/\x=i:=by
 unfold pick;rw[mem_map];constructor
 .exact λ⟨i,h,e⟩=>⟨i,mem_range.mp (mem_filter.mp h).1,(mem_filter.mp h).2,e.symm⟩
 .exact λ⟨i,h1,h2,e⟩=>⟨i,mem_filter.mpr ⟨mem_range.mpr h1,h2⟩,e.symm⟩
theorem qH{w:List (Lq×Lq)}(hw:∀p∈w,p.1.Nodup/\∀x∈p.1,0<=x/\x<n):iU (tfd w)=pick n (gX w)/\(tfd w).length<=n/\∀x∈tfd w,x∈pick n (gX w):=by
 obtain⟨h1,h2⟩:=uF w [] nodup_nil λp hp=>(hw p hp).1;have m:∀x,x∈pick n (gX w)↔ x∈tfd w:=λx=>by
  unfold tfd;rw[h2,mW];constructor
  .rintro⟨i,_,h3,rfl⟩;obtain⟨p,hp,h4⟩:=any_eq_true.mp h3;exact .inr ⟨p,hp,by simp_all⟩
  .rintro(z |⟨p,hp,h4⟩)
   .exact nomatch z
   .have:=(hw p hp).2 x h4;exact⟨x.toNat,by lia,any_eq_true.mpr ⟨p,hp,by rw[toNat_of_nonneg this.1];simpa using h4⟩,by lia⟩
 have pn:(pick n (gX w)).Pairwise (· < ·):=Pairwise.map _ (λa b h=>by lia) (List.pairwise_lt_range.filter _);have pm:(pick n (gX w)).Perm (tfd w):=(List.perm_ext_iff_of_nodup (pn.imp λh=>by lia) h1).mpr m;refine⟨(mF pm (pn.imp λh=>by lia)).symm,?_,λx hx=>(m x).mpr hx⟩;rw[<- pm.length_eq];unfold pick;rw[length_map];exact Nat.le_trans (length_filter_le _ _) ()
end
theorem Dh:∀{l:List (Lq)},(∀j,fcR P l=some j->(∃c,l[j]?=some c/\P c=true)/\∀i,i<j->∀d,l[i]?=some d->P d=false)/\(fcR P l=none->∀(i:Nat) d,l[i]?=some d->P d=false)
 | []=>⟨λj h=>by simp[fcR]at h,λ_ i d h=>by simp at h⟩
 |c::l=>by
  obtain⟨h1,h2⟩:=Dh;unfold fcR;cases q:P c with
  |true=>exact⟨λj h=>by simp at h;subst h;exact⟨⟨c,rfl,q⟩,λi hi=>absurd hi (not_lt_zero i)⟩,λh=>by simp at h⟩
  |false=>
   constructor
   .intro j h;obtain⟨j',e,rfl⟩:=map_eq_some_iff.mp h;obtain⟨h3,h4⟩:=h1 j' e;refine⟨by simpa using h3,λi hi d hd=>?_⟩;cases i with
    |zero=>simp at hd;subst hd;exact q
    |succ i=>exact h4 i () d (by simp_all)
   .intro h i d hd;cases i with
    |zero=>simp at hd;subst hd;exact q
    |succ i=>exact h2 (by simpa using h) i d (by simp_all)
def upto(b:Option Nat)(k:Nat):Option Nat:=b.filter λj=>decide (j<k)
theorem D7{l:List (Lq)}{c:Lq}(h:l[k]?=some c):upto (fcR P l) (k+1)=if(upto (fcR P l) k).isNone&&P c then some k else upto (fcR P l) k:=by
 obtain⟨h1,h2⟩:=Dh;cases e:fcR P l with
 |none=>have:=h2 e k c h;simp[upto,this]
 |some j=>
  obtain⟨⟨d,hd,pd⟩,h4⟩:=h1 j e;by_cases q:j<k
  .simp[upto,Option.filter,q,show j<k+1 by lia]
  .by_cases q2:j=k
   .subst q2;rw[h]at hd;cases hd;simp[upto,Option.filter,pd]
   .have:=h4 k () c h;simp[upto,Option.filter,q,show ¬j<k+1 by lia,this]
theorem AS{b:Option Nat}{rows:List (Lq×Lq)}:(upto b (k+1)=none->(cV b rows)[k]?=rows[k]?)/\(upto b (k+1)≠ none->(cV b rows).take (k+1)=(cV b rows).take k):=by
 cases b with
 |none=>simp[upto,cV]
 |some j=>
  by_cases q:j<k+1
  .simp[upto,Option.filter,q,cV]
   lia
  .simp[upto,Option.filter,q,cV,show k<j by lia]
end
section
theorem law_true(fl:Fl)(ns:Lq)(h:Scr fl)(hl:ns.length<=63):Dk [.lst fl (ns.map .int)]=.ok (.bl true):=by
 rw[zj];obtain⟨k,n,ws,pa,ms,r,sp0,htd,T⟩:=AX fl ns h;obtain⟨O,o,sp,al,ip,D,hru,K,kn,X,eal⟩:=Br T;have n1:=T.n1;have n7:=T.n7;obtain⟨c0,hc0,cl,ci,cc⟩:=At (ns:=ns) T kn K.r X h;obtain⟨fs,hfs,ff,fl3⟩:=wR (ns:=ns) (n:=n) h n1 ();obtain⟨tns,htn,tg,tl⟩:=xj (ns:=ns) (n:=n) h hl n1 () al;have tdb:(tdV k n ws pa ms r sp0).has Fl.LK=false:=xo _ rfl;have tdl:(tdV k n ws pa ms r sp0).LL=true:=by simp[PV.LL,xo Fl.LJ rfl]
 have ekd:pIn (.str (kiS k)) (.lst .own [.str "far",.str "lead",.str "grow"])=.ok (.bl al):=by
  have k6:=T.k6;rw[eal];have:k=0\/k=1\/k=2\/k=3\/k=4\/k=5:=by lia
  rcases this with rfl|rfl|rfl|rfl|rfl|rfl<;>exact ee (by decide +kernel)
 refine az (v:=.bl true) ?_;show AL [LV fl ns,none,none,none,none,none,none,none,none,none,none,none,none,none,none,none,none]=_;unfold AL;refine af (av (v:=tdV k n ws pa ms r sp0) (by simp[h.LD,h.LF,htd,aD,tdb]) tdl rfl) ?_;simp only[s0_,s1_];refine af (av (v:=.int n) (by simp[kF])) ?_;simp only[s0_,s1_];refine af (av (v:=O) (by simp[hru,aD,K.own]) K.nl rfl) ?_;simp only[s0_,s1_];refine af (av (v:=LQ c0) (by simp[h.LD,h.LF,hc0,aD])) ?_;simp only[s0_,s1_];refine af (av (v:=.lst .own (prL fs)) (by simp[h.LD,h.LF,hfs,aD])) ?_;simp only[s0_,s1_];have tb:hasL Fl.LK (llL .own tns)=false:=eR _ _ _ rfl;have tn:hasL Fl.LJ (llL .own tns)=false:=eR _ _ _ rfl;refine af (av (v:=.lst .own (llL .own tns)) ?_ (by simp[tn]) rfl) ?_
 .simp only[fF,jD,Dl,lv,cZ,eT,gU,Gx,getElem?_cons_zero,getElem?_cons_succ,kM,Res.LO,HG,jt,ekd];simp[h.LD,h.LF,htn,aD,tb]
 simp only[s0_,s1_];clear ekd hc0 hfs htn hru htd;generalize tdV k n ws pa ms r sp0=td at *;have lm:∀(d:Nat->Option (LB->LC)) (x:Res (LB)),dQ d x (O.LM Fl.LD)=dQ d x o:=λd x=>FP K.lb K.r.tb;have ca:∀(cs:Lq),cs.length=n->InS sp cs->dQ bh (.ok [LQ cs]) o=.ok (.bl (caR n ip D cs)):=λcs h1 h2=>vK (f:=.own) K.r (.inr rfl) h1 h2;have c1:=ca c0 cl ci;rw[cc]at c1;refine af (b8 (by simp[lm,c1]) aE) ?_;have so:=qN (c0:=c0) (fs:=fs) (f:=.own) (g:=.own) (.inr rfl) () (by rw[cl];exact ff);have me:=B8 (c0:=c0) (fs:=fs) (tns:=tns) (f:=.bor) (g:=.bor) (ft:=.bor) (fi:=.bor) K.r (.inl rfl) (.inl rfl) (.inl rfl) (.inl rfl) cl ff tg ();have wl:(wr c0 fs).length=n:=(sM fs c0).trans cl;have rd:=pX (f:=.own) (rs:=wr c0 fs) K.r wl;have ru:=xK (f:=.own) (rs:=wr c0 fs) (tns:=tns) (ft:=.own) (fi:=.own) K.r (.inr rfl) (.inr rfl) wl tg ();have sp1:=xA K.r.s0 cl ci ff fs.length (Nat.le_refl _);rw[take_length]at sp1;obtain⟨s1,s2⟩:=sp1.in_ cl ci;obtain⟨M,mo,sn,mq,mo1,sq,bd⟩:=X.ms;obtain⟨Rc,hR1,hR2,hR3⟩:=X.rc (fs.map (·.1));have mb:=bd c0 _ _ cl ci cc sp1;obtain⟨sq1,sq2⟩:=sq fs.length ();have me1:=mq .own _ (.inr rfl) s1 s2;have rin:=pU K.r tns ((wr c0 fs).map (· % sp)) s1 s2;have rlen:=jX (n:=n) (D:=D) tns ((wr c0 fs).map (· % sp));have rp:=uO (n:=n) (D:=D) tns ((wr c0 fs).map (· % sp));have tin:=mB (c0:=c0) (n:=n) (D:=D) (R:=Rc) (λcs h i hi hd=>hR3 c0 cs cc h i hi hd) tns ((wr c0 fs).map (· % sp)) (λi hi hr=>by
  have e:∀p∈fs,p.1.toNat≠i:=λp hp z=>by
   have hh:=ff p hp;have:Rc i=true:=hR2 i (by
    rw[List.contains_iff_mem];exact mem_map.mpr ⟨p,hp,by lia⟩)
   rw[this]at hr;cases hr
  have e2:=D6 e c0;have hin:=ci _ (cS (far:=c0) (i:=i) ());have e3:gt ((wr c0 fs).map (· % sp)) i=gt (wr c0 fs) i%sp:=by
   have:i <(wr c0 fs).length:=by lia
   simp[gt,this]
  rw[e3,e2,emod_eq_of_lt hin.1 hin.2])
 refine af (av (v:=LQ (wr c0 fs)) (by simp[so,aD])) ?_;simp only[s0_,s1_];refine af (av (v:=LQ ((wr c0 fs).map (· % sp))) (by simp[lm,K.r.rd,K.r.tb,rd,aD])) ?_;simp only[s0_,s1_];generalize(wr c0 fs).map (· % sp)=s0 at *;generalize wr c0 fs=S at *;have pl:(prL fs).length=fs.length:=by simp[prL]
 refine af (av (v:=.int (sn fs.length)) (by simp[lm,pl,sq1])) ?_;simp only[s0_,s1_];refine af (b8 ?_ aE) ?_
 .simp only[vz,qg,Ae,gU,um,cZ,eT,fF];simp[lm,me1,mo1,f8,mb,sq2,wv]
 generalize fL n D s0 tns=rows at *;obtain⟨b,hb⟩:∃b,fcR (caR n ip D) (s0::rows.map (·.2))=b:=⟨_,rfl⟩
 rw[hb]at me;have wr':∀p∈cV b rows,p∈rows:=λp hp=>by
  cases b with
  |none=>exact hp
  |some j=>exact mem_of_mem_take hp
 obtain⟨t1,t2,t3⟩:=qH (n:=n) (w:=cV b rows) λp hp=>rp p (wr' p hp);have cpy:∀env:En,env[6]?=some (some (.lst .own (llL .own tns)))->aL [] 1 (bK (aa 6)) (tgN 0) bJ (aq (p1 da) (ae (aa 0) am)) env=.ok (.lst .own (llL .own tns)):=λenv he=>
  aF (xs:=llL .lnt tns) (ys:=llL .own tns) (by simp[he]) (by rw[qa];lia) (bv (a:=λnm=>LR .lnt nm) (f:=λnm=>LQ nm) tns λnm _=>⟨[LV .bor nm],by simp[tgN,aH,bF,dB,PV.LH],by simp,by simp,by simp⟩)
 refine af (av (v:=hV .own .own .own .own .own c0 fs tns) ?_ (by simp[hV,PV.LL,PV.has,hasL,tn]) rfl) ?_
 .simp only[lv,cZ,eT];rw[cpy _ rfl];simp[hV]
 simp only[s0_,s1_];have hle:(hV .own .own .own .own .own c0 fs tns).LM Fl.LD=hV .lnt .lnt .lnt .lnt .lnt c0 fs tns:=by simp[hV]
 have i0:aB (hV .lnt .lnt .lnt .lnt .lnt c0 fs tns) (.int 0)=.ok (LR .lnt c0):=eA (k:=0) rfl rfl ();have i1:aB (hV .lnt .lnt .lnt .lnt .lnt c0 fs tns) (.int 1)=.ok (.lst .lnt (prL fs)):=eA (k:=1) rfl rfl ();have i2:aB (hV .lnt .lnt .lnt .lnt .lnt c0 fs tns) (.int 2)=.ok (.lst .lnt (llL .lnt tns)):=eA (k:=2) rfl rfl (by simp[eR _ Fl.LI .lnt rfl]);have nb:(nV b).has Fl.LK=false:=by cases b<;>simp[nV,PV.has]
 have nn:(nV b).has Fl.LJ=false:=by cases b<;>simp[nV,PV.has]
 have nl:∀g,(nV b).LM g=nV b:=λg=>by cases b<;>simp[nV]
 refine af (av (v:=.tup [LQ (pick n (gX (cV b rows))),nV b]) (by simp[hle,i0,i1,i2,K.lb,me,aD,PV.has,hasL,nb]) (by simp[PV.LL,PV.has,hasL,nn]) rfl) ?_;simp only[s0_,s1_];have nh:pNe (hV .lnt .lnt .lnt .lnt .lnt c0 fs tns) (.lst .own [LR .lnt c0,.lst .lnt (prL fs),.lst .lnt (llL .lnt tns)])=.ok (.bl false):=IM (f':=.own);refine af (b8 (by simp[hle,nh,og,nl]) aE) ?_;refine af (av (v:=.lst .own []) ()) ?_;simp only[s0_,s1_];refine af (av (v:=.non) ()) ?_;simp only[s0_,s1_];have rb:hasL Fl.LK (rows.map (bB .frz))=false:=iY rfl rows;have rn:hasL Fl.LJ (rows.map (bB .frz))=false:=iY rfl rows;refine af (av (v:=.lst .own (rows.map (bB .frz))) ?_ (by simp[rn]) rfl) ?_
 .simp only[fF,cZ,eT,gU];rw[cpy _ rfl];simp[K.lb,ru,aD,rb]
 simp only[s0_,s1_];refine af (dw (v:=.lst .own (rows.map (bB .frz))) rfl) ?_;have efz:(PV.lst .own (rows.map (bB .frz))).LM Fl.LG=.lst .frz (rows.map (bB .frz)):=by simp
 simp only[s0_,s1_,efz];generalize hV .own .own .own .own .own c0 fs tns=hd at *;have ix:∀(i:Nat) p,rows[i]?=some p->aB (.lst .frz (rows.map (bB .frz))) (.int i)=.ok (bB .frz p):=λi p hp=>eA rfl (by rw[getElem?_map,hp];rfl) (by simp[bB]);have rml:mapL Fl.LD (rows.map (bB .frz))=rows.map (bB .frz):=qW (f:=.frz) rows;have rle:∀p,(bB .frz p).LM Fl.LD=bB .frz p:=λp=>by simp[bB]
 have css:∀c,c∈s0::rows.map (·.2)->c.length=n/\InS sp c:=λc hc=>by
  rcases mem_cons.mp hc with rfl|hc
  .exact⟨s1,s2⟩
  .obtain⟨p,hp,rfl⟩:=mem_map.mp hc;exact⟨(rin p hp).1,(rin p hp).2.1⟩
 have p0:tfd ((cV b rows).take 0)=[]:=rfl;refine f9 (λi e=>∃g c x15,(Fc g\/g=.own)/\(i<=rows.length->(s0::rows.map (·.2))[i]?=some c)/\e=[LV fl ns,some td,LS n,some O,LU c0,some (.lst .own (prL fs)),some (.lst .own (llL .own tns)),LU S,LV g c,LS (sn fs.length),some hd,some (.tup [LQ (pick n (gX (cV b rows))),nV b]),LU (tfd ((cV b rows).take i)),some (nV (upto b i)),some (.lst .frz (rows.map (bB .frz))),x15,none]) (bp (n:=rows.length+1) (by simp[rml]) ()) ⟨.own,s0,none,.inr rfl,λ_=>rfl,by rw[p0];cases b<;>simp[upto,nV,Option.filter]⟩ (λi x e hx hP=>?_) (λe hP=>?_)
 .obtain⟨g,c,x15,hg,hc,rfl⟩:=hP;obtain⟨hi,rfl⟩:=dD hx;have hci:=hc ();obtain⟨c1,c2⟩:=css c (List.mem_of_getElem? hci);have cac:=ca c c1 c2;have up:=D7 (P:=caR n ip D) hci;rw[hb]at up;obtain⟨wa1,wa2⟩:=AS (b:=b) (rows:=rows) (k:=i);refine⟨_,cE rfl,?_⟩;simp only[s0_,s1_,Int.zero_add];have lst:∀f:Fl,p1 da [LR f c]=.ok (LQ c):=λf=>by simp
  refine bP (e:=[LV fl ns,some td,LS n,some O,LU c0,some (.lst .own (prL fs)),some (.lst .own (llL .own tns)),LU S,LV g c,LS (sn fs.length),some hd,some (.tup [LQ (pick n (gX (cV b rows))),nV b]),LU (tfd ((cV b rows).take i)),some (nV (upto b (i+1))),some (.lst .frz (rows.map (bB .frz))),LS i,none]) ?_ ?_
  .rw[up];cases upto b i with
   |some j=>exact b8 (by simp[nV,gP,PV.isNon]) aE
   |none=>
    cases q:caR n ip D c with
    |true=>rw[q]at cac;exact gh (by simp[nV,gP,PV.isNon,lm,cac]) (av (v:=.int i) ())
    |false=>rw[q]at cac;exact b8 (by simp[nV,gP,PV.isNon,lm,cac]) aE
  by_cases q:i<rows.length
  .obtain⟨p,hp⟩:∃p,rows[i]?=some p:=⟨_,getElem?_eq_getElem q⟩
   have ip':=ix i p hp;obtain⟨ra0,ra1⟩:=xM p;have pli:=(rin p (List.mem_of_getElem? hp)).2.2;refine lq (by simp[rml];exact q) ?_;refine bP (e:=[LV fl ns,some td,LS n,some O,LU c0,some (.lst .own (prL fs)),some (.lst .own (llL .own tns)),LU S,LV g c,LS (sn fs.length),some hd,some (.tup [LQ (pick n (gX (cV b rows))),nV b]),LU (tfd ((cV b rows).take (i+1))),some (nV (upto b (i+1))),some (.lst .frz (rows.map (bB .frz))),LS i,none]) ?_ (bC (av (v:=LR .frz p.2) (by simp[rml,ip',rle,ra1])) ⟨.frz,p.2,LS i,.inl (.inr rfl),λ_=>by simp[hp],rfl⟩);cases e:upto b (i+1)with
   |some j=>rw[wa2 (by rw[e];exact nofun)];exact b8 (by simp[nV,gP,PV.isNon]) aE
   |none=>
    rw[xm ((wa1 e).trans hp)];have tli:(tfd ((cV b rows).take i)).length<=n:=(qH (n:=n) (w:=(cV b rows).take i) λp hp=>rp p (wr' p (mem_of_mem_take hp))).2.1;generalize tfd ((cV b rows).take i)=t at *;have cf:∀y13,aL [12] 1 (bK (mOp aB (mOp aB (aa 14) (aa 15)) (LP 0))) (tgN 1) (aA (mOp fj (aa 1) (aa 0))) (aa 1) [LV fl ns,some td,LS n,some O,LU c0,some (.lst .own (prL fs)),some (.lst .own (llL .own tns)),LU S,LV g c,LS (sn fs.length),some hd,some (.tup [LQ (pick n (gX (cV b rows))),nV b]),LU t,y13,some (.lst .frz (rows.map (bB .frz))),LS i,none]=.ok (LQ (p.1.filter λa=>!t.contains a)):=λy13=>by
     refine aF (xs:=iL p.1) (by simp[rml,ip',rle,ra0]) (by rw[aX];lia) ?_;have:=dO (env:=bF [12] 1 [LV fl ns,some td,LS n,some O,LU c0,some (.lst .own (prL fs)),some (.lst .own (llL .own tns)),LU S,LV g c,LS (sn fs.length),some hd,some (.tup [LQ (pick n (gX (cV b rows))),nV b]),LU t,y13,some (.lst .frz (rows.map (bB .frz))),LS i,none]) (g:=tgN 1) (mc:=aA (mOp fj (aa 1) (aa 0))) (me:=aa 1) (λa=>!t.contains a) (λa=>a) p.1 λx hx=>⟨[LV .bor t,LS x],by simp[tgN,aH,bF,PV.LH],by simp,λ_=>by simp⟩
     rwa [map_id']at this
    refine gh (by simp[nV,gP,PV.isNon]) (av (v:=LQ (tl1 t p)) ?_);have fl1:=length_filter_le (λa=>!t.contains a) p.1;simp only[jD,gU,getElem?_cons_zero,getElem?_cons_succ,cf];simp only[kM,yZ,oU,y6,Res.LO];rw[dY () () (by rw[aX,aX];lia)];simp[tl1,iL]
  .have il:i=rows.length:=by lia
   have te:(cV b rows).take (i+1)=(cV b rows).take i:=by
    have:(cV b rows).length<=i:=by
     rw[il];cases b with
     |none=>exact Nat.le_refl _
     |some j=>exact List.length_take_le' j rows
    rw[take_of_length_le (),take_of_length_le this]
   rw[te];exact lr (by simp[rml];lia) (bC aE ⟨g,c,LS i,hg,λz=>absurd z (),rfl⟩)
 obtain⟨g,c,x15,_,_,rfl⟩:=hP;rw[aQ];have ub:upto b (rows.length+1)=b:=by
  cases b with
  |none=>rfl
  |some j=>have:=zx hb;simp at this;simp[upto,Option.filter,this]
 have tw:(cV b rows).take (rows.length+1)=cV b rows:=by
  refine take_of_length_le ?_;cases b with
  |none=>exact le_succ _
  |some j=>exact Nat.le_trans (List.length_take_le' j rows) (le_succ _)
 rw[ub,tw];refine af (av (v:=LQ (pick n Rc)) ?_) ?_
 .simp only[um,cZ,eT,gU];rw [aF (xs:=prL fs) (ys:=iL (fs.map (·.1))) () (by simp [prL];lia) (by
   rw[show iL (fs.map (·.1))=fs.map λp=>PV.int p.1 by simp[iL]];exact bv (a:=prV) (f:=λp=>PV.int p.1) fs λp _=>⟨[some (prV p)],by simp[tgN,aH,bF,dB,prV,PV.LH],by simp,by simp,by simp⟩)]
  simp[lm,hR1 .own (.inr rfl)]
 simp only[s0_,s1_];refine af (b8 ?_ aE) ?_
 .simp only[vz,se,fF,cZ,eT];rw [aF (xs:=iL (tfd (cV b rows))) (ys:=((tfd (cV b rows)).map λ_=>true).map .bl) () (by rw [aX];lia) (by
   rw[map_map];refine bv (a:=PV.int) (f:=PV.bl ∘ λ_=>true) (tfd (cV b rows)) λx hx=>⟨[LV .bor (pick n Rc),LS x],by simp[tgN,aH,bF,PV.LH],?_,by simp,by simp⟩
   obtain⟨i,hi,ht,rfl⟩:=mW.mp (t3 x hx);obtain⟨p,hp,h3⟩:=any_eq_true.mp ht;have:=tin p (wr' p hp) (i:Int) (by simpa using h3);have:(i:Int)∈ pick n Rc:=mW.mpr ⟨i,hi,by simpa using this,rfl⟩;simp[this])]
  have hbb:kb qA (.lst .own (((tfd (cV b rows)).map λ_=>true).map .bl))=.ok (.bl true):=by unfold kb;dsimp only;rw[lB];simp[qA]
  simp only[Res.LO,p1,hbb];rfl
 have so1:=kH (f:=.lnt) (tfd (cV b rows)) ();rw[t1]at so1;have f0:aB (.tup [LR .lnt (pick n (gX (cV b rows))),nV b]) (.int 0)=.ok (LR .lnt (pick n (gX (cV b rows)))):=eA (k:=0) rfl rfl ();have f1:aB (.tup [LR .lnt (pick n (gX (cV b rows))),nV b]) (.int 1)=.ok (nV b):=eA (k:=1) rfl rfl (by cases b<;>simp[nV]);cases b with
 |none=>exact dy (gh (by simp[nV,gP,PV.isNon]) (a9 (by simp only[nV]at f0 f1;simp[nV,p1,f0,f1,so1,gP,PV.isNon,wv])))
 |some j=>exact af (b8 (by simp[nV,gP,PV.isNon]) aE) (a9 (by simp only[nV]at f0 f1;simp[nV,p1,f0,f1,so1,h8,PV.isNon,wv]))
end
section
def hb:AQ pt.F:=⟨bn2,bn3,bn2,bn1,bn4,bn3,bn1,bn3,bn2,bn2,bn2,bn2,bn2,bn2,bn3,bn1,bn3,bn5,bn3,bn3,bn2,bn3,bn2,bn2,bn1,bn2,bn2,bn1,bn1,bn2,bn2,bn3,bn2,bn2,bn3,bn3,bn2,bn3,bn2,bn2,bn2,bn3,bn2,bn3,bn3,bn3,bn2,bn2,bn2,bn2,bn2,bn2,bn1,bn1,bn1,bn1,bn2,bn2,bn2,bn2,bn2,bn2,bn2,bn2,bn1,bn2,bn2,bn2,bn3,bn3,bn3,bn3,bn4,bn3,bn2,bn2,bn1,trivial⟩
theorem hs:pt.F.all scB=true:=by decide +kernel
def fin{l:PySem.W.OpenLaw}{w:World}{K:PySem.W.Frag}{mg:Lk}{fa:Addr}(t:Tx pt K mg)(hfa:mg "law"=some (.ref fa)) :
  ∃fd:FuncData,(∀(s:Shared) (u:Value),BindsTo s fd ⟨[u],[]⟩ [("_law_script",u)])/\∀base:Heap,K.In base->base.Ns mainGlobals mg->dR l.prog w K mg base (CXP l.prog w) 11 fa fd ["_law_script"] (xB K):=by
 have e:=hfa.symm.trans (t.gl 76 rfl);cases e;refine⟨dAt K (pt.fa K 76),λs u=>?_,λbase hB _=>FV (T:=T K) (FH t hB) law_true⟩;obtain⟨oc,od,kV,doc,pm,an,cdv,ct,osl,e,_⟩:=(t.fn 76).ex;rw[e];exact .of_eq rfl
end
end G
namespace PySem.W.Fast
theorem t:True:=trivial
def tw16055642158834613072:=t
def tw17252790933311595943:=t
def tw13788512556209444393:=t
def tw2247587315194240006:=t
def tw13113325537897210488:=t
def tw7495953563480307240:=t
def tw11493996270355901061:=t
def tw3580023310130658295:=t
def tw8539298750186212032:=t
def tw8937924019132519085:=t
def tw1407132949760309039:=t
def tw12043642279805839516:=t
def tw12556758623332167077:=t
def tw9296930633115137577:=t
def tw77158941630137707:=t
def tw11221798353663805650:=t
def tw3461917533065655066:=t
def tw11449800387260860315:=t
def tw10829841070820855351:=t
def tw6708769303880011992:=t
def tw2118370716194311403:=t
def tw3793958374646174226:=t
def tw7575129968639117106:=t
def tw11079141094830502729:=t
def tw14126269006497836216:=t
def tw12546937237871914501:=t
def tw7085739075291234101:=t
def tw10299429261943369002:=t
def tw6015281083510861540:=t
def tw5643850360212713032:=t
def tw12729078354868871392:=t
def tw1089652069135297241:=t
def tw16351555674150629876:=t
def tw12539896131859687298:=t
def tw2683472124893099666:=t
def tw6301557956145768769:=t
def tw17359893730052700103:=t
def tw18127146585227048364:=t
def tw13408759296708218945:=t
def tw5517694643259259823:=t
def tw14957924359461621705:=t
def tw5034442574706911967:=t
def tw7452963538680722744:=t
def tw1267238531192481742:=t
def tw9667966283334547966:=t
def tw1279190560702420854:=t
def tw13483064056107529876:=t
def tw3637847601012239998:=t
def tw13294901878780589261:=t
def tw13631248373713912102:=t
def tw3752583252795606796:=t
def tw14634606901963286360:=t
def tw9776771642007875706:=t
def tw1665204391612129318:=t
def tw7531611523746264230:=t
def tw3066684493344274391:=t
def tw15516035721155733138:=t
def tw191609260588412781:=t
def tw14204674834558985030:=t
def tw5443180083866924493:=t
def tw3203664970474690529:=t
def tw1703827984217317723:=t
def tw14947768502812113872:=t
def tw15792566836825537047:=t
def tw4824977344625731226:=t
def tw8621501653253037503:=t
def tw10682643282116462815:=t
def tw11402556249402111097:=t
def tw8313191664365771945:=t
def tw9533433444781735624:=t
def tw15005602988076037927:=t
def tw15567184461289724105:=t
def tw18424004089067235305:=t
def tw4732252566225167113:=t
def tw4682640984398035181:=t
def tw2386283847873105600:=t
def tw13710105430362483783:=t
def tw12337990203512693195:=t
def tw9420212029841623219:=t
def tw13693742215481724964:=t
def tw8121983321668158532:=t
def tw5567588651519506363:=t
def tw3289046100332288707:=t
def tw1299170084807305788:=t
def tw14148708107499726548:=t
def tw16901609668658586431:=t
def tw13202431830391341317:=t
def tw16374290055908404481:=t
def tw1678143179100776044:=t
def tw9980527309789307315:=t
def tw8560386350309273494:=t
def tw9473739097531681624:=t
def tw9400021894466088190:=t
def tw17339906813681367646:=t
def tw13890446882798346067:=t
def tw7795050816540938264:=t
def tw425204824883580372:=t
def tw4033514684168664719:=t
def tw7640640350773832562:=t
def tw778708801178570962:=t
def tw17804746300855090745:=t
def tw16420165468429788428:=t
def tw5785014646808999417:=t
def tw7568152066892918694:=t
def tw4285580963637892735:=t
def tw16386113693394521974:=t
def tw17724401468037336128:=t
def tw3820019986093407571:=t
def tw5594418691210437670:=t
def tw4108218690090471719:=t
def tw7857555658624736576:=t
def tw5978566940326439149:=t
def tw9213902514109667372:=t
def tw14934993170317434756:=t
def tw13192991904776208247:=t
def tw11357580361685619972:=t
def tw13400557176926457829:=t
def tw10577116034789317501:=t
def tw15492028770747220839:=t
def tw17229330858128419410:=t
def tw10082720268462412247:=t
def tw16222796567222741702:=t
def tw10418140491145742405:=t
def tw5769530403672334405:=t
def tw277437192664625365:=t
def tw432679636244757006:=t
def tw10029999813999179323:=t
def tw3446809072848861286:=t
def tw18184603435907930405:=t
def tw15751646248283599870:=t
def tw3112581875008899072:=t
def tw6752375956540364339:=t
def tw10781022941858912455:=t
def tw10252349454649124899:=t
def tw18047756556433616150:=t
def tw10349036064248293929:=t
def tw6858358166315853889:=t
def tw14840596941834780437:=t
def tw3188741883099944742:=t
def tw6811808887531265892:=t
def tw14085366258930087471:=t
def tw9514622383892998715:=t
def tw17381733526120271855:=t
def tw5205446611109758091:=t
def tw17726103797091448191:=t
def tw7085603663691538823:=t
def tw9209877228342717441:=t
def tw15605680887804465478:=t
def tw3560907882790495716:=t
def tw11387949672099098914:=t
def tw11631699859250942736:=t
def tw11723622836400738830:=t
def tw13204352644955440251:=t
def tw17379011227060168220:=t
def tw9909492827875983935:=t
def tw2533606415276095044:=t
def tw14665982566907740596:=t
def tw7627885988136024886:=t
def tw9427038784773732046:=t
def tw15765385068773385660:=t
def tw3793566866875198070:=t
def tw1599210061044564122:=t
def tw3226058177789794065:=t
def tw217106688311339816:=t
def tw13255195347032300410:=t
def tw7424236883364152693:=t
def tw15334467753986483157:=t
def tw17412931474103048556:=t
def tw3921155711699575938:=t
def tw9380287093723419278:=t
def tw12973603245325041725:=t
def tw14418426160595899593:=t
def tw6614306920436651963:=t
def tw6920345597929229727:=t
def tw8324678065953902811:=t
def tw14443496135468315732:=t
def tw9569182458628418858:=t
def tw2102805540252494799:=t
def tw1114741486396611589:=t
def tw7170024677225749128:=t
def tw2691562327850711046:=t
def tw4343141331961383622:=t
def tw2232196910128632357:=t
def tw658311063089298420:=t
def tw3340118663592365502:=t
def tw2128244597270465256:=t
def tw3809695867918891330:=t
def tw8325456458746944542:=t
def tw15904909488411205512:=t
def tw10705102808952031757:=t
def tw6423002921145504708:=t
def tw11678009640047304749:=t
def tw3759172320148976375:=t
def tw8867549916479229077:=t
def tw11791500320843687056:=t
def tw6006116509774368964:=t
def tw12990041738564154962:=t
def tw2177139389707989021:=t
def tw9121944340526114595:=t
def tw17697779305926382714:=t
def tw1180080405537388065:=t
def tw5145236692074641316:=t
def tw18400154372038626988:=t
def tw8645466620045895844:=t
def tw193707017353413857:=t
def tw905544153312641816:=t
def tw13742537126482117010:=t
def tw7582057727263511154:=t
def tw608192589261015802:=t
def tw6096732596606705379:=t
def tw17032629182026012739:=t
def tw11074155237505139397:=t
def tw6258498331501148232:=t
def tw12310928748034393533:=t
def tw3125022731384460706:=t
def tw10857085000247608239:=t
def tw2292216747798584266:=t
def tw16213001621425091590:=t
def tw5108669385491290281:=t
def tw250862552697934987:=t
def tw195546644599593512:=t
def tw7947978460572478726:=t
def tw12554351644469656934:=t
def tw3807694815289339569:=t
def tw12249766309783329368:=t
def tw12238269103758523482:=t
def tw7287312118161714812:=t
def tw1510006969844720952:=t
def tw6780858856779019726:=t
def tw16193414905300256986:=t
def tw15770462745104102639:=t
def tw17734429565653817394:=t
def tw903759555000079539:=t
def tw18154856482312538955:=t
def tw4650304688300040331:=t
def tw3624502383545195143:=t
def tw13440739660105758738:=t
def tw12408810112800436117:=t
def tw4492588647187135245:=t
def tw7900386293247663001:=t
def tw887052948080184118:=t
def tw11717710627784270315:=t
def tw15735875582279493407:=t
def tw2416513517575462693:=t
def tw15535466819677975831:=t
def tw13087549679243811492:=t
def tw5576268738807295208:=t
def tw3241972728455778475:=t
def tw13925080094525744013:=t
def tw17460808737354324350:=t
def tw6366934520047234900:=t
def tw434661261129301445:=t
def tw2745935291733573424:=t
def tw5080058230543072316:=t
def tw16768405290551759749:=t
def tw17097908164782831582:=t
def tw10938388365714088455:=t
def tw1284007872599855526:=t
def tw7717362641281867955:=t
def tw11870495037406622620:=t
def tw7822581304719797454:=t
def tw12933575181303769366:=t
def tw3049154043954820790:=t
def tw9763039343006931873:=t
def tw16986622011828872566:=t
def tw13183093803645127696:=t
def tw7136281391494177564:=t
def tw9446410012503911462:=t
def tw10448363043714016452:=t
def tw15110799586257207124:=t
def tw14379931603651444976:=t
def tw16726438775296161326:=t
def tw560949020866751313:=t
def tw12636492797614569089:=t
def tw12506686730303766393:=t
def tw8108991538287037231:=t
def tw5738111366017677199:=t
def tw7220033846768804826:=t
def tw1671837042028241185:=t
def tw15663217088970293822:=t
def tw12771552625371720573:=t
def tw2182726969175043483:=t
def tw7793593817485224480:=t
def tw4626381713857475722:=t
def tw17056909237851265192:=t
def tw5226162095840338249:=t
def tw9836590036412714841:=t
def tw8845302202334707258:=t
def tw6154767587831172917:=t
def tw13707908210337940173:=t
def tw12297477460945387737:=t
def tw9638960162399616466:=t
def tw15372496593388676063:=t
def tw7420114122820644452:=t
def tw71408829447766762:=t
def tw8138238305018210641:=t
def tw891555711151467856:=t
def tw12922276601685740212:=t
def tw1869757490371505178:=t
def tw2060760969050920883:=t
def tw11763991620866390776:=t
def tw12005636816402585142:=t
def tw12379549762666777107:=t
def tw73555177461846916:=t
def tw13976107619421064267:=t
def tw12624951475792479250:=t
def tw935383747259197718:=t
def tw16505226579139437229:=t
def tw5654915676434238017:=t
def tw12716799815993951181:=t
def tw14456867316270637818:=t
def tw14273420720891868988:=t
def tw18014239939589276202:=t
def tw2957768818549602043:=t
def tw12656839949203949740:=t
def tw3193998475937890179:=t
def tw13638659472290787989:=t
def tw10275425086882449553:=t
def tw17756017041932596555:=t
def tw11020358294091640321:=t
def tw5597412810775396521:=t
def tw11154178437175122436:=t
def tw3238197536723935139:=t
def tw1865138547303595849:=t
def tw6207014650915398438:=t
def tw17486356987746774319:=t
def tw7010626312553780906:=t
def tw16216656172807187895:=t
def tw10869696693700290924:=t
def tw9319993892695659007:=t
def tw12197915247323620258:=t
def tw8881905112803781584:=t
def tw15117542103411060202:=t
def tw16278990008442779435:=t
def tw1411664864025588007:=t
def tw17760057725728470386:=t
def tw12598733740719386765:=t
def tw9154839641734116358:=t
def tw792516205016113641:=t
def tw5590355871501593408:=t
def tw6690551260617876935:=t
def tw7980239733453931703:=t
def tw14670755988287706252:=t
def tw18348487952788647220:=t
def tw766034390033831123:=t
def tw13431931664165690364:=t
def tw11707133210656358353:=t
def tw11913206414008911887:=t
def tw6214969879002720274:=t
def tw12077139109695789287:=t
def tw17638722569690577181:=t
def tw10644635254157060876:=t
def tw12303770371491124592:=t
def tw5452375802187353441:=t
def tw5083859200829699556:=t
def tw4886256061409798760:=t
def tw6111509727177355574:=t
def tw14602925991087724116:=t
def tw11875476794876828839:=t
def tw10499606063095801995:=t
def tw9556149886931035489:=t
def tw11274146256780092450:=t
def tw1632188808815222078:=t
def tw12949075236033456092:=t
def tw16836276746049977394:=t
def tw14807841628422867489:=t
def tw4848387767587049:=t
def tw15361309106728463369:=t
def tw3740677989956331747:=t
def tw484761754603403198:=t
def tw5204464626670808075:=t
def tw1695431827673427343:=t
def tw2518997243525268042:=t
def tw12918648738429379950:=t
def tw13852888103559798744:=t
def tw3636863851479297102:=t
def tw5038822666866554119:=t
def tw552487526085702244:=t
def tw8055574010484584495:=t
def tw10879039252370239912:=t
def tw8319360176783064519:=t
def tw6892281411461706941:=t
def tw8831936116727253612:=t
def tw11070111088595675799:=t
def tw1655563427768411190:=t
def tw7537711204567064426:=t
def tw1334334858267802123:=t
def tw11409877632281029497:=t
def tw7241181694412690610:=t
def tw905509476939912349:=t
def tw16009784222275558517:=t
def tw18283776293721217991:=t
def tw3594358625470097095:=t
def tw1178653945050445068:=t
def tw3445714273745269001:=t
def tw8568258288181180458:=t
def tw3410261618556125644:=t
def tw12075661735819823019:=t
def tw11876815347876236910:=t
def tw7225247787046077165:=t
def tw2652849828594730885:=t
def tw7362480550839985441:=t
def tw7093082617804786782:=t
def tw10815955310367754109:=t
def tw12535801945880445198:=t
def tw1490891462772098820:=t
def tw16331732246482179015:=t
def tw16364560647057281633:=t
def tw17301325594236975967:=t
def tw9402799948629987141:=t
def tw16906677606119610603:=t
def tw3978959237889328999:=t
def tw17106635184944367949:=t
def tw9349702232458751054:=t
def tw11757683849095233118:=t
def tw17999893889995576360:=t
def tw8336076990930013594:=t
def tw3131753557443139600:=t
def tw15335397288829453276:=t
def tw10676882866362532480:=t
def tw2394727233927217127:=t
def tw4487356545001052863:=t
def tw11979848660497024600:=t
def tw10611202906624729702:=t
def tw3749315727793623624:=t
def tw2419352618644680420:=t
def tw7702955208008809019:=t
def tw163868126506897232:=t
def tw18438642859577644864:=t
def tw16773284188632088600:=t
def tw8133288864527592273:=t
def tw1927197839401602692:=t
def tw15264674030222789983:=t
end PySem.W.Fast
end
open PySem PySem.W PyProof.Rows
set_option maxRecDepth 100000 in
set_option maxHeartbeats 0 in
theorem PySem.Challenge.cw_calmring_k52_whole_faults_are_mended_holds : PySem.Challenge.rw_calmring_k52_whole_faults_are_mended.Holds := by
 w_on;o_law;k_head;(case hw=>w_witness2)
 k_fill
 refine PR.y8 (l:=PySem.Challenge.rw_calmring_k52_whole_faults_are_mended) (k:=11) (x := "_law_script") rfl rfl ⟨rfl,by decide,by decide⟩ (fun w h Y=>PySem.W.kIn_of Y) ?F
 case F =>
  intro w mg fa h KX G hmg
  refine' _root_.G.fin (_root_.PR.Tx.of KX G _root_.G.hb _root_.G.hs ?a ?b ?c ?d ?e ?f ?g) hmg
  (case a=>exact fun z=>nomatch z)
  (case b=>exact fun z=>nomatch z)
  (case c=>exact fun z=>nomatch z)
  (case d=>kernel_rfl)
  (case e=>kernel_rfl)
  (case f=>kernel_rfl)
  (case g=>kernel_rfl)
