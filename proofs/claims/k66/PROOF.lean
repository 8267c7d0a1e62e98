import PyProof.Rows.All
import Wide.All
import OpenK.AllK
import Wide.FinOn
import PyProof.EqAt
import PyProof.EqKinds
import PyProof.NeKinds
import PyProof.TupleCall
import PyProof.StrWalks
import PyProof.EnumMake
import PyProof.WalksEnum
import PyProof.ZipIter
import PyProof.Rows.ZipGen
import PyProof.Rows.SortWalk
import KE.KSortedM
import PyProof.StrLawsIdx
import PyProof.StrLawsNeg
import PyProof.ExcInit
import PyProof.InstStoreFacts
import PyProof.AttrMissHeap
import PyProof.FactsAll.enumerate
import PyProof.FactsAll.dict_1
import KE.KDictOf
import KE.KItemsList
import PyProof.ReprRoads
import KE.LcSums
import PyProof.AttrMissSeq
import PyProof.TupleIter
import PyProof.WalksMore
import PyProof.ExcClass2
import PyProof.Rows.MatchSeqLen
import PyProof.FitsInt
import PySem.Challenge.RW_farthestcut_k66_treads_joined
set_option compiler.extract_closed false
set_option bootstrap.genMatcherCode false
set_option Elab.async false
set_option linter.all false
set_option maxRecDepth 100000
set_option maxHeartbeats 4000000
noncomputable section
abbrev dl:=List Nat
namespace L2
open PySem PySem.Spec PyProof.Rows
abbrev dQ:=Sum Int Str
def m6:dQ->Value->Bool
 |.inl k,v=>Value.isInt k v
 |.inr x,v=>Value.isStrOf x v
def Ga(w:World):dQ->Int
 |.inl k=>hashInt k
 |.inr x=>hashStr w x
theorem bQ:∀{k:dQ}{v:Value},m6 k v=true->(∃i t,k=Sum.inl i/\v=Value.int i t)∨(∃x t,k=Sum.inr x/\v=Value.str x t)
 |.inl i,v,h=>by
  obtain⟨t,e⟩:=Value.isInt_shape (k:=i) (v:=v) h;exact .inl ⟨i,t,rfl,e⟩
 |.inr x,v,h=>by
  obtain⟨t,e⟩:=Value.isStrOf_shape (x:=x) (v:=v) h;exact .inr ⟨x,t,rfl,e⟩
def uD(i:Int)(t:Tok):m6 (.inl i) (.int i t)=true:=by simp[m6,Value.isInt]
def uC(x:Str)(t:Tok):m6 (.inr x) (.str x t)=true:=by simp[m6,Value.isStrOf]
def Ce(a b:Int):decide ((Sum.inl a:dQ)=Sum.inl b)=(a==b):=by
 by_cases e:a=b
 .subst e;simp
 .have h:¬(Sum.inl a:dQ)=Sum.inl b:=λq=>e (Sum.inl.inj q)
  rw[decide_eq_false h];exact(beq_eq_false_iff_ne.mpr e).symm
def Cb(a b:Str):decide ((Sum.inr a:dQ)=Sum.inr b)=decide (a=b):=by
 by_cases e:a=b
 .subst e;simp
 .have h:¬(Sum.inr a:dQ)=Sum.inr b:=λq=>e (Sum.inr.inj q)
  rw[decide_eq_false h,decide_eq_false e]
def Cd(a:Int)(b:Str):decide ((Sum.inl a:dQ)=Sum.inr b)=false:=decide_eq_false (λq=>nomatch q)
def Cc(a:Str)(b:Int):decide ((Sum.inr a:dQ)=Sum.inl b)=false:=decide_eq_false (λq=>nomatch q)
noncomputable def cM(prog:Program) (w:World):PySem.KeyKind prog w dQ where
 is:=m6
 hash:=Ga w
 inj:=λv a b ha hb=>by
  rcases bQ ha with⟨i,t,rfl,rfl⟩|⟨x,t,rfl,rfl⟩
  .rcases bQ hb with⟨j,u,rfl,e⟩|⟨y,u,rfl,e⟩
   .injection e with e1 _;rw[e1]
   .exact nomatch e
  .rcases bQ hb with⟨j,u,rfl,e⟩|⟨y,u,rfl,e⟩
   .exact nomatch e
   .injection e with e1 _;rw[e1]
 byValue:=λk v h=>by
  rcases bQ h with⟨i,t,rfl,rfl⟩|⟨x,t,rfl,rfl⟩<;>rfl
 pyHash:=λhv h=>by
  rcases bQ hv with⟨i,t,rfl,rfl⟩|⟨x,t,rfl,rfl⟩
  .exact wpAny_pyHash_int h
  .exact wpAny_pyHash_str h
 eqBool:=λhu hv h=>by
  rcases bQ hu with⟨i,t,rfl,rfl⟩|⟨x,t,rfl,rfl⟩
  .rcases bQ hv with⟨j,u,rfl,rfl⟩|⟨y,u,rfl,rfl⟩
   .rw[Ce]at h;exact wpAny_eqBool_int h
   .rw[Cd]at h;exact SeqAt.EqAt.int_str i t y u _ _ _ _ h
  .rcases bQ hv with⟨j,u,rfl,rfl⟩|⟨y,u,rfl,rfl⟩
   .rw[Cc]at h;exact SeqAt.EqAt.str_int x t j u _ _ _ _ h
   .rw[Cb]at h;exact wpAny_eqBool_str h
 «strs»:=λk x t v h=>by
  rcases bQ h with⟨i,u,rfl,e⟩|⟨y,u,rfl,e⟩
  .exact nomatch e
  .injection e with e1 _
   subst e1;cases v<;>rfl
def pJ(prog:Program)(w:World)(i:Int)(t:Tok):(cM prog w).is (.inl i) (.int i t)=true:=uD i t
def pI(prog:Program)(w:World)(x:Str)(t:Tok):(cM prog w).is (.inr x) (.str x t)=true:=uC x t
inductive V where
 |non|bl (b:Bool)|int (i:Int)|str (x:Str)|byt (b:Array UInt8)|flt (b:UInt64)|ref (a:Addr)|ty (n:String)
 deriving DecidableEq
abbrev bv:=List V
noncomputable def bh:V->Value->Prop
 |.non,u=>u=Value.none
 |.bl b,u=>u=Value.bool b
 |.int i,u=>∃t,u=Value.int i t
 |.str x,u=>∃t,u=Value.str x t
 |.byt b,u=>∃t,u=Value.bytes b t
 |.flt b,u=>∃t,u=Value.float b t
 |.ref a,u=>u=Value.ref a
 |.ty n,u=>u=Value.type n
abbrev aY:bv->List Value->Prop:=Paired bh
def aY.length{xs:bv}{us:List Value}(r:aY xs us):xs.length=us.length:=Paired.length r
theorem aY.get:∀{xs:bv}{us:List Value}{i:Nat}{x:V},aY xs us->xs[i]?=some x->∃u,us[i]?=some u/\bh x u
 |_,_,_,_,.nil,e=>by simp at e
 |_,_,0,_,.cons r _,e=>by simp at e;subst e;exact⟨_,rfl,r⟩
 |_,_,i+1,x,.cons _ t,e=>by
  obtain⟨u,h1,h2⟩:=aY.get (i:=i) (x:=x) t (by simpa using e);exact⟨u,by simpa using h1,h2⟩
theorem aY.set{x:V}{u:Value}(r:bh x u):∀{xs:bv}{us:List Value}(i:Nat),aY xs us->aY (xs.set i x) (us.set i u)
 |_,_,_,.nil=>.nil
 |_,_,0,.cons _ t=>.cons r t
 |_,_,i+1,.cons q t=>.cons q (aY.set r i t)
theorem aY.append:∀{xs ys:bv}{us ws:List Value},aY xs us->aY ys ws->aY (xs++ys) (us++ws)
 |_,_,_,_,.nil,s=>s
 |_,_,_,_,.cons r t,s=>.cons r (aY.append t s)
theorem aY.take:∀{xs:bv}{us:List Value}(n:Nat),aY xs us->aY (xs.take n) (us.take n)
 |_,_,0,_=>.nil
 |_,_,_+1,.nil=>.nil
 |_,_,n+1,.cons r t=>.cons r (aY.take n t)
theorem aY.drop:∀{xs:bv}{us:List Value}(n:Nat),aY xs us->aY (xs.drop n) (us.drop n)
 |_,_,0,r=>r
 |_,_,_+1,.nil=>.nil
 |_,_,n+1,.cons _ t=>aY.drop n t
def qF:Option V->Option Value->Prop
 |some v,some u=>bh v u
 |none,none=>True
 |_,_=>False
def KV{κ:Type}:List (κ×V)->List (κ×Value)->Prop:=Paired λ(p:κ×V) (q:κ×Value)=>p.1=q.1/\bh p.2 q.2
def kV:dQ->V
 |.inl i=>.int i
 |.inr x=>.str x
inductive HO where
 |lst (xs:bv)
 |tup (xs:bv)
 |dK (kvs:List (dQ×V))|dT (kvs:List (List dQ×V))
 |set (S:Int->Bool) (n:Nat)
 |ins (C dx:Addr) (fs:List (Str×V))
 |own (x:Addr)
 |xd (fs:List (Str×V))
 |met (f x:Addr)
 |rng (lo hi:Int)
 |frz (o:Obj) (u:HO)
 |tbl (ps:Array Value)
 |ext (φ:Heap->Prop)
abbrev Hp:=Addr->Option HO
def upd(H:Hp)(a:Addr)(o:HO):Hp:=λb=>if b=a then some o else H b
def aJ{H:Hp}{a:Addr}{o:HO}:upd H a o a=some o:=by unfold upd;rw[if_pos rfl]
def aD{H:Hp}{a b:Addr}{o:HO}(h:b≠a):upd H a o b=H b:=by unfold upd;rw[if_neg h]
def EG{H:Hp}{a b:Addr}{o u:HO}(h:H a=some o)(h':H b=some u)(d:o≠u):a≠b:=by
 intro e;subst e;rw[h]at h';exact d (Option.some.inj h')
def aS{H:Hp}{a b:Addr}{o:HO}(h:H a=some o)(h':H b=none):a≠b:=by
 intro e;subst e;rw[h]at h';cases h'
section
variable (P:Program) (w:World)
noncomputable def bR(H:Hp) (h:Heap) (a:Addr):HO->Prop
 |.lst xs=>xs.length<=sizeLine/\∃(its:List Value) (n:Nat),aY xs its/\h.get? a=some { cls:=.type "list",data:=.seq its.toArray n }
 |.tup xs=>xs.length<=sizeLine/\∃its:List Value,aY xs its/\IsTup h a its.toArray
 |.dK kvs=>kvs.length<=sizeLine/\(a==sysModules)=false/\∃vs,KV kvs vs/\h.DictOf (cM P w) a vs
 |.dT kvs=>kvs.length<=sizeLine/\(a==sysModules)=false/\∃xs:List (List dQ×Addr×Value),
   Paired (λ(p:List dQ×V) (q:List dQ×Addr×Value)=>p.1=q.1/\H q.2.1=some (.tup (p.1.map kV))/\bh p.2 q.2.2) kvs xs /\
   ∃o es ep,h.get? a=some o/\o.ExactDict/\o.data=.dict es ep/\es.toList=xs.map (entryOfKey (tupleKind (cM P w)))/\(xs.map (·.1)).Nodup
 |.set S n=>h.SetOf (intKind P w) a S n
 |.ins C dx fs=>H dx=some (.own a)/\fs.length<=1000/\dx≠a/\h.get? a=some (W.instObj C dx) /\
   ∃mA,h.Ns1 dx mA/\(∀f,qF (fs.lookup f) (mA f))/\PySem.Within mA (fs.map (·.1))
 |.own _=>∃o,h.get? a=some o
 |.xd fs=>∃mA,h.Ns1 a mA/\∀f,qF (fs.lookup f) (mA f)
 |.rng lo hi=>∃t u v,h.get? a=some { cls:=.type "range",data:=.fields #[.int lo t,.int hi u,.int 1 v] }
 |.frz o u=>h.get? a=some o/\bR H h a u
 |.tbl ps=>h.get? a=some { cls:=.none,data:=.fields ps }
 |.met f x=>h.get? a=some (W.methodObj (.ref f) (.ref x))
 |.ext φ=>φ h/\(∃o,h.get? a=some o)/\∀h1 h2:Heap,φ h1->(∀o,h1.get? a=some o->h2.get? a=some o)->φ h2
def fK(H:Hp)(h:Heap):Prop:=∀a o,H a=some o->bR P w H h a o
end
section
variable {P:Program}{w:World}{H H':Hp}{h h':Heap}{a:Addr}{o:HO}
def bR.lt(x:bR P w H h a o):a<h.objs.size:=by
 cases o with|lst xs=>obtain⟨_,_,_,_,e⟩:=x;exact Heap.lt_size e|tup xs=>obtain⟨_,_,_,p⟩:=x;exact p.lt|dK kvs|dT kvs=>obtain⟨_,_,_,_,o,_,_,e,_⟩:=x;exact Heap.lt_size e|set S n=>obtain⟨o,_,_,_,e,_⟩:=x;exact Heap.lt_size e|ins C dx fs=>obtain⟨_,_,_,e,_⟩:=x;exact Heap.lt_size e|own y=>obtain⟨_,e⟩:=x;exact Heap.lt_size e|xd fs=>obtain⟨_,⟨_,_,_,e,_⟩,_⟩:=x;exact Heap.lt_size e|rng lo hi=>obtain⟨_,_,_,e⟩:=x;exact Heap.lt_size e|frz ob u=>obtain⟨e,_⟩:=x;exact Heap.lt_size e|tbl ps|met f y=>exact Heap.lt_size (show h.get? a=some _ from x)|ext φ=>obtain⟨_,⟨_,e⟩,_⟩:=x;exact Heap.lt_size e
theorem iu{α β:Type}{F G:α->β->Prop}:∀{lc:List α}{lg:List β},Paired F lc lg->(∀a b,F a b->G a b)->Paired G lc lg
 |_,_,.nil,_=>.nil
 |_,_,.cons r t,f=>.cons (f _ _ r) (iu t f)
def bR.stay(x:bR P w H h a o)(k:∀b u,(b=a∨H b=some (.own a))->h.get? b=some u->h'.get? b=some u)
  (ho:∀b,H b=some (.own a)->H' b=some (.own a))(ht:∀b xs,H b=some (.tup xs)->H' b=some (.tup xs)):bR P w H' h' a o:=by
 induction o with
 |lst xs=>obtain⟨z,its,n,r,e⟩:=x;exact⟨z,its,n,r,k _ _ (.inl rfl) e⟩|tup xs=>obtain⟨z,its,r,ob,e,c⟩:=x;exact⟨z,its,r,ob,k _ _ (.inl rfl) e,c⟩|dK kvs=>obtain⟨z,y,vs,r,ob,es,ep,e,c⟩:=x;exact⟨z,y,vs,r,ob,es,ep,k _ _ (.inl rfl) e,c⟩
 |dT kvs=>
  obtain⟨z,y,xs,r,ob,es,ep,e,c⟩:=x;exact⟨z,y,xs,iu r λp q z=>⟨z.1,ht _ _ z.2.1,z.2.2⟩,ob,es,ep,k _ _ (.inl rfl) e,c⟩
 |set S n=>obtain⟨ob,es,ep,t,e,c⟩:=x;exact⟨ob,es,ep,t,k _ _ (.inl rfl) e,c⟩
 |ins C dx fs=>
  obtain⟨d,z,ne,e,mA,⟨od,es,ep,e2,c⟩,r⟩:=x;exact⟨ho _ d,z,ne,k _ _ (.inl rfl) e,mA,⟨od,es,ep,k _ _ (.inr d) e2,c⟩,r⟩
 |own y=>obtain⟨ob,e⟩:=x;exact⟨ob,k _ _ (.inl rfl) e⟩|xd fs=>obtain⟨mA,⟨od,es,ep,e,c⟩,r⟩:=x;exact⟨mA,⟨od,es,ep,k _ _ (.inl rfl) e,c⟩,r⟩|rng lo hi=>obtain⟨t,u,v,e⟩:=x;exact⟨t,u,v,k _ _ (.inl rfl) e⟩|frz ob u ih=>obtain⟨e,q⟩:=x;exact⟨k _ _ (.inl rfl) e,ih q⟩
 |tbl ps=>
  have e:h.get? a=some { cls:=.none,data:=.fields ps }:=x;show h'.get? a=some { cls:=.none,data:=.fields ps };exact k a _ (.inl rfl) e
 |met f y=>
  have e:h.get? a=some (W.methodObj (.ref f) (.ref y)):=x;show h'.get? a=some (W.methodObj (.ref f) (.ref y));exact k a _ (.inl rfl) e
 |ext φ=>obtain⟨p,⟨o,e⟩,st⟩:=x;exact⟨st _ _ p λo q=>k _ _ (.inl rfl) q,⟨o,k _ _ (.inl rfl) e⟩,st⟩
def fK.lt(x:fK P w H h)(e:H a=some o):a<h.objs.size:=(x a o e).lt
def fK.fresh(x:fK P w H h)(e:h.objs.size<=a):H a=none:=by
 cases q:H a with|none=>rfl|some u=>exact absurd (Nat.lt_of_lt_of_le (x.lt q) e) (Nat.lt_irrefl _)
def fK.kept(x:fK P w H h)(k:∀b u,h.get? b=some u->h'.get? b=some u):fK P w H h':=λa o e=>
 (x a o e).stay (λb u _ q=>k b u q) (λ_ q=>q) λ_ _ q=>q
def fK.laid(x:fK P w H h)(k:∀b u,h.get? b=some u->h'.get? b=some u)(hp:h.objs.size<=a)(new:bR P w (upd H a o) h' a o):fK P w (upd H a o) h':=λb u e=>by
 have hn:=x.fresh hp
 by_cases hb:b=a
 .subst hb;rw[aJ]at e;cases e;exact new
 .rw[aD hb]at e
  exact(x b u e).stay (λc v _ q=>k c v q) (λc q=>by rw[aD (aS q hn)];exact q) λc xs q=>by rw[aD (aS q hn)];exact q
end
def Rd(H:Hp)(a:Addr)(u:HO):Prop:=H a=some u∨∃o,H a=some (.frz o u)
def Rd.ok{P:Program}{w:World}{H:Hp}{h:Heap}{a:Addr}{u:HO}(r:Rd H a u)(x:fK P w H h):bR P w H h a u:=by
 rcases r with r|⟨o,r⟩
 .exact x a u r
 .obtain⟨_,q⟩:=x a _ r
  exact q
def Fm:Option HO->Prop
 |some (.lst _)=>True
 |some (.dK _)=>True
 |some (.dT _)=>True
 |some (.set _ _)=>True
 |some (.ins _ _ _)=>True
 |some (.ext _)=>True
 |_=>False
section
variable {P:Program}{w:World}{H:Hp}{h h':Heap}{x e:Addr}{o':HO}
def fK.write(ok:fK P w H h)(mu:Fm (H x))(he:e=x∨H e=some (.own x))(k:∀b u,b≠e->h.get? b=some u->h'.get? b=some u)(heo:∃u,h'.get? e=some u)
  (new:bR P w (upd H x o') h' x o'):fK P w (upd H x o') h':=λb u q=>by
 have nown:∀c y,H c=some (.own y)->c≠x:=λc y r z=>by subst z;rw[r]at mu;exact mu
 have ntup:∀c xs,H c=some (.tup xs)->c≠x:=λc xs r z=>by subst z;rw[r]at mu;exact mu
 by_cases hb:b=x
 .subst hb;rw[aJ]at q;cases q;exact new
 .rw[aD hb]at q
  by_cases hbe:b=e
  .have q':H b=some (.own x):=by
    rcases he with z|z
    .exact absurd (hbe.trans z) hb
    .rw[hbe];exact z
   rw[q]at q';cases q';obtain⟨v,hv⟩:=heo;exact⟨v,by rw[hbe];exact hv⟩
  .refine(ok b u q).stay (λc v hc r=>k c v ?_ r) (λc r=>by rw[aD (nown c b r)];exact r) λc xs r=>by rw[aD (ntup c xs r)];exact r
   rcases hc with rfl|hc
   .exact hbe
   .rintro rfl
    rcases he with z|z
    .exact nown c b hc z
    .rw[hc]at z;cases z;exact hb rfl
end
structure Un (fs ex:List Addr) (H H':Hp) (h h':Heap):Prop where
 keep:∀b o,h.get? b=some o->H b=none->b∉fs->b∉ex->h'.get? b=some o
 slot:∀b o,h.get? b=some o->H b=none->b∈fs->b∉ex->∃sl,h'.get? b=some { o with slots:=sl }
 free:∀b o,h.get? b=some o->H b=none->b∉ex->H' b=none
 there:∀b o,h.get? b=some o->b∉ex->∃o',h'.get? b=some o'
 tups:∀b xs,H b=some (.tup xs)->H' b=some (.tup xs)
 frzs:∀b o u,H b=some (.frz o u)->H' b=some (.frz o u)
 tbls:∀b ps,H b=some (.tbl ps)->∃more,H' b=some (.tbl (ps++more))
section
variable {fs fs' ex ex':List Addr}{H H1 H2:Hp}{h h1 h2 h':Heap}{a x e:Addr}{o:HO}
def Un.any(u:Un fs ex H H1 h h1){b:Addr}{ob:Obj}(q:h.get? b=some ob)(n:H b=none)(hx:b∉ex):∃sl,h1.get? b=some { ob with slots:=sl }:=by
 by_cases hb:b∈fs
 .exact u.slot b ob q n hb hx
 .exact⟨ob.slots,u.keep b ob q n hb hx⟩
def Un.kept(k:∀b u,h.get? b=some u->h'.get? b=some u):Un fs ex H H h h' :=
 ⟨λb ob q _ _ _=>k b ob q,λb ob q _ _ _=>⟨ob.slots,k b ob q⟩,λ_ _ _ n _=>n,λb ob q _=>⟨ob,k b ob q⟩,λ_ _ q=>q,λ_ _ _ q=>q,λ_ ps q=>⟨#[],by rw[q];simp⟩⟩
def Un.refl:Un fs ex H H h h:=Un.kept λ_ _ q=>q
def Un.laid(k:∀b u,h.get? b=some u->h'.get? b=some u)(hp:h.objs.size<=a)(hn:H a=none):Un fs ex H (upd H a o) h h' where
 keep:=λb u q _ _ _=>k b u q
 slot:=λb u q _ _ _=>⟨u.slots,k b u q⟩
 free:=λb u q n _=>by rw[aD (Nat.ne_of_lt (Nat.lt_of_lt_of_le (Heap.lt_size q) hp))];exact n
 there:=λb u q _=>⟨u,k b u q⟩
 tups:=λb xs q=>by rw[aD (aS q hn)];exact q
 frzs:=λb u xs q=>by rw[aD (aS q hn)];exact q
 tbls:=λb ps q=>⟨#[],by rw[aD (aS q hn),q];simp⟩
def Un.write(mu:Fm (H x))(he:e=x∨H e=some (.own x))(k:∀b u,b≠e->h.get? b=some u->h'.get? b=some u)(heo:∃u,h'.get? e=some u):Un fs ex H (upd H x o) h h':=by
 have hx:∀b,H b=none->b≠x:=λb n z=>by subst z;rw[n]at mu;exact mu
 have hb:∀b,H b=none->b≠e:=λb n z=>by
  subst z;rcases he with r|r
  .exact hx b n r
  .rw[n]at r;cases r
 have hm:∀b u,H b=some u->¬Fm (some u)->b≠x:=λb u q nm z=>by subst z;rw[q]at mu;exact nm mu
 refine⟨λb u q n _ _=>k b u (hb b n) q,λb u q n _ _=>⟨u.slots,k b u (hb b n) q⟩,λb u q n _=>by rw[aD (hx b n)];exact n,λb u q _=>?_,
  λb xs q=>by rw[aD (hm b _ q λz=>z)];exact q,λb u xs q=>by rw[aD (hm b _ q λz=>z)];exact q,λb ps q=>⟨#[],by rw[aD (hm b _ q λz=>z),q];simp⟩⟩
 by_cases hbe:b=e
 .subst hbe;exact heo
 .exact⟨u,k b u hbe q⟩
end
def Fw(h:Heap)(H:Hp):List Addr:=(List.range h.objs.size).filter λa=>(H a).isSome
def og(h:Heap)(H:Hp):Heap:=W.hideAll h (Fw h H)
def uJ(h:Heap)(H:Hp):(og h H).objs.size=h.objs.size:=W.hideAll_size _ _
def xi{h:Heap}{H:Hp}{b:Addr}{o:Obj}(e:h.get? b=some o)(n:H b=none):(og h H).get? b=some o :=
 W.hideAll_get _ e λhm=>by
  have q:(H b).isSome=true:=(List.mem_filter.mp hm).2;rw[n]at q;simp at q
def zt{h:Heap}{H:Hp}{b:Addr}{o:Obj}(e:(og h H).get? b=some o):h.get? b=some o/\H b=none:=by
 have e':h.get? b=some o:=W.of_hideAll (Fw h H) e;refine⟨e',?_⟩;cases q:H b with
 |none=>rfl
 |some x=>
  have hm:b∈Fw h H:=List.mem_filter.mpr ⟨List.mem_range.mpr (Heap.lt_size e'),by simp[q]⟩;have z:(og h H).get? b=none:=W.hideAll_none (Fw h H) hm;rw[z]at e;cases e
structure Mod (K:W.Frag) (mg:Str->Option Value) (base:Heap):Prop where
 kin:K.In base
 glob:base.Ns mainGlobals mg
 blt:∃mb,base.Ns builtinsNs mb/\∀x:Str,x≠"__name__"->mb x=bootBuiltins x
 nolimit:base.NoLimit
 sm:∃mm,base.Ns sysModules mm
structure Cx where
 prog:Program
 w:World
 K:W.Frag
 mg:Str->Option Value
 base:Heap
 A:Around
 N:List Str
 sd:Shared
 Ha:Hp
 env:Env
 outer:List Env
 stack:List Env
 ex:List Addr
 fn:Str->Bool
 calm:Bool
 pn:List (Addr×Obj)
 xe:Value->Shared->Prop
def fQ(l:List Env):List Addr:=l.filterMap (·.frame)
abbrev Cx.fs(X:Cx):List Addr:=fQ X.outer
def vj(sc:Scope)(x:Str):Prop:=sc.names.lookup x=some .local ∨ sc.names.lookup x=some .cell∨sc.names.lookup x=some .free
def A0(sc:Scope)(x:Str):Prop:=sc.names.lookup x=some .local ∨ sc.names.lookup x=some .cell
def Fn(env:Env)(h:Heap)(m:Str->Option Value)(x:Str)(u:Value):Prop :=
 (env.kindOf x=some .local /\ m x=some u)∨((env.kindOf x=some .cell∨env.kindOf x=some .free)/\∃c,env.cells.lookup x=some c/\h.IsCell c (some u))
structure Cx.Ok (X:Cx):Prop where
 mod:Mod X.K X.mg X.base
 kind:X.env.scope.kind=.function
 glob:X.env.globals=mainGlobals
 blt:X.env.builtins=builtinsNs
 above:X.sd.heap.objs.size<=X.env.locals
 inj:∀x y c,X.env.cells.lookup x=some c->X.env.cells.lookup y=some c->x=y
 has:∀x,(X.env.kindOf x=some .cell∨X.env.kindOf x=some .free)->∃c,X.env.cells.lookup x=some c
 cab:∀x c,X.fn x=true->X.env.cells.lookup x=some c->X.sd.heap.objs.size<=c
 hd:X.calm=true->X.A.handled=none
 frames:X.A.frames=some X.stack
 stk:X.stack=X.outer∨(X.stack=X.env::X.outer/\X.env.frame=some X.env.locals)
 exf:∀b∈X.ex,b≠X.env.locals/\∀x c,X.env.cells.lookup x=some c->c≠b
 bs:∀b o,X.base.get? b=some o->X.sd.heap.get? b=some o/\X.Ha b=none
 bsz:X.base.objs.size<=X.sd.heap.objs.size
 noex:∀b o,X.base.get? b=some o->b∉X.ex
 exfs:∀b∈X.ex,b∉X.fs
 funs:X.sd.heap.FunFrames X.base X.outer
 frf:∀b∈X.fs,X.Ha b=none
structure Inv (X:Cx) (pins:List (Addr×Obj)) (σ:List (Option V)) (H:Hp) (s:Shared):Prop where
 ok:X.Ok
 os:s.os=X.sd.os
 bare:AllBare s.gens
 base:Un X.fs X.ex X.Ha H X.sd.heap s.heap
 loc:∃m,s.heap.Ns X.env.locals m/\∀(i:Nat) (x:Str) (v:V),X.N[i]?=some x->σ[i]?=some (some v)->vj X.env.scope x->∃u,bh v u/\Fn X.env s.heap m x u
 cell:∀x c,X.env.cells.lookup x=some c->∃v,s.heap.IsCell c v
 free:H X.env.locals=none
 freeC:∀x c,X.env.cells.lookup x=some c->H c=none
 pin:∀p∈X.pn++pins,s.heap.get? p.1=some p.2/\H p.1=none/\p.1≠X.env.locals/\p.1∉X.fs/\∀v,p.2.data≠.cell v
 hok:fK X.prog X.w H s.heap
 len:σ.length=X.N.length
section
variable {X:Cx}{pins:List (Addr×Obj)}{σ:List (Option V)}{H H':Hp}{s:Shared}{h':Heap}
def Cx.Ok.nofr(ok:X.Ok){b:Addr}{o:Obj}(e:X.base.get? b=some o):b∉X.fs:=λhb=>by
 have:=(ok.funs.mem hb).1;rw[e]at this;cases this
def Inv.bs(I:Inv X pins σ H s):∀b o,X.base.get? b=some o->s.heap.get? b=some o/\H b=none:=λb o e=>
 ⟨I.base.keep b o (I.ok.bs b o e).1 (I.ok.bs b o e).2 (I.ok.nofr e) (I.ok.noex b o e),I.base.free b o (I.ok.bs b o e).1 (I.ok.bs b o e).2 (I.ok.noex b o e)⟩
def Inv.bk(I:Inv X pins σ H s):∀b o,X.base.get? b=some o->s.heap.get? b=some o:=λb o e=>(I.bs b o e).1
def Inv.mod(I:Inv X pins σ H s):Mod X.K X.mg X.base:=I.ok.mod
def Inv.kIn(I:Inv X pins σ H s):X.K.In s.heap:=I.ok.mod.kin.keeps I.bk
def Inv.lt(I:Inv X pins σ H s):X.env.locals<s.heap.objs.size:=let ⟨_,hn,_⟩:=I.loc;hn.lt
def Inv.sz(I:Inv X pins σ H s):X.sd.heap.objs.size<=s.heap.objs.size:=Nat.le_trans I.ok.above (Nat.le_of_lt I.lt)
def Inv.nofs(I:Inv X pins σ H s){a:Addr}(h:s.heap.objs.size<=a):a∉X.fs:=λhb=>by
 obtain⟨_,o,ho,_⟩:=I.ok.funs.mem hb;exact absurd (Nat.lt_of_lt_of_le (Heap.lt_size ho) (Nat.le_trans I.sz h)) (Nat.lt_irrefl _)
def Inv.cne(I:Inv X pins σ H s):∀x c,X.env.cells.lookup x=some c->c≠X.env.locals:=λx c e z=>by
 obtain⟨v,o,ho,hd⟩:=I.cell x c e;obtain⟨m,⟨o',es,ep,ho',hd',_⟩,_⟩:=I.loc;rw[z,ho']at ho;cases ho;rw[hd']at hd;cases hd
def Inv.funs(I:Inv X pins σ H s):s.heap.FunFrames X.base X.outer:=by
 have all:∀(l:List Env),(∀b∈fQ l,b∈X.fs)->X.sd.heap.FunFrames X.base l->s.heap.FunFrames X.base l:=by
  intro l
  induction l with
  |nil=>intro _ _;trivial
  |cons env r ih=>
   intro hs hl;obtain⟨hk,⟨L,o,hf,hn,ho,hd⟩,hr⟩:=hl;have hL:L∈X.fs:=hs L (by unfold fQ;rw[List.filterMap_cons,hf];exact List.mem_cons_self);obtain⟨sl,e⟩:=I.base.slot L o ho (I.ok.frf L hL) hL λz=>I.ok.exfs L z hL;exact⟨hk,⟨L,_,hf,hn,e,hd⟩,ih (λb hb=>hs b (by unfold fQ;rw[List.filterMap_cons,hf];exact List.mem_cons_of_mem _ hb)) hr⟩
 exact all X.outer (λ_ hb=>hb) I.ok.funs
def Inv.stack(I:Inv X pins σ H s):s.heap.FunFrames X.base X.stack:=by
 rcases I.ok.stk with e|⟨e,hf⟩
 .rw[e];exact I.funs
 .rw[e]
  obtain⟨m,hn,_⟩:=I.loc;refine .cons (by rw[I.ok.kind];decide) hf hn ?_ I.funs;exact Heap.get?_none_of_le (Nat.le_trans I.ok.bsz I.ok.above)
def Inv.stkSub(I:Inv X pins σ H s):∀b∈fQ X.stack,b∈X.env.locals::X.fs:=λb hb=>by
 rcases I.ok.stk with e|⟨e,hf⟩
 .rw[e]at hb;exact List.mem_cons_of_mem _ hb
 .rw[e]at hb
  unfold fQ at hb;rw[List.filterMap_cons,hf]at hb;exact hb
def Inv.stkFree(I:Inv X pins σ H s):∀b∈fQ X.stack,H b=none:=λb hb=>by
 rcases List.mem_cons.mp (I.stkSub b hb) with e|hb
 .rw[e];exact I.free
 .obtain⟨_,o,ho,_⟩:=I.ok.funs.mem hb
  exact I.base.free b o ho (I.ok.frf b hb) λz=>I.ok.exfs b z hb
def Inv.step{g':Array GenState}{t':Nat}{d':Drawn}{ch:List Addr}(I:Inv X pins σ H s)
  (hch:∀b∈ch,(b∈X.ex∨X.sd.heap.objs.size<=b)/\b≠X.env.locals/\(∀x c,X.env.cells.lookup x=some c->c≠b)/\∀p∈X.pn++pins,p.1≠b)
  (keep:∀b o,b≠X.env.locals->b∉X.fs->b∉ch->s.heap.get? b=some o->H b=none->h'.get? b=some o)
  (slot:∀b o,b≠X.env.locals->b∈X.fs->b∉ch->s.heap.get? b=some o->H b=none->∃sl,h'.get? b=some { o with slots:=sl })(free:∀b o,b∉ch->s.heap.get? b=some o->H b=none->H' b=none)
  (there:∀b o,b∉ch->s.heap.get? b=some o->∃o',h'.get? b=some o')
  (tups:∀b xs,H b=some (.tup xs)->H' b=some (.tup xs))(frzs:∀b o u,H b=some (.frz o u)->H' b=some (.frz o u))(tbls:∀b ps,H b=some (.tbl ps)->∃more,H' b=some (.tbl (ps++more)))
  (ns:∀m,s.heap.Ns X.env.locals m->h'.Ns X.env.locals m)(hok:fK X.prog X.w H' h')(hg:AllBare g') :
  Inv X pins σ H' { s with heap:=h',gens:=g',drawn:=d',toks:=t' }:=by
 have neL:∀b o,X.sd.heap.get? b=some o->b≠X.env.locals:=λb o e=>Nat.ne_of_lt (Nat.lt_of_lt_of_le (Heap.lt_size e) I.ok.above);have neC:∀b o,X.sd.heap.get? b=some o->b∉X.ex->b∉ch:=λb o e hx hb=>by
  rcases(hch b hb).1 with z|z
  .exact hx z
  .exact absurd (Nat.lt_of_lt_of_le (Heap.lt_size e) z) (Nat.lt_irrefl _)
 have cellK:∀x c,X.env.cells.lookup x=some c->∀v,s.heap.IsCell c v->h'.IsCell c v:=λx c e v z9=>by
  obtain⟨o,ho,hd⟩:=z9;have nch:c∉ch:=λz=>(hch c z).2.2.1 x c e rfl
  by_cases hc:c∈X.fs
  .obtain⟨sl,q⟩:=slot c o (I.cne x c e) hc nch ho (I.freeC x c e)
   exact⟨_,q,hd⟩
  .exact⟨o,keep c o (I.cne x c e) hc nch ho (I.freeC x c e),hd⟩
 refine⟨I.ok,I.os,hg,⟨λb o e n hb hx=>?_,λb o e n hb hx=>?_,λb o e n hx=>?_,λb o e hx=>?_,λb xs e=>tups b xs (I.base.tups b xs e),λb o xs e=>frzs b o xs (I.base.frzs b o xs e),λb ps e=>?_⟩,?_,λx c e=>?_,?_,λx c e=>?_,λp hp=>?_,hok,I.len⟩
 .exact keep b o (neL b o e) hb (neC b o e hx) (I.base.keep b o e n hb hx) (I.base.free b o e n hx)
 .obtain⟨sl,e1⟩:=I.base.slot b o e n hb hx
  obtain⟨sl',e2⟩:=slot b _ (neL b o e) hb (neC b o e hx) e1 (I.base.free b o e n hx);exact⟨sl',e2⟩
 .obtain⟨o',e1⟩:=I.base.there b o e hx
  exact free b o' (neC b o e hx) e1 (I.base.free b o e n hx)
 .obtain⟨o',e1⟩:=I.base.there b o e hx
  exact there b o' (neC b o e hx) e1
 .obtain⟨m1,e1⟩:=I.base.tbls b ps e
  obtain⟨m2,e2⟩:=tbls b _ e1;exact⟨m1++m2,by rw[e2,Array.append_assoc]⟩
 .obtain⟨m,hn,hl⟩:=I.loc
  refine⟨m,ns m hn,λi x v e1 e2 e3=>?_⟩;obtain⟨u,r,l⟩:=hl i x v e1 e2 e3;refine⟨u,r,?_⟩;rcases l with l|⟨k,c,e,z⟩
  .exact .inl l
  .exact .inr ⟨k,c,e,cellK x c e _ z⟩
 .obtain⟨v,z⟩:=I.cell x c e
  exact⟨v,cellK x c e v z⟩
 .obtain⟨m,⟨o,_,_,ho,_⟩,_⟩:=I.loc
  exact free _ o (λz=>(hch _ z).2.1 rfl) ho I.free
 .obtain⟨v,o,ho,hd⟩:=I.cell x c e
  exact free c o (λz=>(hch c z).2.2.1 x c e rfl) ho (I.freeC x c e)
 .obtain⟨e,n,ne,nf,d⟩:=I.pin p hp
  have nch:p.1∉ch:=λz=>(hch p.1 z).2.2.2 p hp rfl;exact⟨keep p.1 p.2 ne nf nch e n,free p.1 p.2 nch e n,ne,nf,d⟩
def Inv.un{t':Nat}(I:Inv X pins σ H s)(u:Un X.fs [] H H' s.heap h')(hok:fK X.prog X.w H' h'):Inv X pins σ H' { s with heap:=h',toks:=t' }:=by
 obtain⟨m,⟨o,es,ep,ho,r⟩,_⟩:=id I.loc;obtain⟨sl,hL⟩:=u.any ho I.free (by simp);exact I.step (g':=s.gens) (d':=s.drawn) (ch:=[]) (λ_ z=>nomatch z) (λb o _ hb _ e n=>u.keep b o e n hb (by simp)) (λb o _ hb _ e n=>u.slot b o e n hb (by simp)) (λb o _ e n=>u.free b o e n (by simp)) (λb o _ e=>u.there b o e (by simp)) u.tups u.frzs u.tbls (λm' hm=>by
  obtain⟨o',es',ep',ho',r'⟩:=hm;rw[ho]at ho';cases ho';exact⟨_,es',ep',hL,r'⟩) hok I.bare
def Inv.call{g':Array GenState}{t':Nat}{d':Drawn}{ch:List Addr}(I:Inv X pins σ H s)(u:Un (fQ X.stack) ch H H' s.heap h')(hok:fK X.prog X.w H' h')(hg:AllBare g')
  (hch:∀b∈ch,(b∈X.ex∨X.sd.heap.objs.size<=b)/\b≠X.env.locals/\(∀x c,X.env.cells.lookup x=some c->c≠b)/\∀p∈X.pn++pins,p.1≠b) :
  Inv X pins σ H' { s with heap:=h',gens:=g',drawn:=d',toks:=t' }:=by
 obtain⟨m,⟨o,es,ep,ho,r⟩,_⟩:=id I.loc;obtain⟨sl,hL⟩:=u.any ho I.free λz=>(hch _ z).2.1 rfl;exact I.step (ch:=ch) hch (λb o hL hb hc e n=>u.keep b o e n (λz=>(List.mem_cons.mp (I.stkSub b z)).elim hL hb) hc) (λb o _ _ hc e n=>u.any e n hc) (λb o hc e n=>u.free b o e n hc) (λb o hc e=>u.there b o e hc) u.tups u.frzs u.tbls (λm' hm=>by
  obtain⟨o',es',ep',ho',r'⟩:=hm;rw[ho]at ho';cases ho';exact⟨_,es',ep',hL,r'⟩) hok hg
def Inv.turned{t':Nat}{it:Addr}(I:Inv X pins σ H s)(k:∀b o,b≠it->s.heap.get? b=some o->h'.get? b=some o)(hn:H it=none)(hL:it≠X.env.locals)
  (h1:it∈X.ex∨X.sd.heap.objs.size<=it)(h2:∀x c,X.env.cells.lookup x=some c->c≠it)(h3:∀p∈X.pn++pins,p.1≠it):Inv X pins σ H { s with heap:=h',toks:=t' }:=by
 have nit:∀b u,H b=some u->b≠it:=λb u e z=>by rw[z,hn]at e;cases e
 refine I.step (g':=s.gens) (d':=s.drawn) (ch:=[it]) (λb hb=>?_) (λb o _ _ hc e _=>k b o (λz=>hc (by simp[z])) e) (λb o _ _ hc e _=>⟨o.slots,k b o (λz=>hc (by simp[z])) e⟩) (λ_ _ _ _ n=>n)
  (λb o hc e=>⟨o,k b o (λz=>hc (by simp[z])) e⟩) (λ_ _ e=>e) (λ_ _ _ e=>e) (λb ps e=>⟨#[],by rw[e];simp⟩) (λm hm=>?_) (λb u e=>?_) I.bare
 .have e:b=it:=by simpa using hb
  subst e;exact⟨h1,hL,h2,h3⟩
 .obtain⟨o,es,ep,ho,r⟩:=hm
  exact⟨o,es,ep,k _ o (Ne.symm hL) ho,r⟩
 .refine(I.hok b u e).stay (λc v hc q=>k c v ?_ q) (λ_ q=>q) λ_ _ q=>q
  rcases hc with z|z
  .rw[z];exact nit b u e
  .exact nit c _ z
def Inv.tok(I:Inv X pins σ H s)(t:Nat):Inv X pins σ H { s with toks:=t }:=I.un (h':=s.heap) (t':=t) Un.refl I.hok
def Inv.kept{t':Nat}(I:Inv X pins σ H s)(k:∀b u,s.heap.get? b=some u->h'.get? b=some u):Inv X pins σ H { s with heap:=h',toks:=t' }:=I.un (Un.kept k) (I.hok.kept k)
def Inv.laid{a:Addr}{o:HO}{t':Nat}(I:Inv X pins σ H s)(k:∀b u,s.heap.get? b=some u->h'.get? b=some u)(hp:s.heap.objs.size<=a)(new:bR X.prog X.w (upd H a o) h' a o) :
  Inv X pins σ (upd H a o) { s with heap:=h',toks:=t' }:=I.un (Un.laid k hp (I.hok.fresh hp)) (I.hok.laid k hp new)
def Inv.write{x e:Addr}{o:HO}{t':Nat}(I:Inv X pins σ H s)(mu:Fm (H x))(he:e=x∨H e=some (.own x))(k:∀b u,b≠e->s.heap.get? b=some u->h'.get? b=some u)(heo:∃u,h'.get? e=some u)
  (new:bR X.prog X.w (upd H x o) h' x o):Inv X pins σ (upd H x o) { s with heap:=h',toks:=t' }:=I.un (Un.write mu he k heo) (I.hok.write mu he k heo new)
def Inv.pins_of{pins':List (Addr×Obj)}(I:Inv X pins σ H s)(h:∀p∈pins',s.heap.get? p.1=some p.2/\H p.1=none/\p.1≠X.env.locals/\p.1∉X.fs/\∀v,p.2.data≠.cell v):Inv X pins' σ H s :=
 ⟨I.ok,I.os,I.bare,I.base,I.loc,I.cell,I.free,I.freeC,λp hp=>(List.mem_append.mp hp).elim (λz=>I.pin p (List.mem_append_left _ z)) (h p),I.hok,I.len⟩
def lR{N:List Str}(hN:N.Nodup){i j:Nat}{x:Str}(a:N[i]?=some x)(b:N[j]?=some x):i=j:=by
 obtain⟨h1,e1⟩:=List.getElem?_eq_some_iff.mp a;obtain⟨h2,e2⟩:=List.getElem?_eq_some_iff.mp b;exact(List.getElem_inj hN).mp (e1.trans e2.symm)
def mU{M:Model}{A:Around}{E:Value->Shared->Prop}{i:Nat}{x:Str}{v:V}{u:Value}{Q:Unit->Shared->Prop}(I:Inv X pins σ H s)(hN:X.N.Nodup)(hi:X.N[i]?=some x)(hx:A0 X.env.scope x)(r:bh v u)
  (h:∀s',Inv X pins (σ.set i (some v)) H s'->(∃a,Heap.SameBut a s.heap s'.heap/\(a=X.env.locals∨X.env.cells.lookup x=some a))->Q () s')(hf:X.fn x=true∨X.env.scope.names.lookup x=some .local := by first|exact .inl rfl|exact .inr rfl|assumption):wpAny M A (storeName X.env x u) Q E s:=by
 obtain⟨m,hn,hl⟩:=id I.loc;have hcls:(X.env.scope.kind==.class||(X.env.scope.kind==.module&&X.env.locals != X.env.globals))=false:=by rw[I.ok.kind];rfl
 have hiσ:i<σ.length:=by rw[I.len];exact(List.getElem?_eq_some_iff.mp hi).1
 have cne:=I.cne;have tracked:∀{a:Addr}{h':Heap},(∃o,s.heap.get? a=some o/\H a=none)->Heap.SameBut a s.heap h'->fK X.prog X.w H h':=λ{a h'} ha hs b ob e=>by
  obtain⟨_,_,hfree⟩:=ha;refine(I.hok b ob e).stay (λc w' hc q=>(hs.2 c ?_).trans q) (λ_ q=>q) λ_ _ q=>q;rintro rfl;rcases hc with rfl|hc
  .rw[hfree]at e;cases e
  .rw[hfree]at hc;cases hc
 rcases hx with hk|hk
 .refine wpAny_storeName_local hk hn (λh' hn' hs=>?_) hcls
  obtain⟨oL,_,_,hoL,_⟩:=id hn;refine h _ ⟨I.ok,I.os,I.bare,⟨λb o e n hb hx=>?_,λb o e n hb hx=>?_,I.base.free,λb o e hx=>?_,I.base.tups,I.base.frzs,I.base.tbls⟩,⟨_,hn',λj y v' e1 e2 e3=>?_⟩,λy c e=>?_,I.free,I.freeC,λp hp=>?_,tracked ⟨oL,hoL,I.free⟩ hs,by simpa using I.len⟩ ⟨_,hs,.inl rfl⟩
  .exact(hs.2 b (Nat.ne_of_lt (Nat.lt_of_lt_of_le (Heap.lt_size e) I.ok.above))).trans (I.base.keep b o e n hb hx)
  .obtain⟨sl,e1⟩:=I.base.slot b o e n hb hx
   exact⟨sl,(hs.2 b (Nat.ne_of_lt (Nat.lt_of_lt_of_le (Heap.lt_size e) I.ok.above))).trans e1⟩
  .obtain⟨o',e1⟩:=I.base.there b o e hx
   exact⟨o',(hs.2 b (Nat.ne_of_lt (Nat.lt_of_lt_of_le (Heap.lt_size e) I.ok.above))).trans e1⟩
  .by_cases hj:j=i
   .subst hj
    rw[hi]at e1;cases e1;rw[List.getElem?_set_self hiσ]at e2;cases e2;exact⟨u,r,.inl ⟨hk,by simp⟩⟩
   .rw[List.getElem?_set_ne (Ne.symm hj)]at e2
    obtain⟨u',r',q⟩:=hl j y v' e1 e2 e3;refine⟨u',r',?_⟩;rcases q with⟨k,e⟩|⟨k,c,e,z⟩
    .refine .inl ⟨k,?_⟩
     have:y≠x:=λe=>hj (lR hN e1 (e▸hi));simp[this,e]
    .exact .inr ⟨k,c,e,z.sameBut hs (cne y c e)⟩
  .obtain⟨w',z⟩:=I.cell y c e
   exact⟨w',z.sameBut hs (cne y c e)⟩
  .obtain⟨e,n,ne,nf,d⟩:=I.pin p hp
   exact⟨(hs.2 p.1 ne).trans e,n,ne,nf,d⟩
 .have hfn:X.fn x=true:=by
   rcases hf with z|z
   .exact z
   .rw[z]at hk;cases hk
  obtain⟨c,hc⟩:=I.ok.has x (.inl hk);obtain⟨w',z⟩:=I.cell x c hc;refine wpAny_storeName_cell I.ok.kind hk hc z (λh' hc' hs=>?_);obtain⟨oc,hoc,hocd⟩:=id z;refine h { s with heap:=h' } ⟨I.ok,I.os,I.bare,⟨λb o e n hb hx=>?_,λb o e n hb hx=>?_,I.base.free,λb o e hx=>?_,I.base.tups,I.base.frzs,I.base.tbls⟩,⟨m,hn.sameBut hs (Ne.symm (cne x c hc)),λj y v' e1 e2 e3=>?_⟩,λy c' e=>?_,I.free,I.freeC,λp hp=>?_,tracked ⟨oc,hoc,I.freeC x c hc⟩ hs,by simpa using I.len⟩ ⟨c,hs,.inr hc⟩
  .exact(hs.2 b (Nat.ne_of_lt (Nat.lt_of_lt_of_le (Heap.lt_size e) (I.ok.cab x c hfn hc)))).trans (I.base.keep b o e n hb hx)
  .obtain⟨sl,e1⟩:=I.base.slot b o e n hb hx
   exact⟨sl,(hs.2 b (Nat.ne_of_lt (Nat.lt_of_lt_of_le (Heap.lt_size e) (I.ok.cab x c hfn hc)))).trans e1⟩
  .obtain⟨o',e1⟩:=I.base.there b o e hx
   exact⟨o',(hs.2 b (Nat.ne_of_lt (Nat.lt_of_lt_of_le (Heap.lt_size e) (I.ok.cab x c hfn hc)))).trans e1⟩
  .by_cases hj:j=i
   .subst hj
    rw[hi]at e1;cases e1;rw[List.getElem?_set_self hiσ]at e2;cases e2;exact⟨u,r,.inr ⟨.inl hk,c,hc,hc'⟩⟩
   .rw[List.getElem?_set_ne (Ne.symm hj)]at e2
    obtain⟨u',r',q⟩:=hl j y v' e1 e2 e3;refine⟨u',r',?_⟩;rcases q with q|⟨k,c',e,z'⟩
    .exact .inl q
    .refine .inr ⟨k,c',e,z'.sameBut hs ?_⟩
     rintro rfl;exact hj (lR hN e1 (I.ok.inj _ _ _ e hc▸hi))
  .by_cases hcc:c'=c
   .subst hcc;exact⟨_,hc'⟩
   .obtain⟨w2,z2⟩:=I.cell y c' e
    exact⟨w2,z2.sameBut hs hcc⟩
  .obtain⟨e,n,ne,nf,d⟩:=I.pin p hp
   refine⟨(hs.2 p.1 ?_).trans e,n,ne,nf,d⟩;intro q;rw[q,hoc]at e;have q':oc=p.2:=Option.some.inj e;exact d w' (by rw[←q'];exact hocd)
def gV{M:Model}{A:Around}{E:Value->Shared->Prop}{i:Nat}{x:Str}{v:V}{u:Value}{Q:Unit->Shared->Prop}(I:Inv X pins σ H s)(hN:X.N.Nodup)(hi:X.N[i]?=some x)(hx:A0 X.env.scope x)(r:bh v u)
  (h:∀s',Inv X pins (σ.set i (some v)) H s'->Q () s')(hf:X.fn x=true∨X.env.scope.names.lookup x=some .local := by first|exact .inl rfl|exact .inr rfl|assumption):wpAny M A (storeName X.env x u) Q E s :=
 mU I hN hi hx r (λs' I' _=>h s' I') hf
def Inv.call'{s':Shared}{ch:List Addr}(I:Inv X pins σ H s)(ho:s'.os=s.os)(u:Un (fQ X.stack) ch H H' s.heap s'.heap)(hok:fK X.prog X.w H' s'.heap)(hg:AllBare s'.gens)
  (hch:∀b∈ch,(b∈X.ex∨X.sd.heap.objs.size<=b)/\b≠X.env.locals/\(∀x c,X.env.cells.lookup x=some c->c≠b)/\∀p∈X.pn++pins,p.1≠b):Inv X pins σ H' s':=by
 obtain⟨h',g',d',t',o'⟩:=s';have e:o'=s.os:=ho;subst e;exact I.call (g':=g') (t':=t') (d':=d') u hok hg hch
end
abbrev XK:=Value->Option Addr->Hp->Prop
abbrev St:=List (Option V)
abbrev VK:=V->Hp->Prop
abbrev TE:=St->Hp->VK->Prop
abbrev TT:=St->Hp->(Bool->Hp->Prop)->Prop
abbrev TA:=St->Hp->(bv->Hp->Prop)->Prop
structure fP where
 nx:St->Hp->Prop
 rt:VK
 bk:St->Hp->Prop:=λ_ _=>False
 ct:St->Hp->Prop:=λ_ _=>False
abbrev TS:=fP->St->Hp->Prop
def EP(X:Cx)(pins:List (Addr×Obj))(σ:St)(Q:VK)(u:Value)(s':Shared):Prop:=∃v H',Inv X pins σ H' s'/\bh v u/\Q v H'
def TP(X:Cx)(pins:List (Addr×Obj))(σ:St)(Q:Bool->Hp->Prop)(b:Bool)(s':Shared):Prop:=∃H',Inv X pins σ H' s'/\Q b H'
def AP(X:Cx)(pins:List (Addr×Obj))(σ:St)(Q:bv->Hp->Prop)(us:List Value)(s':Shared):Prop:=∃vs H',Inv X pins σ H' s'/\aY vs us/\Q vs H'
noncomputable def SP(X:Cx) (pins:List (Addr×Obj)) (D:fP) (f:Flow) (s':Shared):Prop :=
 match f with
 |.next=>∃σ' H',Inv X pins σ' H' s'/\D.nx σ' H'
 |.brk=>∃σ' H',Inv X pins σ' H' s'/\D.bk σ' H'
 |.cont=>∃σ' H',Inv X pins σ' H' s'/\D.ct σ' H'
 |.ret u=>∃v σ' H',Inv X pins σ' H' s'/\bh v u/\D.rt v H'
def PE(X:Cx)(e:Expr)(t:TE):Prop :=
 ∀(pins:List (Addr×Obj)) (s:Shared) (σ:St) (H:Hp) (Q:VK),Inv X pins σ H s->t σ H Q->wpAny (model X.prog X.w) X.A (eval e X.env) (EP X pins σ Q) X.xe s
def PT(X:Cx)(e:Expr)(t:TT):Prop :=
 ∀(pins:List (Addr×Obj)) (s:Shared) (σ:St) (H:Hp) (Q:Bool->Hp->Prop),Inv X pins σ H s->t σ H Q->wpAny (model X.prog X.w) X.A (isTrue e X.env (eval e X.env)) (TP X pins σ Q) X.xe s
def PW(X:Cx)(e:Expr)(t:TT):Prop :=
 ∀(whole:Sem Value) (pins:List (Addr×Obj)) (s:Shared) (σ:St) (H:Hp) (Q:Bool->Hp->Prop),Inv X pins σ H s->t σ H Q->wpAny (model X.prog X.w) X.A (isTrue e X.env whole) (TP X pins σ Q) X.xe s
def PW.pt{X:Cx}{e:Expr}{t:TT}(h:PW X e t):PT X e t:=h _
def PA(X:Cx)(es:List Expr)(t:TA):Prop :=
 ∀(pos:Pos) (pins:List (Addr×Obj)) (s:Shared) (σ:St) (H:Hp) (Q:bv->Hp->Prop),Inv X pins σ H s->t σ H Q->wpAny (model X.prog X.w) X.A (spliced (backTo pos (starEach es X.env))) (AP X pins σ Q) X.xe s
def PS(X:Cx)(st:Stmt)(t:TS):Prop :=
 ∀(pins:List (Addr×Obj)) (s:Shared) (σ:St) (H:Hp) (D:fP),Inv X pins σ H s->t D σ H->wpAny (model X.prog X.w) X.A (exec st X.env) (SP X pins D) X.xe s
def qG(X:Cx)(st:List Stmt)(t:TS):Prop :=
 ∀(pins:List (Addr×Obj)) (s:Shared) (σ:St) (H:Hp) (D:fP),Inv X pins σ H s->t D σ H->wpAny (model X.prog X.w) X.A (execs st X.env) (SP X pins D) X.xe s
def cG{α:Type}{t:Sem α}{Q Q':α->Shared->Prop}{M:Model}{A:Around}{E:Value->Shared->Prop}{s:Shared}(h:wpAny M A t Q E s)(hQ:∀a s,Q a s->Q' a s):wpAny M A t Q' E s:=wpAny_mono h hQ λ_ _ x=>x
section
variable {X:Cx}
def FI(i:Nat):TE:=λσ H Q=>∃v,σ[i]?=some (some v)/\Q v H
def tC(v:V):TE:=λ_ H Q=>Q v H
def g0{i:Nat}{x:Str}{pos:Pos}(hN:X.N[i]?=some x)(hv:vj X.env.scope x)(hd:(x==("__debug__":Str))=false:=by decide)(hcd:(x==("__classdict__":Str))=false:=by decide):PE X (.Name x pos) (FI i):=by
 intro pins s σ H Q I h;obtain⟨v,e,h⟩:=h;obtain⟨m,hn,hl⟩:=I.loc;obtain⟨u,r,l⟩:=hl i x v hN e hv;have fin:EP X pins σ Q u s:=⟨v,H,I,r,h⟩
 rcases l with⟨hk,hm⟩|⟨hk,c,hc,hcell⟩
 .exact wpAny_Name (wpAny_loadName_local I.ok.kind hk hn hm fin) hd
 .rcases hk with hk|hk
  .exact wpAny_Name (wpAny_loadName_cell I.ok.kind hk hc hcell fin) hd
  .exact wpAny_Name (wpAny_loadName_free I.ok.kind hk hc hcell fin hcd) hd
def wz{i j pos}:PE X (.Constant (.int i) j pos) (tC (.int i)):=λ_ _ _ H _ I h=>wpAny_Constant_int ⟨.int i,H,I.tok _,⟨_,rfl⟩,h⟩
def Ew{b j pos}:PE X (.Constant (.bool b) j pos) (tC (.bl b)):=λ_ _ _ H _ I h=>Constant_bool ⟨.bl b,H,I,rfl,h⟩
def BX{j pos}:PE X (.Constant .none j pos) (tC .non):=λ_ _ _ H _ I h=>Constant_none ⟨.non,H,I,rfl,h⟩
def BU{x j pos}:PE X (.Constant (.str x) j pos) (tC (.str x)):=λ_ _ _ H _ I h=>Calls.Constant_str ⟨.str x,H,I.tok _,⟨_,rfl⟩,h⟩
def Gl(X:Cx)(x:Str):Prop:=X.env.kindOf x=some .globalImplicit
def jx{E:Value->Shared->Prop}{pins:List (Addr×Obj)}{s:Shared}{σ:St}{H:Hp}{x:Str}{u:Value}{pos:Pos}{Q:Value->Shared->Prop}(I:Inv X pins σ H s)(hg:Gl X x)(hm:X.mg x=some u)(h:Q u s)
  (hd:(x==("__debug__":Str))=false:=by decide):wpAny (model X.prog X.w) X.A (eval (.Name x pos) X.env) Q E s :=
 Calls.Name_function_global I.ok.kind hg (Calls.loadGlobal_global (by rw[I.ok.glob];exact I.mod.glob.keeps I.bk) hm h) hd
def je{E:Value->Shared->Prop}{pins:List (Addr×Obj)}{s:Shared}{σ:St}{H:Hp}{x:Str}{u:Value}{pos:Pos}{Q:Value->Shared->Prop}(I:Inv X pins σ H s)(hg:Gl X x)(hm:X.mg x=none)(hv:bootBuiltins x=some u)(h:Q u s)
  (hn:x≠"__name__":=by decide)(hd:(x==("__debug__":Str))=false:=by decide):wpAny (model X.prog X.w) X.A (eval (.Name x pos) X.env) Q E s:=by
 obtain⟨mb,h1,h2⟩:=I.mod.blt;exact Calls.Name_function_global I.ok.kind hg (Calls.loadGlobal_builtin (by rw[I.ok.glob];exact I.mod.glob.keeps I.bk) hm (by rw[I.ok.blt];exact h1.keeps I.bk) ((h2 x hn).trans hv) h) hd
def nV{x:Str}{v:V}{u:Value}{pos:Pos}(hg:Gl X x)(hm:X.mg x=some u)(r:bh v u)(hd:(x==("__debug__":Str))=false:=by decide):PE X (.Name x pos) (tC v) :=
 λ_ _ _ H _ I h=>jx I hg hm ⟨v,H,I,r,h⟩ hd
def nX{x:Str}{v:V}{u:Value}{pos:Pos}(hg:Gl X x)(hm:X.mg x=none)(hv:bootBuiltins x=some u)(r:bh v u)(hn:x≠"__name__":=by decide)(hd:(x==("__debug__":Str))=false:=by decide):PE X (.Name x pos) (tC v) :=
 λ_ _ _ H _ I h=>je I hg hm hv ⟨v,H,I,r,h⟩ hn hd
variable {a b:Expr}{ta tb:TE}{pos:Pos}
noncomputable def PC(X:Cx) (op:CmpOp) (a b:Expr) (t:TE):Prop :=
 ∀(pins:List (Addr×Obj)) (s:Shared) (σ:St) (H:Hp) (Q:VK),Inv X pins σ H s->t σ H Q ->
  wpAny (model X.prog X.w) X.A (eval a X.env) (λv se=>wpAny (model X.prog X.w) X.A (eval b X.env) (λu sg=>wpAny (model X.prog X.w) X.A (compareOp op v u) (EP X pins σ Q) X.xe sg) X.xe se) X.xe s
def wH(b:Expr){op:CmpOp}(h:op≠.In)(h2:op≠.NotIn):behindInMarks op b=false:=by
 have e1:(op==CmpOp.In)=false:=by cases op<;>first|rfl|exact absurd rfl h
 have e2:(op==CmpOp.NotIn)=false:=by cases op<;>first|rfl|exact absurd rfl h2
 cases b<;>simp[behindInMarks,e1,e2]
def tB(t:TE):TT:=λσ H Q=>t σ H λx H1=>∃c,x=.bl c/\Q c H1
def BM{e:Expr}{t:TE}(h:PE X e t)(he:∀whole,isTrue e X.env whole=(do let v ←whole;standAt e.pos;holding [v] (truthy v)):=by intro _;rfl):PT X e (tB t):=by
 intro pins s σ H Q I hw;refine isTrue_plain (cG (h pins s σ H _ I hw) λv s1 z9=>?_) (he _);obtain⟨x,H1,I1,r1,q1⟩:=z9;obtain⟨d,rfl,q⟩:=q1;cases r1;exact wpAny_truthy_bool ⟨H1,I1,q⟩
variable {tA tB':TT}{rest:List Expr}
def FY(t u:TT):TT:=λσ H Q=>t σ H λc H1=>if c=true then u σ H1 Q else Q false H1
def GP(t u:TT):TT:=λσ H Q=>t σ H λc H1=>if c=true then Q true H1 else u σ H1 Q
def FP(t:TT):TT:=λσ H Q=>t σ H λc H1=>Q (!c) H1
def yR(ha:PT X a tA):PW X (.BoolOp .And [a] pos) tA:=by
 intro wh pins s σ H Q I h;refine isTrue_and (cG (ha pins s σ H Q I h) λc s1 e=>?_);cases c with|true=>exact isTrue_and_nil e|false=>exact e
def BK(ha:PT X a tA):PW X (.BoolOp .Or [a] pos) tA:=by
 intro wh pins s σ H Q I h;refine isTrue_or (cG (ha pins s σ H Q I h) λc s1 e=>?_);cases c with|false=>exact isTrue_or_nil e|true=>exact e
def BL(ha:PT X a tA)(hb:PW X (.BoolOp .And (b::rest) pos) tB'):PW X (.BoolOp .And (a::b::rest) pos) (FY tA tB'):=by
 intro wh pins s σ H Q I h;refine isTrue_and (cG (ha pins s σ H _ I h) λc s1 z9=>?_);obtain⟨H1,I1,q1⟩:=z9;cases c with|true=>exact hb wh pins s1 σ H1 Q I1 q1|false=>exact⟨H1,I1,q1⟩
def Eo(ha:PT X a tA)(hb:PW X (.BoolOp .Or (b::rest) pos) tB'):PW X (.BoolOp .Or (a::b::rest) pos) (GP tA tB'):=by
 intro wh pins s σ H Q I h;refine isTrue_or (cG (ha pins s σ H _ I h) λc s1 z9=>?_);obtain⟨H1,I1,q1⟩:=z9;cases c with|true=>exact⟨H1,I1,q1⟩|false=>exact hb wh pins s1 σ H1 Q I1 q1
def BN(ha:PT X a tA):PT X (.UnaryOp .Not a pos) (FP tA):=by
 intro pins s σ H Q I h;exact isTrue_not (ha pins s σ H (λc H1=>Q (!c) H1) I h)
def D5(ta tb:TE):TE:=λσ H Q=>ta σ H λx H1=>∃c,x=.bl c/\if c=true then tb σ H1 Q else Q (.bl false) H1
def FO(ta tb:TE):TE:=λσ H Q=>ta σ H λx H1=>∃c,x=.bl c/\if c=true then Q (.bl true) H1 else tb σ H1 Q
def DU(ta:TE):TE:=λσ H Q=>ta σ H λx H1=>∃c,x=.bl c/\Q (.bl (!c)) H1
def BV{op}{t:TE}(h:PE X a t):PE X (.BoolOp op [a] pos) t:=λpins s σ H Q I hw=>BoolOp_one (h pins s σ H Q I hw)
def BZ(ha:PE X a ta)(hb:PE X (.BoolOp .And (b::rest) pos) tb):PE X (.BoolOp .And (a::b::rest) pos) (D5 ta tb):=by
 intro pins s σ H Q I h;refine BoolOp_and (cG (ha pins s σ H _ I h) λv s1 ⟨x,H1,I1,r1,q1⟩=>?_);obtain⟨c,rfl,q1⟩:=q1;cases r1;refine wpAny_truthy_bool ?_;cases c with|true=>exact hb pins s1 σ H1 Q I1 q1|false=>exact⟨.bl false,H1,I1,rfl,q1⟩
def Et(ha:PE X a ta)(hb:PE X (.BoolOp .Or (b::rest) pos) tb):PE X (.BoolOp .Or (a::b::rest) pos) (FO ta tb):=by
 intro pins s σ H Q I h;refine BoolOp_or (cG (ha pins s σ H _ I h) λv s1 ⟨x,H1,I1,r1,q1⟩=>?_);obtain⟨c,rfl,q1⟩:=q1;cases r1;refine wpAny_truthy_bool ?_;cases c with|false=>exact hb pins s1 σ H1 Q I1 q1|true=>exact⟨.bl true,H1,I1,rfl,q1⟩
def BW(ha:PE X a ta):PE X (.UnaryOp .Not a pos) (DU ta):=by
 intro pins s σ H Q I h;refine UnaryOp_ (cG (ha pins s σ H _ I h) λv s1 z9=>?_);obtain⟨x,H1,I1,r1,q1⟩:=z9;obtain⟨c,rfl,q1⟩:=q1;cases r1;exact not_of (wpAny_truthy_bool ⟨.bl (!c),H1,I1,rfl,q1⟩)
def GR(t:TT)(ta tb:TE):TE:=λσ H Q=>t σ H λc H1=>if c=true then ta σ H1 Q else tb σ H1 Q
def wA{c:Expr}(hc:PT X c tA)(ha:PE X a ta)(hb:PE X b tb):PE X (.IfExp c a b pos) (GR tA ta tb):=by
 intro pins s σ H Q I h;refine wpAny_IfExp (cG (hc pins s σ H _ I h) λd s1 z9=>?_);obtain⟨H1,I1,q1⟩:=z9;cases d with|true=>exact ha pins s1 σ H1 Q I1 q1|false=>exact hb pins s1 σ H1 Q I1 q1
end
def dF(K:W.Frag)(H:Hp)(a:Addr)(xs:bv):Prop :=
 Rd H a (.lst xs) ∨
  ∃(o:Obj) (its:Array Value) (n:Nat),K.lookup a=some o/\o.cls=.type "list"/\o.dict=none/\o.data=.seq its n/\its.size<=sizeLine/\aY xs its.toList
def gk(K:W.Frag)(H:Hp)(a:Addr)(xs:bv):Prop :=
 Rd H a (.tup xs) ∨
  ∃(o:Obj) (its:Array Value) (n:Nat),K.lookup a=some o/\o.cls=.type "tuple"/\o.data=.seq its n/\its.size<=sizeLine/\aY xs its.toList
def Gm:Value->Option V
 |.none=>some .non
 |.bool b=>some (.bl b)
 |.int i _=>some (.int i)
 |.str x _=>some (.str x)
 |.bytes b _=>some (.byt b)
 |.float b _=>some (.flt b)
 |.ref a=>some (.ref a)
 |.type n=>some (.ty n)
 |_=>none
def bh.abs{x:V}{u:Value}(r:bh x u):Gm u=some x:=by
 cases x with|non|bl _=>cases r;rfl|int _|str _|byt _|flt _=>obtain⟨t,rfl⟩:=r;rfl|ref _|ty _=>cases r;rfl
def bh.inj{x y:V}{u:Value}(r:bh x u)(q:bh y u):x=y:=Option.some.inj (r.abs.symm.trans q.abs)
theorem aY.inj:∀{xs ys:bv}{us:List Value},aY xs us->aY ys us->xs=ys
 |_,_,_,.nil,.nil=>rfl
 |_,_,_,.cons r t,.cons r' t'=>by rw[r.inj r',aY.inj t t']
section
variable {X:Cx}{pins:List (Addr×Obj)}{σ:St}{H:Hp}{s:Shared}{a:Addr}{xs ys:bv}
def dF.of{K:W.Frag}(h:H a=some (.lst xs)):dF K H a xs:=.inl (.inl h)
def gk.of{K:W.Frag}(h:H a=some (.tup xs)):gk K H a xs:=.inl (.inl h)
def Inv.list(I:Inv X pins σ H s)(h:dF X.K H a xs):∃its:List Value,aY xs its/\PlainL s.heap a its.toArray/\xs.length<=sizeLine:=by
 rcases h with h|⟨o,its,n,hk,hc,hd,hs,hz,r⟩
 .obtain⟨z,its,n,r,e⟩:=h.ok I.hok
  exact⟨its,r,⟨_,n,e,rfl,rfl,rfl⟩,z⟩
 .refine⟨its.toList,r,⟨o,n,I.kIn a o hk,hc,hd,by simpa using hs⟩,?_⟩
  have e:=r.length;simp only[Array.length_toList]at e;omega
def Inv.tuple(I:Inv X pins σ H s)(h:gk X.K H a xs):∃its:List Value,aY xs its/\IsTup s.heap a its.toArray/\xs.length<=sizeLine:=by
 rcases h with h|⟨o,its,n,hk,hc,hs,hz,r⟩
 .obtain⟨z,its,r,p⟩:=h.ok I.hok
  exact⟨its,r,p,z⟩
 .refine⟨its.toList,r,⟨o,I.kIn a o hk,hc,n,by simpa using hs⟩,?_⟩
  have e:=r.length;simp only[Array.length_toList]at e;omega
def Inv.list_inj(I:Inv X pins σ H s)(h:dF X.K H a xs)(h':dF X.K H a ys):xs=ys:=by
 obtain⟨its,r,⟨o,n,e,_,_,d⟩,_⟩:=I.list h;obtain⟨its',r',⟨o',n',e',_,_,d'⟩,_⟩:=I.list h';rw[e]at e';cases e';rw[d]at d';injection d' with d1 _;have:its=its':=by simpa using congrArg Array.toList d1
 subst this;exact r.inj r'
def Inv.tuple_inj(I:Inv X pins σ H s)(h:gk X.K H a xs)(h':gk X.K H a ys):xs=ys:=by
 obtain⟨its,r,⟨o,e,_,n,d⟩,_⟩:=I.tuple h;obtain⟨its',r',⟨o',e',_,n',d'⟩,_⟩:=I.tuple h';rw[e]at e';cases e';rw[d]at d';injection d' with d1 _;have:its=its':=by simpa using congrArg Array.toList d1
 subst this;exact r.inj r'
end
abbrev Cx.wish(X:Cx)(E:Value->Shared->Prop):Cx:={ X with xe:=E }
abbrev Cx.nox(X:Cx):Cx:=X.wish λ_ _=>False
def Cx.Ok.wish{X:Cx}(ok:X.Ok)(E:Value->Shared->Prop):(X.wish E).Ok :=
 ⟨ok.mod,ok.kind,ok.glob,ok.blt,ok.above,ok.inj,ok.has,ok.cab,ok.hd,ok.frames,ok.stk,ok.exf,ok.bs,ok.bsz,ok.noex,ok.exfs,ok.funs,ok.frf⟩
def Cx.Ok.unwish{X:Cx}{E:Value->Shared->Prop}(ok:(X.wish E).Ok):X.Ok :=
 ⟨ok.mod,ok.kind,ok.glob,ok.blt,ok.above,ok.inj,ok.has,ok.cab,ok.hd,ok.frames,ok.stk,ok.exf,ok.bs,ok.bsz,ok.noex,ok.exfs,ok.funs,ok.frf⟩
section
variable {X:Cx}{pins:List (Addr×Obj)}{σ:St}{H:Hp}{s:Shared}{E:Value->Shared->Prop}
def Inv.wish(I:Inv X pins σ H s)(E:Value->Shared->Prop):Inv (X.wish E) pins σ H s:=⟨I.ok.wish E,I.os,I.bare,I.base,I.loc,I.cell,I.free,I.freeC,I.pin,I.hok,I.len⟩
def Inv.unwish(I:Inv (X.wish E) pins σ H s):Inv X pins σ H s:=⟨I.ok.unwish,I.os,I.bare,I.base,I.loc,I.cell,I.free,I.freeC,I.pin,I.hok,I.len⟩
def SP.unwish{D:fP}{f:Flow}{s':Shared}(h:SP (X.wish E) pins D f s'):SP X pins D f s':=by
 cases f with|next|brk|cont=>obtain⟨σ',H',I,q⟩:=h;exact⟨σ',H',I.unwish,q⟩|ret u=>obtain⟨v,σ',H',I,r,q⟩:=h;exact⟨v,σ',H',I.unwish,r,q⟩
def qG.nox{st:List Stmt}{t:TS}(h:qG X.nox st t):qG X st t:=λpins s σ H D I hw=>
 wpAny_mono (h pins s σ H D (I.wish _) hw) (λ_ _ q=>q.unwish) λ_ _ z=>False.elim z
end
section
variable {X:Cx}{st:Stmt}{rest:List Stmt}{t u:TS}{e:Expr}{te:TE}{pos:Pos}
def DV:TS:=λD σ H=>D.nx σ H
def FK(t u:TS):TS:=λD σ H=>t { D with nx:=u D } σ H
def nS:qG X [] DV:=λ_ _ σ H _ I h=>wpAny_execs_nil ⟨σ,H,I,h⟩
def jt(h1:PS X st t)(h2:qG X rest u):qG X (st::rest) (FK t u):=by
 intro pins s σ H D I h;refine wpAny_execs_cons (cG (h1 pins s σ H { D with nx:=u D } I h) λf s1 q=>?_);cases f with
 |next=>
  obtain⟨σ',H',I',q⟩:=q;exact h2 pins s1 σ' H' D I' q
 |ret v|brk|cont=>exact q
def Inv.quiet{pins:List (Addr×Obj)}{σ:St}{H:Hp}{s:Shared}(I:Inv X pins σ H s):interactive X.env=false:=by simp[interactive,I.ok.kind]
def DZ(te:TE):TS:=λD σ H=>te σ H λ_ H1=>D.nx σ H1
def kW(he:PE X e te)(hs:swapsWith e none pos.line X.env=pure false:=by rfl):PS X (.Expr e pos) (DZ te):=by
 intro pins s σ H D I h;exact wpAny_Expr_any (cG (he pins s σ H _ I h) λv s1 ⟨x,H1,I1,r1,q1⟩=>⟨σ,H1,I1,q1⟩) I.quiet hs
def FL(te:TE):TS:=λD σ H=>te σ H D.rt
def qV(he:PE X e te):PS X (.Return (some e) pos) (FL te):=by
 intro pins s σ H D I h;exact wpAny_Return_some (cG (he pins s σ H _ I h) λv s1 ⟨x,H1,I1,r1,q1⟩=>⟨x,σ,H1,I1,r1,q1⟩)
def FU(c:TT)(t u:TS):TS:=λD σ H=>c σ H λb H1=>if b=true then t D σ H1 else u D σ H1
def Ep{c:Expr}{a b:List Stmt}{tc:TT}(hc:PT X c tc)(ha:qG X a t)(hb:qG X b u):PS X (.If c a b pos) (FU tc t u):=by
 intro pins s σ H D I h;refine wpAny_If (cG (hc pins s σ H _ I h) λd s1 z9=>?_);obtain⟨H1,I1,q1⟩:=z9;cases d with|true=>exact ha pins s1 σ H1 D I1 q1|false=>exact hb pins s1 σ H1 D I1 q1
def By:TS:=λ_ _ _=>False
def wk:PS X st By:=λ_ _ _ _ _ _ h=>h.elim
end
abbrev TG:=V->St->Hp->(St->Hp->Prop)->Prop
abbrev yt:=bv->St->Hp->(St->Hp->Prop)->Prop
noncomputable def PG(X:Cx) (target:Expr) (t:TG):Prop :=
 ∀(pins:List (Addr×Obj)) (s:Shared) (σ:St) (H:Hp) (v:V) (u:Value) (Q:St->Hp->Prop),Inv X pins σ H s->bh v u->t v σ H Q ->
  wpAny (model X.prog X.w) X.A (assign target X.env u) (λ_ s'=>∃σ' H',Inv X pins σ' H' s'/\Q σ' H') X.xe s
noncomputable def vk(X:Cx) (ts:List Expr) (t:yt):Prop :=
 ∀(pins:List (Addr×Obj)) (s:Shared) (σ:St) (H:Hp) (vs:bv) (us:List Value) (Q:St->Hp->Prop),Inv X pins σ H s->aY vs us->t vs σ H Q ->
  wpAny (model X.prog X.w) X.A (assignInOrder ((assignEach ts X.env).map (·.2)) us) (λ_ s'=>∃σ' H',Inv X pins σ' H' s'/\Q σ' H') X.xe s
abbrev Dh:=V->V->V->Hp->(Hp->Prop)->Prop
noncomputable def Fg(X:Cx) (t:Dh):Prop :=
 ∀(pins:List (Addr×Obj)) (s:Shared) (σ:St) (H:Hp) (o i v:V) (ov iv u:Value) (Q:Hp->Prop),Inv X pins σ H s->bh o ov->bh i iv->bh v u->t o i v H Q ->
  wpAny (model X.prog X.w) X.A (setItem ov iv u) (λ_ s'=>∃H',Inv X pins σ H' s'/\Q H') X.xe s
section
variable {X:Cx}{pos:Pos}
def xk(i:Nat):TG:=λv σ H Q=>Q (σ.set i (some v)) H
def sW{i:Nat}{x:Str}(hN:X.N.Nodup)(hi:X.N[i]?=some x)(hx:A0 X.env.scope x)(hf:X.fn x=true∨X.env.scope.names.lookup x=some .local := by first|exact .inl rfl|exact .inr rfl|assumption):PG X (.Name x pos) (xk i):=by
 intro pins s σ H v u Q I r h;exact wpAny_assign_Name (gV I hN hi hx r (λs' I'=>⟨_,H,I',h⟩) hf)
def Gf:yt:=λvs σ H Q=>vs=[]/\Q σ H
def EN(t:TG)(u:yt):yt:=λvs σ H Q=>∃v r,vs=v::r/\t v σ H λσ' H'=>u r σ' H' Q
def y0:vk X [] Gf:=by
 intro pins s σ H vs us Q I r h;obtain⟨e,h⟩:=h;subst e;cases r;exact assignInOrder_nil ⟨σ,H,I,h⟩
def wq{e:Expr}{es:List Expr}{t:TG}{u:yt}(h1:PG X e t)(h2:vk X es u)
  (hs:(assignEach (e::es) X.env).map (·.2)=assign e X.env::(assignEach es X.env).map (·.2):=by rfl):vk X (e::es) (EN t u):=by
 intro pins s σ H vs us Q I r h;obtain⟨v,vr,e1,h⟩:=h;subst e1;cases r with
 |cons r rr=>
  rw[hs];refine assignInOrder_cons (cG (h1 pins s σ H _ _ _ I r h) λ_ s1 z9=>?_);obtain⟨σ1,H1,I1,q1⟩:=z9;exact h2 pins s1 σ1 H1 _ _ Q I1 rr q1
def Gd(K:W.Frag)(n:Nat)(t:yt):TG:=λv σ H Q=>∃a xs,v=.ref a/\gk K H a xs/\xs.length=n/\t xs σ H Q
def BQ{es:List Expr}{k:Nat}{t:yt}{n:Nat}(hc:X.calm=true)(h:vk X es t)
  (hn:(assignEach es X.env).length=n:=by rfl)(hst:(assignEach es X.env).findIdx? (·.1)=none:=by rfl):PG X (.Tuple es k pos) (Gd X.K n t):=by
 intro pins s σ H v u Q I r hw;obtain⟨a,xs,e1,hq,hl,hw⟩:=hw;subst e1;cases r;obtain⟨its,rv,ht,hz⟩:=I.tuple hq;refine assign_Tuple_tuple (I.ok.hd hc) ht (by simp[hn,←hl,rv.length]) hst λh' hx=>?_;have I1:Inv X pins σ H { s with heap:=h' }:=I.kept (t':=s.toks) λb o e=>hx b o (Nat.ne_of_lt (Heap.lt_size e)) e;exact h pins _ σ H xs _ Q I1 (by simpa using rv) hw
def Ge(to ti:TE)(t:Dh):TG:=λv σ H Q=>to σ H λo H1=>ti σ H1 λi H2=>t o i v H2 λH3=>Q σ H3
def BR{o i:Expr}{to ti:TE}{t:Dh}(ho:PE X o to)(hi:PE X i ti)(hs:Fg X t)
  (ha:∀v,assign (.Subscript o i pos) X.env v=(do
   let ov ←holding [v] (eval o X.env)
   let iv ←holding [v,ov] (eval i X.env)
   standAt pos
   holding [v,ov,iv] (setItem ov iv v)
   release [v,ov,iv] []):=by intro _;rfl):PG X (.Subscript o i pos) (Ge to ti t):=by
 intro pins s σ H v u Q I r h;rw[ha];refine wpAny_bind (wpAny_holding (cG (ho pins s σ H _ I h) λov s1 ⟨x,H1,I1,r1,q1⟩=>?_));refine wpAny_bind (wpAny_holding (cG (hi pins s1 σ H1 _ I1 q1) λiv s2 ⟨y,H2,I2,r2,q2⟩=>?_));refine wpAny_bind (wpAny_standAt (wpAny_bind (wpAny_holding (cG (hs pins s2 σ H2 x y v ov iv u _ I2 r1 r2 r q2) λ_ s3 z9=>?_))));obtain⟨H3,I3,q3⟩:=z9;exact wpAny_release ⟨σ,H3,I3,q3⟩
def BA(te:TE)(g:TG):TS:=λD σ H=>te σ H λx H1=>g x σ H1 D.nx
def BP{tg e:Expr}{te:TE}{g:TG}(he:PE X e te)(hg:PG X tg g)(hs:swapsWithSole [tg] e pos.line X.env=pure false:=by rfl)(hw:swappedStores [tg] e X.env=pure none:=by rfl)
  (h1:(assignEach [tg] X.env).map (·.2)=[assign tg X.env]:=by rfl):PS X (.Assign [tg] e pos) (BA te g):=by
 intro pins s σ H D I h;refine wpAny_Assign_stores (cG (he pins s σ H _ I h) λv s1 z9=>?_) hs hw;obtain⟨x,H1,I1,r1,q1⟩:=z9;rw[h1];exact cG (hg pins s1 σ H1 x v _ I1 r1 q1) λ_ s2 q=>q
def qU{i:Nat}{x:Str}{e:Expr}{te:TE}{pos':Pos}(hN:X.N.Nodup)(hi:X.N[i]?=some x)(hx:A0 X.env.scope x)(he:PE X e te)(hs:swapsWith e (some (.Name x pos')) pos.line X.env=pure false:=by rfl)(hf:X.fn x=true∨X.env.scope.names.lookup x=some .local := by first|exact .inl rfl|exact .inr rfl|assumption) :
  PS X (.Assign [.Name x pos'] e pos) (BA te (xk i)):=by
 intro pins s σ H D I h;refine wpAny_Assign_Name (cG (he pins s σ H _ I h) λv s1 z9=>?_) hs;obtain⟨y,H1,I1,r1,q1⟩:=z9;exact gV I1 hN hi hx r1 (λs2 I2=>⟨_,H1,I2,q1⟩) hf
def FN(i j:Nat)(ta:TA):TS:=λD σ H=>ta σ H λvs H1=>∃v w,vs=[v,w]/\D.nx ((σ.set i (some v)).set j (some w)) H1
def BO{i j:Nat}{x y:Str}{a b:Expr}{ta:TA}{px py pt:Pos}{kt k2 pt2}(hc:X.calm=true)(hN:X.N.Nodup)(hi:X.N[i]?=some x)(hj:X.N[j]?=some y)(hij:i≠j)
  (hx:X.env.scope.names.lookup x=some .local)(hy:X.env.scope.names.lookup y=some .local)(ha:PA X [a,b] ta)
  (hw:swappedStores [.Tuple [.Name x px,.Name y py] kt pt] (.Tuple [a,b] k2 pt2) X.env=pure (some [x,y]))
  (hs:swapsWithSole [.Tuple [.Name x px,.Name y py] kt pt] (.Tuple [a,b] k2 pt2) pos.line X.env=pure false:=by rfl) :
  PS X (.Assign [.Tuple [.Name x px,.Name y py] kt pt] (.Tuple [a,b] k2 pt2) pos) (FN i j ta):=by
 intro pins s σ H D I h;rw[exec_Assign_arm];refine wpAny_bind (wpAny_standAt ?_);rw[hs];refine wpAny_bind (wpAny_pure ?_);rw[if_neg (by decide)];refine wpAny_bind (Tuple_ (cG (ha _ pins s σ H _ I h) λus s1 z9=>?_));obtain⟨vs,H1,I1,r1,q1⟩:=z9;obtain⟨v,w,e1,q1⟩:=q1;subst e1;obtain⟨u1,u2,rfl,rv,rw'⟩:∃u1 u2,us=[u1,u2]/\bh v u1/\bh w u2:=by
  cases r1 with
  |cons p q=>
   cases q with
   |cons p' q'=>
    cases q';exact⟨_,_,rfl,p,p'⟩
 refine wpAny_newObj_type ?_ (by show 2<=sizeLine;decide);have I2:Inv X pins σ H1 { s1 with heap:=s1.heap.push { cls:=.type "tuple",data:=.seq [u1,u2].toArray } }:=I1.kept (t':=s1.toks) λb o e=>Heap.get?_push_of_some _ e;rw[hw];refine wpAny_bind (wpAny_pure ?_);show wpAny (model X.prog X.w) X.A (do rule "assign.swapped-stores";let items ←unpackItems (.ref s1.heap.objs.size) 2 none;assignInOrder [λv=>bindName X.env y v,λv=>bindName X.env x v] items.reverse;pure Flow.next) _ _ _;refine wpAny_bind (wpAny_rule (wpAny_bind (unpackItems_tuple (items:=#[u1,u2]) (I.ok.hd hc) (IsTup.new s1.heap _) λh' hx'=>?_)));have I3:=I2.kept (h':=h') (t':=s1.toks) λb o e=>hx' b o (Nat.ne_of_lt (Heap.lt_size e)) e;show wpAny _ _ (assignInOrder [λv=>bindName X.env y v,λv=>bindName X.env x v] [u2,u1] >>= λ_=>pure Flow.next) _ _ _;refine wpAny_bind (assignInOrder_cons (wpAny_bindName (gV I3 hN hj (.inl hy) rw' (λs2 I4=>?_) (.inr hy))));refine assignInOrder_cons (wpAny_bindName (gV I4 hN hi (.inl hx) rv (λs3 I5=>assignInOrder_nil (wpAny_pure ?_)) (.inr hx)));rw[List.set_comm _ _ (Ne.symm hij)]at I5;exact⟨_,H1,I5,q1⟩
end
section
variable {X:Cx}{pos:Pos}
def Bx(c:TT)(tb:TS):TS:=λD σ H=>∃W:Nat->St->Hp->Prop,(∃m,W m σ H)/\∀m σ H,W m σ H ->
 c σ H λb H1=>if b=true then ∃N:St->Hp->Prop,(∀σ' H',N σ' H'->∃m',m' < m/\W m' σ' H')/\tb { D with nx:=N,ct:=N,bk:=D.nx } σ H1 else D.nx σ H1
def wj{c:Expr}{body:List Stmt}{tc:TT}{tb:TS}(hp:PassesOwn (model X.prog X.w) X.A X.env X.xe)(hc:PT X c tc)(hb:qG X body tb):PS X (.While c body [] pos) (Bx tc tb):=by
 intro pins s σ H D I h;obtain⟨W,⟨m0,w0⟩,turn⟩:=h;refine wpAny_While (codeAny_whileLoop (λn s'=>∃σ' H',Inv X pins σ' H' s'/\W n σ' H') ?_ m0 ⟨σ,H,I,w0⟩);rintro n s1 ⟨σ1,H1,I1,w1⟩;refine wpAny_passesOwn hp (cG (hc pins s1 σ1 H1 _ I1 (turn n σ1 H1 w1)) λb s2 z9=>?_);obtain⟨H2,I2,q2⟩:=z9;cases b with
 |true=>
  obtain⟨N,hN,q2⟩:=q2;rw[if_pos rfl];refine wpAny_passesOwn hp (cG (hb pins s2 σ1 H2 _ I2 q2) λf s3 q3=>?_);cases f with
  |next=>
   obtain⟨σ3,H3,I3,n3⟩:=q3;obtain⟨m',hm,w3⟩:=hN σ3 H3 n3;exact⟨m',hm,σ3,H3,I3,w3⟩
  |cont=>
   obtain⟨σ3,H3,I3,n3⟩:=q3;obtain⟨m',hm,w3⟩:=hN σ3 H3 n3;exact⟨m',hm,σ3,H3,I3,w3⟩
  |brk|ret v=>exact q3
 |false=>
  rw[if_neg Bool.false_ne_true];exact wpAny_execs_nil ⟨σ1,H2,I2,q2⟩
end
structure It where
 go:Nat->Hp->Prop
 yld:Nat->Hp->V->Hp->Prop
 stop:Nat->Hp->Prop
def kQ(X:Cx)(pins:List (Addr×Obj))(H:Hp)(b:Addr):Prop :=
 H b=none/\b≠X.env.locals/\b∉X.fs/\(b∈X.ex∨X.sd.heap.objs.size<=b)/\(∀x c,X.env.cells.lookup x=some c->c≠b)/\∀p∈X.pn++pins,p.1≠b
def Inv.fpOk{X:Cx}{pins:List (Addr×Obj)}{σ:St}{H H':Hp}{s:Shared}{b:Addr}(I:Inv X pins σ H s)(hb:s.heap.objs.size<=b)(hn:H' b=none):kQ X pins H' b:=by
 refine⟨hn,Nat.ne_of_gt (Nat.lt_of_lt_of_le I.lt hb),I.nofs hb,.inr (Nat.le_trans I.sz hb),λx c e z=>?_,λp hp z=>?_⟩
 .obtain⟨v,q⟩:=I.cell x c e
  exact absurd (Nat.lt_of_lt_of_le q.lt (by rw[z];exact hb)) (Nat.lt_irrefl _)
 .exact absurd (Nat.lt_of_lt_of_le (Heap.lt_size (I.pin p hp).1) (by rw[z];exact hb)) (Nat.lt_irrefl _)
structure yh (P:Program) (w:World) (K:W.Frag) (tg:Expr) (J:It) (fp:List Addr) (it:Addr) (tn:Nat->Heap->Prop):Prop where
 mem:it∈fp
 obj:∀i h,tn i h->∀b∈fp,∃o,h.get? b=some o/\∀v,o.data≠.cell v
 keep:∀i h h',tn i h->(∀b∈fp,∀o,h.get? b=some o->h'.get? b=some o)->tn i h'
 item:∀(X:Cx),X.prog=P->X.w=w->X.K=K->X.calm=true->∀(i:Nat) (pins:List (Addr×Obj)) (s:Shared) (σ:St) (H:Hp) (E:Value->Shared->Prop),Inv X pins σ H s->(∀b∈fp,kQ X pins H b)->tn i s.heap->J.go i H ->
  wpAny (model P w) X.A (pyNext (.ref it)) (λr s1=>∃u,r=some u /\
   wpAny (model P w) X.A (letOwnedTupleGo tg (.ref it) u) (λ_ s2=>∃x H',Inv X pins σ H' s2/\bh x u/\J.yld i H x H'/\tn (i+1) s2.heap/\∀b∈fp,H' b=none) E s1) E s
 done:∀(X:Cx),X.prog=P->X.w=w->X.K=K->X.calm=true->∀(i:Nat) (pins:List (Addr×Obj)) (s:Shared) (σ:St) (H:Hp) (E:Value->Shared->Prop),Inv X pins σ H s->(∀b∈fp,kQ X pins H b)->tn i s.heap->J.stop i H ->
  wpAny (model P w) X.A (pyNext (.ref it)) (λr s1=>r=none/\Inv X pins σ H s1) E s
 self:∀(A:Around) (i:Nat) (s:Shared) (Q:Value->Shared->Prop) (E:Value->Shared->Prop),tn i s.heap->Q (.ref it) s->wpAny (model P w) A (pyIter (.ref it)) Q E s
abbrev TI:=St->Hp->(It->Hp->Prop)->Prop
noncomputable def Gp(X:Cx) (pins:List (Addr×Obj)) (σ:St) (tg:Expr) (R:It->Hp->Prop) (itv:Value) (s2:Shared):Prop :=
 ∃(it:Addr) (fp:List Addr) (tn:Nat->Heap->Prop) (J:It) (H':Hp),itv=.ref it/\Inv X pins σ H' s2/\yh X.prog X.w X.K tg J fp it tn/\tn 0 s2.heap/\(∀b∈fp,kQ X pins H' b)/\R J H'
noncomputable def PI(X:Cx) (tg iter:Expr) (wi:TI):Prop :=
 ∀(pins:List (Addr×Obj)) (s:Shared) (σ:St) (H:Hp) (R:It->Hp->Prop),Inv X pins σ H s->wi σ H R ->
  wpAny (model X.prog X.w) X.A (eval iter X.env) (λv s1=>wpAny (model X.prog X.w) X.A (pyIter v) (Gp X pins σ tg R) X.xe s1) X.xe s
def Bg{M:Model}{A:Around}{E:Value->Shared->Prop}{s:Shared}{tg:Expr}{it:Addr}{u:Value}{o:Obj}{n:String}{vs:Array Value}{Q:Unit->Shared->Prop}(ho:s.heap.get? it=some o)(hc:o.cls=.type n)(hd:o.data=.fields vs)
  (hn:["enumerate","zip","dict_itemiterator","dict_reverseitemiterator","odict_iterator","itertools.zip_longest","itertools.pairwise"].contains n=false)(hQ:Q () s):wpAny M A (letOwnedTupleGo tg (.ref it) u) Q E s:=by
 unfold letOwnedTupleGo;cases tg<;>first
  |exact wpAny_pure hQ
  |(cases u<;>first
    |exact wpAny_pure hQ
    |(refine wpAny_bind (wpAny_load ho ?_);rw[hc,hd];show wpAny M A (if(["enumerate","zip","dict_itemiterator","dict_reverseitemiterator","odict_iterator","itertools.zip_longest","itertools.pairwise"].contains n&&vs[0]?==some (rawInt _))=true then _ else _) Q E s;rw[if_neg (by intro h;rw[hn,Bool.false_and]at h;cases h)];exact wpAny_pure hQ))
def Fp(K:W.Frag)(a:Addr):It :=
 ⟨λi H=>∃xs x,dF K H a xs/\xs[i]?=some x,λi H x H'=>H'=H/\∀xs,dF K H a xs->xs[i]?=some x,λi H=>∃xs,dF K H a xs/\xs.length<=i⟩
def iS(lo:Int)(n:Nat):It:=⟨λi _=>i<n,λi H x H'=>H'=H/\x=.int (lo+i),λi _=>n<=i⟩
def uh{P:Program}{w:World}{K:W.Frag}{tg:Expr}(a it:Addr):yh P w K tg (Fp K a) [it] it (λi h=>h.IsListIter it a i) where
 mem:=by simp
 obj:=λi h st b hb=>by
  have e:b=it:=by simpa using hb
  subst e;obtain⟨o,e,c,d⟩:=st;exact⟨o,e,λv z=>by rw[d]at z;cases z⟩
 keep:=λi h h' st k=>st.at λo e=>k it (by simp) o e
 item:=by
  intro X hP hw hK hc i pins s σ H E I hf st hg;subst hP hw hK;obtain⟨xs,x,hq,hx⟩:=hg;obtain⟨its,rv,p,hz⟩:=I.list hq;obtain⟨u,hu,ru⟩:=rv.get hx;obtain⟨f0,f1,f2,f3,f4,f5⟩:=hf it (by simp);refine wpAny_pyNext_list_item st p.isList (x:=u) (by simpa using hu) λh' st' sb=>?_;have I1:Inv X pins σ H { s with heap:=h' }:=I.turned (t':=s.toks) (λb o hb e=>(sb.2 b hb).trans e) f0 f1 f3 f4 f5;obtain⟨o,e,c,d⟩:=id st';exact⟨u,rfl,Bg (s:={ s with heap:=h' }) e c d (by decide) ⟨x,H,I1,ru,⟨rfl,λys hy=>by rw[I.list_inj hy hq];exact hx⟩,st',λb hb=>(hf b hb).1⟩⟩
 done:=by
  intro X hP hw hK hc i pins s σ H E I hf st hg;subst hP hw hK;obtain⟨xs,hq,hx⟩:=hg;obtain⟨its,rv,p,hz⟩:=I.list hq;obtain⟨f0,f1,f2,f3,f4,f5⟩:=hf it (by simp);have hl:=rv.length;exact wpAny_pyNext_list_end (I.ok.hd hc) st p.isList (by simp;omega) λh' eb=>⟨rfl,I.turned (t':=s.toks) (λb o hb e=>eb b o hb e) f0 f1 f3 f4 f5⟩
 self:=λ_ _ _ _ _ st h=>wpAny_pyIter_listiter st h
def qK{P:Program}{w:World}{K:W.Frag}{tg:Expr}(it:Addr)(lo:Int)(n:Nat):yh P w K tg (iS lo n) [it] it (λi h=>IsRangeIter h it (lo+(i:Nat)*1) ((n:Int)-(i:Nat)) 1) where
 mem:=by simp
 obj:=λi h st b hb=>by
  have e:b=it:=by simpa using hb
  subst e;exact⟨_,st,λv z=>by
   have z':Data.fields _=Data.cell v:=z;cases z'⟩
 keep:=λi h h' st k=>k it (by simp) _ st
 item:=by
  intro X hP hw hK hc i pins s σ H E I hf st hg;subst hP hw hK;obtain⟨f0,f1,f2,f3,f4,f5⟩:=hf it (by simp);have W:=Walks.range (prog:=X.prog) (w:=X.w) (I.ok.hd hc) it lo 1 n;refine W.item i s _ _ hg st λv h' tk hv st' kk=>?_;obtain⟨t,rfl⟩:=hv;have I1:Inv X pins σ H { s with heap:=h',toks:=tk }:=I.turned (λb o hb e=>kk b o (by simpa using hb) e) f0 f1 f3 f4 f5;refine⟨_,rfl,Bg (s:={ s with heap:=h',toks:=tk }) (n:="range_iterator") st' rfl rfl (by decide) ⟨.int (lo+i),H,I1,⟨t,?_⟩,⟨rfl,rfl⟩,st',λb hb=>(hf b hb).1⟩⟩;rw[Int.mul_one]
 done:=by
  intro X hP hw hK hc i pins s σ H E I hf st hg;subst hP hw hK;obtain⟨f0,f1,f2,f3,f4,f5⟩:=hf it (by simp);exact wpAny_pyNext_range_end (I.ok.hd hc) st (by have:n<=i:=hg;omega) λh' eb=>⟨rfl,I.turned (t':=s.toks) (λb o hb e=>eb b o hb e) f0 f1 f3 f4 f5⟩
 self:=λ_ _ _ _ _ st h=>wpAny_pyIter_rangeiter st h
section
variable {X:Cx}{tg:Expr}
def EM(K:W.Frag)(tl:TE):TI:=λσ H R=>tl σ H λx H1=>∃a,x=.ref a/\(∃xs,dF K H1 a xs)/\R (Fp K a) H1
def sV{l:Expr}{tl:TE}(hl:PE X l tl):PI X tg l (EM X.K tl):=by
 intro pins s σ H R I h;refine cG (hl pins s σ H _ I h) λv s1 ⟨x,H1,I1,r1,q1⟩=>?_;obtain⟨a,e,⟨xs,hq⟩,q⟩:=q1;subst e;cases r1;obtain⟨its,rv,p,hz⟩:=I1.list hq;refine wpAny_pyIter_list p.isList ?_;refine⟨s1.heap.objs.size,[s1.heap.objs.size],_,_,H1,rfl,I1.kept (t':=s1.toks) λb o e=>Heap.get?_push_of_some _ e,uh a _,⟨_,Heap.get?_push_size _ rfl,rfl,rfl⟩,λb hb=>?_,q⟩;have e:b=s1.heap.objs.size:=by simpa using hb
 subst e;exact I1.fpOk (Nat.le_refl _) (I1.hok.fresh (Nat.le_refl _))
def v5{pins:List (Addr×Obj)}{σ:St}{H:Hp}{s:Shared}{R:It->Hp->Prop}{E:Value->Shared->Prop}{lo hi:Int}{t u v:Tok}{tk:Nat}(I:Inv X pins σ H s)(h1:-(2 ^ 62)<=lo)(h2:lo<2 ^ 62)(h3:-(2 ^ 62)<=hi)(h4:hi<2 ^ 62)
  (q:R (iS lo (hi-lo).toNat) H):wpAny (model X.prog X.w) X.A (pyIter (.ref s.heap.objs.size)) (Gp X pins σ tg R) E { s with heap:=s.heap.push { cls:=.type "range",data:=.fields #[.int lo t,.int hi u,.int 1 v] },toks:=tk }:=by
 refine wpAny_pyIter_range (IsRange.new ..) (small_one h1 h2 h3 h4) ?_;have I1:Inv X pins σ H { s with heap:=s.heap.push { cls:=.type "range",data:=.fields #[.int lo t,.int hi u,.int 1 v] },toks:=tk }:=I.kept λb o e=>Heap.get?_push_of_some _ e;refine⟨(s.heap.push { cls:=.type "range",data:=.fields #[.int lo t,.int hi u,.int 1 v] }).objs.size,[(s.heap.push { cls:=.type "range",data:=.fields #[.int lo t,.int hi u,.int 1 v] }).objs.size],_,_,H,rfl,
  I1.kept (t':=tk) λb o e=>Heap.get?_push_of_some _ e,qK _ lo (hi-lo).toNat,?_,λb hb=>?_,q⟩
 .have e1:lo+((0:Nat):Int)*1=lo:=by simp
  have e2:(((hi-lo).toNat:Nat):Int)-((0:Nat):Int)=Builtin.Range.rangeSize lo hi 1:=by rw[rangeSize_one];split<;>omega
  show IsRangeIter _ _ (lo+((0:Nat):Int)*1) ((((hi-lo).toNat:Nat):Int)-((0:Nat):Int)) 1;rw[e1,e2];exact Heap.get?_push_size _ rfl
 .have e:b=(s.heap.push { cls:=.type "range",data:=.fields #[.int lo t,.int hi u,.int 1 v] }).objs.size:=by simpa using hb
  subst e;exact I1.fpOk (Nat.le_refl _) (I1.hok.fresh (Nat.le_refl _))
def EL(ta:TA):TI:=λσ H R=>ta σ H λvs H1=>∃j:Int,vs=[.int j]/\-(2 ^ 62)<=j/\j<2 ^ 62/\R (iS 0 j.toNat) H1
def uw{a:Expr}{ta:TA}{p pos:Pos}(hg:Gl X "range")(hm:X.mg "range"=none)(ha:PA X [a] ta)(hs:starEach [a] X.env=[(false,eval a X.env)]:=by rfl):PI X tg (.Call (.Name "range" p) [a] [] pos) (EL ta):=by
 intro pins s σ H R I h;refine Call_ (je I hg hm boot_range (PyProof.Rows.callWith_type1 (cG (ha pos pins s σ H _ I h) λus s1 z9=>?_) hs rfl));obtain⟨vs,H1,I1,r1,q1⟩:=z9;obtain⟨j,e,q1,q2,q⟩:=q1;subst e;cases r1 with
 |cons r rr=>
  cases rr;obtain⟨t,rfl⟩:=r;exact call_range_1 (v5 I1 (by omega) (by omega) q1 q2 (by simpa using q))
noncomputable def FV(wi:TI) (g:TG) (tb:TS):TS:=λD σ H=>wi σ H λJ H1=>∃W:Nat->Nat->St->Hp->Prop,(∃m,W 0 m σ H1)/\∀i m σ H,W i m σ H ->
 (J.stop i H/\D.nx σ H)∨(J.go i H/\∃N:St->Hp->Prop,(∀σ' H',N σ' H'->∃m',m' < m/\W (i+1) m' σ' H')/\∀x H',J.yld i H x H'->g x σ H' λσ2 H2=>tb { D with nx:=N,ct:=N,bk:=D.nx } σ2 H2)
def lM(fp:List Addr)(h:Heap):List (Addr×Obj):=fp.filterMap λb=>(h.get? b).map λo=>(b,o)
def gw{fp:List Addr}{h:Heap}{b:Addr}{o:Obj}(hb:b∈fp)(e:h.get? b=some o):(b,o)∈lM fp h:=List.mem_filterMap.mpr ⟨b,hb,by rw[e];rfl⟩
def uz{fp:List Addr}{h:Heap}{p:Addr×Obj}(hp:p∈lM fp h):p.1∈fp/\h.get? p.1=some p.2:=by
 obtain⟨b,hb,e⟩:=List.mem_filterMap.mp hp;cases q:h.get? b with
 |none=>rw[q]at e;cases e
 |some o=>
  rw[q]at e;have e':(b,o)=p:=Option.some.inj e;subst e';exact⟨hb,q⟩
def Inv.pinned{pins:List (Addr×Obj)}{σ:St}{H:Hp}{s:Shared}{fp:List Addr}(I:Inv X pins σ H s)(hf:∀b∈fp,kQ X pins H b)(ho:∀b∈fp,∃o,s.heap.get? b=some o/\∀v,o.data≠.cell v):Inv X (pins++lM fp s.heap) σ H s :=
 I.pins_of λp hp=>(List.mem_append.mp hp).elim (λz=>I.pin p (List.mem_append_right _ z)) λz=>by
  obtain⟨hb,e⟩:=uz z;obtain⟨f0,f1,f2,_⟩:=hf p.1 hb;obtain⟨o,e',d⟩:=ho p.1 hb;rw[e]at e';cases e';exact⟨e,f0,f1,f2,d⟩
def Inv.unpinned{pins pl:List (Addr×Obj)}{σ:St}{H:Hp}{s:Shared}(I:Inv X (pins++pl) σ H s):Inv X pins σ H s:=I.pins_of λp hp=>I.pin p (List.mem_append_right _ (List.mem_append_left _ hp))
def wm{iter:Expr}{body:List Stmt}{wi:TI}{g:TG}{tb:TS}{pos:Pos}(hp:PassesOwn (model X.prog X.w) X.A X.env X.xe)(hc:X.calm=true)(hi:PI X tg iter wi)(hg:PG X tg g)(hb:qG X body tb)
  (hs:∀x,foldedSetIterable iter X.env x=pure x:=by intro _;rfl):PS X (.For tg iter body [] pos) (FV wi g tb):=by
 intro pins s σ H D I h;refine wpAny_For (cG (hi pins s σ H _ I h) λv s1 h1=>cG h1 λitv s2 h2=>?_) hs;obtain⟨it,fp,tn,J,H2,e,I2,T,st2,f2,W,⟨m0,w0⟩,turn⟩:=h2;subst e;have stat:∀{H':Hp},(∀b∈fp,H' b=none)->∀b∈fp,kQ X pins H' b:=λhn b hb=>⟨hn b hb,(f2 b hb).2⟩
 refine codeAny_forLoop_any (λn s'=>∃i σ' H',Inv X pins σ' H' s'/\tn i s'.heap/\(∀b∈fp,H' b=none)/\W i n σ' H') ?_ m0 ⟨0,σ,H2,I2,st2,λb hb=>(f2 b hb).1,w0⟩;rintro n s3 ⟨i,σ3,H3,I3,st3,fr3,w3⟩;rcases turn i n σ3 H3 w3 with⟨stop,qn⟩|⟨go,N,hN,step⟩
 .refine wpAny_passesOwn hp (cG (T.done X rfl rfl rfl hc i pins s3 σ3 H3 X.xe I3 (stat fr3) st3 stop) λr s4 ⟨hr,I4⟩=>?_)
  subst hr;exact wpAny_execs_nil ⟨σ3,H3,I4,qn⟩
 .refine wpAny_passesOwn hp (cG (T.item X rfl rfl rfl hc i pins s3 σ3 H3 X.xe I3 (stat fr3) st3 go) λr s4 ⟨u,hr,h4⟩=>?_)
  subst hr;refine wpAny_passesOwn hp (cG h4 λ_ s5 ⟨x,H5,I5,r5,y5,st5,fr5⟩=>?_);have I5':=I5.pinned (stat fr5) (T.obj _ _ st5);refine wpAny_passesOwn hp (cG (hg _ s5 σ3 H5 x u _ I5' r5 (step x H5 y5)) λ_ s6 ⟨σ6,H6,I6,q6⟩=>?_);refine wpAny_passesOwn hp (cG (hb _ s6 σ6 H6 _ I6 q6) λf s7 q7=>?_);have again:∀{σ7:St}{H7:Hp},Inv X (pins++lM fp s5.heap) σ7 H7 s7->N σ7 H7->∃m,m<n/\∃i σ' H',Inv X pins σ' H' s7/\tn i s7.heap/\(∀b∈fp,H' b=none)/\W i m σ' H':=λ{σ7 H7} I7 n7=>by
   obtain⟨m',hm,w7⟩:=hN σ7 H7 n7;refine⟨m',hm,i+1,σ7,H7,I7.unpinned,T.keep _ _ _ st5 λb hb o e=>(I7.pin (b,o) (List.mem_append_right _ (List.mem_append_right _ (gw hb e)))).1,λb hb=>?_,w7⟩;obtain⟨o,e,d⟩:=T.obj _ _ st5 b hb;exact(I7.pin (b,o) (List.mem_append_right _ (List.mem_append_right _ (gw hb e)))).2.1
  cases f with|next|cont=>obtain⟨σ7,H7,I7,n7⟩:=q7;exact again I7 n7|brk=>obtain⟨σ7,H7,I7,q7⟩:=q7;exact⟨σ7,H7,I7.unpinned,q7⟩|ret v=>obtain⟨x7,σ7,H7,I7,r7,q7⟩:=q7;exact⟨x7,σ7,H7,I7.unpinned,r7,q7⟩
end
def xn{K:W.Frag}{a:Addr}{xs:bv}{g:TG}{tb:TS}{D:fP}{σ:St}{H:Hp}(Pv:Nat->St->Hp->Prop)(h0:Pv 0 σ H)(hl:∀i σ H,i<=xs.length->Pv i σ H->dF K H a xs)
  (hs:∀i x σ H,xs[i]?=some x->Pv i σ H->g x σ H λσ2 H2=>tb { D with nx:=Pv (i+1),ct:=Pv (i+1),bk:=D.nx } σ2 H2)(hd:∀σ H,Pv xs.length σ H->D.nx σ H) :
  ∃W:Nat->Nat->St->Hp->Prop,(∃m,W 0 m σ H)/\∀i m σ H,W i m σ H ->
   ((Fp K a).stop i H/\D.nx σ H)∨((Fp K a).go i H/\∃N:St->Hp->Prop,(∀σ' H',N σ' H'->∃m',m' < m/\W (i+1) m' σ' H')/\∀x H',(Fp K a).yld i H x H'->g x σ H' λσ2 H2=>tb { D with nx:=N,ct:=N,bk:=D.nx } σ2 H2):=by
 refine⟨λi m σ H=>m=xs.length-i/\i<=xs.length/\Pv i σ H,⟨xs.length,by simp,Nat.zero_le _,h0⟩,?_⟩;rintro i m σ H ⟨rfl,hi,p⟩;have q:=hl i σ H hi p
 by_cases hlt:i<xs.length
 .refine .inr ⟨⟨xs,xs[i],q,by simp[hlt]⟩,Pv (i+1),λσ' H' p'=>⟨xs.length-(i+1),by omega,rfl,hlt,p'⟩,λx H' y=>?_⟩
  obtain⟨e,y⟩:=y;subst e;exact hs i x σ _ (y xs q) p
 .have e:i=xs.length:=by omega
  subst e;exact .inl ⟨⟨xs,q,Nat.le_refl _⟩,hd σ H p⟩
def uK{lo:Int}{n:Nat}{g:TG}{tb:TS}{D:fP}{σ:St}{H:Hp}(Pv:Nat->St->Hp->Prop)(h0:Pv 0 σ H)
  (hs:∀i σ H,i<n->Pv i σ H->g (.int (lo+i)) σ H λσ2 H2=>tb { D with nx:=Pv (i+1),ct:=Pv (i+1),bk:=D.nx } σ2 H2)(hd:∀σ H,Pv n σ H->D.nx σ H) :
  ∃W:Nat->Nat->St->Hp->Prop,(∃m,W 0 m σ H)/\∀i m σ H,W i m σ H ->
   ((iS lo n).stop i H/\D.nx σ H)∨((iS lo n).go i H/\∃N:St->Hp->Prop,(∀σ' H',N σ' H'->∃m',m' < m/\W (i+1) m' σ' H')/\∀x H',(iS lo n).yld i H x H'->g x σ H' λσ2 H2=>tb { D with nx:=N,ct:=N,bk:=D.nx } σ2 H2):=by
 refine⟨λi m σ H=>m=n-i/\i<=n/\Pv i σ H,⟨n,by simp,Nat.zero_le _,h0⟩,?_⟩;rintro i m σ H ⟨rfl,hi,p⟩
 by_cases hlt:i<n
 .refine .inr ⟨hlt,Pv (i+1),λσ' H' p'=>⟨n-(i+1),by omega,rfl,hlt,p'⟩,λx H' y=>?_⟩
  obtain⟨e,y⟩:=y;subst e y;exact hs i σ _ hlt p
 .have e:i=n:=by omega
  subst e;exact .inl ⟨Nat.le_refl _,hd σ H p⟩
abbrev R2:=V->V->Hp->VK->Prop
def iw(X:Cx)(f:Value->Value->Sem Value)(r:R2):Prop :=
 ∀(pins:List (Addr×Obj)) (s:Shared) (σ:St) (H:Hp) (x y:V) (v u:Value) (Q:VK),Inv X pins σ H s->bh x v->bh y u->r x y H Q ->
  wpAny (model X.prog X.w) X.A (f v u) (EP X pins σ Q) X.xe s
def Fz(X:Cx)(f:Value->Sem Value)(r:V->Hp->VK->Prop):Prop :=
 ∀(pins:List (Addr×Obj)) (s:Shared) (σ:St) (H:Hp) (x:V) (v:Value) (Q:VK),Inv X pins σ H s->bh x v->r x H Q ->
  wpAny (model X.prog X.w) X.A (f v) (EP X pins σ Q) X.xe s
def fA(X:Cx)(f:Value)(r:bv->Hp->VK->Prop):Prop :=
 ∀(pins:List (Addr×Obj)) (s:Shared) (σ:St) (H:Hp) (xs:bv) (us:List Value) (Q:VK),Inv X pins σ H s->aY xs us->r xs H Q ->
  wpAny (model X.prog X.w) X.A (call f us) (EP X pins σ Q) X.xe s
def G4(X:Cx)(r:V->Hp->(Bool->Hp->Prop)->Prop):Prop :=
 ∀(pins:List (Addr×Obj)) (s:Shared) (σ:St) (H:Hp) (x:V) (v:Value) (Q:Bool->Hp->Prop),Inv X pins σ H s->bh x v->r x H Q ->
  wpAny (model X.prog X.w) X.A (truthy v) (TP X pins σ Q) X.xe s
def DR(r:R2)(ta tb:TE):TE:=λσ H Q=>ta σ H λx H1=>tb σ H1 λy H2=>r x y H2 Q
def GN(r:V->Hp->VK->Prop)(ta:TE):TE:=λσ H Q=>ta σ H λx H1=>r x H1 Q
def rI(C:Int->Int->Prop)(g:Int->Int->V):R2:=λx y H Q=>∃i j,x=.int i/\y=.int j/\C i j/\Q (g i j) H
def yP(g:Int->Int->V):R2:=λx y H Q=>∃i j,x=.int i/\y=.int j/\Q (g i j) H
def rU(g:Int->V):V->Hp->VK->Prop:=λx H Q=>∃i,x=.int i/\Q (g i) H
section
variable {X:Cx}{a b c:Expr}{ta tb tc:TE}{pos:Pos}
def De(ha:PE X a ta)(hb:PE X b tb){pins:List (Addr×Obj)}{s:Shared}{σ:St}{H:Hp}{R:V->V->Hp->Prop}(I:Inv X pins σ H s)
  (h:ta σ H λx H1=>tb σ H1 λy H2=>R x y H2){Q:Value->Shared->Prop}{f:Value->Value->Sem Value}
  (hf:∀v u s2 x y H2,Inv X pins σ H2 s2->bh x v->bh y u->R x y H2->wpAny (model X.prog X.w) X.A (f v u) Q X.xe s2) :
  wpAny (model X.prog X.w) X.A (eval a X.env) (λv se=>wpAny (model X.prog X.w) X.A (eval b X.env) (λu sg=>wpAny (model X.prog X.w) X.A (f v u) Q X.xe sg) X.xe se) X.xe s:=by
 refine cG (ha pins s σ H _ I h) λv s1 ⟨x,H1,I1,r1,q1⟩=>?_;refine cG (hb pins s1 σ H1 _ I1 q1) λu s2 ⟨y,H2,I2,r2,q2⟩=>?_;exact hf v u s2 x y H2 I2 r1 r2 q2
def Bc{op:Operator}{r:R2}(ho:iw X (binaryOp op) r)(ha:PE X a ta)(hb:PE X b tb):PE X (.BinOp a op b pos) (DR r ta tb):=by
 intro pins s σ H Q I h;exact wpAny_BinOp (De ha hb I h λv u s2 x y H2 I2 rx ry q=>ho pins s2 σ H2 x y v u Q I2 rx ry q)
def Bb{op:UnaryOp}{r:V->Hp->VK->Prop}(ho:Fz X (unaryOp op) r)(ha:PE X a ta):PE X (.UnaryOp op a pos) (GN r ta):=by
 intro pins s σ H Q I h;exact UnaryOp_ (cG (ha pins s σ H _ I h) λv s1 ⟨x,H1,I1,r1,q1⟩=>ho pins s1 σ H1 x v Q I1 r1 q1)
def Fy{f:Value->Value->Sem Value}{C:Int->Int->Prop}{g:Int->Int->Int}
  (rule:∀(i j:Int) (t u:Tok) (s:Shared) (Q:Value->Shared->Prop) (E:Value->Shared->Prop),C i j->Q (.int (g i j) s.toks) { s with toks:=s.toks+1 }->wpAny (model X.prog X.w) X.A (f (.int i t) (.int j u)) Q E s) :
  iw X f (rI C λi j=>.int (g i j)):=by
 intro pins s σ H x y v u Q I rx ry h;obtain⟨i,j,rfl,rfl,hc,q⟩:=h;obtain⟨t,rfl⟩:=rx;obtain⟨t',rfl⟩:=ry;exact rule i j t t' s _ _ hc ⟨.int (g i j),H,I.tok _,⟨_,rfl⟩,q⟩
def EB{f:Value->Value->Sem Value}{g:Int->Int->Int}
  (rule:∀(i j:Int) (t u:Tok) (s:Shared) (Q:Value->Shared->Prop) (E:Value->Shared->Prop),Q (.int (g i j) s.toks) { s with toks:=s.toks+1 }->wpAny (model X.prog X.w) X.A (f (.int i t) (.int j u)) Q E s) :
  iw X f (yP λi j=>.int (g i j)):=by
 intro pins s σ H x y v u Q I rx ry h;obtain⟨i,j,rfl,rfl,q⟩:=h;obtain⟨t,rfl⟩:=rx;obtain⟨t',rfl⟩:=ry;exact rule i j t t' s _ _ ⟨.int (g i j),H,I.tok _,⟨_,rfl⟩,q⟩
def zr{f:Value->Value->Sem Value}{g:Int->Int->Bool}
  (rule:∀(i j:Int) (t u:Tok) (s:Shared) (Q:Value->Shared->Prop) (E:Value->Shared->Prop),Q (.bool (g i j)) s->wpAny (model X.prog X.w) X.A (f (.int i t) (.int j u)) Q E s) :
  iw X f (yP λi j=>.bl (g i j)):=by
 intro pins s σ H x y v u Q I rx ry h;obtain⟨i,j,rfl,rfl,q⟩:=h;obtain⟨t,rfl⟩:=rx;obtain⟨t',rfl⟩:=ry;exact rule i j t t' s _ _ ⟨.bl (g i j),H,I,rfl,q⟩
def Gs(i j:Int):Prop:=0<=j/\j<=1000000/\i.natAbs<2 ^ 64
def Fv(i j:Int):Prop:=(-(2 ^ 64)<i/\i<2 ^ 64)∨(-(2 ^ 64)<j/\j<2 ^ 64)
def Fv.ok{i j:Int}(h:Fv i j):IntMulOk i j:=by
 rcases h with⟨h1,h2⟩|⟨h1,h2⟩
 .exact .of_left (intBits_le_64 h1 h2)
 .exact .of_right (intBits_le_64 h1 h2)
def B6:iw X (binaryOp .Add) (yP λi j=>.int (i+j)):=EB λ_ _ _ _ _ _ _ q=>add_int q
def B3:iw X (binaryOp .Sub) (yP λi j=>.int (i-j)):=EB λ_ _ _ _ _ _ _ q=>sub_int q
def zj:iw X (binaryOp .Mod) (rI (λ_ j=>j≠0) λi j=>.int (i.fmod j)):=Fy λ_ _ _ _ _ _ _ hc q=>mod_int' hc q
def B5:iw X (binaryOp .Pow) (rI Gs λi j=>.int (i ^ j.toNat)):=Fy λ_ _ _ _ _ _ _ hc q=>pow_int_small hc.1 hc.2.1 hc.2.2 q
def GL{f:Value->Sem Value}{g:Int->Int}
  (rule:∀(i:Int) (t:Tok) (s:Shared) (Q:Value->Shared->Prop) (E:Value->Shared->Prop),Q (.int (g i) s.toks) { s with toks:=s.toks+1 }->wpAny (model X.prog X.w) X.A (f (.int i t)) Q E s) :
  Fz X f (rU λi=>.int (g i)):=by
 intro pins s σ H x v Q I rx h;obtain⟨i,rfl,q⟩:=h;obtain⟨t,rfl⟩:=rx;exact rule i t s _ _ ⟨.int (g i),H,I.tok _,⟨_,rfl⟩,q⟩
def vw:Fz X (unaryOp .USub) (rU λi=>.int (-i)):=GL λ_ _ _ _ _ q=>neg_int q
end
section
variable {X:Cx}{a b c:Expr}{ta tb tc:TE}{pos:Pos}
def xq{pins:List (Addr×Obj)}{σ:St}{H:Hp}{s:Shared}{Q:VK}{k k':Bool}(I:Inv X pins σ H s)(q:Q (.bl k) H)(e:k=k'):EP X pins σ Q (.bool k') s:=by
 subst e;exact⟨.bl k,H,I,rfl,q⟩
def Be:iw X (compareOp .Lt) (yP λi j=>.bl (decide (i<j))):=zr λ_ _ _ _ _ _ _ q=>lt_int q
def pD:iw X (compareOp .LtE) (yP λi j=>.bl (decide (i<=j))):=zr λ_ _ _ _ _ _ _ q=>le_int q
def wD:iw X (compareOp .Gt) (yP λi j=>.bl (decide (j<i))):=zr λ_ _ _ _ _ _ _ q=>gt_int q
def wF:iw X (compareOp .GtE) (yP λi j=>.bl (decide (j<=i))):=zr λ_ _ _ _ _ _ _ q=>ge_int q
def i8:iw X (compareOp .Is) (λx y H Q=>y=.non/\Q (.bl (decide (x=.non))) H):=by
 intro pins s σ H x y v u Q I rx ry h;obtain⟨rfl,q⟩:=h;cases ry;refine is_none_gen (xq I q ?_);cases x<;>first
  |(cases rx;rfl)
  |(obtain⟨t,rfl⟩:=rx;rfl)
def zh:iw X (compareOp .IsNot) (λx y H Q=>y=.non/\Q (.bl (!decide (x=.non))) H):=by
 intro pins s σ H x y v u Q I rx ry h;obtain⟨rfl,q⟩:=h;cases ry;refine isnot_none_gen (xq I q ?_);cases x<;>first
  |(cases rx;rfl)
  |(obtain⟨t,rfl⟩:=rx;rfl)
def iw.or{f:Value->Value->Sem Value}{r r':R2}(h:iw X f r)(h':iw X f r'):iw X f (λx y H Q=>r x y H Q∨r' x y H Q):=by
 intro pins s σ H x y v u Q I rx ry q;rcases q with q|q
 .exact h pins s σ H x y v u Q I rx ry q
 .exact h' pins s σ H x y v u Q I rx ry q
def zd{op:CmpOp}{r:R2}(ho:iw X (compareOp op) r)(ha:PE X a ta)(hb:PE X b tb)(hm:behindInMarks op b=false):PE X (.Compare a [op] [b] pos) (DR r ta tb):=by
 intro pins s σ H Q I h;exact wpAny_Compare1 (De ha hb I h λv u s2 x y H2 I2 rx ry q=>ho pins s2 σ H2 x y v u Q I2 rx ry q) hm
def DM(t:TE):TT:=λσ H Q=>t σ H λx H'=>∃k,x=.bl k/\Q k H'
def yS{op:CmpOp}{r:R2}(ho:iw X (compareOp op) r)(ha:PE X a ta)(hb:PE X b tb)(hm:behindInMarks op b=false):PT X (.Compare a [op] [b] pos) (DM (DR r ta tb)):=by
 intro pins s σ H Q I h;refine wpAny_isTrue_Compare1 (cG (ha pins s σ H _ I h) λv s1 ⟨x,H1,I1,r1,q1⟩=>cG (hb pins s1 σ H1 _ I1 q1) λu s2 ⟨y,H2,I2,r2,q2⟩ =>
  cG (ho pins s2 σ H2 x y v u _ I2 r1 r2 q2) λc s3 ⟨z,H3,I3,r3,k,e,q3⟩=>?_) hm
 subst e;cases r3;exact wpAny_truthy_bool ⟨H3,I3,q3⟩
noncomputable def G3(K:W.Frag) (x:V) (H:Hp) (k:Bool):Prop :=
 match x with
 |.non=>k=false
 |.bl b=>k=b
 |.int i=>k=(i != 0)
 |.str y=>y.length<=sizeLine/\k=((y.length:Int) != 0)
 |.byt y=>y.size<=sizeLine/\k=((y.size:Int) != 0)
 |.ref p=>(∃xs,dF K H p xs/\k=!xs.isEmpty)∨(∃xs,gk K H p xs/\k=!xs.isEmpty)∨∃kvs,H p=some (.dK kvs)/\k=!kvs.isEmpty
 |_=>False
def Ck{κ:Type}{kvs:List (κ×V)}{vs:List (κ×Value)}(r:KV kvs vs):(!vs.isEmpty)=!kvs.isEmpty:=by
 cases r<;>rfl
def Cj{xs:bv}{its:List Value}(r:aY xs its):(!its.toArray.isEmpty)=!xs.isEmpty:=by
 cases r<;>simp
def lT:(sizeLine:Nat)<2 ^ 63:=by rw[sizeLine_eq];decide
def qZ:iw X (binaryOp .Add) (λx y H Q=>∃i j,x=.str i/\y=.str j/\i.length+j.length<=sizeLine/\Q (.str (i++j)) H):=by
 intro pins s σ H x y v u Q I rx ry h;obtain⟨i,j,rfl,rfl,hz,q⟩:=h;obtain⟨t,rfl⟩:=rx;obtain⟨t',rfl⟩:=ry;exact add_str (λt' tk=>⟨.str (i++j),H,I.tok _,⟨_,rfl⟩,q⟩) hz
def sE{x:V}{us:List Value}(r:aY [x] us):∃u,us=[u]/\bh x u:=by
 cases r with|cons r1 r2=>cases r2;exact⟨_,rfl,r1⟩
def A3{x y:V}{us:List Value}(r:aY [x,y] us):∃u w',us=[u,w']/\bh x u/\bh y w':=by
 cases r with
 |cons r1 r2=>
  cases r2 with|cons r3 r4=>cases r4;exact⟨_,_,rfl,r1,r3⟩
def ik:fA X (.builtin "abs") (λxs H Q=>∃i,xs=[.int i]/\Q (.int (if i<0 then -i else i)) H):=by
 intro pins s σ H xs us Q I r h;obtain⟨i,rfl,q⟩:=h;obtain⟨u,rfl,t,rfl⟩:=sE r;exact call_abs_int λu tk=>⟨.int (if i<0 then -i else i),H,I.tok _,⟨_,rfl⟩,q⟩
def kd(hc:X.calm=true):fA X (.builtin "max") (λxs H Q=>∃i j,xs=[.int i,.int j]/\Q (.int (if j > i then j else i)) H):=by
 intro pins s σ H xs us Q I r h;obtain⟨i,j,rfl,q⟩:=h;obtain⟨u,w',rfl,⟨t,rfl⟩,⟨t',rfl⟩⟩:=A3 r;refine max_two_ints (I.ok.hd hc) λh' tk k=>⟨_,H,I.kept k,?_,q⟩
 by_cases hj:j > i
 .rw[if_pos hj,if_pos hj];exact⟨_,rfl⟩
 .rw[if_neg hj,if_neg hj];exact⟨_,rfl⟩
def nA(hc:X.calm=true):fA X (.builtin "min") (λxs H Q=>∃i j,xs=[.int i,.int j]/\Q (.int (if j<i then j else i)) H):=by
 intro pins s σ H xs us Q I r h;obtain⟨i,j,rfl,q⟩:=h;obtain⟨u,w',rfl,⟨t,rfl⟩,⟨t',rfl⟩⟩:=A3 r;refine min_two_ints (I.ok.hd hc) λh' tk k=>⟨_,H,I.kept k,?_,q⟩
 by_cases hj:j<i
 .rw[if_pos hj,if_pos hj];exact⟨_,rfl⟩
 .rw[if_neg hj,if_neg hj];exact⟨_,rfl⟩
def Fo(K:W.Frag)(x:V)(H:Hp)(n:Nat):Prop :=
 match x with
 |.str y=>y.length<=sizeLine/\n=y.length
 |.byt y=>y.size<=sizeLine/\n=y.size
 |.ref p=>(∃xs,dF K H p xs/\n=xs.length)∨∃xs,gk K H p xs/\n=xs.length
 |_=>False
def eI:fA X (.builtin "len") (λxs H Q=>∃x n,xs=[x]/\Fo X.K x H n/\Q (.int n) H):=by
 intro pins s σ H xs us Q I r h;obtain⟨x,n,rfl,e,q⟩:=h;obtain⟨u,rfl,rx⟩:=sE r;have hl:=lT;have hs:sizeLine=16777216:=sizeLine_eq;cases x with
 |str y=>
  obtain⟨t,rfl⟩:=rx;obtain⟨hy,e'⟩:y.length<=sizeLine/\n=y.length:=e;subst e';exact len_str (by omega) ⟨.int _,H,I.tok _,⟨_,rfl⟩,q⟩
 |byt y=>
  obtain⟨t,rfl⟩:=rx;obtain⟨hy,e'⟩:y.size<=sizeLine/\n=y.size:=e;subst e';exact W.len_bytes (by omega) ⟨.int _,H,I.tok _,⟨_,rfl⟩,q⟩
 |ref p=>
  cases rx;have e':(∃xs,dF X.K H p xs/\n=xs.length)∨∃xs,gk X.K H p xs/\n=xs.length:=e;rcases e' with⟨xs,hx,e'⟩|⟨xs,hx,e'⟩
  .subst e'
   obtain⟨its,r',pl,hz⟩:=I.list hx;have hlen:=r'.length;exact Calls.call_len_list pl.isList (by simp only[List.size_toArray];omega) ⟨.int xs.length,H,I.tok _,⟨_,by simp only[List.size_toArray];rw[hlen]⟩,q⟩
  .subst e'
   obtain⟨its,r',pl,hz⟩:=I.tuple hx;have hlen:=r'.length;exact len_tuple pl (by simp only[List.size_toArray];omega) ⟨.int xs.length,H,I.tok _,⟨_,by simp only[List.size_toArray];rw[hlen]⟩,q⟩
 |_=>exact(show False from e).elim
end
structure Di (h:Heap) (x dx C:Addr) (mA:Str->Option Value):Prop where
 obj:h.get? x=some (W.instObj C dx)
 ns:h.Ns1 dx mA
 ne:dx≠x
def uB{h:Heap}{dx:Addr}{mA:Str->Option Value}(n:h.Ns1 dx mA):∃od,h.get? dx=some od/\∀name,W.lookIn name od=some (mA name):=by
 obtain⟨o,es,ep,ho,hd,hk,_,hm⟩:=n;refine⟨o,ho,λname=>?_⟩;have e:=hm name;unfold nsFind findBy at e;rw[←Array.find?_toList]at e;unfold W.lookIn;rw[hd];dsimp only;split
 .rename_i y q
  rw[q]at e;exact congrArg some e
 .rename_i q
  rw[q]at e;have a:es.toList.any (·.refKey)=false:=by
   rw[List.any_eq_false];intro y hy;obtain⟨z,t,hkey⟩:=hk y (Array.mem_toList_iff.mp hy);simp[DictEntry.refKey,hkey]
  have a':¬es.toList.any (·.refKey)=true:=by rw[a];exact Bool.false_ne_true
  rw[if_neg a'];exact congrArg some e
def Di.look{h:Heap}{x dx C:Addr}{mA:Str->Option Value}(I:Di h x dx C mA):∃od,W.InstAt h x (W.instObj C dx) C (some od)/\∀name,W.lookIn name od=some (mA name) :=
 let ⟨od,ho,hl⟩:=uB I.ns
 ⟨od,⟨I.obj,rfl,rfl,ho⟩,hl⟩
def jM{v:V}{o:Option Value}(r:qF (some v) o):∃u,o=some u/\bh v u:=by
 cases o with|none=>exact(show False from r).elim|some u=>exact⟨u,rfl,r⟩
section
variable {P:Program}{w:World}{H H':Hp}{h h':Heap}{a C dx:Addr}{fs fs':List (Str×V)}
def tj(hok:fK P w H h)(e:H a=some (.ins C dx fs)):∃mA,Di h a dx C mA/\(∀f,qF (fs.lookup f) (mA f))/\PySem.Within mA (fs.map (·.1))/\fs.length<=1000/\H dx=some (.own a):=by
 obtain⟨d,z,ne,ob,mA,n,r,q⟩:=(show bR P w H h a (.ins C dx fs) from hok a _ e)
 exact⟨mA,⟨ob,n,ne⟩,r,q,z,d⟩
end
structure FE (K:W.Frag) (C:Addr):Prop where
 pg:W.plainGet K C Str.empty=true
 hd:W.hasDictIn K C=true
 po:W.plainOver K C=true
 sa:W.findIn K (.ref C) "__setattr__"=some (some (.builtin "object.__setattr__"))
def FE.get{K:W.Frag}{C:Addr}(c:FE K C)(f:Str):W.plainGet K C f=true:=c.pg
def Dk(K:W.Frag)(C:Addr)(f:Str):Prop:=W.findIn K (.ref C) f=some none
section
variable {X:Cx}{pins:List (Addr×Obj)}{σ:St}{H:Hp}{s:Shared}{A:Around}{E:Value->Shared->Prop}{Q:Value->Shared->Prop}{c:Value}{b:Bool}
inductive kP (K:W.Frag) (H:Hp):V->Value->Prop where
 |non:kP K H .non (.type "NoneType")
 |bl (x:Bool):kP K H (.bl x) (.type "bool")
 |int (i:Int):kP K H (.int i) (.type "int")
 |str (x:Str):kP K H (.str x) (.type "str")
 |flt (x:UInt64):kP K H (.flt x) (.type "float")
 |lst {a:Addr}{xs:bv}(e:H a=some (.lst xs)):kP K H (.ref a) (.type "list")
 |frz {a:Addr}{o:Obj}{xs:bv}(e:H a=some (.frz o (.lst xs))):kP K H (.ref a) (.type "list")
 |tup {a:Addr}{xs:bv}(e:H a=some (.tup xs)):kP K H (.ref a) (.type "tuple")
 |dK {a:Addr}{kvs:List (dQ×V)}(e:H a=some (.dK kvs)):kP K H (.ref a) (.type "dict")
 |dT {a:Addr}{kvs:List (List dQ×V)}(e:H a=some (.dT kvs)):kP K H (.ref a) (.type "dict")
 |ins {a C dx:Addr}{fs:List (Str×V)}(e:H a=some (.ins C dx fs)) (cl:FE K C) (ha:W.findIn K (.ref C) "__class__"=some (some (.builtin "object.__class__")))
   (hn:W.specialIn K (.builtin "object.__class__") "__get__"=some (some (.builtin "getset_descriptor.__get__"))) (htk:W.takesIn K (.builtin "object.__class__")=some true)
   (hm:W.mroIn K C (.type "object")=some true):kP K H (.ref a) (.ref C)
def f9{x:V}{u t:Value}(I:Inv X pins σ H s)(rx:bh x u)(ty:kP X.K H x t)(e:W.kitOne X.K t c=some b)(h:∀tk,Q (.bool b) { s with toks:=tk }) :
  wpAny (model X.prog X.w) A (call (.builtin "isinstance") [u,c]) Q E s:=by
 cases ty with
 |non=>cases (show u=Value.none from rx);exact W.kia_one W.kitx_none I.kIn True.intro e (λz=>nomatch z) h|bl y=>cases (show u=Value.bool y from rx);exact W.kia_one W.kitx_bool I.kIn True.intro e (λz=>nomatch z) h|int i=>obtain⟨t,q⟩:=(show ∃t,u=Value.int i t from rx);cases q;exact W.kia_one W.kitx_int I.kIn True.intro e (λz=>nomatch z) h|str y=>obtain⟨t,q⟩:=(show ∃t,u=Value.str y t from rx);cases q;exact W.kia_one W.kitx_str I.kIn True.intro e (λz=>nomatch z) h|flt y=>obtain⟨t,q⟩:=(show ∃t,u=Value.float y t from rx);cases q;exact W.kia_one W.kitx_float I.kIn True.intro e (λz=>nomatch z) h
 |@lst a xs ea=>
  cases (show u=Value.ref a from rx);obtain⟨_,_,n,_,h1⟩:=(show bR X.prog X.w H s.heap a (.lst xs) from I.hok a _ ea)
  exact W.kia_one W.kitx_list I.kIn ⟨_,h1,rfl⟩ e (λz=>nomatch z) h
 |@frz a ob xs ea=>
  cases (show u=Value.ref a from rx);obtain⟨_,_,_,n,_,h1⟩:=(show bR X.prog X.w H s.heap a (.frz ob (.lst xs)) from I.hok a _ ea)
  exact W.kia_one W.kitx_list I.kIn ⟨_,h1,rfl⟩ e (λz=>nomatch z) h
 |@tup a xs ea=>
  cases (show u=Value.ref a from rx);obtain⟨_,_,_,p⟩:=(show bR X.prog X.w H s.heap a (.tup xs) from I.hok a _ ea)
  obtain⟨o,h1,h2,_⟩:=p;exact W.kia_one W.kitx_tuple I.kIn ⟨o,h1,h2⟩ e (λz=>nomatch z) h
 |@dK a kvs ea=>
  cases (show u=Value.ref a from rx);obtain⟨_,_,vs,_,p⟩:=(show bR X.prog X.w H s.heap a (.dK kvs) from I.hok a _ ea)
  obtain⟨o,es,ep,h1,h2,_⟩:=p;exact W.kia_one W.kitx_dict I.kIn ⟨o,h1,h2.1⟩ e (λz=>nomatch z) h
 |@dT a kvs ea=>
  cases (show u=Value.ref a from rx);obtain⟨_,_,xs,_,o,es,ep,h1,h2,_⟩:=(show bR X.prog X.w H s.heap a (.dT kvs) from I.hok a _ ea)
  exact W.kia_one W.kitx_dict I.kIn ⟨o,h1,h2.1⟩ e (λz=>nomatch z) h
 |@ins a C dx fs ea cl ha hn htk hm=>
  cases (show u=Value.ref a from rx);obtain⟨mA,O,_⟩:=tj I.hok ea;obtain⟨od,J,_⟩:=O.look;exact W.kia_one (W.kitx_own (cl.get _) cl.hd ha hn htk hm) I.kIn J e (λz=>nomatch z) h
end
structure cn (k:Nat) (A:Around):Prop where
 hd:A.handled=none
 dp:A.depth+3*k+5<recursionLimit
 un:A.units+16*k+200<cLine
 gd:A.guards=some []
def cn.mono{j k:Nat}{A:Around}(r:cn k A)(h:j<=k):cn j A:=⟨r.hd,by have:=r.dp;omega,by have:=r.un;omega,r.gd⟩
def cn.deeper{k:Nat}{A:Around}(r:cn (k+1) A)(env:Env):cn k (A.deeper env) :=
 ⟨r.hd,by have:=r.dp;show A.depth+1+3*k+5<_;omega,by have:=r.un;show A.units+3+16*k+200<_;omega,r.gd⟩
def cn.depth{k:Nat}{A:Around}(r:cn k A):A.depth<recursionLimit:=by have:=r.dp;omega
def cn.units{k:Nat}{A:Around}(r:cn k A):A.units+64<cLine:=by have:=r.un;omega
def FQ:TA:=λ_ H Q=>Q [] H
def D3(ta:TE)(tr:TA):TA:=λσ H Q=>ta σ H λx H1=>tr σ H1 λxs H2=>Q (x::xs) H2
section
variable {X:Cx}{e:Expr}{es:List Expr}{te:TE}{t:TA}{pos:Pos}
def dG:PA X [] FQ:=λ_ _ _ _ H Q I h=>Calls.spliced_nil ⟨[],H,I,.nil,h⟩
def bK(ha:PE X e te)(hr:PA X es t)(hs:starEach (e::es) X.env=(false,eval e X.env)::starEach es X.env:=by rfl):PA X (e::es) (D3 te t):=by
 intro pos pins s σ H Q I h;rw[hs];show wpAny _ _ (spliced ((false,eval e X.env)::backTo pos (starEach es X.env))) _ _ s;refine Calls.spliced_cons (cG (ha pins s σ H _ I h) λu s1 ⟨x,H1,I1,r1,q1⟩=>?_);exact cG (hr pos pins s1 σ H1 _ I1 q1) λus s2 ⟨xs,H2,I2,r2,q2⟩=>⟨x::xs,H2,I2,.cons r1 r2,q2⟩
def FJ(t:TA):TE:=λσ H Q=>t σ H λxs H1=>xs.length<=sizeLine/\∀p,H1 p=none->Q (.ref p) (upd H1 p (.tup xs))
def FR(t:TA):TE:=λσ H Q=>t σ H λxs H1=>xs.length<=sizeLine/\∀p,H1 p=none->Q (.ref p) (upd H1 p (.lst xs))
def nU{x1}(h:PA X es t):PE X (.Tuple es x1 pos) (FJ t):=by
 intro pins s σ H Q I hq;refine wpAny_Tuple_spliced (cG (h pos pins s σ H _ I hq) λus s1 ⟨xs,H1,I1,r,z,q⟩=>⟨by rw[←r.length];exact z,?_⟩);have hf:H1 s1.heap.objs.size=none:=I1.hok.fresh (Nat.le_refl _);refine⟨.ref s1.heap.objs.size,upd H1 s1.heap.objs.size (.tup xs),I1.laid (t':=s1.toks) (λb u e=>Heap.get?_push_of_some _ e) (Nat.le_refl _) ?_,rfl,q _ hf⟩;exact⟨z,us,r,⟨_,Heap.get?_push_size _ rfl,rfl,_,rfl⟩⟩
def wu(h:PA X es t):PE X (.List es pos) (FR t):=by
 intro pins s σ H Q I hq;refine wpAny_List_spliced (cG (h pos pins s σ H _ I hq) λus s1 ⟨xs,H1,I1,r,z,q⟩=>⟨by rw[←r.length];exact z,?_⟩);have hf:H1 s1.heap.objs.size=none:=I1.hok.fresh (Nat.le_refl _);refine⟨.ref s1.heap.objs.size,upd H1 s1.heap.objs.size (.lst xs),I1.laid (t':=s1.toks) (λb u e=>Heap.get?_push_of_some _ e) (Nat.le_refl _) ?_,rfl,q _ hf⟩;exact⟨z,us,0,r,Heap.get?_push_size _ rfl⟩
end
abbrev Sp:=bv->Hp->VK->XK->Prop
abbrev ke:=List Env->Hp->Shared->XK->Value->Shared->Prop
structure yo (P:Program) (w:World) (K:W.Frag) (mg:Str->Option Value) (base:Heap) (A:Around) (outer:List Env) (s:Shared) (H:Hp):Prop where
 frames:A.frames=some outer
 mod:Mod K mg base
 bs:∀b o,base.get? b=some o->s.heap.get? b=some o/\H b=none
 bsz:base.objs.size<=s.heap.objs.size
 funs:s.heap.FunFrames base outer
 frf:∀b∈fQ outer,H b=none
 hok:fK P w H s.heap
 bare:AllBare s.gens
def CE(outer:List Env)(P:Program)(w:World)(H:Hp)(s:Shared)(Q:VK)(u:Value)(s':Shared):Prop :=
 ∃v H',s'.os=s.os/\AllBare s'.gens/\Un (fQ outer) [] H H' s.heap s'.heap/\fK P w H' s'.heap/\bh v u/\Q v H'
def CR(CX:ke)(outer:List Env)(P:Program)(w:World)(H:Hp)(s:Shared)(Q:VK)(E:XK)(r:Result)(s':Shared):Prop :=
 match r with
 |.ok (.ret u)=>CE outer P w H s Q u s'
 |.ok _=>False
 |.error e=>CX outer H s E e s'
structure FnOk (P:Program) (w:World) (K:W.Frag) (mg:Str->Option Value) (base:Heap) (CX:ke) (k:Nat) (f:Addr) (fd:FuncData) (ps:List Str) (sp:Sp):Prop where
 len:∀vs H Q E,sp vs H Q E->vs.length=ps.length
 run:∀(A:Around) (outer:List Env) (s:Shared) (H:Hp) (args:Args) (us:List Value) (vs:bv) (Q:VK) (E:XK),cn k A->yo P w K mg base A outer s H->BindsTo s fd args (ps.zip us)->aY vs us->sp vs H Q E ->
  codeAny (model P w) A (.call (.ref f) args) (CR CX outer P w H s Q E) s
def FnOk.mono{P:Program}{w:World}{K:W.Frag}{mg:Str->Option Value}{base:Heap}{CX:ke}{j k:Nat}{f:Addr}{fd:FuncData}{ps:List Str}{sp:Sp}(F:FnOk P w K mg base CX j f fd ps sp)(h:j<=k) :
  FnOk P w K mg base CX k f fd ps sp:=⟨F.len,λA outer s H args us vs Q E hr=>F.run A outer s H args us vs Q E (hr.mono h)⟩
def FnOk.imp{P:Program}{w:World}{K:W.Frag}{mg:Str->Option Value}{base:Heap}{CX:ke}{k:Nat}{f:Addr}{fd:FuncData}{ps:List Str}{sp sp':Sp}(F:FnOk P w K mg base CX k f fd ps sp)
  (h:∀vs H Q E,sp' vs H Q E->sp vs H Q E):FnOk P w K mg base CX k f fd ps sp' :=
 ⟨λvs H Q E q=>F.len vs H Q E (h _ _ _ _ q),λA outer s H args us vs Q E hr he hb hv hs=>F.run A outer s H args us vs Q E hr he hb hv (h _ _ _ _ hs)⟩
section
variable {X:Cx}{pins:List (Addr×Obj)}{σ:St}{H:Hp}{s s':Shared}
def Inv.env0(I:Inv X pins σ H s):yo X.prog X.w X.K X.mg X.base X.A X.stack s H :=
 ⟨I.ok.frames,I.ok.mod,I.bs,Nat.le_trans I.ok.bsz I.sz,I.stack,I.stkFree,I.hok,I.bare⟩
def Inv.after{Q:VK}{u:Value}(I:Inv X pins σ H s)(h:CE X.stack X.prog X.w H s Q u s'):EP X pins σ Q u s':=by
 obtain⟨v,H',os,bare,un,hok,r,q⟩:=h;obtain⟨hh,g,d,t,os'⟩:=s';obtain rfl:os'=s.os:=os;exact⟨v,H',I.call (h':=hh) (g':=g) (d':=d) (t':=t) (ch:=[]) un hok bare (λb z=>absurd z (by simp)),r,q⟩
end
def D4(sp:Sp)(dvs:bv)(E:XK)(t:TA):TE:=λσ H Q=>t σ H λvs H1=>sp (vs++dvs) H1 Q E
def iA(K:W.Frag)(fd:FuncData)(ps:List Str)(ds:List Value):Prop :=
 ∀(s:Shared) (us:List Value),K.In s.heap->(us++ds).length=ps.length->BindsTo s fd ⟨us,[]⟩ (ps.zip (us++ds))
def iA.all{K:W.Frag}{fd:FuncData}{ps:List Str}(h:∀us:List Value,us.length=ps.length->bindArgs fd ⟨us,[]⟩=pure (ps.zip us)):iA K fd ps []:=λs us _ hl=>by
 rw[List.append_nil]at hl ⊢;exact .of_eq (h us hl)
def eY(CX:ke)(X:Cx)(E:XK):Prop:=∀(pins:List (Addr×Obj)) (σ:St) (H:Hp) (s:Shared) (e:Value) (s':Shared),Inv X pins σ H s->CX X.stack H s E e s'->X.xe e s'
section
variable {X:Cx}{CX:ke}{k:Nat}{f C:Addr}{fd:FuncData}{ps:List Str}{sp:Sp}{dvs:bv}{ds:List Value}{E:XK}{x m:Str}{p pos apos:Pos}{e o:Expr}{es:List Expr}{ta:TE}{t:TA}
def vS{pins:List (Addr×Obj)}{σ:St}{H:Hp}{s:Shared}{Q:VK}{us:List Value}{vs:bv}(F:FnOk X.prog X.w X.K X.mg X.base CX k f fd ps sp)(hr:cn k X.A)(hb:iA X.K fd ps ds)(hd:aY dvs ds)(hx:eY CX X E)
  (I:Inv X pins σ H s)(r:aY vs us)(h:sp (vs++dvs) H Q E):wpAny (model X.prog X.w) X.A (call (.ref f) us) (EP X pins σ Q) X.xe s:=by
 have r2:aY (vs++dvs) (us++ds):=r.append hd;have hl:(us++ds).length=ps.length:=by rw[←r2.length];exact F.len _ _ _ _ h
 refine wpAny_call (codeAny_mono (F.run X.A X.stack s H ⟨us,[]⟩ (us++ds) (vs++dvs) Q E hr I.env0 (hb s us I.kIn hl) r2 h) λr s' hq=>?_);cases r with
 |error e=>exact hx pins σ H s e s' I hq
 |ok fl=>
  cases fl with|ret u=>exact I.after hq|next|brk|cont=>exact False.elim hq
def nW(F:FnOk X.prog X.w X.K X.mg X.base CX k f fd ps sp)(hr:cn k X.A)(hg:Gl X x)(hm:X.mg x=some (.ref f))(hk:W.keepIn X.K (.ref f)=true)(hb:iA X.K fd ps ds)(hd:aY dvs ds)(hx:eY CX X E)
  (ha:PA X (e::es) t)(hdb:(x==("__debug__":Str))=false:=by decide)(he:starEach (e::es) X.env=(false,eval e X.env)::starEach es X.env:=by rfl)(hpl:(backTo pos (starEach es X.env)).any (·.1)=false:=by rfl) :
  PE X (.Call (.Name x p) (e::es) [] pos) (D4 sp dvs E t):=by
 intro pins s σ H Q I h;refine wpAny_Call_Name_kw (jx I hg hm ?_ hdb);refine W.callWith_K (h₀:=X.base) I.ok.mod.kin hk (cG (ha pos pins s σ H _ I h) λus s1 z9=>?_) he hpl;obtain⟨vs,H1,I1,r,q⟩:=z9;refine⟨I1.kIn,?_⟩;exact vS F hr hb hd hx I1 r q
end
structure eA (N P:List Str) (sc:Scope):Prop where
 kind:sc.kind=.function
 co:sc.isCoroutine=false
 gen:sc.isGenerator=false
 nd:N.Nodup
 pre:N.take P.length=P
 par:∀x∈P,sc.names.lookup x=some .local ∨ sc.names.lookup x=some .cell
 nofree:∀y∈sc.names,y.2≠.free
theorem nC{kindOf:Str->Option NameKind}{x:Str}:∀{binds:List (Str×Value)}{m:Str->Option Value},(∀v,(x,v)∉binds)->bindL kindOf binds m x=m x
 |[],_,_=>rfl
 |(n,v)::r,m,h=>by
  unfold bindL;rw[nC λw hw=>h w (List.mem_cons_of_mem _ hw)];split
  .have:x≠n:=by rintro rfl;exact h v List.mem_cons_self
   simp[this]
  .rfl
theorem nE{kindOf:Str->Option NameKind}{x:Str}:∀{binds:List (Str×Value)}{m:Str->Option Value},(∀v,(x,v)∉binds)->bindC kindOf binds m x=m x
 |[],_,_=>rfl
 |(n,v)::r,m,h=>by
  unfold bindC;rw[nE λw hw=>h w (List.mem_cons_of_mem _ hw)];split
  .rfl
  .have:x≠n:=by rintro rfl;exact h v List.mem_cons_self
   simp[this]
theorem nD{kindOf:Str->Option NameKind}{x:Str}{v:Value}:∀{P:List Str}{vs:List Value}{i:Nat}{m:Str->Option Value},P.Nodup->P[i]?=some x->vs[i]?=some v->kindOf x=some .local ->
  bindL kindOf (P.zip vs) m x=some v
 |[],_,_,_,_,h,_,_=>by simp at h
 |_::_,[],_,_,_,_,h,_=>by simp at h
 |p::P,w::vs,0,m,nd,h1,h2,hk=>by
  simp at h1 h2;subst h1;subst h2;show bindL kindOf ((p,w)::P.zip vs) m p=_;unfold bindL;rw[nC λv hv=>(List.nodup_cons.mp nd).1 (List.of_mem_zip hv).1,if_pos hk];simp
 |p::P,w::vs,i+1,m,nd,h1,h2,hk=>by
  show bindL kindOf ((p,w)::P.zip vs) m x=_;unfold bindL;exact nD (i:=i) (List.nodup_cons.mp nd).2 (by simpa using h1) (by simpa using h2) hk
theorem nF{kindOf:Str->Option NameKind}{x:Str}{v:Value}:∀{P:List Str}{vs:List Value}{i:Nat}{m:Str->Option Value},P.Nodup->P[i]?=some x->vs[i]?=some v->kindOf x≠some .local ->
  bindC kindOf (P.zip vs) m x=some v
 |[],_,_,_,_,h,_,_=>by simp at h
 |_::_,[],_,_,_,_,h,_=>by simp at h
 |p::P,w::vs,0,m,nd,h1,h2,hk=>by
  simp at h1 h2;subst h1;subst h2;show bindC kindOf ((p,w)::P.zip vs) m p=_;unfold bindC;rw[nE λv hv=>(List.nodup_cons.mp nd).1 (List.of_mem_zip hv).1,if_neg hk];simp
 |p::P,w::vs,i+1,m,nd,h1,h2,hk=>by
  show bindC kindOf ((p,w)::P.zip vs) m x=_;unfold bindC;exact nF (i:=i) (List.nodup_cons.mp nd).2 (by simpa using h1) (by simpa using h2) hk
def start(N:List Str)(vs:bv):St:=vs.map some++List.replicate (N.length-vs.length) none
noncomputable def dU(CX:ke) (P:Program) (w:World) (K:W.Frag) (mg:Str->Option Value) (base:Heap) (N:List Str) (qual:Str) (scope:Scope) (f:Addr) (cd:Value) (A:Around) (outer:List Env) (s:Shared) (H:Hp) (E:XK):Cx where
 prog:=P
 w:=w
 K:=K
 mg:=mg
 base:=base
 A:=A.deeper (envOfC qual scope s.heap.objs.size f cd)
 N:=N
 sd:=s
 Ha:=H
 env:=envOfC qual scope s.heap.objs.size f cd
 outer:=outer
 stack:=envOfC qual scope s.heap.objs.size f cd::outer
 ex:=[]
 calm:=true
 fn:=λ_=>true
 pn:=[]
 xe:=λe s'=>wpAny (model P w) (A.deeper (envOfC qual scope s.heap.objs.size f cd)) (leaving (envOfC qual scope s.heap.objs.size f cd) e) (λ_ s''=>CX outer H s E e s'') (λe' s''=>CX outer H s E e' s'') s'
def qu{sc:Scope}{n:Nat}{x:Str}(h:sc.names.lookup x=some .cell):∃c,(cellsFrom n sc.names []).lookup x=some c:=by
 have q:=W.cellsFrom_some sc.names n [] (.inl h);exact Option.isSome_iff_exists.mp q
def uG{CX:ke}{P:Program}{w:World}{K:W.Frag}{mg:Str->Option Value}{base:Heap}{N ps:List Str}{qual:Str}{scope:Scope}{f:Addr}{cd:Value}{A:Around}{outer:List Env}{s s1:Shared}{H:Hp}{E:XK}{us:List Value}{vs:bv}
  (S:eA N ps scope)(hd:A.handled=none)(e0:yo P w K mg base A outer s H)(hl:vs.length=ps.length)(r:aY vs us)
  (x:InCallC s s.heap.objs.size (bindL (envOfC qual scope s.heap.objs.size f cd).kindOf (ps.zip us) λ_=>none) (cellsFrom (s.heap.objs.size+1) scope.names []) (bindC (envOfC qual scope s.heap.objs.size f cd).kindOf (ps.zip us) λ_=>none) s1) :
  Inv (dU CX P w K mg base N qual scope f cd A outer s H E) [] (start N vs) H s1:=by
 have hpl:ps.length<=N.length:=by have:=congrArg List.length S.pre;rw[List.length_take]at this;omega
 obtain⟨h1,tk,rfl,hk⟩:=x.done;have noA:∀b:Addr,b∉(dU CX P w K mg base N qual scope f cd A outer s H E).ex:=λb z=>absurd (show b∈([]:List Addr) from z) (by simp);refine⟨⟨e0.mod,S.kind,rfl,rfl,Nat.le_refl _,λy z c h1 h2=>?_,λy hy=>?_,λy c _ h=>?_,λ_=>hd,Around.frames_deeper e0.frames,.inr ⟨rfl,rfl⟩,λb z=>absurd z (noA b),e0.bs,e0.bsz,λb _ _=>noA b,λb z=>absurd z (noA b),e0.funs,e0.frf⟩,
  rfl,e0.bare,Un.kept hk,⟨_,x.toInCall.ns,λi y v h1 h2 h3=>?_⟩,λy c h=>⟨_,x.cell y c h⟩,e0.hok.fresh (Nat.le_refl _),λy c h=>?_,λp hp=>absurd (show p∈([]:List (Addr×Obj)) from hp) (by simp),e0.hok.kept hk,?_⟩
 .exact name_of_addr x.apart (PySem.mem_of_lookup h1) (PySem.mem_of_lookup h2)
 .have hy:scope.names.lookup y=some .cell∨scope.names.lookup y=some .free:=hy
  rcases hy with hy|hy
  .exact qu hy
  .exact absurd rfl (S.nofree _ (PySem.mem_of_lookup hy))
 .exact Nat.le_of_lt (x.above y c (PySem.mem_of_lookup h))
 .have hi:i<vs.length:=by
   unfold start at h2
   by_cases hi:i<vs.length
   .exact hi
   .rw[List.getElem?_append_right (by simpa using hi)]at h2
    rw[List.getElem?_replicate]at h2;split at h2<;>cases h2
  have ha:vs[i]?=some v:=by
   unfold start at h2;rw[List.getElem?_append_left (by simpa using hi),List.getElem?_map]at h2;cases e:vs[i]? with|none=>rw[e]at h2;cases h2|some a=>rw[e]at h2;cases h2;rfl
  obtain⟨u,hu,rv⟩:=r.get ha;have hp:ps[i]?=some y:=by
   rw[←S.pre,List.getElem?_take_of_lt (by omega)];exact h1
  have ndP:ps.Nodup:=by rw[←S.pre];exact S.nd.sublist (List.take_sublist _ _)
  refine⟨u,rv,?_⟩;rcases S.par y (List.mem_of_getElem? hp) with k|k
  .exact .inl ⟨k,nD ndP hp hu k⟩
  .obtain⟨c,e⟩:=qu (n:=s.heap.objs.size+1) k
   refine .inr ⟨.inl k,c,e,?_⟩;have q:=x.cell y c e;rw[nF ndP hp hu (by show scope.names.lookup y≠_;rw[k];decide)]at q;exact q
 .exact e0.hok.fresh (Nat.le_of_lt (x.above y c (PySem.mem_of_lookup h)))
 .unfold start
  show _=N.length;rw[List.length_append,List.length_map,List.length_replicate];omega
def tu{CX:ke}{P:Program}{w:World}{K:W.Frag}{mg:Str->Option Value}{base:Heap}{k:Nat}{f:Addr}{name qual:Str}{params:Arguments}{body:List Stmt}{scope:Scope}{dV kV doc pm cdv ct oc:Value}{an od:Option Addr}
  {osl:Array (Option Value)}{N ps:List Str}{sp:Sp}(lk:K.lookup f=some ⟨oc,od,.func (W.fnOf name qual params body scope dV kV doc pm an cdv ct),osl⟩) (hcd:W.codeIn K cdv qual=true) (S:eA N ps scope)
  (len:∀vs H Q E,sp vs H Q E->vs.length=ps.length)
  (hbody:∀(A:Around) (outer:List Env) (s:Shared) (H:Hp) (vs:bv) (Q:VK) (E:XK),cn k (A.deeper (envOfC qual scope s.heap.objs.size f cdv))->sp vs H Q E ->
   ∃t,qG (dU CX P w K mg base N qual scope f cdv A outer s H E) body t/\t { nx:=λ_ H'=>Q .non H',rt:=Q } (start N vs) H) :
  FnOk P w K mg base CX (k+1) f (W.fnOf name qual params body scope dV kV doc pm an cdv ct) ps sp:=by
 refine⟨len,λA outer s H args us vs Q E hr e0 hb r hsp=>?_⟩;have hl:=len _ _ _ _ hsp;have KX:K.In s.heap:=e0.mod.kin.keeps λb o e=>(e0.bs b o e).1;have lim:s.heap.NoLimit:=e0.mod.nolimit.keeps λb o e=>(e0.bs b o e).1;have hkind:∀y∈ps.zip us,scope.names.lookup y.1=some .local ∨ (scope.names.lookup y.1=some .cell/\((cellsFrom (s.heap.objs.size+1) scope.names []).lookup y.1).isSome=true):=λ⟨n,v⟩ hy=>by
  rcases S.par n (List.of_mem_zip hy).1 with q|q
  .exact .inl q
  .exact .inr ⟨q,W.cellsFrom_some _ _ _ (.inl q)⟩
 refine codeAny_call_function hr.depth (KX _ _ lk) rfl S.co S.gen rfl (W.codeRec_of KX hcd) (hb _ _ _ _ ?_);refine wpAny_newFunctionEnv_cells S.kind hkind λenv he s1 x=>?_;subst he;refine⟨lim.keeps x.toInCall.keep,codeAny_func ?_⟩;obtain⟨t,ht,hq⟩:=hbody A outer s H vs Q E (hr.deeper _) hsp;have I:Inv (dU CX P w K mg base N qual scope f cdv A outer s H E) [] (start N vs) H s1:=uG S hr.hd e0 hl r x;refine wpAny_mono (ht [] s1 (start N vs) H _ I hq) (λfl s' hs=>?_) λe s' hs=>hs;have fin:∀{σ':St}{H':Hp}{v:V}{u:Value},Inv (dU CX P w K mg base N qual scope f cdv A outer s H E) [] σ' H' s'->bh v u->Q v H'->CE outer P w H s Q u s' :=
  λ{σ' H' v u} J rv q=>⟨v,H',J.os,J.bare,J.base,J.hok,rv,q⟩
 cases fl with
 |ret u=>
  obtain⟨v,σ',H',J,rv,q⟩:=hs;exact fin J rv q
 |next=>
  obtain⟨σ',H',J,q⟩:=hs;exact fin (v:=V.non) (u:=Value.none) J rfl q
 |brk=>
  obtain⟨_,_,_,q⟩:=hs;exact False.elim q
 |cont=>
  obtain⟨_,_,_,q⟩:=hs;exact False.elim q
section
variable {X:Cx}{x:Str}{p pos:Pos}{e:Expr}{es:List Expr}{t:TA}{id T:String}{r:bv->Hp->VK->Prop}
def Gx(r:bv->Hp->VK->Prop)(t:TA):TE:=λσ H Q=>t σ H λvs H1=>r vs H1 Q
def g6(hc:fA X (.builtin id) r)(hg:Gl X x)(hm:X.mg x=none)(hv:bootBuiltins x=some (.builtin id))(ha:PA X (e::es) t)(hn:x≠"__name__":=by decide)(hdb:(x==("__debug__":Str))=false:=by decide)
  (he:starEach (e::es) X.env=(false,eval e X.env)::starEach es X.env:=by rfl)(hpl:(backTo pos (starEach es X.env)).any (·.1)=false:=by rfl):PE X (.Call (.Name x p) (e::es) [] pos) (Gx r t):=by
 intro pins s σ H Q I h;refine wpAny_Call_Name_kw (je I hg hm hv ?_ hn hdb);exact PyProof.Rows.callWith_builtin1 (cG (ha pos pins s σ H _ I h) λus s1 ⟨vs,H1,I1,r1,q1⟩=>hc pins s1 σ H1 vs us Q I1 r1 q1) he hpl
def ux(hc:fA X (.type T) r)(hg:Gl X x)(hm:X.mg x=none)(hv:bootBuiltins x=some (.type T))(ha:PA X (e::es) t)(hn:x≠"__name__":=by decide)(hdb:(x==("__debug__":Str))=false:=by decide)
  (he:starEach (e::es) X.env=(false,eval e X.env)::starEach es X.env:=by rfl)(hpl:(backTo pos (starEach es X.env)).any (·.1)=false:=by rfl):PE X (.Call (.Name x p) (e::es) [] pos) (Gx r t):=by
 intro pins s σ H Q I h;refine wpAny_Call_Name_kw (je I hg hm hv ?_ hn hdb);exact PyProof.Rows.callWith_type1 (cG (ha pos pins s σ H _ I h) λus s1 ⟨vs,H1,I1,r1,q1⟩=>hc pins s1 σ H1 vs us Q I1 r1 q1) he hpl
end
end L2
namespace HT
open PySem PyProof.Rows
section
variable {prog:Program}{w:World}{A:Around}{E:Value->Shared->Prop}{s:Shared}
def cat_tup{t b:Addr}{vs ws:List Value}{Q:Value->Shared->Prop}(ht:IsTup s.heap t vs.toArray)(hb:IsTup s.heap b ws.toArray)(hv:vs≠[])
  (h1:ws=[]->Q (.ref t) s)(h2:ws≠[]->Q (.ref s.heap.objs.size) { s with heap:=s.heap.push { cls:=.type "tuple",data:=.seq (vs++ws).toArray } })
  (hsz:vs.length+ws.length<=sizeLine):wpAny (model prog w) A (binaryOp .Add (.ref t) (.ref b)) Q E s:=by
 obtain⟨⟨cls,dd,data,sl⟩,ho,hc,n,hd⟩:=id ht;obtain⟨⟨cls2,dd2,data2,sl2⟩,ho2,hc2,n2,hd2⟩:=id hb;simp only at hc hd hc2 hd2;subst hc hd hc2 hd2;have e:vs.toArray++ws.toArray=(vs++ws).toArray:=by simp
 by_cases hw:ws=[]
 .exact concat_meets ⟨_,ho,rfl⟩ ⟨_,ho2,rfl⟩ noFill_tuple_add seq_tuple_add PySem.F.slot_tuple_add PySem.F.entry_tuple_add (PySem.F.args_tuple_add_2 _ _)
   (tuple_addW1 t b vs.toArray ws.toArray n n2 dd dd2 sl sl2 (by simpa using hv) (by simp[hw])) ⟨ho,ho2,h1 hw⟩
 .refine concat_meets ⟨_,ho,rfl⟩ ⟨_,ho2,rfl⟩ noFill_tuple_add seq_tuple_add PySem.F.slot_tuple_add PySem.F.entry_tuple_add (PySem.F.args_tuple_add_2 _ _)
   (tuple_addW2 t b vs.toArray ws.toArray n n2 dd dd2 sl sl2 (by simpa using hv) (by simpa using hw) (by rw[List.size_toArray,List.size_toArray];exact hsz)) ⟨ho,ho2,?_⟩
  rw[e];exact h2 hw
def sIx(n d:Nat):Option Int->Nat
 |none=>d
 |some v=>if v<0 then(v+(n:Int)).toNat else min v.toNat n
def sIx_none(n d:Nat):sIx n d none=d:=rfl
def sIx_nat(n d k:Nat):sIx n d (some (k:Int))=min k n:=by
 show(if(k:Int)<0 then((k:Int)+(n:Int)).toNat else min (k:Int).toNat n)=min k n;rw[if_neg (by omega),Int.toNat_natCast]
def BF(n d:Nat)(hd:d<=n)(o:Option Int):sIx n d o<=n:=by
 cases o with
 |none=>exact hd
 |some v=>
  show(if v<0 then(v+(n:Int)).toNat else min v.toNat n)<=n
  by_cases hv:v<0
  .rw[if_pos hv];omega
  .rw[if_neg hv];exact Nat.min_le_right _ _
def clip_eq(v:Int)(n d:Nat):(if v<0 then max (v+(n:Int)) 0 else min v (n:Int))=((sIx n d (some v):Nat):Int):=by
 show(if v<0 then max (v+(n:Int)) 0 else min v (n:Int))=(((if v<0 then(v+(n:Int)).toNat else min v.toNat n):Nat):Int)
 by_cases hv:v<0
 .simp only[if_pos hv];omega
 .simp only[if_neg hv];omega
def sq(lo hi:Option Int)(n:Nat):Builtin.Slice.sliceAdjust lo hi 1 (n:Int)=(((sIx n 0 lo:Nat):Int),((sIx n n hi:Nat):Int)):=by
 have h1:¬((1:Int)<0):=by omega
 unfold Builtin.Slice.sliceAdjust;simp only[h1,if_false];refine Prod.ext ?_ ?_
 .cases lo with
  |none=>rfl
  |some v=>exact clip_eq v n 0
 .cases hi with
  |none=>rfl
  |some v=>exact clip_eq v n n
def qY(i j:Nat):Builtin.Slice.slicePlaces (i:Int) (j:Int) 1=j-i:=by
 unfold Builtin.Slice.slicePlaces;have h1:(1:Int) > 0:=by omega
 simp only[h1,if_true,Int.ediv_one];split<;>omega
def slicePart_{v:Value}{o:Option Int}{Q:Option Int->Shared->Prop}(p:IsPart v o)(h:Q o s):wpAny (model prog w) A (Builtin.Slice.slicePartIndex v) Q E s:=by
 cases p with|none=>exact slicePart_none h|int i t=>exact slicePart_int h
def jQ{sl:Addr}{vl vu:Value}{lo hi:Option Int}{n:Nat}{Q:Int×Int×Nat->Shared->Prop}(hs:s.heap.IsSliceOf sl vl vu .none)(pl:IsPart vl lo)(pu:IsPart vu hi)
  (h:Q (((sIx n 0 lo:Nat):Int),1,sIx n n hi-sIx n 0 lo) s):wpAny (model prog w) A (Builtin.Slice.sliceApplied (.ref sl) (pure (n:Int))) Q E s:=by
 obtain⟨os,hos,hcs,hds⟩:=id hs;unfold Builtin.Slice.sliceApplied Builtin.Slice.sliceFields;refine wpAny_bind (wpAny_bind (wpAny_field hos hds (x:=vl) rfl (wpAny_bind (wpAny_field hos hds (x:=vu) rfl (wpAny_bind (wpAny_field hos hds (x:=.none) rfl (wpAny_pure ?_)))))));refine wpAny_bind (slicePart_none ?_);show wpAny _ _ (if((1:Int)==0)=true then _ else _) _ _ s;rw[if_neg (by decide)];refine wpAny_bind (slicePart_ pl (wpAny_bind (slicePart_ pu (wpAny_bind (wpAny_pure ?_)))));show wpAny _ _ (match Builtin.Slice.sliceAdjust lo hi 1 (n:Int) with|(lo,hi)=>pure (lo,(1:Int),Builtin.Slice.slicePlaces lo hi 1)) _ _ s;rw[sq lo hi n];show wpAny _ _ (pure (((sIx n 0 lo:Nat):Int),(1:Int),Builtin.Slice.slicePlaces ((sIx n 0 lo:Nat):Int) ((sIx n n hi:Nat):Int) 1)) _ _ s;rw[qY];exact wpAny_pure h
def wo(xs:Array Value)(i k:Nat):((List.range k).filterMap λ(m:Nat)=>xs[((i:Int)+(m:Int)*1).toNat]?).toArray=((xs.toList.drop i).take k).toArray:=by
 have e:(λ(m:Nat)=>xs[((i:Int)+(m:Int)*1).toNat]?)=λm=>xs[i+m]?:=by
  funext m;have:((i:Int)+(m:Int)*1).toNat=i+m:=by omega
  rw[this]
 rw[e];have:=pick_run xs i k;rw[List.filterMap_map]at this;have e2:((λx=>xs[x]?)∘λx=>i+x)=λm=>xs[i+m]?:=rfl;rw[e2]at this;rw[this]
def getItem_tuple_cut{t sl:Addr}{items:Array Value}{vl vu:Value}{lo hi:Option Int}{Q:Value->Shared->Prop}(ht:IsTup s.heap t items)(hs:s.heap.IsSliceOf sl vl vu .none)(pl:IsPart vl lo)(pu:IsPart vu hi)
  (hw:¬(sIx items.size 0 lo=0/\sIx items.size items.size hi=items.size))
  (h:Q (.ref s.heap.objs.size) { s with heap:=s.heap.push { cls:=.type "tuple",data:=.seq ((items.toList.drop (sIx items.size 0 lo)).take (sIx items.size items.size hi-sIx items.size 0 lo)).toArray } })
  (hsz:items.size<=sizeLine):wpAny (model prog w) A (getItem (.ref t) (.ref sl)) Q E s:=by
 have htake:sizeOk (.seq ((items.toList.drop (sIx items.size 0 lo)).take (sIx items.size items.size hi-sIx items.size 0 lo)).toArray):=by
  show((items.toList.drop (sIx items.size 0 lo)).take (sIx items.size items.size hi-sIx items.size 0 lo)).toArray.size<=sizeLine;rw[List.size_toArray,List.length_take,List.length_drop,Array.length_toList];omega
 have hj:sIx items.size items.size hi<=items.size:=BF _ _ (Nat.le_refl _) hi;obtain⟨os,hos,hcs,hds⟩:=id hs;have hTs:s.TypeIs (.ref sl) "slice":=⟨os,hos,hcs⟩
 unfold getItem
 try with_reducible refine wpAny_holding ?_
 first|refine wpAny_bind (wpAny_pure ?_)|skip
 refine wpAny_bind (wpAny_sequenceKey ht.typeIs (by decide) ?_);refine wpAny_bind (wpAny_callSpecial?_slot (name:=Str.ofString "__getitem__") ht.typeIs PyProof.Rows.slot_tuple_getitem
  (wpAny_call_entry PyProof.Rows.slot_tuple_getitem ht.typeIs entry_tuple_getitem ?_ (args_tuple_getitem _ _)))
 show wpAny _ _ (Builtin.Tuple.tupleItemsOf (.ref t) >>= _) _ _ s;refine wpAny_bind (tupleItemsOf_ ht ?_);refine wpAny_bind (wpAny_typeOf hTs ?_);rw[if_pos (by decide)];refine wpAny_bind (jQ hs pl pu ?_);have hno:¬((((sIx items.size 0 lo:Nat):Int)==0&&(1:Int)==1&&(sIx items.size items.size hi-sIx items.size 0 lo)==items.size)=true):=by
  intro q;rw[Bool.and_eq_true,Bool.and_eq_true]at q;have q1:((sIx items.size 0 lo:Nat):Int)=0:=eq_of_beq q.1.1;have q2:sIx items.size items.size hi-sIx items.size 0 lo=items.size:=eq_of_beq q.2;exact hw ⟨by omega,by omega⟩
 show wpAny _ _ (if(((sIx items.size 0 lo:Nat):Int)==0&&(1:Int)==1&&(sIx items.size items.size hi-sIx items.size 0 lo)==items.size)=true then _ else _) _ _ s;rw[if_neg hno,wo]
 first
  |exact wpAny_bind (m:=Builtin.Tuple.tupleExact _) (wpAny_newObj_type (wpAny_pure ⟨_,rfl,wpAny_pure h⟩) htake)
  |exact wpAny_bind (m:=Builtin.Tuple.tupleExact _) (wpAny_newObj_type (wpAny_bind (wpAny_pure (wpAny_pure ⟨_,rfl,wpAny_pure h⟩))) htake)
  |exact wpAny_bind (wpAny_bind (m:=Builtin.Tuple.tupleExact _) (wpAny_newObj_type (wpAny_pure (wpAny_pure ⟨_,rfl,wpAny_pure h⟩)) htake))
  |exact wpAny_bind (wpAny_bind (m:=Builtin.Tuple.tupleExact _) (wpAny_newObj_type (wpAny_pure ⟨_,rfl,wpAny_pure h⟩) htake))
end
end HT
namespace L2
open PySem PySem.Spec PyProof.Rows
abbrev TO:=St->Hp->(Option Int->Hp->Prop)->Prop
def PO(X:Cx)(e:Option Expr)(t:TO):Prop :=
 ∀(pins:List (Addr×Obj)) (s:Shared) (σ:St) (H:Hp) (Q:Option Int->Hp->Prop),Inv X pins σ H s->t σ H Q ->
  wpAny (model X.prog X.w) X.A (evalPart e X.env) (λu s'=>∃o H',Inv X pins σ H' s'/\IsPart u o/\Q o H') X.xe s
def yE:TO:=λ_ H Q=>Q none H
def DP(t:TE):TO:=λσ H Q=>t σ H λx H1=>∃i,x=.int i/\Q (some i) H1
section
variable {X:Cx}{e:Expr}{te:TE}{lo hi:Option Expr}{tl th:TO}{pos p2:Pos}
def yW:PO X none yE:=by
 intro pins s σ H Q I h;rw[evalPart_none];exact wpAny_pure ⟨none,H,I,.none,h⟩
def yV(h:PE X e te):PO X (some e) (DP te):=by
 intro pins s σ H Q I hw;rw[evalPart_some];refine cG (h pins s σ H _ I hw) λu s1 ⟨x,H1,I1,r1,q1⟩=>?_;obtain⟨i,rfl,q⟩:=q1;obtain⟨t,rfl⟩:=r1;exact⟨some i,H1,I1,.int i t,q⟩
noncomputable def yu(X:Cx) (r:V->Option Int->Option Int->Hp->VK->Prop):Prop :=
 ∀(pins:List (Addr×Obj)) (s:Shared) (σ:St) (H:Hp) (x:V) (v vl vu:Value) (lo hi:Option Int) (sl:Addr) (Q:VK),Inv X pins σ H s->bh x v->s.heap.IsSliceOf sl vl vu .none->IsPart vl lo->IsPart vu hi->r x lo hi H Q ->
  ∃T id,typeLookup (.type T) "__getitem__"=pure (some (.builtin id))/\s.TypeIs v T/\wpAny (model X.prog X.w) X.A (getItem v (.ref sl)) (EP X pins σ Q) X.xe s
def yu.or{r r':V->Option Int->Option Int->Hp->VK->Prop}(h:yu X r)(h':yu X r'):yu X (λx lo hi H Q=>r x lo hi H Q∨r' x lo hi H Q):=by
 intro pins s σ H x v vl vu lo hi sl Q I rx hs pl pu q;rcases q with q|q
 .exact h pins s σ H x v vl vu lo hi sl Q I rx hs pl pu q
 .exact h' pins s σ H x v vl vu lo hi sl Q I rx hs pl pu q
def Gv(r:V->Option Int->Option Int->Hp->VK->Prop)(te:TE)(tl th:TO):TE:=λσ H Q=>te σ H λx H1=>tl σ H1 λl H2=>th σ H2 λu H3=>r x l u H3 Q
def wt{r:V->Option Int->Option Int->Hp->VK->Prop}(hr:yu X r)(he:PE X e te)(hl:PO X lo tl)(hu:PO X hi th):PE X (.Subscript e (.Slice lo hi none p2) pos) (Gv r te tl th):=by
 intro pins s σ H Q I h;refine Subscript_ (cG (he pins s σ H _ I h) λv s1 ⟨x,H1,I1,r1,q1⟩=>?_);refine wpAny_Slice (cG (hl pins s1 σ H1 _ I1 q1) λvl s2 ⟨l,H2,I2,pl,q2⟩=>cG (hu pins s2 σ H2 _ I2 q2) λvu s3 ⟨u,H3,I3,pu,q3⟩=>?_);rw[evalPart_none];refine wpAny_pure ?_;have I4:Inv X pins σ H3 { s3 with heap:=s3.heap.push { cls:=.type "slice",data:=.fields #[vl,vu,.none] } }:=I3.kept (t':=s3.toks) λb ob q=>Heap.get?_push_of_some _ q;obtain⟨T,id,hT,ht,hg⟩:=hr pins { s3 with heap:=s3.heap.push { cls:=.type "slice",data:=.fields #[vl,vu,.none] } } σ H3 x v vl vu l u s3.heap.objs.size Q I4 r1 (Heap.IsSliceOf.new ..) pl pu q3;show wpAny (model X.prog X.w) X.A (subscriptTail e (.Slice lo hi none p2) v (.ref s3.heap.objs.size)) (EP X pins σ Q) X.xe { s3 with heap:=s3.heap.push { cls:=.type "slice",data:=.fields #[vl,vu,.none] } };exact tail_any (ops:=[.ref s3.heap.objs.size,v]) ht hT hg (by with_unfolding_all rfl)
def qp(xs:bv)(lo hi:Option Int):bv:=(xs.drop (HT.sIx xs.length 0 lo)).take (HT.sIx xs.length xs.length hi-HT.sIx xs.length 0 lo)
def kA(xs:bv)(lo hi:Option Int):(qp xs lo hi).length<=xs.length:=by
 unfold qp;rw[List.length_take,List.length_drop];omega
def F1(K:W.Frag):V->Option Int->Option Int->Hp->VK->Prop:=λx lo hi H Q=>∃a xs,x=.ref a/\gk K H a xs /\
 ¬(HT.sIx xs.length 0 lo=0/\HT.sIx xs.length xs.length hi=xs.length)/\∀p,H p=none->Q (.ref p) (upd H p (.tup (qp xs lo hi)))
def BB:yu X (F1 X.K):=by
 intro pins s σ H x v vl vu lo hi sl Q I rx hs pl pu h;obtain⟨a,xs,rfl,hx,hw,q⟩:=h;cases rx;obtain⟨its,r,ht,hz⟩:=I.tuple hx;have hlen:its.toArray.size=xs.length:=by rw[List.size_toArray];exact r.length.symm
 refine⟨"tuple",_,PyProof.Rows.slot_tuple_getitem.lookup,ht.typeIs,?_⟩;refine HT.getItem_tuple_cut ht hs pl pu (by rw[hlen];exact hw) ?_ (by rw[hlen];exact hz);rw[hlen];refine⟨.ref s.heap.objs.size,_,I.laid (t':=s.toks) (o:=.tup (qp xs lo hi)) (λb ob q=>Heap.get?_push_of_some _ q) (Nat.le_refl _) ?_,rfl,q _ (I.hok.fresh (Nat.le_refl _))⟩;exact⟨Nat.le_trans (kA xs lo hi) hz,_,(r.drop (HT.sIx xs.length 0 lo)).take (HT.sIx xs.length xs.length hi-HT.sIx xs.length 0 lo),IsTup.new _ _⟩
def Em(K:W.Frag):R2:=λx y H Q=>∃a b xs ys,x=.ref a/\y=.ref b/\gk K H a xs/\gk K H b ys/\xs≠[]/\xs.length+ys.length<=sizeLine /\
 (ys=[]->Q (.ref a) H)/\(ys≠[]->∀p,H p=none->Q (.ref p) (upd H p (.tup (xs++ys))))
def aY.nil_iff{xs:bv}{us:List Value}(r:aY xs us):us=[]↔xs=[]:=by
 cases r with|nil|cons _ _=>simp
def zo:iw X (binaryOp .Add) (Em X.K):=by
 intro pins s σ H x y v u Q I rx ry h;obtain⟨a,b,xs,ys,rfl,rfl,ha,hb,hx,hz,q1,q2⟩:=h;cases rx;cases ry;obtain⟨its,r1,p1,_⟩:=I.tuple ha;obtain⟨its2,r2,p2,_⟩:=I.tuple hb;refine HT.cat_tup p1 p2 (λz=>hx (r1.nil_iff.mp z)) (λz=>⟨.ref a,H,I,rfl,q1 (r2.nil_iff.mp z)⟩) (λz=>?_) (by rw[←r1.length,←r2.length];exact hz);refine⟨.ref s.heap.objs.size,_,I.laid (t':=s.toks) (o:=.tup (xs++ys)) (λb ob q=>Heap.get?_push_of_some _ q) (Nat.le_refl _) ?_,rfl,q2 (λw=>z (r2.nil_iff.mpr w)) _ (I.hok.fresh (Nat.le_refl _))⟩;exact⟨by rw[List.length_append];exact hz,_,r1.append r2,IsTup.new _ _⟩
end
def uE(n:Nat)(i:Int):Option Nat:=if 0<=i then(if i<n then some i.toNat else none) else if -(n:Int)<=i then some (i+n).toNat else none
def atI{α:Type}(xs:List α)(i:Int):Option α:=(uE xs.length i).bind λj=>xs[j]?
def tf{n:Nat}{i:Int}{j:Nat}(h:uE n i=some j):seqIndex? i n=some j/\j<n/\-(n:Int)<=i/\i<n:=by
 unfold uE at h
 by_cases h0:0<=i
 .rw[if_pos h0]at h
  by_cases h1:i<n
  .rw[if_pos h1]at h
   have e:i.toNat=j:=Option.some.inj h;exact⟨by rw[seqIndex_of h0 h1,e],by omega,by omega,h1⟩
  .rw[if_neg h1]at h;cases h
 .rw[if_neg h0]at h
  by_cases h1:-(n:Int)<=i
  .rw[if_pos h1]at h
   have e:(i+n).toNat=j:=Option.some.inj h;exact⟨by rw[seqIndex_neg (by omega) h1,e],by omega,h1,by omega⟩
  .rw[if_neg h1]at h;cases h
def oG{α:Type}{xs:List α}{i:Int}{v:α}(h:atI xs i=some v):∃j,seqIndex? i xs.length=some j/\xs[j]?=some v/\j<xs.length/\-(xs.length:Int)<=i/\i<xs.length:=by
 unfold atI at h;cases e:uE xs.length i with
 |none=>rw[e]at h;cases h
 |some j=>
  rw[e]at h;obtain⟨h1,h2,h3,h4⟩:=tf e;exact⟨j,h1,h,h2,h3,h4⟩
def oC{α:Type}{xs:List α}{j:Nat}{v:α}(h:xs[j]?=some v):atI xs (j:Int)=some v:=by
 have hj:j<xs.length:=(List.getElem?_eq_some_iff.mp h).1;have e:uE xs.length (j:Int)=some j:=by
  unfold uE;rw[if_pos (by omega),if_pos (by omega)];simp
 unfold atI;rw[e];exact h
def oI(b:Expr):Prop:=∀o i,subscripted b false o i=operate [o,i] (getItem o i)
noncomputable def yw(X:Cx) (r:R2):Prop :=
 ∀(value slice:Expr) (pins:List (Addr×Obj)) (s:Shared) (σ:St) (H:Hp) (x y:V) (v u:Value) (Q:VK),Inv X pins σ H s->bh x v->bh y u->r x y H Q ->
  subscripted slice false v u=operate [v,u] (getItem v u)->wpAny (model X.prog X.w) X.A (subscriptTail value slice v u) (EP X pins σ Q) X.xe s
noncomputable def GH(X:Cx) (id:String) (r:V->bv->Hp->VK->Prop):Prop :=
 ∀(pins:List (Addr×Obj)) (s:Shared) (σ:St) (H:Hp) (x:V) (xs:bv) (v:Value) (us:List Value) (Q:VK),Inv X pins σ H s->bh x v->aY xs us->r x xs H Q ->
  wpAny (model X.prog X.w) X.A (call (.builtin id) (v::us)) (EP X pins σ Q) X.xe s
section
variable {X:Cx}{a b:Expr}{ta tb:TE}{pos:Pos}
def yw.or{r r':R2}(h:yw X r)(h':yw X r'):yw X (λx y H Q=>r x y H Q∨r' x y H Q):=by
 intro value slice pins s σ H x y v u Q I rx ry q hs;rcases q with q|q
 .exact h value slice pins s σ H x y v u Q I rx ry q hs
 .exact h' value slice pins s σ H x y v u Q I rx ry q hs
def Eu{r:R2}(hr:yw X r)(ha:PE X a ta)(hb:PE X b tb)(hs:oI b):PE X (.Subscript a b pos) (DR r ta tb):=by
 intro pins s σ H Q I h;exact Subscript_ (De ha hb I h λv u s2 x y H2 I2 rx ry q=>hr a b pins s2 σ H2 x y v u Q I2 rx ry q (hs _ _))
def Ej(K:W.Frag):R2:=λx y H Q=>∃p xs i v,x=.ref p/\y=.int i/\dF K H p xs/\atI xs i=some v/\Q v H
def Eh(K:W.Frag):R2:=λx y H Q=>∃p xs i v,x=.ref p/\y=.int i/\gk K H p xs/\atI xs i=some v/\Q v H
def Ei:R2:=λx y H Q=>∃z i c,x=.str z/\y=.int i/\z.length<=sizeLine/\atI z.cps.toList i=some c/\Q (.str ⟨#[c]⟩) H
def zC:yw X (Ej X.K):=by
 intro value slice pins s σ H x y v u Q I rx ry h hs;obtain⟨p,xs,i,z,rfl,rfl,hq,he,q⟩:=h;cases rx;obtain⟨t,rfl⟩:=ry;obtain⟨its,r,pl,hz⟩:=I.list hq;obtain⟨j,h1,h2,h3,h4,h5⟩:=oG he;obtain⟨w,ew,rw'⟩:=r.get h2;have hl:=r.length;have hn:=lT;have fin:EP X pins σ Q w s:=⟨z,H,I,rw',q⟩
 by_cases h0:0<=i
 .have hj:i.toNat=j:=by
   rw[seqIndex_of h0 h5]at h1;exact Option.some.inj h1
  exact item_listR pl.isList h0 (by omega) (by rw[hj];simpa using ew) fin hs
 .have hj:(i+(its.toArray.size:Int)).toNat=j:=by
   rw[seqIndex_neg (by omega) h4]at h1;rw[List.size_toArray,←hl];exact Option.some.inj h1
  exact subscriptTail_builtinR (x:=w) pl.isList.typeIs slot_list_getitem.lookup
   (wpAny_getItem_list_neg (Q:=λr s'=>r=w/\EP X pins σ Q r s') pl.isList (by omega) (by rw[List.size_toArray]<;>omega) (by omega) (by rw[hj];simpa using ew) ⟨rfl,fin⟩) hs
def Cf:yw X (Eh X.K):=by
 intro value slice pins s σ H x y v u Q I rx ry h hs;obtain⟨p,xs,i,z,rfl,rfl,hq,he,q⟩:=h;cases rx;obtain⟨t,rfl⟩:=ry;obtain⟨its,r,pl,hz⟩:=I.tuple hq;obtain⟨j,h1,h2,h3,h4,h5⟩:=oG he;obtain⟨w,ew,rw'⟩:=r.get h2;have hl:=r.length;have hn:=lT;have fin:EP X pins σ Q w s:=⟨z,H,I,rw',q⟩
 exact subscriptTail_builtinR (x:=w) pl.typeIs slot_tuple_getitem.lookup
  (getItem_tuple (j:=j) (Q:=λr s'=>r=w/\EP X pins σ Q r s') pl (by omega) (by omega) (by rw[List.size_toArray,←hl];exact h1) (by simpa using ew) ⟨rfl,fin⟩) hs
def Cg:yw X Ei:=by
 intro value slice pins s σ H x y v u Q I rx ry h hs;obtain⟨z,i,c,rfl,rfl,hz,he,q⟩:=h;obtain⟨t,rfl⟩:=rx;obtain⟨t',rfl⟩:=ry;obtain⟨j,h1,h2,h3,h4,h5⟩:=oG he;have hl:z.cps.toList.length=z.length:=by simp[Str.length]
 rw[hl]at h1 h4 h5;have hn:=lT;exact tail_any (typeIs_str s z t) slot_str_getitem.lookup (getItem_str (c:=c) (by
  have e1:decide (i < -(2 ^ 63:Int))=false:=decide_eq_false (by omega);have e2:decide (i≥2 ^ 63)=false:=decide_eq_false (by omega);rw[e1,e2,Bool.or_false]) (by rw[h1];simpa using h2) ⟨.str ⟨#[c]⟩,H,I.tok _,⟨_,rfl⟩,q⟩) hs
def Gz(K:W.Frag):R2:=λx y H Q=>Ej K x y H Q∨Eh K x y H Q∨Ei x y H Q
def Ci:yw X (Gz X.K):=zC.or (Cf.or Cg)
def rk(its:List Value)(n j:Nat)(u:Value):Obj.mapSeq (·.setIfInBounds j u) { cls:=.type "list",data:=.seq its.toArray n }={ cls:=.type "list",data:=.seq (its.set j u).toArray n }:=by
 simp[Obj.mapSeq]
def Inv.lst{pins:List (Addr×Obj)}{σ:St}{H:Hp}{s:Shared}{p:Addr}{xs:bv}(I:Inv X pins σ H s)(h:H p=some (.lst xs)) :
  ∃(its:List Value) (n:Nat),aY xs its/\s.heap.get? p=some { cls:=.type "list",data:=.seq its.toArray n }/\xs.length<=sizeLine:=by
 obtain⟨z,its,n,r,e⟩:=I.hok p _ h;exact⟨its,n,r,e,z⟩
def Inv.lstUpd{pins:List (Addr×Obj)}{σ:St}{H:Hp}{s:Shared}{p:Addr}{xs ys:bv}{its its':List Value}{n n':Nat}{f:Obj->Obj}(I:Inv X pins σ H s)(h:H p=some (.lst xs))
  (ho:s.heap.get? p=some { cls:=.type "list",data:=.seq its.toArray n })(hf:f { cls:=.type "list",data:=.seq its.toArray n }={ cls:=.type "list",data:=.seq its'.toArray n' })(r:aY ys its')(hz:ys.length<=sizeLine)(t:Nat) :
  Inv X pins σ (upd H p (.lst ys)) { s with heap:=s.heap.update p f,toks:=t }:=by
 have e:(s.heap.update p f).get? p=some { cls:=.type "list",data:=.seq its'.toArray n' }:=by
  rw[Heap.get?_update_self f ho (by rw[hf]<;>rfl),hf]
 refine I.write (x:=p) (e:=p) (by rw[h];trivial) (.inl rfl) (λb u hb q=>(Heap.get?_update_other _ _ (Ne.symm hb)).trans q) ⟨_,e⟩ ?_;exact⟨hz,its',n',r,e⟩
def A8:V->V->V->Hp->(Hp->Prop)->Prop:=λo i v H Q=>∃p xs k j,o=.ref p/\i=.int k/\H p=some (.lst xs)/\uE xs.length k=some j/\Q (upd H p (.lst (xs.set j v)))
def vK:Fg X A8:=by
 intro pins s σ H o i v ov iv u Q I ro ri rv h;obtain⟨p,xs,k,j,rfl,rfl,hp,hj,q⟩:=h;cases ro;obtain⟨t,rfl⟩:=ri;obtain⟨its,n,r,ho,hz⟩:=I.lst hp;obtain⟨h1,h2,h3,h4⟩:=tf hj;have hl:=r.length;have hn:=lT;have I':Inv X pins σ (upd H p (.lst (xs.set j v))) { s with heap:=s.heap.update p (Obj.mapSeq (·.setIfInBounds j u)) } :=
  I.lstUpd hp ho (rk its n j u) (r.set rv j) (by rw[List.length_set];exact hz) s.toks
 by_cases h0:0<=k
 .have hk:k.toNat=j:=by
   rw[seqIndex_of h0 h4]at h1;exact Option.some.inj h1
  exact W.ki_setAt ho h0 (by omega) (by rw[List.size_toArray,←hl];exact h4) (by rw[hk];exact⟨_,I',q⟩)
 .have hk:(k+(its.toArray.size:Int)).toNat=j:=by
   rw[seqIndex_neg (by omega) h3]at h1;rw[List.size_toArray,←hl];exact Option.some.inj h1
  exact W.ki_setBack ho (by omega) (by rw[List.size_toArray,←hl];exact h3) (by omega) (by rw[hk];exact⟨_,I',q⟩)
def nM(lo hi:Option Int)(n:Nat):(sliceBounds lo hi none n).1=((HT.sIx n 0 lo:Nat):Int)/\(sliceBounds lo hi none n).2.1=((HT.sIx n n hi:Nat):Int)/\(sliceBounds lo hi none n).2.2=1:=by
 refine⟨?_,?_,rfl⟩
 .cases lo with
  |none=>simp[sliceBounds,HT.sIx]
  |some i=>
   simp only[sliceBounds,HT.sIx,Option.getD_none,show(1:Int) > 0 by decide,if_true]
   by_cases h:i<0
   .simp only[h,if_true]<;>omega
   .simp only[h,if_false]<;>omega
 .cases hi with
  |none=>simp[sliceBounds,HT.sIx]
  |some i=>
   simp only[sliceBounds,HT.sIx,Option.getD_none,show(1:Int) > 0 by decide,if_true]
   by_cases h:i<0
   .simp only[h,if_true]<;>omega
   .simp only[h,if_false]<;>omega
def mD(its:List Value)(lo hi:Option Int):slicePick its.toArray lo hi none=((its.drop (HT.sIx its.length 0 lo)).take (HT.sIx its.length its.length hi-HT.sIx its.length 0 lo)).toArray:=by
 obtain⟨h1,h2,h3⟩:=nM lo hi its.toArray.size;unfold slicePick;rw[h1,h2,h3];simp only[sliceRange_one,pick_run,List.size_toArray]<;>rfl
def F3(K:W.Frag):V->Option Int->Option Int->Hp->VK->Prop:=λx lo hi H Q=>∃a xs,x=.ref a/\dF K H a xs/\∀p,H p=none->Q (.ref p) (upd H p (.lst (qp xs lo hi)))
def yJ:yu X (F3 X.K):=by
 intro pins s σ H x v vl vu lo hi sl Q I rx hs pl pu h;obtain⟨a,xs,rfl,hx,q⟩:=h;cases rx;obtain⟨its,r,ht,hz⟩:=I.list hx;have hlen:=r.length;refine⟨"list",_,slot_list_getitem.lookup,ht.isList.typeIs,?_⟩;refine wpAny_getItem_list_slice ht.isList hs pl pu .none (by simp) ?_ (by rw[List.size_toArray]<;>omega);rw[mD,←hlen];refine⟨.ref s.heap.objs.size,_,I.laid (t':=s.toks) (o:=.lst (qp xs lo hi)) (λb ob q=>Heap.get?_push_of_some _ q) (Nat.le_refl _) ?_,rfl,q _ (I.hok.fresh (Nat.le_refl _))⟩;exact⟨Nat.le_trans (kA xs lo hi) hz,_,0,(r.drop (HT.sIx xs.length 0 lo)).take (HT.sIx xs.length xs.length hi-HT.sIx xs.length 0 lo),Heap.get?_push_size _ rfl⟩
noncomputable def FF(K:W.Frag) (T:String) (x:V) (H:Hp):Prop:=match x with
 |.str _=>T="str"
 |.int _=>T="int"
 |.ref p=>(T="list"/\∃xs,dF K H p xs)∨(T="tuple"/\∃o,K.lookup p=some o/\o.cls=.type "tuple"/\o.dict=none) ∨
   (T="dict"/\((∃kvs,H p=some (.dK kvs))∨∃kvs,H p=some (.dT kvs)))∨(T="set"/\∃S n,H p=some (.set S n))
 |_=>False
def vx{pins:List (Addr×Obj)}{σ:St}{H:Hp}{s:Shared}{T:String}{x:V}{v:Value}(I:Inv X pins σ H s)(r:bh x v)(ty:FF X.K T x H) :
  s.TypeIs v T/\∀a,v=.ref a->∃ob,s.heap.get? a=some ob/\ob.dict=none:=by
 cases x with
 |str z=>
  obtain⟨t,rfl⟩:=r;cases (show T="str" from ty);exact⟨typeIs_str s z t,λ_ e=>nomatch e⟩
 |int i=>
  obtain⟨t,rfl⟩:=r;cases (show T="int" from ty);exact⟨typeIs_int s i t,λ_ e=>nomatch e⟩
 |ref p=>
  cases r;rcases ty with⟨rfl,xs,hq⟩|⟨rfl,o,hk,hc,hd⟩|⟨rfl,hk⟩|⟨rfl,S,n,hk⟩
  .obtain⟨its,_,pl,_⟩:=I.list hq
   refine⟨pl.isList.typeIs,λa e=>?_⟩;cases e;obtain⟨o,n,e,c,hd,_⟩:=pl;exact⟨o,e,hd⟩
  .refine⟨⟨o,I.kIn p o hk,hc⟩,λa e=>?_⟩
   cases e;exact⟨o,I.kIn _ o hk,hd⟩
  .have z:∃o,s.heap.get? p=some o/\o.ExactDict:=by
    rcases hk with⟨kvs,hk⟩|⟨kvs,hk⟩
    .obtain⟨_,_,_,_,o,_,_,e,ex,_⟩:=I.hok p _ hk
     exact⟨o,e,ex⟩
    .obtain⟨_,_,_,_,o,_,_,e,ex,_⟩:=I.hok p _ hk
     exact⟨o,e,ex⟩
   obtain⟨o,e,ex⟩:=z;refine⟨⟨o,e,ex.1⟩,λa e2=>?_⟩;cases e2;exact⟨o,e,ex.2.1⟩
  .obtain⟨o,_,_,_,e,ex,_⟩:=I.hok p _ hk
   refine⟨⟨o,e,ex.1⟩,λa e2=>?_⟩;cases e2;exact⟨o,e,ex.2.1⟩
 |_=>exact False.elim ty
def FX(K:W.Frag)(T:String)(r:V->bv->Hp->VK->Prop)(to:TE):TE:=λσ H Q=>to σ H λx H1=>FF K T x H1/\r x [] H1 Q
def GU(K:W.Frag)(T:String)(r:V->bv->Hp->VK->Prop)(to:TE)(t:TA):TE:=λσ H Q=>to σ H λx H1=>FF K T x H1/\t σ H1 λxs H2=>r x xs H2 Q
variable {o e:Expr}{es:List Expr}{to:TE}{t:TA}{name:Str}{apos cpos:Pos}{T id:String}{r:V->bv->Hp->VK->Prop}
def BY(pa:PlainAttrs T)(slot:Slot T name id)(hty:typeOf (.builtin id)=pure (.type "method_descriptor"))(hm:GH X id r)(ho:PE X o to)
  (hbase:attributeBase o name X.env (eval o X.env)=eval o X.env:=by rfl)(hline:(apos.endLine==cpos.line)=true:=by rfl):PE X (.Call (.Attribute o name apos) [] [] cpos) (FX X.K T r to):=by
 intro pins s σ H Q I h;refine wpAny_Call_method0_late hbase hline (cG (ho pins s σ H _ I h) λv s1 z9=>?_);obtain⟨x,H1,I1,r1,ty,q1⟩:=z9;obtain⟨h1,h2⟩:=vx I1 r1 ty;exact⟨T,id,pa,slot,hty,h1,h2,Calls.callWith_builtin rfl (PySem.evalArgs_none (hm pins s1 σ H1 x [] v [] Q I1 r1 .nil q1))⟩
def Bd(pa:PlainAttrs T)(slot:Slot T name id)(hty:typeOf (.builtin id)=pure (.type "method_descriptor"))(hm:GH X id r)(ho:PE X o to)(ha:PA X (e::es) t)
  (hbase:attributeBase o name X.env (eval o X.env)=eval o X.env:=by rfl)
  (hfew:((backTo cpos (starEach (e::es) X.env)).all (λx=>!x.1)&&(backToKw cpos (keywordEach [] X.env)).all (λx=>x.1.isSome)
  &&decide ((e::es).length+([]:List Keyword).length+(if([]:List Keyword).isEmpty then 0 else 1)<30))=true:=by rfl)
  (hline:(apos.endLine==cpos.line)=true:=by rfl) (hs:starEach (e::es) X.env=(false,eval e X.env)::starEach es X.env:=by rfl) (hplain:(backTo cpos (starEach es X.env)).any (·.1)=false:=by rfl) :
  PE X (.Call (.Attribute o name apos) (e::es) [] cpos) (GU X.K T r to t):=by
 intro pins s σ H Q I h;refine wpAny_Call_method_late hbase hfew hline rfl (cG (ho pins s σ H _ I h) λv s1 ⟨x,H1,I1,r1,ty,q1⟩=>?_);obtain⟨h1,h2⟩:=vx I1 r1 ty;refine⟨T,id,pa,slot,hty,h1,h2,?_⟩;have hA:=ha cpos pins s1 σ H1 _ I1 q1;rw[hs]at hA ⊢;refine Calls.callWith_builtin (by show(false||(backTo cpos (starEach es X.env)).any (·.1))=false;rw[hplain]<;>rfl) (Calls.evalArgs_plain ?_);exact cG hA λus s2 ⟨vs,H2,I2,r2,q2⟩=>hm pins s2 σ H2 x vs v us Q I2 r1 r2 q2
end
noncomputable def GI(X:Cx) (id:String) (r:V->bv->Hp->VK->Prop):Prop :=
 ∀(pins:List (Addr×Obj)) (s:Shared) (σ:St) (H:Hp) (x:V) (xs:bv) (v:Value) (us:List Value) (Q:VK),Inv X pins σ H s->bh x v->aY xs us->r x xs H Q ->
  wpAny (model X.prog X.w) X.A (call (.builtin id) (v::us)) (EP X pins σ Q) X.xe s
theorem aY.one:∀{x:V}{us:List Value},aY [x] us->∃u,us=[u]/\bh x u
 |_,_,.cons r .nil=>⟨_,rfl,r⟩
theorem aY.zero:∀{us:List Value},aY [] us->us=[]
 |_,.nil=>rfl
theorem aY.rep{xs:bv}{us:List Value}(h:aY xs us):∀k:Nat,aY (List.replicate k xs).flatten (List.replicate k us).flatten
 |0=>.nil
 |k+1=>by
  rw[List.replicate_succ,List.replicate_succ,List.flatten_cons,List.flatten_cons];exact aY.append h (aY.rep h k)
theorem nh(its:List Value):∀(k:Nat) (acc:List Value),
  List.foldl (λx1 x2=>x1++x2) acc.toArray (List.replicate k its.toArray)=(acc++(List.replicate k its).flatten).toArray
 |0,acc=>by simp
 |k+1,acc=>by
  have e:acc.toArray++its.toArray=(acc++its).toArray:=by simp
  have e2:(acc++its)++(List.replicate k its).flatten=acc++(List.replicate (k+1) its).flatten:=by
   rw[List.replicate_succ,List.flatten_cons,List.append_assoc]
  rw[←e2,←nh its k (acc++its),←e,List.replicate_succ,List.foldl_cons]
section
variable {X:Cx}{pins:List (Addr×Obj)}{σ:St}{H:Hp}{s:Shared}{l b:Addr}{xs ys zs:bv}
def Inv.lset{its its':List Value}{n:Nat}{f:Array Value->Array Value}{t':Nat}(I:Inv X pins σ H s)(hH:H l=some (.lst xs))
  (e:s.heap.get? l=some { cls:=.type "list",data:=.seq its.toArray n })(hf:f its.toArray=its'.toArray)(hv:aY ys its')(hz:ys.length<=sizeLine) :
  Inv X pins σ (upd H l (.lst ys)) { s with heap:=s.heap.update l (Obj.mapSeq f),toks:=t' }:=by
 have q:=PySem.IsL.update e f;rw[hf]at q;refine I.write (x:=l) (e:=l) (by rw[hH];exact trivial) (.inl rfl) (λb' u hb hu=>(Heap.get?_update_other s.heap (Obj.mapSeq f) (Ne.symm hb)).trans hu) ⟨_,q⟩ ?_;exact⟨hz,its',_,hv,q⟩
def Inv.lnew{its:List Value}{t':Nat}(I:Inv X pins σ H s)(hv:aY ys its)(hz:ys.length<=sizeLine) :
  Inv X pins σ (upd H s.heap.objs.size (.lst ys)) { s with heap:=s.heap.push { cls:=.type "list",data:=.seq its.toArray },toks:=t' } :=
 I.laid (λ_ _ q=>Heap.get?_push_of_some _ q) (Nat.le_refl _) ⟨hz,its,0,hv,Heap.get?_push_size _ rfl⟩
def Inv.fresh(I:Inv X pins σ H s):H s.heap.objs.size=none:=I.hok.fresh (Nat.le_refl _)
def Inv.lstM(I:Inv X pins σ H s)(hH:H l=some (.lst xs)):xs.length<=sizeLine/\∃(its:List Value) (n:Nat),aY xs its/\xs.length=its.length/\s.heap.get? l=some { cls:=.type "list",data:=.seq its.toArray n }:=by
 obtain⟨z,its,n,r,e⟩:=I.hok l _ hH;exact⟨z,its,n,r,r.length,e⟩
def wG{n:Nat}(h:n<=sizeLine):Builtin.List.listTooLong n=false:=by
 unfold Builtin.List.listTooLong;exact decide_eq_false (by omega)
end
section
variable {X:Cx}
def yQ:V->bv->Hp->VK->Prop:=λx vs H Q=>∃l xs y,x=.ref l/\vs=[y]/\H l=some (.lst xs)/\xs.length<sizeLine/\Q .non (upd H l (.lst (xs++[y])))
def jX:GI X "list.append" yQ:=by
 intro pins s σ H x vs v us Q I rx rv h;obtain⟨l,xs,y,rfl,rfl,hH,hz,q⟩:=h;cases rx;obtain⟨u,rfl,ru⟩:=rv.one;obtain⟨z,its,n,r,hl,e⟩:=I.lstM hH;refine call_meets F.slot_list_append ⟨_,e,rfl⟩ F.entry_list_append (F.args_list_append_2 _ _) (PySem.list_append l its.toArray n u (by rw[List.size_toArray];omega)) ⟨e,?_⟩;refine⟨.non,_,I.lset (its':=its++[u]) hH e (by simp) (r.append (.cons ru .nil)) ?_,rfl,q⟩;rw[List.length_append,List.length_singleton];omega
def BJ:V->bv->Hp->VK->Prop:=λx vs H Q=>∃l xs,x=.ref l/\vs=[]/\H l=some (.lst xs)/\Q .non (upd H l (.lst []))
def wO:GI X "list.clear" BJ:=by
 intro pins s σ H x vs v us Q I rx rv h;obtain⟨l,xs,rfl,rfl,hH,q⟩:=h;cases rx;have hus:=rv.zero;subst hus;obtain⟨z,its,n,r,hl,e⟩:=I.lstM hH;refine call_meets F.slot_list_clear ⟨_,e,rfl⟩ F.entry_list_clear (F.args_list_clear_1 _) (AutoSeq1.list_clear_list_0 l its.toArray n (by rw[List.size_toArray];omega)) ⟨e,?_⟩;exact⟨.non,_,I.lset (its':=[]) (ys:=[]) hH e rfl .nil (Nat.zero_le _),rfl,q⟩
def F4:R2:=λx y H Q=>∃l k xs,x=.ref l/\y=.int k/\H l=some (.lst xs)/\-(2 ^ 63)<=k/\k<2 ^ 63/\xs.length*k.toNat<=sizeLine /\
 ∀p,H p=none->Q (.ref p) (upd H p (.lst (List.replicate k.toNat xs).flatten))
def zB{α:Type}(xs:List α)(k:Nat):(List.replicate k xs).flatten.length=k*xs.length:=by
 induction k with|zero=>simp|succ k ih=>rw[List.replicate_succ,List.flatten_cons,List.length_append,ih,Nat.succ_mul,Nat.add_comm]
def B4:iw X (binaryOp .Mult) F4:=by
 intro pins s σ H x y v u Q I rx ry h;obtain⟨l,k,xs,rfl,rfl,hH,h1,h2,hz,q⟩:=h;cases rx;obtain⟨t,rfl⟩:=ry;obtain⟨z,its,n,r,hl,e⟩:=I.lstM hH;have hlen:its.toArray.size*k.toNat<=sizeLine:=by rw[List.size_toArray,←hl];exact hz
 have hcap:¬its.toArray.size*k.toNat > (2 ^ 63-1) / 8:=by
  have:(sizeLine:Nat)<=(2 ^ 63-1) / 8:=by decide
  omega
 have hfit:¬(!Builtin.List.listFitsIndex k)=true:=by
  rw[fitsIndex_both h1 h2];exact Bool.false_ne_true
 have hlong:¬Builtin.List.listTooLong (its.toArray.size*k.toNat)=true:=by
  rw[wG hlen];exact Bool.false_ne_true
 have hnew:List.foldl (λx1 x2=>x1++x2) #[] (List.replicate (if its.toArray.isEmpty=true then 0 else k.toNat) its.toArray)=(List.replicate k.toNat its).flatten.toArray:=by
  have f0:∀m:Nat,List.foldl (λx1 x2=>x1++x2) #[] (List.replicate m its.toArray)=(List.replicate m its).flatten.toArray:=λm=>by
   have:=nh its m [];rw[List.nil_append]at this;exact this
  rw[f0];cases its with|nil=>simp|cons a r'=>rw[if_neg (by simp)]
 refine wpAny_binaryOp_repeat_ref (T:="list") (U:="int") (by decide) ⟨_,e,rfl⟩ (λs'=>typeIs_int s' k t) noFill_list_mul F.fills_int_mul F.slot_int_rmul repeat_list F.slot_int_index.lookup
  (call_meets F.slot_int_rmul (typeIs_int s k t) F.entry_int_rmul (F.args_int_rmul_2 _ _) (int___rmul___int_list k t l its.toArray n)
   ⟨e,rfl,⟨_,e,rfl⟩,call_meets F.slot_list_mul ⟨_,e,rfl⟩ F.entry_list_mul (F.args_list_mul_2 _ _) (AutoListH.list___mul___list_int_3 l its.toArray n k t hfit hcap hlong) ⟨e,?_⟩⟩)
 rw[hnew];exact⟨.ref _,_,I.lnew (t':=s.toks) (r.rep k.toNat) (by rw[zB,Nat.mul_comm];exact hz),rfl,q _ I.fresh⟩
end
end L2
namespace Att
open PySem PySem.W PySem.Calls PyProof.Rows
def kJ{P:Params}{h:Heap}:∀(ns:List Int) (vs:List Value),WellAll P h vs (ns.map WData.int)->IntsAre vs ns:=by
 intro ns
 induction ns with
 |nil=>
  intro vs w;rw[List.map_nil]at w;cases w;exact .nil
 |cons n ns ih=>
  intro vs w;rw[List.map_cons]at w;cases w with
  |cons a b=>
   cases a;exact .cons _ _ (ih _ b)
def um{l:OpenLaw}{n:Nat}(hn:l.most=some n){P:Params}{h:Heap}{args:List WData}{vals:List Value}
  (hpre:l.row.toRowW.claim.pre args=true)(hwl:WellAll P h vals args) :
  ∃a vs ns,vals=[Value.ref a]/\args=[WData.list (ns.map WData.int)]/\h.get? a=some { cls:=.type "list",data:=.seq vs.toArray }/\IntsAre vs ns/\ns.length<=n:=by
 have hsh:WShape.hasAll [] args [.list .int]=true:=(pre_splitW hpre).1;have hc:l.pre.holds [] { args:=args }=true:=(pre_splitW hpre).2;obtain⟨d,r,rfl,h1,h2⟩:=hasAllW_cons hsh;obtain rfl:=hasAllW_nil h2;obtain⟨xs,rfl,h3⟩:=hasW_list h1;obtain⟨ns,rfl⟩:=items_int h3;have hlen:ns.length<=n:=by
  unfold OpenLaw.pre at hc;have h4:(WTm.not (.lt (.lit (.int (n:Int))) (.len (.arg 0)))).holds [] { args:=[.list (ns.map .int)] }=true:=by
   have h4:=(holds_andW hc).1;rw[hn]at h4;exact h4
  have h5:=condW_of h4 (w_not (w_lt w_lit (w_len_list (w_arg rfl))));rw[List.length_map]at h5;refine Nat.le_of_not_lt λq=>?_;have q':(n:Int)<((ns.length:Nat):Int):=by omega
  first
   |(rw[decide_eq_true q']at h5;exact absurd h5 (by decide))
   |(simp at h5;omega)
 cases hwl with
 |cons w1 w2=>
  cases w2;cases w1 with|list ho hall=>exact⟨_,_,ns,rfl,rfl,ho,kJ ns _ hall,hlen⟩
def uu(l:OpenLaw)(args:List WData):l.row.toRowW.claim.post args (.bool true) args=true :=
 postW_of (r:=l.row.toRowW) (X:=(true==true))
  (show WShape.has [] (.bool true) .bool=true by first|rfl|decide|simp[WShape.has,WShape.arms,WShape.armsAll])
  (show(WTm.eq .res (.lit (.bool true))).value [] { args:=args,res:=some (.bool true),after:=args }=some (.bool (true==true)) from w_eq_bool (w_res rfl) w_lit) rfl
def attach_call{l:OpenLaw}{n:Nat}{q:Program}{loose:List Str}{XP:(Str->Option Value)->Heap->Prop}{YP:World->Heap->Prop}{d:DefRec}
  (hn:l.most=some n)(hdf:d.params.defaults=[])
  (call:∀(w:World) (sd se:Shared) (mg mb:Str->Option Value) (fa:Addr) (o:Obj) (pm cd doc:Value) (a:Addr) (vs:List Value) (ns:List Int),
   Ground q loose [] XP w sd mg mb se.heap->YP w se.heap ->
   se.heap.get? fa=some o->o.data=.func (docDef d.name d.params d.body d.scope pm cd doc)->se.heap.CodeRec cd d.name->mg d.name=some (.ref fa) ->
   se.heap.get? a=some { cls:=.type "list",data:=.seq vs.toArray }->IntsAre vs ns->ns.length<=n->se.gens=#[] ->
   codeAny (model l.prog w) callerA (.call (.ref fa) ⟨[.ref a],[]⟩) (λr s'=>r=.ok (.ret (.bool true))/\OldK se.heap s'.heap/\s'.os=se.os/\AllBare s'.gens) se) :
  WalkO q loose XP YP l.row.toRowW d [] (λf vs=>PySem.call f vs):=by
 intro w sd se mg mb G Y fa o pm cd doc dV kV ho hd hcd hD hmg hg args vals as hpre hlay hrd hwl hlo;obtain rfl:dV=.none:=Dflts.none hD hdf;obtain rfl:kV=.none:=Dflts.noKw hD;obtain⟨a,vs,ns,rfl,rfl,hobj,hints,hlen⟩:=um hn hpre hwl;refine enter_call (codeAny_mono (call w sd se mg mb fa o pm cd doc a vs ns G Y ho (fd_plain hd) hcd hmg hobj hints hlen hg) λr s' hq=>?_);obtain⟨rfl,h2,h3,h4⟩:=hq;exact⟨.inl ⟨.bool true,.bool true,[],rfl,λ_=>rfl,.bool true,uu l _,λ_=>⟨List.Pairwise.nil,λ_ hm=>(nomatch hm)⟩⟩,h2,h3,h4⟩
end Att
namespace L2
open PySem PySem.Spec PyProof.Rows
theorem fR:∀{vs:List Value}{ns:List Int},IntsAre vs ns->aY (ns.map V.int) vs
 |_,_,.nil=>.nil
 |_,_,.cons n t h=>.cons ⟨t,rfl⟩ (fR h)
def AX(H:Hp):Prop:=∀b,H b=none∨∃o xs,H b=some (.frz o (.lst xs))
def wV{P:Program}{w:World}{K:W.Frag}{mg mb:Str->Option Value}{CX:ke}{k:Nat}{fa a:Addr}{fd:FuncData}{x:Str}{sp:Sp}{se:Shared}{vs:List Value}{ns:List Int}
  (KX:K.In se.heap)(hns:se.heap.Ns mainGlobals mg)(hb:se.heap.Ns builtinsNs mb)(hbb:∀x:Str,x≠"__name__"->mb x=bootBuiltins x)(hlim:se.heap.NoLimit)(hsm:∃mm,se.heap.Ns sysModules mm)(hg:se.gens=#[])
  (ha:se.heap.get? a=some { cls:=.type "list",data:=.seq vs.toArray })(hi:IntsAre vs ns)(hl:ns.length<=sizeLine)(hr:cn k callerA)
  (F:∀base:Heap,K.In base->base.Ns mainGlobals mg->FnOk P w K mg base CX k fa fd [x] sp)(hbind:∀(s:Shared) (u:Value),BindsTo s fd ⟨[u],[]⟩ [(x,u)])
  (hsp:∀H:Hp,AX H->dF K H a (ns.map V.int)->sp [.ref a] H (λv _=>v=.bl true) λ_ _ _=>False)
  (hCX:∀H e s',CX [] H se (λ_ _ _=>False) e s'->False) :
  codeAny (model P w) callerA (.call (.ref fa) ⟨[.ref a],[]⟩) (λr s'=>r=.ok (.ret (.bool true))/\OldK se.heap s'.heap/\s'.os=se.os/\AllBare s'.gens) se:=by
 have rv:=fR hi;have lenV:=hi.length;have core:∀H:Hp,AX H->dF K H a (ns.map V.int)->fK P w H se.heap->(∀b,H b≠none->b=a)->(H a≠none->K.lookup a=none) ->
   codeAny (model P w) callerA (.call (.ref fa) ⟨[.ref a],[]⟩) (λr s'=>r=.ok (.ret (.bool true))/\OldK se.heap s'.heap/\s'.os=se.os/\AllBare s'.gens) se:=by
  intro H hO hS hok hA hK;have base_of:∀{b:Addr}{o:Obj},se.heap.get? b=some o->H b=none->(og se.heap H).get? b=some o:=λe n=>xi e n;have noA:∀{b:Addr}{o:Obj}{es:Array DictEntry}{ep:Nat},se.heap.get? b=some o->o.data=.dict es ep->H b=none:=λ{b o es ep} e d=>by
   cases q:H b with
   |none=>rfl
   |some u=>
    have e':b=a:=hA b (by rw[q];simp);subst e';rw[ha]at e;cases e;have d':Data.seq vs.toArray _=Data.dict es ep:=d;cases d'
  have nsK:∀{b:Addr}{m:Str->Option Value},se.heap.Ns b m->(og se.heap H).Ns b m:=λ{b m} ⟨o,es,ep,e,d,r⟩=>⟨o,es,ep,base_of e (noA e d),d,r⟩
  have hKb:K.In (og se.heap H):=λb o e=>base_of (KX b o e) (by
   cases q:H b with
   |none=>rfl
   |some u=>
    have e':b=a:=hA b (by rw[q];simp);subst e';rw[hK (by rw[q];simp)]at e;cases e)
  have hM:Mod K mg (og se.heap H):=⟨hKb,nsK hns,⟨mb,nsK hb,hbb⟩,let ⟨mc,h1,h2⟩:=hlim;⟨mc,nsK h1,h2⟩,let ⟨mm,h1⟩:=hsm;⟨mm,nsK h1⟩⟩
  have e0:yo P w K mg (og se.heap H) callerA [] se H:=⟨rfl,hM,λb o e=>zt e,Nat.le_of_eq (uJ _ _),trivial,λb hb=>absurd (show b∈([]:List Addr) from hb) (by simp),hok,.of_eq hg⟩
  refine codeAny_mono ((F _ hKb (nsK hns)).run callerA [] se H ⟨[.ref a],[]⟩ [.ref a] [.ref a] _ _ hr e0 (hbind se (.ref a)) (.cons rfl .nil) (hsp H hO hS)) λr s' h=>?_;cases r with
  |error e=>exact(hCX H e s' h).elim
  |ok fl=>
   cases fl with
   |next|brk|cont=>exact False.elim h
   |ret u=>
    obtain⟨v,H',os,bare,un,hok',r',q⟩:=h;have q':v=.bl true:=q;subst q';obtain rfl:u=Value.bool true:=r';refine⟨rfl,OldK.of_keep λb o e=>?_,os,bare⟩;cases q:H b with
    |none=>exact un.keep b o e q (by intro z;exact absurd (show b∈([]:List Addr) from z) (by simp)) (by simp)
    |some u=>
     rcases hO b with z|⟨ob,xs,z⟩
     .rw[q]at z;cases z
     .have z2:=un.frzs b ob _ z
      obtain⟨e1,_⟩:=hok b _ z;obtain⟨e2,_⟩:=hok' b _ z2;rw[e]at e1;cases e1;exact e2
 cases hk:K.lookup a with
 |some o=>
  have e:=KX a o hk;rw[ha]at e;cases e;refine core (λ_=>none) (λ_=>.inl rfl) (.inr ⟨_,vs.toArray,_,hk,rfl,rfl,rfl,by rw[List.size_toArray,lenV];exact hl,by simpa using rv⟩) (λb u z=>by have z':(none:Option HO)=some u:=z;cases z') (λb z=>absurd rfl z) λz=>absurd rfl z
 |none=>
  refine core (λb=>if b=a then some (.frz { cls:=.type "list",data:=.seq vs.toArray } (.lst (ns.map V.int))) else none) (λb=>?_) (.inl (.inr ⟨{ cls:=.type "list",data:=.seq vs.toArray },if_pos rfl⟩)) (λb u z=>?_) (λb z=>?_) λ_=>hk
  .by_cases hb:b=a
   .exact .inr ⟨_,_,if_pos hb⟩
   .exact .inl (if_neg hb)
  .by_cases hb:b=a
   .have z':=(if_pos hb).symm.trans z
    cases z';subst hb;exact⟨ha,by rw[List.length_map];exact hl,vs,_,rv,ha⟩
   .have z':=(if_neg hb).symm.trans z
    cases z'
  .by_cases hb:b=a
   .exact hb
   .exact absurd (if_neg hb) z
abbrev KOf{K:W.Frag}{h:Heap}(_:K.In h):W.Frag:=K
def yB{l:W.OpenLaw}{n k:Nat}{q:Program}{loose:List Str}{XP:(Str->Option Value)->Heap->Prop}{YP:World->Heap->Prop}{d:DefRec}{K:Params->W.Frag}{CX:World->ke}{sp:World->Sp}{x:Str}
  (hi:importsNone q=true)(hn:l.most=some n)(hn2:n<=sizeLine)(hdf:d.params.defaults=[])(hr:cn k callerA)
  (hY:∀(w:World) (h:Heap),YP w h->(K w.params).In h)
  (F:∀(w:World) (mg:Str->Option Value) (fa:Addr) (h:Heap),(K w.params).In h->h.Ns mainGlobals mg->mg d.name=some (.ref fa) ->
   ∃fd:FuncData,(∀(s:Shared) (u:Value),BindsTo s fd ⟨[u],[]⟩ [(x,u)]) /\
    ∀base:Heap,(K w.params).In base->base.Ns mainGlobals mg->FnOk l.prog w (K w.params) mg base (CX w) k fa fd [x] (sp w))
  (hsp:∀(w:World) (H:Hp) (a:Addr) (ns:List Int),ns.length<=n->AX H->dF (K w.params) H a (ns.map V.int)->sp w [.ref a] H (λv _=>v=.bl true) λ_ _ _=>False)
  (hCX:∀(w:World) (H:Hp) (s:Shared) (e:Value) (s':Shared),CX w [] H s (λ_ _ _=>False) e s'->False) :
  W.WalkO q loose XP YP l.row.toRowW d [] (λf vs=>PySem.call f vs):=by
 refine Att.attach_call hn hdf λw sd se mg mb fa o pm cd doc a vs ns G Y ho hd hcd hmg hobj hints hlen hg=>?_;have KX:=hY w _ Y;obtain⟨fd,hb,hF⟩:=F w mg fa _ KX G.T.g hmg;exact wV KX G.T.g G.T.b G.T.builtins G.T.nolimit (let ⟨mm,h1,_⟩:=(G.T.seer hi).mods;⟨mm,h1⟩) hg hobj hints (Nat.le_trans hlen hn2) hr hF hb (λH hO hS=>hsp w H a ns hlen hO hS) λH e s'=>hCX w H se e s'
def walk_ofK{l:W.OpenLaw}{n k:Nat}{q:Program}{loose:List Str}{XP:(Str->Option Value)->Heap->Prop}{YP:World->Heap->Prop}{d:DefRec}{K:Params->W.Frag}{CX:ke}{sp:W.Frag->Sp}{x:Str}
  (hi:importsNone q=true)(hn:l.most=some n)(hn2:n<=sizeLine)(hdf:d.params.defaults=[])(hr:cn k callerA)
  (hY:∀(w:World) (h:Heap),YP w h->(K w.params).In h)
  (F:∀(w:World) (mg:Str->Option Value) (fa:Addr) (h:Heap),(K w.params).In h->h.Ns mainGlobals mg->mg d.name=some (.ref fa) ->
   ∃fd:FuncData,(∀(s:Shared) (u:Value),BindsTo s fd ⟨[u],[]⟩ [(x,u)]) /\
    ∀base:Heap,(K w.params).In base->base.Ns mainGlobals mg->FnOk l.prog w (K w.params) mg base CX k fa fd [x] (sp (K w.params)))
  (hsp:∀(K:W.Frag) (H:Hp) (a:Addr) (ns:List Int),ns.length<=n->AX H->dF K H a (ns.map V.int)->sp K [.ref a] H (λv _=>v=.bl true) λ_ _ _=>False)
  (hCX:∀(H:Hp) (s:Shared) (e:Value) (s':Shared),CX [] H s (λ_ _ _=>False) e s'->False) :
  W.WalkO q loose XP YP l.row.toRowW d [] (λf vs=>PySem.call f vs) :=
 yB (K:=K) (CX:=λ_=>CX) (sp:=λw=>sp (K w.params)) hi hn hn2 hdf hr hY F (λw H a ns h1 h2 h3=>hsp (K w.params) H a ns h1 h2 h3) λ_ H s e s'=>hCX H s e s'
def defArgs(s:Stmt):Arguments:=match s with
 |.FunctionDef _ a _ _ _ _ _ _ _ _=>a
 |_=>{ posonlyargs:=[],args:=[],vararg:=none,kwonlyargs:=[],kw_defaults:=[],kwarg:=none,defaults:=[] }
def defBody(s:Stmt):List Stmt:=match s with
 |.FunctionDef _ _ b _ _ _ _ _ _ _=>b
 |_=>[]
def defScope(s:Stmt):Scope:=match s with
 |.FunctionDef _ _ _ _ _ _ sc _ _ _=>sc
 |_=>{ kind:=.function,names:=[],isGenerator:=false,isCoroutine:=false }
abbrev CX0:ke:=λ_ _ _ _ _ _=>False
abbrev E0:XK:=λ_ _ _=>False
def sX{X:Cx}:eY CX0 X E0:=λ_ _ _ _ _ _ _ h=>h.elim
structure ym (K:W.Frag) (x qual:Str) (st:Stmt) (f:Addr) (fd:FuncData):Prop where
 ex:∃(oc:Value) (od:Option Addr) (kV doc pm:Value) (an:Option Addr) (cdv ct:Value) (osl:Array (Option Value)),
  fd=W.fnOf x qual (defArgs st) (defBody st) (defScope st) .none kV doc pm an cdv ct/\K.lookup f=some ⟨oc,od,.func fd,osl⟩/\W.codeIn K cdv qual=true
 kp:W.keepIn K (.ref f)=true
section
variable {P:Program}{w:World}{K:W.Frag}{mg:Str->Option Value}{base:Heap}
def ym.ok{x qual:Str}{st:Stmt}{f:Addr}{fd:FuncData}{N ps:List Str}{k:Nat}{sp:Sp}(F:ym K x qual st f fd)(S:eA N ps (defScope st))(len:∀vs H Q E,sp vs H Q E->vs.length=ps.length)
  (hbody:∀(cdv:Value) (A:Around) (outer:List Env) (s:Shared) (H:Hp) (vs:bv) (Q:VK) (E:XK),cn k (A.deeper (envOfC qual (defScope st) s.heap.objs.size f cdv))->sp vs H Q E ->
   ∃t,qG (dU CX0 P w K mg base N qual (defScope st) f cdv A outer s H E).nox (defBody st) t/\t { nx:=λ_ H'=>Q .non H',rt:=Q } (start N vs) H):FnOk P w K mg base CX0 (k+1) f fd ps sp:=by
 obtain⟨oc,od,kV,doc,pm,an,cdv,ct,osl,rfl,lk,hcd⟩:=F.ex;refine tu lk hcd S len λA outer s H vs Q E hr hsp=>?_;obtain⟨t,h,q⟩:=hbody cdv A outer s H vs Q E hr hsp;exact⟨t,h.nox,q⟩
def ym.binds{x qual:Str}{st:Stmt}{f:Addr}{fd:FuncData}{ps:List Str}(F:ym K x qual st f fd)
  (h:∀(kV doc pm:Value) (an:Option Addr) (cdv ct:Value) (us:List Value),us.length=ps.length->bindArgs (W.fnOf x qual (defArgs st) (defBody st) (defScope st) .none kV doc pm an cdv ct) ⟨us,[]⟩=pure (ps.zip us)):iA K fd ps []:=by
 obtain⟨oc,od,kV,doc,pm,an,cdv,ct,osl,rfl,lk,hcd⟩:=F.ex;exact .all (h kV doc pm an cdv ct)
def xl{x qual:Str}{st:Stmt}{f:Addr}{oc:Value}{od an:Option Addr}{osl:Array (Option Value)}{kV doc pm cdv ct:Value}(l:K.lookup f=some ⟨oc,od,.func (W.fnOf x qual (defArgs st) (defBody st) (defScope st) .none kV doc pm an cdv ct),osl⟩)
  (c:W.codeIn K cdv qual=true)(k:W.keepIn K (.ref f)=true):ym K x qual st f (W.fnOf x qual (defArgs st) (defBody st) (defScope st) .none kV doc pm an cdv ct):=⟨⟨oc,od,kV,doc,pm,an,cdv,ct,osl,rfl,l,c⟩,k⟩
end
def az(H H':Hp):Prop:=∀b o,H b=some o->H' b=some o
def az.refl(H:Hp):az H H:=λ_ _ h=>h
def az.trans{H H1 H2:Hp}(a:az H H1)(b:az H1 H2):az H H2:=λc o h=>b c o (a c o h)
def az.free{H H':Hp}(e:az H H'){l:Addr}(h:H' l=Option.none):H l=Option.none:=by
 cases q:H l with
 |none=>rfl
 |some o=>
  rw[e l o q]at h;cases h
end L2
namespace DL
open PySem PySem.Spec PySem.Calls PySem.W PyProof.Rows Builtin Builtin.ObjectAttr Builtin.Getset_descriptor
section
variable {prog:Program}{w:World}{A:Around}{E:Value->Shared->Prop}{h:Heap}{g:Array GenState}{d:Drawn}{t:Nat}{os:OsState}{a C:Addr}{o:Obj}{K:Frag}
structure mP (K:Frag) (C:Addr):Prop where
 cls:findIn K (.ref C) "__class__"=some (some (.builtin "object.__class__"))
 ga:findIn K (.ref C) "__getattribute__"=some (some (.builtin "BaseException.__getattribute__"))
 gt:findIn K (.ref C) "__getattr__"=some none
 ob:mroIn K C (.type "object")=some true
 be:subIn K (.ref C) (.type "BaseException")=some true
def Bt{R:Result->Shared->Prop}{tp:Value}(X:K.In h)(Z:mP K C)(hx:h.get? a=some o)(hc:o.cls=.ref C)(hq:R (.ok (.ret (.ref C))) ⟨h,g,d,t,os⟩) :
  codeAny (model prog w) A (.call (.builtin "getset_descriptor.__get__") ⟨[.builtin "object.__class__",.ref a,tp],[]⟩) R ⟨h,g,d,t,os⟩:=by
 have L0:Looks (model prog w) h (typeOf (.ref a)) (.ref C):=hc▸(Looks.ld hx).andThen .now;have L1:=looks_mroIn (M:=model prog w) X Z.ob;refine codeAny_call_builtin KF.slot_gs.plain KF.entry_gs (KF.slot_gs.check _ _ _ _ _ _ _ _ KF.type_class (KF.args_gs _ _ _) ?_);unfold Builtin.«getset_descriptor.__get__» descrGet;rw[dga_obj];refine wpAny_bind (wpAny_pure ?_);unfold descrGetter descrCheckInstance descrNameAndClass isInstance;simp only[KF.owner_class]
 repeat lk
 refine⟨Code.quiet_builtin _ (by decide +kernel),codeAny_builtin KF.entry_class ?_⟩;unfold Builtin.«object.__class__» shownTypeOf
 repeat lk
 exact hq
def vq{M:Model}{nameV:Value}{Q:Unit->Shared->Prop}(X:K.In h)(Z:mP K C)(hx:h.get? a=some o)(hc:o.cls=.ref C)(hq:Q () ⟨h,g,d,t,os⟩):wpAny M A (checkBuiltinCall "BaseException.__getattribute__" ⟨[.ref a,nameV],[]⟩) Q E ⟨h,g,d,t,os⟩:=by
 have hk:builtinKind "BaseException.__getattribute__"=some .slot:=by decide +kernel
 have hsplit:splitId "BaseException.__getattribute__"=some ("BaseException","__getattribute__"):=by decide +kernel
 have ha:=F.args_bexc_ga (.ref a) nameV;have LS:Looks M h (isSubtype (.ref C) (.type "BaseException")) true:=looks_subIn X Z.be;simp only[checkBuiltinCall,hk,hsplit];refine wpAny_bind ?_
 .unfold isInstance
  repeat (first|(with_reducible refine wpAny_loadPart_at hx ?_;rw[hc])|(with_reducible refine LS.at ?_)|wp_step)
  exact hq
def vp{tk:Tok}{Q:Fin->Shared->Prop}(X:K.In h)(Z:mP K C)(hx:h.get? a=some o)(hc:o.cls=.ref C)(hq:Q (.done (.ret (.ref C))) ⟨h,g,d,t,os⟩) :
  wpAny (model prog w) A (Builtin.«object.__getattribute__» ⟨[.ref a,.str "__class__" tk],[]⟩) Q E ⟨h,g,d,t,os⟩:=by
 have hT5:(⟨h,g,d,t,os⟩:Shared).TypeIs (.builtin "object.__class__") "getset_descriptor":=F.typeOf_object_class;have f5:=F.typeOf_object_class;have f6:=F.slot_gs_get.lookup;have f7:=F.slot_gs_set.lookup;have LC:Looks (model prog w) h (typeLookup (.ref C) "__class__") (some (.builtin "object.__class__")):=looks_findIn X Z.cls
 repeat (any_goals (first|assumption|(with_reducible refine wpAny_loadPart_at hx ?_;rw[hc])|(with_reducible refine LC.at ?_)|wp_step))
 refine Bt X Z hx hc ?_
 repeat (any_goals (first|assumption|wp_step))
def yz{tk:Tok}{R:Result->Shared->Prop}(X:K.In h)(Z:mP K C)(hx:h.get? a=some o)(hc:o.cls=.ref C)(hq:R (.ok (.ret (.ref C))) ⟨h,g,d,t,os⟩) :
  codeAny (model prog w) A (.call (.builtin "BaseException.__getattribute__") ⟨[.ref a,.str "__class__" tk],[]⟩) R ⟨h,g,d,t,os⟩ :=
 codeAny_call_builtin F.attr_ValueError.ga.plain F.entry_bexc_ga (vq X Z hx hc (vp X Z hx hc hq))
def Dz{tk:Tok}{Q:Value->Shared->Prop}(X:K.In h)(Z:mP K C)(hx:h.get? a=some o)(hc:o.cls=.ref C)(hq:Q (.ref C) ⟨h,g,d,t,os⟩) :
  wpAny (model prog w) A (getAttrBy (.ref a) (.str "__class__" tk) false) Q E ⟨h,g,d,t,os⟩:=by
 have f3:=F.attr_ValueError.ga.bind (.ref a);have hx2:(Value.builtin "BaseException.__getattribute__"==Value.builtin "object.__getattribute__")=false:=by decide +kernel
 have hx1:(onTheHeap (Value.ref C)&&Value.builtin "BaseException.__getattribute__"==Value.builtin "object.__getattribute__")=false:=by rw[hx2];rfl
 have L1:Looks (model prog w) h (typeLookup (.ref C) "__getattribute__") (some (.builtin "BaseException.__getattribute__")):=looks_findIn X Z.ga;have L2:Looks (model prog w) h (typeLookup (.ref C) "__getattr__") none:=looks_findIn X Z.gt
 repeat (any_goals (first|assumption|(with_reducible refine wpAny_loadPart_at hx ?_;rw[hc])|(with_reducible refine L1.at ?_)|(with_reducible refine L2.at ?_)|wp_step))
 refine yz X Z hx hc ?_
 repeat (any_goals (first|assumption|wp_step))
def yA{Q:Option Value->Shared->Prop}(X:K.In h)(Z:mP K C)(hx:h.get? a=some o)(hc:o.cls=.ref C)(hq:Q (some (.ref C)) ⟨h,g,d,t+1,os⟩):wpAny (model prog w) A (getAttr? (.ref a) "__class__") Q E ⟨h,g,d,t,os⟩:=by
 unfold getAttr? getAttrBy?
 repeat (any_goals (first|assumption|with_reducible apply Dz X Z hx hc|wp_step))
end
def sA(a C:Addr)(dc:Option Addr):Heap->Prop:=λh=>∃o vs,h.get? a=some o/\o.cls=.ref C/\o.data=.fields vs/\o.dict=dc
def jy{K:Frag}{a C:Addr}{dc:Option Addr}(Z:mP K C)(hC:(clsIn K C).isSome=true):KitX K (.ref a) (.ref C) (sA a C dc) where
 ty:=λ_ _ _ ⟨o,_,h1,h2,_⟩=>h2▸(Looks.ld h1).andThen .now
 it:=λ_ _ X _=>by
  obtain⟨cd,hcD⟩:=Option.isSome_iff_exists.mp hC;unfold clsIn at hcD;split at hcD
  .rename_i c' d' cd' sl' ho
   intro A' Q' E' s' k q;unfold isType loadHead;exact wpAny_bind (wpAny_loadPart (k _ _ (X _ _ ho)) (wpAny_pure q))
  .cases hcD
 ne:=λh tp dd its n sl X htp=>by
  obtain⟨cd,hcD⟩:=Option.isSome_iff_exists.mp hC;refine Bool.eq_false_iff.mpr λq=>?_;have e:C=tp:=Value.ref.inj (beq_iff_eq.mp q);subst e;unfold clsIn at hcD;split at hcD
  .rename_i c' d' cd' sl' ho
   have z:=(X _ _ ho).symm.trans htp;cases z
  .cases hcD
 ca:=λ{_ _ _ _ _ s} X ⟨o,_,h1,h2,_⟩ k=>by
  obtain⟨h,g,d,t,os⟩:=s;exact yA X Z h1 h2 k
def mP.isCls{K:Frag}{C:Addr}(Z:mP K C):(clsIn K C).isSome=true:=by
 obtain⟨cd,a,b⟩:=Option.bind_eq_some_iff.mp Z.ob;rw[a];rfl
def eX:List String:=["NoneType","bool","int","str","tuple","list","dict"]
structure XC (K:Frag) (x:Str) (C:Addr):Prop where
 ns:nsIn K mainGlobals x=some (some (.ref C))
 ek:mP K C
 bt:∀T∈eX,kitOne K (.ref C) (.type T)=some false
end DL
namespace DL
open PySem PySem.Spec PyProof.Rows L2
def l6(o:Obj)(f:Array Value->Array Value):(o.mapFields f).dict=o.dict:=by unfold Obj.mapFields;split<;>rfl
def iT(h:Heap)(e:Addr)(dc:Option Addr):Prop:=∃o,h.get? e=some o/\o.dict=dc/\(dc≠none->∃vs,o.data=.fields vs/\vs[2]?=some .none)
section
variable {M:Model}{A:Around}{E:Value->Shared->Prop}{s:Shared}{base:Heap}{env:PySem.Env}{outer l:List PySem.Env}{L e:Addr}{cls a0 fl:Value}{dc:Option Addr}{Q:Unit->Shared->Prop}
def qd{oe:Obj}{vs:Array Value}{head:Value}{b0:Bool}(hfr:A.frames=some (env::outer))(hl:s.heap.FunFrames base (env::outer))(hf:env.frame=some L)(he:s.heap.get? e=some oe)(kb:base.StaysIn s.heap)(hen:base.get? e=none)(hd:oe.data=.fields vs)(hz:1<vs.size)(h0:vs[0]?=some a0)(hx:oe.dict≠none->vs[2]?=some .none)
  (h:∀h',Heap.NotedW base (env::outer) e oe.cls a0 (rawInt L) s.heap h'->iT h' e oe.dict->Q () { s with heap:=h' }) :
  wpAny M A (do
   let a ←frameOf env
   let pl ←entryPlaceOf L b0
   let b ←EntryCells.newEntry head a .none (rawInt L) .none pl
   setField (.ref e) 1 b) Q E s:=by
 have nf:e∉(env::outer).filterMap (·.frame):=λhm=>by
  obtain⟨_,o,ho,q⟩:=hl.mem hm;rw[he]at ho;cases ho;exact q vs hd
 refine wpAny_bind (wpAny_frameOf_fun hfr hl hf λg ⟨_,same,slots⟩=>wpAny_bind (wpAny_entryPlaceOf λpl hpl=>?_));have ge:g.get? e=some oe:=(same e nf).trans he;have up:∀(N:Obj) (f:Obj->Obj) (b:Addr) (o:Obj),b≠e->g.get? b=some o->((g.push N).update e f).get? b=some o:=λN f b o hb q=>(Heap.get?_update_other _ _ (Ne.symm hb)).trans (Heap.get?_push_of_some _ q);have ne:∀b o,s.heap.get? b=some o->(∀vs,o.data≠.fields vs)->b≠e:=λb o q z c=>by subst c;rw[he]at q;cases q;exact z vs hd
 have kg:base.StaysIn g:=λb o q=>(same b λhm=>by rw[(hl.mem hm).1]at q;cases q).trans (kb b o q);unfold EntryCells.newEntry newFields;refine wpAny_bind (wpAny_newObj_type ?_ (hpl.sizeOk5 _ _ _ _ _));have d3:=Obj.data_mapFields hd (·.setIfInBounds 1 (Value.ref g.objs.size));have hTe:g.objs.size≠e:=Nat.ne_of_gt (Heap.lt_size ge);have at_e:∀N:Obj,((g.push N).update e (Obj.mapFields (·.setIfInBounds 1 (Value.ref g.objs.size)))).get? e=some (oe.mapFields (·.setIfInBounds 1 (Value.ref g.objs.size))):=λN=>Heap.get?_update_self _ (Heap.get?_push_of_some _ ge) (Obj.isFreed_of_fields d3);refine wpAny_setField (Heap.get?_push_of_some _ ge) hd hz (h _ ⟨λb o q=>up _ _ b o (λc=>by subst c;rw[hen]at q;cases q) (kg b o q),hl.of_keeps λb o q z=>?_,?_,λb o q z=>?_⟩ ⟨_,at_e _,l6 _ _,λz=>⟨_,d3,by rw[Array.getElem?_setIfInBounds_ne (by decide)];exact hx z⟩⟩)
 .obtain⟨sl,x⟩:=slots b o q
  exact⟨_,up _ _ b _ (ne b o q z) x,rfl⟩
 .refine⟨_,_,g.objs.size,_,_,at_e _,⟨Obj.cls_mapFields _ _,?_⟩,d3,?_,kg.fresh,hTe,(Heap.get?_update_other _ _ (Ne.symm hTe)).trans (Heap.get?_push_size g rfl),rfl,?_⟩
  .rw[Array.getElem?_setIfInBounds_ne (by decide)];exact h0
  .simp[hz]
  .first|(simp;done)|(rcases hpl with rfl|⟨_,_,_,_,_,_,_,rfl⟩<;>simp)
 .obtain⟨sl,x⟩:=slots b o q
  exact⟨sl,up _ _ b _ (ne b o q z) x⟩
def xr{oe:Obj}{vs:Array Value}(hfr:A.frames=some (env::outer))(hl:s.heap.FunFrames base (env::outer))(hf:env.frame=some L)(he:s.heap.get? e=some oe)(kb:base.StaysIn s.heap)(hen:base.get? e=none)(hd:oe.data=.fields vs)(h1:vs[1]?=some .none)(h0:vs[0]?=some a0)(hx:oe.dict≠none->vs[2]?=some .none)
  (h:∀h',Heap.NotedW base (env::outer) e oe.cls a0 (rawInt L) s.heap h'->iT h' e oe.dict->Q () { s with heap:=h' }):wpAny M A (noteFrame (.ref e) env) Q E s:=by
 unfold noteFrame;simp only[hf];refine wpAny_bind (wpAny_field he hd h1 ?_);rw[if_neg (by decide)];exact qd hfr hl hf he kb hen hd (Array.getElem?_eq_some_iff.mp h1).1 h0 hx h
def tw(hfr:A.frames=some (env::outer))(hl:s.heap.FunFrames base (env::outer))(hf:env.frame=some L)(ht:s.heap.TracedW base e cls a0)(hc:iT s.heap e dc)(kb:base.StaysIn s.heap)(hen:base.get? e=none)
  (h:∀h',Heap.NotedW base (env::outer) e cls a0 (rawInt L) s.heap h'->iT h' e dc->Q () { s with heap:=h' }):wpAny M A (noteFrame (.ref e) env) Q E s:=by
 obtain⟨oe,vs,T,oT,ts,he,⟨rfl,h0⟩,hd,h1,hnT,hTe,hT,dT,h3⟩:=ht;obtain⟨o',q,rfl,cx⟩:=hc;rw[he]at q;cases q;have hx:oe.dict≠none->vs[2]?=some .none:=λz=>by
  obtain⟨vs',d',g⟩:=cx z;rw[hd]at d';cases d';exact g
 have oth:∀(f:Obj->Obj) (b:Addr),b≠T->(s.heap.update T f).get? b=s.heap.get? b:=λf b hb=>Heap.get?_update_other _ _ (Ne.symm hb);have ne:∀b o,s.heap.get? b=some o->(∀vs,o.data≠.fields vs)->b≠T:=λb o q z c=>by subst c;rw[hT]at q;cases q;exact z ts dT
 unfold noteFrame;simp only[hf];refine wpAny_bind (wpAny_field he hd h1 ?_);rw[if_pos (by simp)];refine wpAny_bind (wpAny_field hT dT h3 ?_);rw[if_neg (by simp[rawInt])];refine wpAny_bind (wpAny_setField hT dT (Array.getElem?_eq_some_iff.mp h3).1 ?_);refine qd hfr (hl.of_keeps λb o q z=>⟨o,(oth _ b (ne b o q z)).trans q,rfl⟩) hf ((oth _ e (Ne.symm hTe)).trans he) (λb o q=>(oth _ b λc=>by subst c;rw[hnT]at q;cases q).trans (kb b o q)) hen hd (Array.getElem?_eq_some_iff.mp h1).1 h0 hx λh' ⟨x1,x2,x3,x4⟩ x5=>h h' ⟨x1,x2,x3,λb o q z=>x4 b o ((oth _ b (ne b o q z)).trans q) z⟩ x5
def iI(kb:base.StaysIn s.heap)(hl:s.heap.FunFrames base l)(ht:s.heap.TracedAtW base e cls a0 fl)(hc:iT s.heap e dc)
  (h:∀h',base.StaysIn h'->h'.FunFrames base l->h'.TracedW base e cls a0->(∀b o,s.heap.get? b=some o->(∀vs,o.data≠.fields vs)->h'.get? b=some o)->iT h' e dc->Q () { s with heap:=h' }):wpAny M A (setFlight (.ref e) none) Q E s:=by
 obtain⟨oe,vs,T,oT,ts,he,hcl,hd,h1,hnT,hTe,hT,dT,h3⟩:=ht;have z3:3<ts.size:=(Array.getElem?_eq_some_iff.mp h3).1;have oth:∀(f:Obj->Obj) (b:Addr),b≠T->(s.heap.update T f).get? b=s.heap.get? b:=λf b hb=>Heap.get?_update_other _ _ (Ne.symm hb);have ne:∀b o,s.heap.get? b=some o->(∀vs,o.data≠.fields vs)->b≠T:=λb o q z c=>by subst c;rw[hT]at q;cases q;exact z ts dT
 unfold setFlight;refine wpAny_bind (wpAny_field he hd h1 ?_);rw[if_pos (by simp)];obtain⟨o',q',rfl,cx⟩:=hc;refine wpAny_setField hT dT z3 (h _ (λb o q=>(oth _ b λc=>by subst c;rw[hnT]at q;cases q).trans (kb b o q)) (hl.of_keeps λb o q z=>⟨o,(oth _ b (ne b o q z)).trans q,rfl⟩) ?_ (λb o q z=>(oth _ b (ne b o q z)).trans q) ⟨o',(oth _ e (Ne.symm hTe)).trans q',rfl,cx⟩);exact⟨oe,vs,T,_,_,(oth _ e (Ne.symm hTe)).trans he,hcl,hd,h1,hnT,hTe,Heap.get?_update_self _ hT (Obj.isFreed_of_fields (Obj.data_mapFields dT _)),Obj.data_mapFields dT _,by simp[z3]⟩
def Fi(h:Heap)(e:Addr)(ox:Option Addr):Prop:=∃dc,iT h e dc/\(ox=none∨ox=dc)
def rL{oe:Obj}{vs:Array Value}(hfr:A.frames=some (env::outer))(hl:s.heap.FunFrames base (env::outer))(hf:env.frame=some L)(he:s.heap.get? e=some oe)(kb:base.StaysIn s.heap)(hen:base.get? e=none)(hd:oe.data=.fields vs)(h1:vs[1]?=some .none)(h0:vs[0]?=some a0)(hx:oe.dict≠none->vs[2]?=some .none)
  (h:∀h',Heap.FlyingW base outer e oe.cls a0 h'->s.heap.UpToSlots h'->iT h' e oe.dict->Q () { s with heap:=h' }):wpAny M A (leaving env (.ref e)) Q E s:=by
 unfold leaving;refine wpAny_bind (xr hfr hl hf he kb hen hd h1 h0 hx λg ⟨k1,k2,k3,k4⟩ dg=>?_);refine iI (s:={ s with heap:=g }) k1 k2 k3 dg λh' m1 ⟨_,_,m2⟩ m3 m4 dh=>h h' ⟨m1,hen,m2,m3⟩ (λb o q z=>?_) dh;obtain⟨sl,x⟩:=k4 b o q z;exact⟨sl,m4 b _ x z⟩
def uM(hfr:A.frames=some (env::outer))(hf:env.frame=some L)(hfl:Heap.FlyingW base (env::outer) e cls a0 s.heap)(hc:iT s.heap e dc)
  (h:∀h',Heap.FlyingW base outer e cls a0 h'->s.heap.UpToSlots h'->iT h' e dc->Q () { s with heap:=h' }):wpAny M A (leaving env (.ref e)) Q E s:=by
 obtain⟨f1,f2,f3,f4⟩:=hfl;unfold leaving;refine wpAny_bind (tw hfr f3 hf f4 hc f1 f2 λg ⟨k1,k2,k3,k4⟩ dg=>?_);refine iI (s:={ s with heap:=g }) k1 k2 k3 dg λh' m1 ⟨_,_,m2⟩ m3 m4 dh=>h h' ⟨m1,f2,m2,m3⟩ (λb o q z=>?_) dh;obtain⟨sl,x⟩:=k4 b o q z;exact⟨sl,m4 b _ x z⟩
def xt(hfr:A.frames=some (env::outer))(hf:env.frame=some L)(hfl:Heap.FlyingW base (env::outer) e cls a0 s.heap)(hc:iT s.heap e dc)
  (h:∀h',Heap.HeldW base (env::outer) e cls a0 L h'->s.heap.UpToSlots h'->iT h' e dc->Q () { s with heap:=h' }):wpAny M A (noteFrame (.ref e) env) Q E s:=by
 obtain⟨f1,f2,f3,f4⟩:=hfl;exact tw hfr f3 hf f4 hc f1 f2 λg ⟨k1,k2,k3,k4⟩ dg=>h g ⟨k1,f2,k2,k3⟩ k4 dg
def xu(hh:Heap.HeldW base l e cls a0 L s.heap)(hc:iT s.heap e dc)(h:∀h',Heap.FlyingW base l e cls a0 h'->s.heap.UpToSlots h'->iT h' e dc->Q () { s with heap:=h' }):wpAny M A (setFlight (.ref e) none) Q E s:=by
 obtain⟨f1,f2,f3,f4⟩:=hh;exact iI f1 f3 f4 hc λh' k1 k2 k3 k4 k5=>h h' ⟨k1,f2,k2,k3⟩ (λb o q z=>⟨o.slots,k4 b o q z⟩) k5
def xv(hh:Heap.FlyingW base l e cls a0 s.heap)(hc:iT s.heap e dc)(h:∀h',Heap.FlyingW base l e cls a0 h'->s.heap.UpToSlots h'->iT h' e dc->Q () { s with heap:=h' }):wpAny M A (setFlight (.ref e) none) Q E s:=by
 obtain⟨f1,f2,f3,f4⟩:=hh;exact iI f1 f3 f4.at hc λh' k1 k2 k3 k4 k5=>h h' ⟨k1,f2,k2,k3⟩ (λb o q z=>⟨o.slots,k4 b o q z⟩) k5
end
def Dq:Expr->Bool
 |.Starred _ _=>false
 |_=>true
def aC{e:Expr}{es:List Expr}{env:PySem.Env}(h:Dq e=true):starEach (e::es) env=(false,eval e env)::starEach es env:=by
 cases e<;>first|(rw[starEach];intros;contradiction)|rw[starEach]|(cases h)
def gW{e:Expr}{env:PySem.Env}(h:Dq e=true):starEach [e] env=[(false,eval e env)]:=by
 rw[aC h,starEach]
theorem bg{env:PySem.Env}{pos:Pos}:∀{es:List Expr},es.all Dq=true->(backTo pos (starEach es env)).any (·.1)=false
 |[],_=>by rw[starEach];rfl
 |e::es,h=>by
  rw[List.all_cons,Bool.and_eq_true]at h;rw[aC h.1];have:=bg (env:=env) (pos:=pos) h.2;show(false||(backTo pos (starEach es env)).any (·.1))=false;rw[this];rfl
def qc{e:Expr}{env:PySem.Env}{pos:Pos}(h:Dq e=true):((backTo pos (starEach [e] env)).all (λx=>!x.1)&&(backToKw pos (keywordEach [] env)).all (λx=>x.1.isSome)
  &&decide ([e].length+([]:List Keyword).length+(if([]:List Keyword).isEmpty then 0 else 1)<30))=true:=by
 rw[gW h,keywordEach];rfl
inductive Kd where
 |ins (c:Str) (ks:List Str)|dint (ks:List Int)|exf (c:Str) (ks:List Str)|pl
inductive D where
 |non|bl (b:Bool)|int (i:Int)|str (x:Str)|tup (xs:List D)|lst (xs:List D)|dic (ks:List Str) (xs:List D)|exc (x:Str)|ob (k:Kd) (xs:List D)
abbrev ac:=List D
structure Gn (K:W.Frag) (ks:List Str) (C:Addr):Prop where
 cls:FE K C
 no:∀f∈ks,Dk K C f
 gc:W.findIn K (.ref C) "__class__"=some (some (.builtin "object.__class__"))
 gn:W.specialIn K (.builtin "object.__class__") "__get__"=some (some (.builtin "getset_descriptor.__get__"))
 tk:W.takesIn K (.builtin "object.__class__")=some true
 mo:W.mroIn K C (.type "object")=some true
 bt:∀T∈eX,W.kitOne K (.ref C) (.type T)=some false
noncomputable def yj(K:W.Frag) (H:Hp):Kd->Addr->bv->Prop
 |.ins c ks,a,vs=>∃C dx,W.nsIn K mainGlobals c=some (some (.ref C))/\Gn K ks C/\H a=some (.ins C dx (ks.zip vs))/\ks.length=vs.length
 |.dint ks,a,vs=>∃kvs,Rd H a (.dK kvs)/\kvs=(ks.map Sum.inl).zip vs/\ks.length=vs.length
 |.exf c ks,a,vs=>∃C dx fs,XC K c C/\Rd H a (.ext (sA a C (some dx)))/\H dx=some (.xd fs)/\ks.length=vs.length/\∀(i:Nat) (f:Str) (v:V),ks[i]?=some f->vs[i]?=some v->fs.lookup f=some v
 |.pl,a,vs=>H a=some (.lst vs)
structure A1 where
 cls:Str
 flds:List (Str×D)
inductive ak (α:Type) where
 |ok (a:α)|exn (x:A1)|stuck
def ak.bind{α β:Type}(r:ak α)(f:α->ak β):ak β:=match r with
 |.ok a=>f a
 |.exn x=>.exn x
 |.stuck=>.stuck
mutual
def bC(K:W.Frag)(H:Hp):D->V->Prop
 |.non,v=>v=.non
 |.bl b,v=>v=.bl b
 |.int i,v=>v=.int i
 |.str x,v=>v=.str x
 |.tup ds,v=>∃a vs,v=.ref a/\gk K H a vs/\Reps K H ds vs
 |.lst ds,v=>∃a vs,v=.ref a/\dF K H a vs/\Reps K H ds vs
 |.dic ks ds,v=>∃a kvs vs,v=.ref a/\Rd H a (.dK kvs)/\kvs=(ks.map Sum.inr).zip vs/\ks.length=vs.length/\Reps K H ds vs
 |.exc x,v=>∃a C dc,v=.ref a/\XC K x C/\Rd H a (.ext (sA a C dc))
 |.ob k ds,v=>∃a vs,v=.ref a/\yj K H k a vs/\Reps K H ds vs
def Reps(K:W.Frag)(H:Hp):ac->bv->Prop
 |[],vs=>vs=[]
 |d::ds,vs=>∃v r,vs=v::r/\bC K H d v/\Reps K H ds r
end
def az.rd{H H':Hp}(e:az H H'){a:Addr}{o:HO}(h:Rd H a o):Rd H' a o:=by
 rcases h with h|⟨o',h⟩
 .exact .inl (e _ _ h)
 .exact .inr ⟨o',e _ _ h⟩
def az.sqT{K:W.Frag}{H H':Hp}(e:az H H'){a:Addr}{xs:bv}(h:gk K H a xs):gk K H' a xs:=by
 rcases h with h|h
 .exact .inl (az.rd e h)
 .exact .inr h
def az.sqL{K:W.Frag}{H H':Hp}(e:az H H'){a:Addr}{xs:bv}(h:dF K H a xs):dF K H' a xs:=by
 rcases h with h|h
 .exact .inl (az.rd e h)
 .exact .inr h
theorem yj.mono{K:W.Frag}{H H':Hp}(e:az H H'):∀{k:Kd}{a:Addr}{vs:bv},yj K H k a vs->yj K H' k a vs
 |.ins c ks,a,vs,⟨C,dx,h0,h1,h2,h3⟩=>⟨C,dx,h0,h1,e _ _ h2,h3⟩
 |.dint ks,a,vs,⟨kvs,h1,h2,h3⟩=>⟨kvs,az.rd e h1,h2,h3⟩
 |.exf c ks,a,vs,⟨C,dx,fs,h1,h2,h3,h4⟩=>⟨C,dx,fs,h1,az.rd e h2,e _ _ h3,h4⟩
 |.pl,a,vs,h=>e _ _ h
mutual
theorem bC.mono{K:W.Frag}{H H':Hp}(e:az H H'):∀{d:D}{v:V},bC K H d v->bC K H' d v
 |.non,_,h=>by unfold bC at h ⊢;exact h
 |.bl _,_,h=>by unfold bC at h ⊢;exact h
 |.int _,_,h=>by unfold bC at h ⊢;exact h
 |.str _,_,h=>by unfold bC at h ⊢;exact h
 |.tup ds,_,h=>by
  unfold bC at h ⊢;obtain⟨a,vs,e1,e2,e3⟩:=h;exact⟨a,vs,e1,az.sqT e e2,Reps.mono e e3⟩
 |.lst ds,_,h=>by
  unfold bC at h ⊢;obtain⟨a,vs,e1,e2,e3⟩:=h;exact⟨a,vs,e1,az.sqL e e2,Reps.mono e e3⟩
 |.dic ks ds,_,h=>by
  unfold bC at h ⊢;obtain⟨a,kvs,vs,e1,e2,e3,e4,e5⟩:=h;exact⟨a,kvs,vs,e1,az.rd e e2,e3,e4,Reps.mono e e5⟩
 |.exc x,_,h=>by
  unfold bC at h ⊢;obtain⟨a,C,dc,e1,e2,e3⟩:=h;exact⟨a,C,dc,e1,e2,az.rd e e3⟩
 |.ob k ds,_,h=>by
  unfold bC at h ⊢;obtain⟨a,vs,e1,e2,e3⟩:=h;exact⟨a,vs,e1,e2.mono e,Reps.mono e e3⟩
theorem Reps.mono{K:W.Frag}{H H':Hp}(e:az H H'):∀{ds:ac}{vs:bv},Reps K H ds vs->Reps K H' ds vs
 |[],_,h=>by unfold Reps at h ⊢;exact h
 |d::ds,_,h=>by
  unfold Reps at h ⊢;obtain⟨v,r,e1,e2,e3⟩:=h;exact⟨v,r,e1,bC.mono e e2,Reps.mono e e3⟩
end
section
variable {K:W.Frag}{H:Hp}{v:V}{vs:bv}{d:D}{ds:ac}
def aK:bC K H .non v↔v=.non:=by unfold bC;exact Iff.rfl
def aE{b}:bC K H (.bl b) v↔v=.bl b:=by unfold bC;exact Iff.rfl
def aw{i}:bC K H (.int i) v↔v=.int i:=by unfold bC;exact Iff.rfl
def aF{x}:bC K H (.str x) v↔v=.str x:=by unfold bC;exact Iff.rfl
def aG:bC K H (.tup ds) v↔∃a vs,v=.ref a/\gk K H a vs/\Reps K H ds vs:=by rw[bC]
def ay:bC K H (.lst ds) v↔∃a vs,v=.ref a/\dF K H a vs/\Reps K H ds vs:=by rw[bC]
def dz{x}:bC K H (.exc x) v↔∃a C dc,v=.ref a/\XC K x C/\Rd H a (.ext (sA a C dc)):=by rw[bC]
def cF{k}:bC K H (.ob k ds) v↔∃a vs,v=.ref a/\yj K H k a vs/\Reps K H ds vs:=by rw[bC]
def bC.exf_exc{c:Str}{ks:List Str}(h:bC K H (.ob (.exf c ks) ds) v):bC K H (.exc c) v:=by
 obtain⟨a,vs,e,⟨C,dx,fs,h1,h2,_⟩,_⟩:=cF.mp h;exact dz.mpr ⟨a,C,some dx,e,h1,h2⟩
def Reps.nil_iff:Reps K H [] vs↔vs=[]:=by unfold Reps;exact Iff.rfl
def aA:Reps K H (d::ds) vs↔∃v r,vs=v::r/\bC K H d v/\Reps K H ds r:=by rw[Reps]
def Reps.nil:Reps K H [] []:=Reps.nil_iff.mpr rfl
def Reps.cons(h:bC K H d v)(h':Reps K H ds vs):Reps K H (d::ds) (v::vs):=aA.mpr ⟨_,_,rfl,h,h'⟩
end
theorem Reps.length{K:W.Frag}{H:Hp}:∀{ds:ac}{vs:bv},Reps K H ds vs->ds.length=vs.length
 |[],_,h=>by rw[Reps.nil_iff.mp h];rfl
 |d::ds,_,h=>by
  obtain⟨v,r,rfl,_,h⟩:=aA.mp h;simp[Reps.length h]
theorem Reps.get{K:W.Frag}{H:Hp}:∀{ds:ac}{vs:bv}{i:Nat}{d:D},Reps K H ds vs->ds[i]?=some d->∃v,vs[i]?=some v/\bC K H d v
 |[],_,_,_,h,e=>by simp at e
 |x::ds,_,0,d,h,e=>by
  obtain⟨v,r,rfl,h1,_⟩:=aA.mp h;simp at e;subst e;exact⟨v,rfl,h1⟩
 |x::ds,_,i+1,d,h,e=>by
  obtain⟨v,r,rfl,_,h2⟩:=aA.mp h;obtain⟨u,e1,e2⟩:=Reps.get (i:=i) h2 (by simpa using e);exact⟨u,by simpa using e1,e2⟩
theorem Reps.app{K:W.Frag}{H:Hp}:∀{ds es:ac}{vs us:bv},Reps K H ds vs->Reps K H es us->Reps K H (ds++es) (vs++us)
 |[],_,_,_,h,h'=>by rw[Reps.nil_iff.mp h];exact h'
 |d::ds,_,_,_,h,h'=>by
  obtain⟨v,r,rfl,h1,h2⟩:=aA.mp h;exact Reps.cons h1 (Reps.app h2 h')
theorem Reps.take{K:W.Frag}{H:Hp}:∀{ds:ac}{vs:bv}(n:Nat),Reps K H ds vs->Reps K H (ds.take n) (vs.take n)
 |_,_,0,_=>by simp;exact Reps.nil
 |[],_,n+1,h=>by rw[Reps.nil_iff.mp h];exact Reps.nil
 |d::ds,_,n+1,h=>by
  obtain⟨v,r,rfl,h1,h2⟩:=aA.mp h;exact Reps.cons h1 (Reps.take n h2)
theorem Reps.drop{K:W.Frag}{H:Hp}:∀{ds:ac}{vs:bv}(n:Nat),Reps K H ds vs->Reps K H (ds.drop n) (vs.drop n)
 |_,_,0,h=>by simpa using h
 |[],_,n+1,h=>by rw[Reps.nil_iff.mp h];exact Reps.nil
 |d::ds,_,n+1,h=>by
  obtain⟨v,r,rfl,h1,h2⟩:=aA.mp h;exact Reps.drop n h2
theorem Reps.set{K:W.Frag}{H:Hp}{d:D}{v:V}(h:bC K H d v):∀{ds:ac}{vs:bv}(n:Nat),Reps K H ds vs->Reps K H (ds.set n d) (vs.set n v)
 |[],_,n,h'=>by rw[Reps.nil_iff.mp h'];exact Reps.nil
 |x::ds,_,0,h'=>by
  obtain⟨v,r,rfl,h1,h2⟩:=aA.mp h';exact Reps.cons h h2
 |x::ds,_,n+1,h'=>by
  obtain⟨v,r,rfl,h1,h2⟩:=aA.mp h';exact Reps.cons h1 (Reps.set h n h2)
theorem iQ{K:W.Frag}{H:Hp}:∀(ns:List Int),Reps K H (ns.map D.int) (ns.map V.int)
 |[]=>Reps.nil
 |n::r=>Reps.cons (aw.mpr rfl) (iQ r)
structure br (H Ha H' Ha':Hp):Prop where
 s:az H H'
 z:az Ha Ha'
 sub:az Ha' H'
 nw:∀a,Ha' a≠none->Ha a=none->H a=none
def br.refl{H Ha:Hp}(h:az Ha H):br H Ha H Ha:=⟨az.refl _,az.refl _,h,λa h1 h2=>absurd h2 h1⟩
theorem br.trans{H Ha H1 H01 H2 H02:Hp}(a:br H Ha H1 H01)(b:br H1 H01 H2 H02):br H Ha H2 H02 :=
 ⟨a.s.trans b.s,a.z.trans b.z,b.sub,λx h1 h2=>by
  cases q:H01 x with
  |none=>exact a.s.free (b.nw x h1 q)
  |some o=>exact a.nw x (by rw[q];simp) h2⟩
def aI{H Ha:Hp}{p:Addr}{o:HO}(hs:az Ha H)(hp:H p=none):br H Ha (upd H p o) (upd Ha p o) :=
 ⟨same_new hp o,same_new (hs.free hp) o,λb u e=>by
  by_cases hb:b=p
  .subst hb;rw[aJ]at e ⊢;exact e
  .rw[aD hb]at e ⊢;exact hs _ _ e,λa h1 h2=>by
  by_cases hb:a=p
  .subst hb;exact hp
  .rw[aD hb]at h1;exact absurd h2 h1⟩
where
 same_new {H:Hp}{p:Addr}(h:H p=none) (o:HO):az H (upd H p o):=λb u q=>by rw[aD (aS q h)];exact q
inductive Sl where
 |no|sh (d:D)|ow (d:D)|ox (j:Nat) (ds:ac)|pt (a:Addr)
abbrev Ev:=List Sl
abbrev cr:=Ev->ak D
def dA(K:W.Frag)(Ha:Hp)(σ:L2.St)(ρ:Ev):Prop:=∀(i:Nat) (d:D),ρ[i]?=some (.sh d)->∃v,σ[i]?=some (some v)/\bC K Ha d v
def dA.mono{K:W.Frag}{H H':Hp}{σ:L2.St}{ρ:Ev}(e:az H H')(r:dA K H σ ρ):dA K H' σ ρ:=λi d h=>
 let ⟨v,h1,h2⟩:=r i d h
 ⟨v,h1,h2.mono e⟩
def qH(K:W.Frag)(H:Hp)(x:A1)(C:Value)(ox:Option Addr):Prop :=
 (∃c,C=.ref c/\XC K x.cls c)/\match ox with
  |none=>x.flds=[]
  |some a=>∃fs,H a=some (.xd fs)/\∀n d,x.flds.lookup n=some d->∃v,fs.lookup n=some v/\bC K H d v
def post(K:W.Frag)(E:XK)(H Ha:Hp)(r:ak D)(Q:VK):Prop:=match r with
 |.ok d=>∀v H' Ha',br H Ha H' Ha'->bC K Ha' d v->Q v H'
 |.exn x=>∀C ox H' Ha',br H Ha H' Ha'->qH K Ha' x C ox->E C ox H'
 |.stuck=>False
def iW(K:W.Frag)(E:XK)(H Ha:Hp)(r:ak (ac))(Q:bv->Hp->Prop):Prop:=match r with
 |.ok ds=>∀vs H' Ha',br H Ha H' Ha'->Reps K Ha' ds vs->Q vs H'
 |.exn x=>∀C ox H' Ha',br H Ha H' Ha'->qH K Ha' x C ox->E C ox H'
 |.stuck=>False
def lL(K:W.Frag)(E:XK)(H Ha:Hp)(r:ak D)(Q:Bool->Hp->Prop):Prop:=match r with
 |.ok (.bl b)=>∀H' Ha',br H Ha H' Ha'->Q b H'
 |.ok _=>False
 |.exn x=>∀C ox H' Ha',br H Ha H' Ha'->qH K Ha' x C ox->E C ox H'
 |.stuck=>False
section
variable {K:W.Frag}{E:XK}{H Ha H1 H01:Hp}
def post.grow{r:ak D}{Q:VK}(h:post K E H Ha r Q)(g:br H Ha H1 H01):post K E H1 H01 r Q:=by
 cases r with|ok d=>exact λv H' Ha' g'=>h v H' Ha' (g.trans g')|exn x=>exact λC ox H' Ha' g'=>h C ox H' Ha' (g.trans g')|stuck=>exact h
def iW.grow{r:ak (ac)}{Q:bv->Hp->Prop}(h:iW K E H Ha r Q)(g:br H Ha H1 H01):iW K E H1 H01 r Q:=by
 cases r with|ok d=>exact λv H' Ha' g'=>h v H' Ha' (g.trans g')|exn x=>exact λC ox H' Ha' g'=>h C ox H' Ha' (g.trans g')|stuck=>exact h
def lL.grow{r:ak D}{Q:Bool->Hp->Prop}(h:lL K E H Ha r Q)(g:br H Ha H1 H01):lL K E H1 H01 r Q:=by
 cases r with
 |ok d=>
  cases d with|bl b=>exact λH' Ha' g'=>h H' Ha' (g.trans g')| _=>exact h
 |exn x=>exact λC ox H' Ha' g'=>h C ox H' Ha' (g.trans g')
 |stuck=>exact h
end
def tD(K:W.Frag)(E:XK)(f:cr):TE:=λσ H Q=>∃Ha ρ,az Ha H/\dA K Ha σ ρ/\post K E H Ha (f ρ) Q
def Gw(K:W.Frag)(E:XK)(f:Ev->ak (ac)):TA:=λσ H Q=>∃Ha ρ,az Ha H/\dA K Ha σ ρ/\iW K E H Ha (f ρ) Q
def Dp(K:W.Frag)(E:XK)(f:cr):TT:=λσ H Q=>∃Ha ρ,az Ha H/\dA K Ha σ ρ/\lL K E H Ha (f ρ) Q
structure DE (X:Cx) (E:XK) (e:Expr) (f:cr):Prop where
 o:PE X e (tD X.K E f)
structure DA (X:Cx) (E:XK) (es:List Expr) (f:Ev->ak (ac)):Prop where
 o:PA X es (Gw X.K E f)
structure DT (X:Cx) (E:XK) (e:Expr) (f:cr):Prop where
 o:PT X e (Dp X.K E f)
structure DW (X:Cx) (E:XK) (e:Expr) (f:cr):Prop where
 o:PW X e (Dp X.K E f)
section
variable {X:Cx}{E:XK}{e a b:Expr}{es:List Expr}{f g:cr}{fa:Ev->ak (ac)}{pos:Pos}
def aQ{t t':TE}(h:PE X e t)(w:∀σ H Q,t' σ H Q->t σ H Q):PE X e t':=λpins s σ H Q I q=>h pins s σ H Q I (w σ H Q q)
def iF{t t':TA}(h:PA X es t)(w:∀σ H Q,t' σ H Q->t σ H Q):PA X es t':=λpos pins s σ H Q I q=>h pos pins s σ H Q I (w σ H Q q)
def nR{t t':TT}(h:PT X e t)(w:∀σ H Q,t' σ H Q->t σ H Q):PT X e t':=λpins s σ H Q I q=>h pins s σ H Q I (w σ H Q q)
def sR{t t':TT}(h:PW X e t)(w:∀σ H Q,t' σ H Q->t σ H Q):PW X e t':=λwh pins s σ H Q I q=>h wh pins s σ H Q I (w σ H Q q)
def ae(i:Nat):cr:=λρ=>match ρ[i]? with
 |some (.sh d)=>.ok d
 |_=>.stuck
def dC(d:D):cr:=λ_=>.ok d
def C5{i:Nat}{x:Str}(hN:X.N[i]?=some x)(hv:vj X.env.scope x)(hd:(x==("__debug__":Str))=false:=by decide)(hcd:(x==("__classdict__":Str))=false:=by decide):DE X E (.Name x pos) (ae i):=by
 refine⟨?_⟩;refine aQ (g0 hN hv hd hcd) λσ H Q ⟨Ha,ρ,hs,hr,q⟩=>?_;unfold ae at q;cases e:ρ[i]? with
 |none=>rw[e]at q;exact q.elim
 |some s=>
  rw[e]at q;cases s with
  |sh d=>
   obtain⟨v,e1,e2⟩:=hr i d e;exact⟨v,e1,q v H Ha (br.refl hs) e2⟩
  |no|ow d|ox j ds|pt a=>exact q.elim
def ao{i j}:DE X E (.Constant (.int i) j pos) (dC (.int i)):=⟨aQ wz λσ H Q ⟨Ha,ρ,hs,hr,q⟩=>q _ H Ha (br.refl hs) (aw.mpr rfl)⟩
def eF{i j}:DE X E (.Constant (.bool i) j pos) (dC (.bl i)):=⟨aQ Ew λσ H Q ⟨Ha,ρ,hs,hr,q⟩=>q _ H Ha (br.refl hs) (aE.mpr rfl)⟩
def d8{j}:DE X E (.Constant .none j pos) (dC .non):=⟨aQ BX λσ H Q ⟨Ha,ρ,hs,hr,q⟩=>q _ H Ha (br.refl hs) (aK.mpr rfl)⟩
def xQ{x j}:DE X E (.Constant (.str x) j pos) (dC (.str x)):=⟨aQ BU λσ H Q ⟨Ha,ρ,hs,hr,q⟩=>q _ H Ha (br.refl hs) (aF.mpr rfl)⟩
def ah(f g:cr)(op:D->D->ak D):cr:=λρ=>(f ρ).bind λx=>(g ρ).bind λy=>op x y
def aL(f:cr)(op:D->ak D):cr:=λρ=>(f ρ).bind op
def t9(K:W.Frag)(E:XK)(r:R2)(op:D->D->ak D):Prop:=∀(x y:D) (v u:V) (H Ha:Hp) (Q:VK),az Ha H->bC K Ha x v->bC K Ha y u->post K E H Ha (op x y) Q->r v u H Q
def fU{r:R2}{op:D->D->ak D}(ho:t9 X.K E r op)(σ:L2.St)(H:Hp)(Q:VK)(h:tD X.K E (ah f g op) σ H Q):DR r (tD X.K E f) (tD X.K E g) σ H Q:=by
 obtain⟨Ha,ρ,hs,hr,q⟩:=h;refine⟨Ha,ρ,hs,hr,?_⟩;unfold ah at q;cases e1:f ρ with
 |stuck|exn x=>rw[e1]at q;exact q
 |ok x=>
  rw[e1]at q;intro v H1 H01 g1 r1;refine⟨H01,ρ,g1.sub,hr.mono g1.z,?_⟩;replace q:post X.K E H Ha ((g ρ).bind λy=>op x y) Q:=q;replace q:=q.grow g1;cases e2:g ρ with
  |stuck|exn x=>rw[e2]at q;exact q
  |ok y=>
   rw[e2]at q;intro u H2 H02 g2 r2;exact ho x y v u H2 H02 Q g2.sub (r1.mono g2.z) r2 (post.grow (r:=op x y) q g2)
def nr{op:Operator}{r:R2}{o:D->D->ak D}(h:iw X (binaryOp op) r)(ho:t9 X.K E r o)(ha:DE X E a f)(hb:DE X E b g):DE X E (.BinOp a op b pos) (ah f g o) :=
 ⟨aQ (Bc h ha.o hb.o) (fU ho)⟩
def gJ{op:CmpOp}{r:R2}{o:D->D->ak D}(h:iw X (compareOp op) r)(ho:t9 X.K E r o)(ha:DE X E a f)(hb:DE X E b g)(hm:behindInMarks op b=false):DE X E (.Compare a [op] [b] pos) (ah f g o) :=
 ⟨aQ (zd h ha.o hb.o hm) (fU ho)⟩
def Fc{r:R2}{o:D->D->ak D}(h:yw X r)(ho:t9 X.K E r o)(ha:DE X E a f)(hb:DE X E b g)(hs:oI b):DE X E (.Subscript a b pos) (ah f g o) :=
 ⟨aQ (Eu h ha.o hb.o hs) (fU ho)⟩
def G2(K:W.Frag)(E:XK)(r:V->Hp->VK->Prop)(op:D->ak D):Prop:=∀(x:D) (v:V) (H Ha:Hp) (Q:VK),az Ha H->bC K Ha x v->post K E H Ha (op x) Q->r v H Q
def Fb{op:UnaryOp}{r:V->Hp->VK->Prop}{o:D->ak D}(h:Fz X (unaryOp op) r)(ho:G2 X.K E r o)(ha:DE X E a f):DE X E (.UnaryOp op a pos) (aL f o):=by
 refine⟨?_⟩;refine aQ (Bb h ha.o) λσ H Q z9=>?_;obtain⟨Ha,ρ,hs,hr,q⟩:=z9;refine⟨Ha,ρ,hs,hr,?_⟩
 unfold aL at q;cases e1:f ρ with
 |stuck|exn x=>rw[e1]at q;exact q
 |ok x=>
  rw[e1]at q;intro v H1 H01 g1 r1;exact ho x v H1 H01 Q g1.sub r1 (post.grow (r:=o x) q g1)
def ax:Ev->ak (ac):=λ_=>.ok []
def aa(f:cr)(fa:Ev->ak (ac)):Ev->ak (ac):=λρ=>(f ρ).bind λx=>(fa ρ).bind λxs=>.ok (x::xs)
def av:DA X E [] ax:=⟨iF dG λσ H Q ⟨Ha,ρ,hs,hr,q⟩=>q [] H Ha (br.refl hs) Reps.nil⟩
def ag(ha:DE X E e f)(hr:DA X E es fa)(hs:starEach (e::es) X.env=(false,eval e X.env)::starEach es X.env:=by exact aC rfl):DA X E (e::es) (aa f fa):=by
 refine⟨?_⟩;refine iF (bK ha.o hr.o hs) λσ H Q z9=>?_;obtain⟨Ha,ρ,hs,hr,q⟩:=z9;refine⟨Ha,ρ,hs,hr,?_⟩
 unfold aa at q;cases e1:f ρ with
 |stuck|exn x=>rw[e1]at q;exact q
 |ok x=>
  rw[e1]at q;intro v H1 H01 g1 r1;refine⟨H01,ρ,g1.sub,hr.mono g1.z,?_⟩;replace q:iW X.K E H Ha ((fa ρ).bind λxs=>.ok (x::xs)) Q:=q;replace q:=q.grow g1;cases e2:fa ρ with
  |stuck|exn x=>rw[e2]at q;exact q
  |ok xs=>
   rw[e2]at q;intro us H2 H02 g2 r2;exact q (v::us) H2 H02 g2 (Reps.cons (r1.mono g2.z) r2)
def line:Nat:=1000000
def cX{n:Nat}(h:n<=line):n<=sizeLine:=Nat.le_trans h (by decide)
def aj(fa:Ev->ak (ac))(m:ac->ak D):cr:=λρ=>(fa ρ).bind m
def cb:ac->ak D:=λds=>if ds.length<=line then .ok (.tup ds) else .stuck
def bU:ac->ak D:=λds=>if ds.length<=line then .ok (.lst ds) else .stuck
def iN{m:ac->ak D}{r:bv->Hp->VK->Prop}(ho:∀(ds:ac) (vs:bv) (H Ha:Hp) (Q:VK),az Ha H->Reps X.K Ha ds vs->post X.K E H Ha (m ds) Q->r vs H Q)
  (σ:L2.St)(H:Hp)(Q:VK)(h:tD X.K E (aj fa m) σ H Q):Gw X.K E fa σ H λvs H1=>r vs H1 Q:=by
 obtain⟨Ha,ρ,hs,hr,q⟩:=h;refine⟨Ha,ρ,hs,hr,?_⟩;unfold aj at q;cases e1:fa ρ with
 |stuck|exn x=>rw[e1]at q;exact q
 |ok x=>
  rw[e1]at q;intro v H1 H01 g1 r1;exact ho x v H1 H01 Q g1.sub r1 (post.grow (r:=m x) q g1)
def cD{x1}(h:DA X E es fa):DE X E (.Tuple es x1 pos) (aj fa cb):=by
 refine⟨?_⟩;refine aQ (nU h.o) (iN (r:=λxs H1 Q=>xs.length<=sizeLine/\∀p,H1 p=none->Q (.ref p) (upd H1 p (.tup xs))) λds vs H Ha Q hs hr q=>?_);unfold cb at q
 by_cases hl:ds.length<=line
 .rw[if_pos hl]at q
  refine⟨by rw[←hr.length];exact cX hl,λp hp=>q _ _ _ (aI hs hp) (aG.mpr ⟨p,vs,rfl,gk.of aJ,hr.mono (aI hs hp).z⟩)⟩
 .rw[if_neg hl]at q;exact q.elim
def cE(h:DA X E es fa):DE X E (.List es pos) (aj fa bU):=by
 refine⟨?_⟩;refine aQ (wu h.o) (iN (r:=λxs H1 Q=>xs.length<=sizeLine/\∀p,H1 p=none->Q (.ref p) (upd H1 p (.lst xs))) λds vs H Ha Q hs hr q=>?_);unfold bU at q
 by_cases hl:ds.length<=line
 .rw[if_pos hl]at q
  refine⟨by rw[←hr.length];exact cX hl,λp hp=>q _ _ _ (aI hs hp) (ay.mpr ⟨p,vs,rfl,dF.of aJ,hr.mono (aI hs hp).z⟩)⟩
 .rw[if_neg hl]at q;exact q.elim
def spD(K:W.Frag)(n:Nat)(m:ac->ak D):Sp:=λvs H Q E=>vs.length=n/\∃Ha ds,az Ha H/\Reps K Ha ds vs/\post K E H Ha (m ds) Q
def AI{CX:ke}{k n:Nat}{fn:Addr}{fd:FuncData}{ps:List Str}{m:ac->ak D}{x:Str}{p:Pos}(F:FnOk X.prog X.w X.K X.mg X.base CX k fn fd ps (spD X.K n m))(hr:cn k X.A)(hg:Gl X x)(hm:X.mg x=some (.ref fn))
  (hk:W.keepIn X.K (.ref fn)=true)(hb:iA X.K fd ps [])(hx:eY CX X E)(ha:DA X E (e::es) fa)(hn:(e::es).length=n:=by rfl)(hl:∀ρ ds,fa ρ=.ok ds->ds.length=(e::es).length)
  (hdb:(x==("__debug__":Str))=false:=by decide)(he:starEach (e::es) X.env=(false,eval e X.env)::starEach es X.env:=by exact aC rfl)(hpl:(backTo pos (starEach es X.env)).any (·.1)=false:=by exact bg rfl) :
  DE X E (.Call (.Name x p) (e::es) [] pos) (aj fa m):=by
 refine⟨?_⟩;refine aQ (nW F hr hg hm hk hb .nil hx ha.o hdb he hpl) λσ H Q h=>?_;obtain⟨Ha,ρ,hs,hr,q⟩:=h;refine⟨Ha,ρ,hs,hr,?_⟩;unfold aj at q;cases e1:fa ρ with
 |stuck|exn x=>rw[e1]at q;exact q
 |ok ds=>
  rw[e1]at q;intro v H1 H01 g1 r1;refine⟨?_,H01,ds,g1.sub,by simpa using r1,post.grow (r:=m ds) q g1⟩;have:=r1.length;have:=hl ρ ds e1;simp only[List.append_nil];omega
def yg{ρ:Ev}{ds:ac}(h:ax ρ=.ok ds):ds.length=0:=by cases h;rfl
def iO{ρ:Ev}{ds:ac}{n:Nat}(hr:∀es,fa ρ=.ok es->es.length=n)(h:aa f fa ρ=.ok ds):ds.length=n+1:=by
 unfold aa at h;cases e1:f ρ with
 |stuck|exn x=>rw[e1]at h;cases h
 |ok x=>
  rw[e1]at h;replace h:((fa ρ).bind λxs=>ak.ok (x::xs))=.ok ds:=h;cases e2:fa ρ with
  |stuck|exn x=>rw[e2]at h;cases h
  |ok xs=>
   rw[e2]at h;cases h;simp[hr xs e2]
def iz(X:Cx)(E:XK)(r:bv->Hp->VK->Prop)(m:ac->ak D):Prop:=∀(ds:ac) (vs:bv) (H Ha:Hp) (Q:VK),az Ha H->Reps X.K Ha ds vs->post X.K E H Ha (m ds) Q->r vs H Q
def bA{id:String}{r:bv->Hp->VK->Prop}{m:ac->ak D}{x:Str}{p:Pos}(hc:fA X (.builtin id) r)(hd:iz X E r m)(hg:Gl X x)(hm:X.mg x=none)(hv:bootBuiltins x=some (.builtin id))(ha:DA X E (e::es) fa)(hn:x≠"__name__":=by decide)(hdb:(x==("__debug__":Str))=false:=by decide)
  (he:starEach (e::es) X.env=(false,eval e X.env)::starEach es X.env:=by exact aC rfl)(hpl:(backTo pos (starEach es X.env)).any (·.1)=false:=by exact bg rfl):DE X E (.Call (.Name x p) (e::es) [] pos) (aj fa m) :=
 ⟨aQ (g6 hc hg hm hv ha.o hn hdb he hpl) (iN hd)⟩
def xE(h:PT X e (tB (tD X.K E f))):DT X E e f:=by
 refine⟨?_⟩;refine nR h λσ H Q z9=>?_;obtain⟨Ha,ρ,hs,hr,q⟩:=z9;refine⟨Ha,ρ,hs,hr,?_⟩
 cases e1:f ρ with
 |stuck|exn x=>rw[e1]at q;exact q
 |ok d=>
  rw[e1]at q;intro v H1 H01 g1 r1;cases d with|bl b=>rw[aE.mp r1];exact⟨b,rfl,q H1 H01 g1⟩| _=>exact q.elim
def cK(h:DE X E e f)(he:∀whole,isTrue e X.env whole=(do let v ←whole;standAt e.pos;holding [v] (truthy v)):=by intro _;rfl):DT X E e f:=xE (BM h.o he)
def bF{op:CmpOp}{r:R2}{o:D->D->ak D}(h:iw X (compareOp op) r)(ho:t9 X.K E r o)(ha:DE X E a f)(hb:DE X E b g)(hm:behindInMarks op b=false):DT X E (.Compare a [op] [b] pos) (ah f g o):=by
 refine⟨?_⟩;refine nR (yS h ha.o hb.o hm) λσ H Q h=>?_;have w:tD X.K E (ah f g o) σ H λx H'=>∃k,x=.bl k/\Q k H':=by
  obtain⟨Ha,ρ,hs,hr,q⟩:=h;refine⟨Ha,ρ,hs,hr,?_⟩;cases e1:ah f g o ρ with
  |stuck|exn x=>rw[e1]at q;exact q
  |ok d=>
   rw[e1]at q;intro v H1 H01 g1 r1;cases d with|bl b=>rw[aE.mp r1];exact⟨b,rfl,q H1 H01 g1⟩| _=>exact q.elim
 exact fU ho σ H _ w
def c9(f:cr):cr:=aL f λx=>match x with
 |.bl b=>.ok (.bl (!b))
 |_=>.stuck
def fg(f g:cr):cr:=λρ=>(f ρ).bind λx=>match x with
 |.bl true=>g ρ
 |.bl false=>.ok (.bl false)
 |_=>.stuck
def kN(f g:cr):cr:=λρ=>(f ρ).bind λx=>match x with
 |.bl true=>.ok (.bl true)
 |.bl false=>g ρ
 |_=>.stuck
def fE(ha:DT X E a f):DT X E (.UnaryOp .Not a pos) (c9 f):=by
 refine⟨?_⟩;refine nR (BN ha.o) λσ H Q z9=>?_;obtain⟨Ha,ρ,hs,hr,q⟩:=z9;refine⟨Ha,ρ,hs,hr,?_⟩
 unfold c9 aL at q;cases e1:f ρ with
 |stuck|exn x=>rw[e1]at q;exact q
 |ok d=>
  rw[e1]at q;cases d with|bl b=>exact q| _=>exact q.elim
def oq(ha:DE X E a f):DE X E (.UnaryOp .Not a pos) (c9 f):=by
 refine⟨?_⟩;refine aQ (BW ha.o) λσ H Q z9=>?_;obtain⟨Ha,ρ,hs,hr,q⟩:=z9;refine⟨Ha,ρ,hs,hr,?_⟩
 unfold c9 aL at q;cases e1:f ρ with
 |stuck|exn x=>rw[e1]at q;exact q
 |ok d=>
  rw[e1]at q;intro v H1 H01 g1 r1;cases d with|bl b=>rw[aE.mp r1];exact⟨b,rfl,q (.bl !b) H1 H01 g1 (aE.mpr rfl)⟩| _=>exact q.elim
variable {rest:List Expr}
def jh(ha:DT X E a f):DW X E (.BoolOp .And [a] pos) f:=⟨yR ha.o⟩
def cJ(ha:DT X E a f):DW X E (.BoolOp .Or [a] pos) f:=⟨BK ha.o⟩
def rQ(ha:DT X E a f)(hb:DW X E (.BoolOp .And (b::rest) pos) g):DW X E (.BoolOp .And (a::b::rest) pos) (fg f g):=by
 refine⟨?_⟩;refine sR (BL ha.o hb.o) λσ H Q z9=>?_;obtain⟨Ha,ρ,hs,hr,q⟩:=z9;refine⟨Ha,ρ,hs,hr,?_⟩
 unfold fg at q;cases e1:f ρ with
 |stuck|exn x=>rw[e1]at q;exact q
 |ok d=>
  rw[e1]at q;cases d with
  |bl b=>
   cases b with|true=>exact λH1 H01 g1=>⟨H01,ρ,g1.sub,hr.mono g1.z,lL.grow (r:=g ρ) q g1⟩|false=>exact λH1 H01 g1=>q H1 H01 g1
  |_=>exact q.elim
def iX(ha:DT X E a f)(hb:DW X E (.BoolOp .Or (b::rest) pos) g):DW X E (.BoolOp .Or (a::b::rest) pos) (kN f g):=by
 refine⟨?_⟩;refine sR (Eo ha.o hb.o) λσ H Q z9=>?_;obtain⟨Ha,ρ,hs,hr,q⟩:=z9;refine⟨Ha,ρ,hs,hr,?_⟩
 unfold kN at q;cases e1:f ρ with
 |stuck|exn x=>rw[e1]at q;exact q
 |ok d=>
  rw[e1]at q;cases d with
  |bl b=>
   cases b with|false=>exact λH1 H01 g1=>⟨H01,ρ,g1.sub,hr.mono g1.z,lL.grow (r:=g ρ) q g1⟩|true=>exact λH1 H01 g1=>q H1 H01 g1
  |_=>exact q.elim
def DW.dt(h:DW X E e f):DT X E e f:=⟨PW.pt h.o⟩
def ji{op}(h:DE X E a f):DE X E (.BoolOp op [a] pos) f:=⟨BV h.o⟩
def ka(ha:DE X E a f)(hb:DE X E (.BoolOp .And (b::rest) pos) g):DE X E (.BoolOp .And (a::b::rest) pos) (fg f g):=by
 refine⟨?_⟩;refine aQ (BZ ha.o hb.o) λσ H Q z9=>?_;obtain⟨Ha,ρ,hs,hr,q⟩:=z9;refine⟨Ha,ρ,hs,hr,?_⟩
 unfold fg at q;cases e1:f ρ with
 |stuck|exn x=>rw[e1]at q;exact q
 |ok d=>
  rw[e1]at q;intro v H1 H01 g1 r1;cases d with
  |bl b=>
   rw[aE.mp r1];cases b with|true=>exact⟨true,rfl,H01,ρ,g1.sub,hr.mono g1.z,post.grow (r:=g ρ) q g1⟩|false=>exact⟨false,rfl,q (.bl false) H1 H01 g1 (aE.mpr rfl)⟩
  |_=>exact q.elim
def Bm(ha:DE X E a f)(hb:DE X E (.BoolOp .Or (b::rest) pos) g):DE X E (.BoolOp .Or (a::b::rest) pos) (kN f g):=by
 refine⟨?_⟩;refine aQ (Et ha.o hb.o) λσ H Q z9=>?_;obtain⟨Ha,ρ,hs,hr,q⟩:=z9;refine⟨Ha,ρ,hs,hr,?_⟩
 unfold kN at q;cases e1:f ρ with
 |stuck|exn x=>rw[e1]at q;exact q
 |ok d=>
  rw[e1]at q;intro v H1 H01 g1 r1;cases d with
  |bl b=>
   rw[aE.mp r1];cases b with|false=>exact⟨false,rfl,H01,ρ,g1.sub,hr.mono g1.z,post.grow (r:=g ρ) q g1⟩|true=>exact⟨true,rfl,q (.bl true) H1 H01 g1 (aE.mpr rfl)⟩
  |_=>exact q.elim
def AL(c f g:cr):cr:=λρ=>(c ρ).bind λx=>match x with
 |.bl true=>f ρ
 |.bl false=>g ρ
 |_=>.stuck
def jF{c:Expr}{fc:cr}(hc:DT X E c fc)(ha:DE X E a f)(hb:DE X E b g):DE X E (.IfExp c a b pos) (AL fc f g):=by
 refine⟨?_⟩;refine aQ (wA hc.o ha.o hb.o) λσ H Q z9=>?_;obtain⟨Ha,ρ,hs,hr,q⟩:=z9;refine⟨Ha,ρ,hs,hr,?_⟩
 unfold AL at q;cases e1:fc ρ with
 |stuck|exn x=>rw[e1]at q;exact q
 |ok d=>
  rw[e1]at q;cases d with
  |bl b=>
   cases b with|true=>exact λH1 H01 g1=>⟨H01,ρ,g1.sub,hr.mono g1.z,post.grow (r:=f ρ) q g1⟩|false=>exact λH1 H01 g1=>⟨H01,ρ,g1.sub,hr.mono g1.z,post.grow (r:=g ρ) q g1⟩
  |_=>exact q.elim
end
noncomputable def AW(K:W.Frag) (Ha H:Hp) (a:Addr) (d:D):Prop:=match d with
 |.lst ds=>∃vs,H a=some (.lst vs)/\Reps K Ha ds vs
 |.dic ks ds=>∃vs,H a=some (.dK ((ks.map Sum.inr).zip vs))/\ks.length=vs.length/\Reps K Ha ds vs
 |.ob (.dint ks) ds=>∃vs,H a=some (.dK ((ks.map Sum.inl).zip vs))/\ks.length=vs.length/\Reps K Ha ds vs
 |_=>False
def mE(j k:Nat):Bool:=if j=99 then decide (k<=1) else k==j
noncomputable def Fj(K:W.Frag) (He Ha H:Hp) (a:Addr) (j:Nat) (ds:ac) (P:Nat->Addr):Prop:=∃vs,He a=none/\H a=some (.tup vs)/\ds.length=vs.length /\
 (∀k,mE j k=true->∃es us,He (P k)=none/\Ha (P k)=none/\ds[k]?=some (.lst es)/\vs[k]?=some (.ref (P k))/\H (P k)=some (.lst us)/\Reps K Ha es us) /\
 (∀k l,mE j k=true->mE j l=true->P k=P l->k=l)/\∀k d v,mE j k=false->ds[k]?=some d->vs[k]?=some v->bC K Ha d v
noncomputable def OX(K:W.Frag) (He Ha:Hp) (σ:L2.St) (H:Hp) (ρ:Ev):Prop:=(∀(i j:Nat) (ds:ac),ρ[i]?=some (.ox j ds)->∃a P,σ[i]?=some (some (.ref a))/\Fj K He Ha H a j ds P/\(∀(k:Nat) (d:D) (l:Nat),mE j l=true->ρ[k]?=some (.ow d)->σ[k]?≠some (some (.ref (P l))))/\∀(k j':Nat) (ds':ac),ρ[k]?=some (.ox j' ds')->k=i)/\∀(i:Nat) (a:Addr),ρ[i]?=some (.pt a)->σ[i]?=some (some (.ref a))
def OX.upd{K:W.Frag}{He Ha Ha' H H':Hp}{σ σ':L2.St}{ρ ρ':Ev}(h:OX K He Ha σ H ρ)
  (hk:∀(j:Nat) (s:Sl),ρ'[j]?=some s->(ρ[j]?=some s/\σ'[j]?=σ[j]?)∨(∃d,s=.sh d)∨s=.no∨∃d q,s=.ow d/\σ'[j]?=some (some (.ref q))/\∀(i j:Nat) (ds:ac) (a:Addr) (P:Nat->Addr),ρ[i]?=some (.ox j ds)->σ[i]?=some (some (.ref a))->Fj K He Ha H a j ds P->∀l,mE j l=true->q≠P l)
  (hz:az Ha Ha')(ht:∀a vs,He a=none->H a=some (.tup vs)->H' a=some (.tup vs))
  (hl:∀p us,He p=none->Ha p=none->H p=some (.lst us)->(∀(k:Nat) (d:D),ρ[k]?=some (.ow d)->σ[k]?≠some (some (.ref p)))->H' p=some (.lst us)/\Ha' p=none):OX K He Ha' σ' H' ρ':=by
 refine⟨λi j ds e=>?_,λi a e=>?_⟩
 rotate_left
 .rcases hk i _ e with h1|⟨d,h1⟩|h1|⟨d,q,h1,_⟩
  .rw[h1.2];exact h.2 i a h1.1
  .cases h1
  .cases h1
  .cases h1
 have old:ρ[i]?=some (.ox j ds)/\σ'[i]?=σ[i]?:=by
  rcases hk i _ e with h1|⟨d,h1⟩|h1|⟨d,q,h1,_⟩
  .exact h1
  .cases h1
  .cases h1
  .cases h1
 obtain⟨a,P,h1,h2,h3,h4⟩:=h.1 i j ds old.1;have h2':=h2;obtain⟨vs,r1,r2,r3,r4,r5,r6⟩:=h2;refine⟨a,P,old.2.trans h1,⟨vs,r1,ht a vs r1 r2,r3,λk ok=>?_,r5,λk d v hk e1 e2=>(r6 k d v hk e1 e2).mono hz⟩,λk d l ok ek z=>?_,λk j' ds' ek=>?_⟩
 .obtain⟨es,us,q1,q2,q3,q4,q5,q6⟩:=r4 k ok
  obtain⟨l1,l2⟩:=hl (P k) us q1 q2 q5 λm d em=>h3 m d k ok em;exact⟨es,us,q1,l2,q3,q4,l1,q6.mono hz⟩
 .rcases hk k _ ek with h1'|⟨d',h1'⟩|h1'|⟨d',q,h1',h2'',h3'⟩
  .exact h3 k d l ok h1'.1 (by rw[←h1'.2];exact z)
  .cases h1'
  .cases h1'
  .rw[h2'']at z
   cases z;exact h3' i j ds a P old.1 h1 h2' l ok rfl
 .rcases hk k _ ek with h1'|⟨d',h1'⟩|h1'|⟨d',q,h1',_⟩
  .exact h4 k j' ds' h1'.1
  .cases h1'
  .cases h1'
  .cases h1'
def OX.none{K:W.Frag}{He Ha H:Hp}{σ:L2.St}{ρ:Ev}(h:∀(i j:Nat) (ds:ac),ρ[i]?≠some (.ox j ds))(h':∀(i:Nat) (a:Addr),ρ[i]?=some (.pt a)->σ[i]?=some (some (.ref a))):OX K He Ha σ H ρ:=⟨λi j ds e=>absurd e (h i j ds),h'⟩
theorem kU{K:W.Frag}{H:Hp}:∀{ds:ac}{vs:bv},ds.length=vs.length->(∀(k:Nat) (d:D) (v:V),ds[k]?=some d->vs[k]?=some v->bC K H d v)->Reps K H ds vs
 |[],[],_,_=>Reps.nil
 |d::ds,v::vs,hl,h=>Reps.cons (h 0 d v rfl rfl) (kU (by simpa using hl) λk d' v' e1 e2=>h (k+1) d' v' e1 e2)
structure de (K:W.Frag) (He H0e Ha:Hp) (σ:L2.St) (H:Hp) (ρ:Ev):Prop where
 g:br He H0e H Ha
 rd:dA K Ha σ ρ
 ow:∀(i:Nat) (d:D),ρ[i]?=some (.ow d)->∃a,σ[i]?=some (some (.ref a))/\He a=none/\Ha a=none/\AW K Ha H a d
 ap:∀(i j:Nat) (d d':D),i≠j->ρ[i]?=some (.ow d)->ρ[j]?=some (.ow d')->σ[i]?≠σ[j]?
 ln:ρ.length=σ.length
 ex:OX K He Ha σ H ρ
inductive Fl where
 |nx (ρ:Ev)|rt (d:D)|bk (ρ:Ev)|ct (ρ:Ev)
abbrev db:=Ev->ak Fl
noncomputable def b9(K:W.Frag) (E:XK) (He H0e Ha:Hp) (r:ak Fl) (D:fP):Prop:=match r with
 |.ok (.nx ρ)=>∀σ H Ha',az Ha Ha'->de K He H0e Ha' σ H ρ->D.nx σ H
 |.ok (.rt d)=>∀v H Ha',br He H0e H Ha'->bC K Ha' d v->D.rt v H
 |.ok (.bk ρ)=>∀σ H Ha',az Ha Ha'->de K He H0e Ha' σ H ρ->D.bk σ H
 |.ok (.ct ρ)=>∀σ H Ha',az Ha Ha'->de K He H0e Ha' σ H ρ->D.ct σ H
 |.exn x=>∀C ox H Ha',br He H0e H Ha'->qH K Ha' x C ox->E C ox H
 |.stuck=>False
def b9.grow{K:W.Frag}{E:XK}{He H0e Ha Hb:Hp}{r:ak Fl}{D:fP}(h:b9 K E He H0e Ha r D)(s:az Ha Hb):b9 K E He H0e Hb r D:=by
 cases r with
 |ok f=>
  cases f with|nx ρ=>exact λσ H Ha' s'=>h σ H Ha' (s.trans s')|rt d=>exact h|bk ρ=>exact λσ H Ha' s'=>h σ H Ha' (s.trans s')|ct ρ=>exact λσ H Ha' s'=>h σ H Ha' (s.trans s')
 |exn x=>exact h
 |stuck=>exact h
def tS(K:W.Frag)(E:XK)(He H0e:Hp)(g:db):TS:=λD σ H=>∃Ha ρ,de K He H0e Ha σ H ρ/\b9 K E He H0e Ha (g ρ) D
structure DS (X:Cx) (E:XK) (He H0e:Hp) (st:Stmt) (g:db):Prop where
 o:PS X st (tS X.K E He H0e g)
structure vh (X:Cx) (E:XK) (He H0e:Hp) (st:List Stmt) (g:db):Prop where
 o:qG X st (tS X.K E He H0e g)
def fB(ρ:Ev):Ev:=ρ.map λs=>match s with
 |.ow d=>.sh d
 |.ox _ ds=>.sh (.tup ds)
 |x=>x
def frz(He Ha H:Hp):Hp:=λa=>match He a with
 |none=>H a
 |some _=>Ha a
section
variable {K:W.Frag}{E:XK}{He H0e Ha H H1:Hp}{σ:L2.St}{ρ:Ev}
def de.same(h:de K He H0e Ha σ H ρ)(s:az H H1):de K He H0e Ha σ H1 ρ :=
 ⟨⟨h.g.s.trans s,h.g.z,h.g.sub.trans s,h.g.nw⟩,h.rd,λi d e=>by
  obtain⟨a,h1,h2,h3,h4⟩:=h.ow i d e;refine⟨a,h1,h2,h3,?_⟩;cases d with
  |lst ds=>obtain⟨vs,h5,h6⟩:=h4;exact⟨vs,s _ _ h5,h6⟩|dic ks ds=>obtain⟨vs,h5,hl,h6⟩:=h4;exact⟨vs,s _ _ h5,hl,h6⟩
  |ob kk ds=>
   cases kk with|dint ks=>obtain⟨vs,h5,hl,h6⟩:=h4;exact⟨vs,s _ _ h5,hl,h6⟩| _=>exact h4.elim
  |_=>exact h4,h.ap,h.ln,h.ex.upd (λj s' e=>.inl ⟨e,rfl⟩) (az.refl _) (λa vs _ e=>s _ _ e) λp us _ h0 hp _=>⟨s _ _ hp,h0⟩⟩
def de.grow{H01:Hp}(h:de K He H0e Ha σ H ρ)(s:br H Ha H1 H01):de K He H0e H01 σ H1 ρ :=
 ⟨h.g.trans s,h.rd.mono s.z,λi d e=>by
  obtain⟨a,h1,h2,h3,h4⟩:=h.ow i d e;have ha:H01 a=none:=by
   cases q:H01 a with
   |none=>rfl
   |some o=>
    have:=s.nw a (by rw[q];simp) h3;cases d with
    |lst ds|dic ks ds=>obtain⟨vs,h5,_⟩:=h4;rw[h5]at this;cases this
    |ob kk ds=>
     cases kk with|dint ks=>obtain⟨vs,h5,_⟩:=h4;rw[h5]at this;cases this| _=>exact h4.elim
    |_=>exact h4.elim
  refine⟨a,h1,h2,ha,?_⟩;cases d with
  |lst ds=>obtain⟨vs,h5,h6⟩:=h4;exact⟨vs,s.s _ _ h5,h6.mono s.z⟩|dic ks ds=>obtain⟨vs,h5,hl,h6⟩:=h4;exact⟨vs,s.s _ _ h5,hl,h6.mono s.z⟩
  |ob kk ds=>
   cases kk with|dint ks=>obtain⟨vs,h5,hl,h6⟩:=h4;exact⟨vs,s.s _ _ h5,hl,h6.mono s.z⟩| _=>exact h4.elim
  |_=>exact h4,h.ap,h.ln,h.ex.upd (λj s' e=>.inl ⟨e,rfl⟩) s.z (λa vs _ e=>s.s _ _ e) λp us _ h0 hp _=>⟨s.s _ _ hp,by
   cases q:H01 p with
   |none=>rfl
   |some o=>have:=s.nw p (by rw[q];simp) h0;rw[hp]at this;cases this⟩⟩
def de.frz_sub(h:de K He H0e Ha σ H ρ):az Ha (frz He Ha H):=λb o e=>by
 unfold frz;cases q:He b with|none=>exact h.g.sub _ _ e|some _=>exact e
def de.frz_le(h:de K He H0e Ha σ H ρ):az (frz He Ha H) H:=λb o e=>by
 unfold frz at e;cases q:He b with|none=>rw[q]at e;exact e|some _=>rw[q]at e;exact h.g.sub _ _ e
theorem de.frz_grow(h:de K He H0e Ha σ H ρ):br He H0e H (frz He Ha H) :=
 ⟨h.g.s,h.g.z.trans h.frz_sub,h.frz_le,λa h1 h2=>by
  cases q:He a with
  |none=>rfl
  |some o=>
   unfold frz at h1;rw[q]at h1;have:=h.g.nw a h1 h2;rw[q]at this;cases this⟩
def de.looks(h:de K He H0e Ha σ H ρ):dA K (frz He Ha H) σ (fB ρ):=λi d e=>by
 unfold fB at e;rw[List.getElem?_map]at e;cases q:ρ[i]? with
 |none=>rw[q]at e;cases e
 |some s=>
  rw[q]at e;cases s with
  |no|pt a=>cases e
  |sh d'=>
   cases e;obtain⟨v,h1,h2⟩:=h.rd i d q;exact⟨v,h1,h2.mono h.frz_sub⟩
  |ow d'=>
   cases e;obtain⟨a,h1,h2,h3,h4⟩:=h.ow i d q;refine⟨_,h1,?_⟩;cases d with
   |lst ds=>
    obtain⟨vs,h5,h6⟩:=h4;exact ay.mpr ⟨a,vs,rfl,dF.of (by unfold frz;rw[h2];exact h5),h6.mono h.frz_sub⟩
   |dic ks ds=>
    obtain⟨vs,h5,hl,h6⟩:=h4;rw[bC];exact⟨a,_,vs,rfl,.inl (by unfold frz;rw[h2];exact h5),rfl,hl,h6.mono h.frz_sub⟩
   |ob kk ds=>
    cases kk with
    |dint ks=>
     obtain⟨vs,h5,hl,h6⟩:=h4;exact cF.mpr ⟨a,vs,rfl,⟨_,.inl (by unfold frz;rw[h2];exact h5),rfl,hl⟩,h6.mono h.frz_sub⟩
    |_=>exact h4.elim
   |_=>exact h4.elim
  |ox j ds=>
   cases e;obtain⟨a,P,h1,⟨vs,r1,r2,r3,r4,r5,r6⟩,_⟩:=h.ex.1 i j ds q;refine⟨_,h1,aG.mpr ⟨a,vs,rfl,gk.of (by unfold frz;rw[r1];exact r2),kU r3 λk d v e1 e2=>?_⟩⟩;cases hk:mE j k with
   |true=>
    obtain⟨es,us,q1,q2,q3,q4,q5,q6⟩:=r4 k hk;rw[q3]at e1;cases e1;rw[q4]at e2;cases e2;exact ay.mpr ⟨P k,us,rfl,dF.of (by unfold frz;rw[q1];exact q5),q6.mono h.frz_sub⟩
   |false=>exact(r6 k d v hk e1 e2).mono h.frz_sub
def de.put(h:de K He H0e Ha σ H ρ){i:Nat}{d:D}{v:V}(r:bC K Ha d v):de K He H0e Ha (σ.set i (some v)) H (ρ.set i (.sh d)):=by
 have key:∀(j:Nat) (s:Sl),(ρ.set i (.sh d))[j]?=some s->(j=i/\s=.sh d/\i<σ.length)∨(j≠i/\ρ[j]?=some s):=λj s e=>by
  by_cases hj:i=j
  .subst hj
   rw[List.getElem?_set_self']at e;cases q:ρ[i]? with
   |none=>rw[q]at e;cases e
   |some s'=>
    rw[q]at e;cases e;refine .inl ⟨rfl,rfl,?_⟩;rw[←h.ln];exact(List.getElem?_eq_some_iff.mp q).1
  .rw[List.getElem?_set_ne hj]at e
   exact .inr ⟨λz=>hj z.symm,e⟩
 refine⟨h.g,λj d' e=>?_,λj d' e=>?_,λj k d1 d2 hn e1 e2=>?_,by simp[h.ln],h.ex.upd (λj s e=>?_) (az.refl _) (λa vs _ e=>e) λp us _ h0 hp _=>⟨hp,h0⟩⟩
 rotate_left 3
 .rcases key j _ e with⟨rfl,e',hl⟩|⟨hj,e'⟩
  .exact .inr (.inl ⟨d,e'⟩)
  .exact .inl ⟨e',by rw[List.getElem?_set_ne (Ne.symm hj)]⟩
 .rcases key j _ e with⟨rfl,e',hl⟩|⟨hj,e'⟩
  .cases e'
   exact⟨v,by rw[List.getElem?_set_self hl],r⟩
  .obtain⟨v',h1,h2⟩:=h.rd j d' e'
   exact⟨v',by rw[List.getElem?_set_ne (Ne.symm hj)];exact h1,h2⟩
 .rcases key j _ e with⟨rfl,e',hl⟩|⟨hj,e'⟩
  .cases e'
  .obtain⟨a,h1,h2⟩:=h.ow j d' e'
   exact⟨a,by rw[List.getElem?_set_ne (Ne.symm hj)];exact h1,h2⟩
 .rcases key j _ e1 with⟨_,e',_⟩|⟨hj,e1'⟩
  .cases e'
  rcases key k _ e2 with⟨_,e',_⟩|⟨hk,e2'⟩
  .cases e'
  rw[List.getElem?_set_ne (Ne.symm hj),List.getElem?_set_ne (Ne.symm hk)];exact h.ap j k d1 d2 hn e1' e2'
def de.putOwn(h:de K He H0e Ha σ H ρ){i:Nat}{ds:ac}{vs:bv}{p:Addr}(hp:∀(j:Nat) (a:Addr),σ[j]?=some (some (V.ref a))->a=p->∀d:D,ρ[j]?≠some (Sl.ow d))(he:He p=none)(h0:Ha p=none)(hv:H p=some (.lst vs))(r:Reps K Ha ds vs)(hx:∀(i j:Nat) (ds:ac) (a:Addr) (P:Nat->Addr),ρ[i]?=some (.ox j ds)->σ[i]?=some (some (.ref a))->Fj K He Ha H a j ds P->∀l,mE j l=true->p≠P l) :
  de K He H0e Ha (σ.set i (some (.ref p))) H (ρ.set i (.ow (.lst ds))):=by
 have key:∀(j:Nat) (s:Sl),(ρ.set i (.ow (.lst ds)))[j]?=some s->(j=i/\s=.ow (.lst ds)/\i<σ.length)∨(j≠i/\ρ[j]?=some s):=λj s e=>by
  by_cases hj:i=j
  .subst hj
   rw[List.getElem?_set_self']at e;cases q:ρ[i]? with
   |none=>rw[q]at e;cases e
   |some s'=>
    rw[q]at e;cases e;refine .inl ⟨rfl,rfl,?_⟩;rw[←h.ln];exact(List.getElem?_eq_some_iff.mp q).1
  .rw[List.getElem?_set_ne hj]at e
   exact .inr ⟨λz=>hj z.symm,e⟩
 have other:∀(k:Nat) (d2:D),k≠i->ρ[k]?=some (.ow d2)->some (some (V.ref p))≠σ[k]?:=λk d2 hk e2 z=>by
  obtain⟨a,h1,_⟩:=h.ow k d2 e2;rw[h1]at z;cases z;exact hp k p h1 rfl d2 e2
 refine⟨h.g,λj d' e=>?_,λj d' e=>?_,λj k d1 d2 hn e1 e2=>?_,by simp[h.ln],h.ex.upd (λj s e=>?_) (az.refl _) (λa vs _ e=>e) λp us _ h0 hp _=>⟨hp,h0⟩⟩
 rotate_left 3
 .rcases key j _ e with⟨rfl,e',hl⟩|⟨hj,e'⟩
  .exact .inr (.inr (.inr ⟨.lst ds,p,e',by rw[List.getElem?_set_self hl],hx⟩))
  .exact .inl ⟨e',by rw[List.getElem?_set_ne (Ne.symm hj)]⟩
 .rcases key j _ e with⟨rfl,e',hl⟩|⟨hj,e'⟩
  .cases e'
  .obtain⟨v',h1,h2⟩:=h.rd j d' e'
   exact⟨v',by rw[List.getElem?_set_ne (Ne.symm hj)];exact h1,h2⟩
 .rcases key j _ e with⟨rfl,e',hl⟩|⟨hj,e'⟩
  .cases e'
   exact⟨p,by rw[List.getElem?_set_self hl],he,h0,vs,hv,r⟩
  .obtain⟨a,h1,h2⟩:=h.ow j d' e'
   exact⟨a,by rw[List.getElem?_set_ne (Ne.symm hj)];exact h1,h2⟩
 .rcases key j _ e1 with⟨rfl,_,hl⟩|⟨hj,e1'⟩
  .rcases key k _ e2 with⟨rfl,_,_⟩|⟨hk,e2'⟩
   .exact absurd rfl hn
   .rw[List.getElem?_set_self hl,List.getElem?_set_ne (Ne.symm hk)]
    exact other k d2 hk e2'
  .rcases key k _ e2 with⟨rfl,_,hl⟩|⟨hk,e2'⟩
   .rw[List.getElem?_set_self hl,List.getElem?_set_ne (Ne.symm hj)]
    exact λz=>other j d1 hj e1' z.symm
   .rw[List.getElem?_set_ne (Ne.symm hj),List.getElem?_set_ne (Ne.symm hk)]
    exact h.ap j k d1 d2 hn e1' e2'
def de.fresh_x{H01:Hp}{p:Addr}(h:de K He H0e Ha σ H ρ)(s:az H H1)(hp:H p=none):∀(i j:Nat) (ds:ac) (a:Addr) (P:Nat->Addr),ρ[i]?=some (.ox j ds)->σ[i]?=some (some (.ref a))->Fj K He H01 H1 a j ds P->∀l,mE j l=true->p≠P l:=λi j ds a P x1 x2 x3 l ol=>by
 obtain⟨a2,P2,y1,⟨vs2,_,z3,_,y4,_⟩,_⟩:=h.ex.1 i j ds x1;rw[x2]at y1;cases y1;obtain⟨vs1,_,z1,_,y5,_⟩:=x3;have:=s _ _ z3;rw[z1]at this;cases this;obtain⟨_,us2,_,_,_,z4,z5,_⟩:=y4 l ol;obtain⟨_,_,_,_,_,z2,_⟩:=y5 l ol;rw[z2]at z4;injection z4 with z4;injection z4 with z4;intro z;rw[←z4,←z,hp]at z5;cases z5
def de.write(h:de K He H0e Ha σ H ρ){i:Nat}{d:D}{p:Addr}{ds:ac}{vs:bv}(e:ρ[i]?=some (.ow d))(es:σ[i]?=some (some (.ref p)))(r:Reps K Ha ds vs) :
  de K He H0e Ha σ (upd H p (.lst vs)) (ρ.set i (.ow (.lst ds))):=by
 obtain⟨a,h1,h2,h3,h4⟩:=h.ow i d e;rw[h1]at es;cases es;have hil:i<ρ.length:=(List.getElem?_eq_some_iff.mp e).1;have key:∀(j:Nat) (s:Sl),(ρ.set i (.ow (.lst ds)))[j]?=some s->(j=i/\s=.ow (.lst ds))∨(j≠i/\ρ[j]?=some s):=λj s e=>by
  by_cases hj:i=j
  .subst hj
   rw[List.getElem?_set_self hil]at e;cases e;exact .inl ⟨rfl,rfl⟩
  .rw[List.getElem?_set_ne hj]at e
   exact .inr ⟨λz=>hj z.symm,e⟩
 refine⟨⟨λb o eb=>?_,h.g.z,λb o eb=>?_,h.g.nw⟩,λj d' e'=>?_,λj d' e'=>?_,λj k d1 d2 hn e1 e2=>?_,by simp[h.ln],h.ex.upd (λj s e'=>?_) (az.refl _) (λb us _ eb=>?_) λq us _ q0 hq hd=>?_⟩
 rotate_left 5
 .rcases key j _ e' with⟨rfl,e''⟩|⟨hj,e''⟩
  .exact .inr (.inr (.inr ⟨.lst ds,p,e'',h1,λi' j' ds' a' P' x1 x2 x3 l ol=>by
    obtain⟨a2,P2,y1,y2,y3,_⟩:=h.ex.1 i' j' ds' x1;rw[x2]at y1;cases y1;have:P2 l=P' l:=by
     obtain⟨vs1,_,z1,_,y5,_⟩:=x3;obtain⟨vs2,_,z3,_,y4,_⟩:=y2;rw[z1]at z3;cases z3;obtain⟨_,_,_,_,_,z2,_⟩:=y5 l ol;obtain⟨_,_,_,_,_,z4,_⟩:=y4 l ol;rw[z2]at z4;injection z4 with z4;injection z4 with z4;exact z4.symm
    rw[←this];intro zz;rw[zz]at h1;exact y3 j d l ol e h1⟩))
  .exact .inl ⟨e'',rfl⟩
 .rw[aD (by
   intro z;subst z;cases d with
   |lst ds'|dic ks ds'=>obtain⟨vs',h5,_⟩:=h4;rw[h5]at eb;cases eb
   |ob kk ds'=>
    cases kk with|dint ks=>obtain⟨vs',h5,_⟩:=h4;rw[h5]at eb;cases eb| _=>exact h4.elim
   |_=>exact h4)];exact eb
 .have hq':q≠p:=by
   intro z;subst z;exact hd i d e h1
  exact⟨by rw[aD hq'];exact hq,q0⟩
 .rw[aD (by intro z;subst z;rw[h2]at eb;cases eb)];exact h.g.s _ _ eb
 .rw[aD (by intro z;subst z;rw[h3]at eb;cases eb)];exact h.g.sub _ _ eb
 .rcases key j _ e' with⟨rfl,e''⟩|⟨hj,e''⟩
  .cases e''
  .exact h.rd j d' e''
 .rcases key j _ e' with⟨rfl,e''⟩|⟨hj,e''⟩
  .cases e''
   exact⟨p,h1,h2,h3,vs,aJ,r⟩
  .obtain⟨b,k1,k2,k3,k4⟩:=h.ow j d' e''
   refine⟨b,k1,k2,k3,?_⟩;have hb:b≠p:=by
    intro z;subst z;exact h.ap j i d' d hj e'' e (by rw[k1,h1])
   cases d' with
   |lst ds'=>
    obtain⟨vs',h5,h6⟩:=k4;exact⟨vs',by rw[aD hb];exact h5,h6⟩
   |dic ks ds'=>
    obtain⟨vs',h5,hl,h6⟩:=k4;exact⟨vs',by rw[aD hb];exact h5,hl,h6⟩
   |ob kk ds'=>
    cases kk with
    |dint ks=>
     obtain⟨vs',h5,hl,h6⟩:=k4;exact⟨vs',by rw[aD hb];exact h5,hl,h6⟩
    |_=>exact k4.elim
   |_=>exact k4.elim
 .rcases key j _ e1 with⟨rfl,e1'⟩|⟨hj,e1'⟩
  .rcases key k _ e2 with⟨rfl,_⟩|⟨hk,e2'⟩
   .exact absurd rfl hn
   .exact h.ap j k d d2 hn e e2'
  .rcases key k _ e2 with⟨rfl,_⟩|⟨hk,e2'⟩
   .exact h.ap j k d1 d hn e1' e
   .exact h.ap j k d1 d2 hn e1' e2'
end
mutual
def jA:D->Bool
 |.lst _=>false
 |.dic _ _=>false
 |.exc _=>false
 |.ob _ _=>false
 |.tup ds=>flats ds
 |_=>true
def flats:ac->Bool
 |[]=>true
 |d::ds=>jA d&&flats ds
end
mutual
theorem bC.flat_to{K:W.Frag}{H H':Hp}(e:∀a vs,Rd H a (.tup vs)->Rd H' a (.tup vs)):∀{d:D}{v:V},jA d=true->bC K H d v->bC K H' d v
 |.non,_,_,h=>by unfold bC at h ⊢;exact h
 |.bl _,_,_,h=>by unfold bC at h ⊢;exact h
 |.int _,_,_,h=>by unfold bC at h ⊢;exact h
 |.str _,_,_,h=>by unfold bC at h ⊢;exact h
 |.tup ds,_,f,h=>by
  unfold jA at f;obtain⟨a,vs,e1,e2,e3⟩:=aG.mp h;refine aG.mpr ⟨a,vs,e1,?_,Reps.flat_to e f e3⟩;rcases e2 with e2|e2
  .exact .inl (e _ _ e2)
  .exact .inr e2
 |.lst ds,_,f,h=>by unfold jA at f;cases f
 |.dic ks ds,_,f,h=>by unfold jA at f;cases f
 |.exc x,_,f,h=>by unfold jA at f;cases f
 |.ob k ds,_,f,h=>by unfold jA at f;cases f
theorem Reps.flat_to{K:W.Frag}{H H':Hp}(e:∀a vs,Rd H a (.tup vs)->Rd H' a (.tup vs)):∀{ds:ac}{vs:bv},flats ds=true->Reps K H ds vs->Reps K H' ds vs
 |[],_,_,h=>by unfold Reps at h ⊢;exact h
 |d::ds,_,f,h=>by
  unfold flats at f;rw[Bool.and_eq_true]at f;obtain⟨v,r,e1,e2,e3⟩:=aA.mp h;exact aA.mpr ⟨v,r,e1,bC.flat_to e f.1 e2,Reps.flat_to e f.2 e3⟩
end
def iR(Ha J:Hp):Hp:=λa=>match Ha a with
 |some o=>some o
 |none=>match J a with
  |some (.tup vs)=>some (.tup vs)
  |some (.frz o (.tup vs))=>some (.frz o (.tup vs))
  |_=>none
section
variable {K:W.Frag}{E:XK}{He H0e Ha H H1 J:Hp}{σ:L2.St}{ρ:Ev}
def AU(h:az Ha J):∀a o,iR Ha J a=some o->J a=some o:=λa o e=>by
 unfold iR at e;cases q:Ha a with
 |some u=>rw[q]at e;cases e;exact h _ _ q
 |none=>
  rw[q]at e;cases q2:J a with
  |none=>rw[q2]at e;cases e
  |some u=>
   rw[q2]at e;cases u with
   |tup vs=>cases e;rfl
   |frz o u'=>
    cases u' with|tup vs=>cases e;rfl| _=>cases e
   |_=>cases e
def AS(h:az Ha J)(a:Addr)(vs:bv)(e:Rd J a (.tup vs)):Rd (iR Ha J) a (.tup vs):=by
 rcases e with e|⟨o,e⟩
 .refine .inl ?_
  unfold iR;cases q:Ha a with|some u=>have:=h _ _ q;rw[e]at this;cases this;rfl|none=>rw[e]
 .refine .inr ⟨o,?_⟩
  unfold iR;cases q:Ha a with|some u=>have:=h _ _ q;rw[e]at this;cases this;rfl|none=>rw[e]
def de.behind(h:de K He H0e Ha σ H ρ)(g:br H (frz He Ha H) H1 J):de K He H0e (iR Ha J) σ H1 ρ:=by
 have hJ:az Ha J:=h.frz_sub.trans g.z;have le:=AU (Ha:=Ha) (J:=J) hJ;have z:az Ha (iR Ha J):=λb o e=>by unfold iR;rw[e]
 refine⟨⟨h.g.s.trans g.s,h.g.z.trans z,λb o e=>g.sub _ _ (le b o e),λa h1 h2=>?_⟩,h.rd.mono z,λi d e=>?_,h.ap,h.ln,h.ex.upd (λj s e=>.inl ⟨e,rfl⟩) z (λa vs _ e=>g.s _ _ e) λp us hp h0 hl _=>⟨g.s _ _ hl,by
  have:frz He Ha H p=some (.lst us):=by unfold frz;rw[hp];exact hl
  have:=g.z _ _ this;unfold iR;rw[h0,this]⟩⟩
 .cases q:iR Ha J a with
  |none=>exact absurd q h1
  |some o=>
   have hj:=le a o q;exact(h.frz_grow.trans g).nw a (by rw[hj];simp) h2
 .obtain⟨a,k1,k2,k3,k4⟩:=h.ow i d e
  refine⟨a,k1,k2,?_,?_⟩
  .cases d with
   |lst ds=>
    obtain⟨vs,h5,_⟩:=k4;have:frz He Ha H a=some (.lst vs):=by unfold frz;rw[k2];exact h5
    have:=g.z _ _ this;unfold iR;rw[k3,this]
   |dic ks ds=>
    obtain⟨vs,h5,_⟩:=k4;have:frz He Ha H a=some (.dK ((ks.map Sum.inr).zip vs)):=by unfold frz;rw[k2];exact h5
    have:=g.z _ _ this;unfold iR;rw[k3,this]
   |ob kk ds=>
    cases kk with
    |dint ks=>
     obtain⟨vs,h5,_⟩:=k4;have:frz He Ha H a=some (.dK ((ks.map Sum.inl).zip vs)):=by unfold frz;rw[k2];exact h5
     have:=g.z _ _ this;unfold iR;rw[k3,this]
    |_=>exact k4.elim
   |_=>exact k4.elim
  .cases d with
   |lst ds=>obtain⟨vs,h5,h6⟩:=k4;exact⟨vs,g.s _ _ h5,h6.mono z⟩
   |dic ks ds=>obtain⟨vs,h5,hl,h6⟩:=k4;exact⟨vs,g.s _ _ h5,hl,h6.mono z⟩
   |ob kk ds=>
    cases kk with|dint ks=>obtain⟨vs,h5,hl,h6⟩:=k4;exact⟨vs,g.s _ _ h5,hl,h6.mono z⟩| _=>exact k4.elim
   |_=>exact k4.elim
end
section
variable {X:Cx}{E:XK}{He H0e:Hp}{st:Stmt}{rest:List Stmt}{e a b:Expr}{es:List Expr}{f g:cr}{fa:Ev->ak (ac)}{s t:db}{pos:Pos}
def cf{t t':TS}(h:PS X st t)(w:∀D σ H,t' D σ H->t D σ H):PS X st t':=λpins s σ H D I q=>h pins s σ H D I (w D σ H q)
def fX{t t':TS}(h:qG X rest t)(w:∀D σ H,t' D σ H->t D σ H):qG X rest t':=λpins s σ H D I q=>h pins s σ H D I (w D σ H q)
def aq:db:=λρ=>.ok (.nx ρ)
def ar(s t:db):db:=λρ=>(s ρ).bind λr=>match r with
 |.nx ρ'=>t ρ'
 |r=>.ok r
def au:vh X E He H0e [] aq:=⟨fX nS λD σ H ⟨Ha,ρ,h,q⟩=>q σ H Ha (az.refl _) h⟩
def ai(h1:DS X E He H0e st s)(h2:vh X E He H0e rest t):vh X E He H0e (st::rest) (ar s t):=by
 refine⟨?_⟩;refine fX (jt h1.o h2.o) λD σ H z9=>?_;obtain⟨Ha,ρ,h,q⟩:=z9;refine⟨Ha,ρ,h,?_⟩
 unfold ar at q;cases e1:s ρ with
 |stuck|exn x=>rw[e1]at q;exact q
 |ok r=>
  rw[e1]at q;cases r with|nx ρ'=>exact λσ' H' Ha' s' h'=>⟨Ha',ρ',h',b9.grow (r:=t ρ') q s'⟩|rt d|bk ρ'|ct ρ'=>exact q
def lH:db:=λ_=>.stuck
def qj:DS X E He H0e st lH:=⟨cf wk λD σ H ⟨Ha,ρ,h,q⟩=>q⟩
def plain{K:W.Frag}{Ha H:Hp}{σ:L2.St}{ρ:Ev}{k:D->ak Fl}{D':fP}(h:de K He H0e Ha σ H ρ){r:ak D}{Q:VK}
  (q:b9 K E He H0e Ha (r.bind k) D')(hk:∀d v H' Ha',r=.ok d->br H Ha H' Ha'->bC K Ha' d v->b9 K E He H0e Ha' (k d) D'->Q v H'):post K E H Ha r Q:=by
 cases r with|stuck=>exact q|exn x=>exact λC ox H' Ha' g ex=>q C ox H' Ha' (h.g.trans g) ex|ok d=>exact λv H' Ha' g rp=>hk d v H' Ha' rfl g rp (b9.grow (r:=k d) q g.z)
def look{K:W.Frag}{Ha H:Hp}{σ:L2.St}{ρ:Ev}{k:D->ak Fl}{D':fP}(h:de K He H0e Ha σ H ρ){r:ak D}{Q:VK}
  (q:b9 K E He H0e Ha (r.bind k) D')(hk:∀d v H' J,r=.ok d->br H (frz He Ha H) H' J->bC K J d v->b9 K E He H0e Ha (k d) D'->Q v H'):post K E H (frz He Ha H) r Q:=by
 cases r with|stuck=>exact q|exn x=>exact λC ox H' Ha' g ex=>q C ox H' Ha' (h.frz_grow.trans g) ex|ok d=>exact λv H' J g rp=>hk d v H' J rfl g rp q
def Bf{K:W.Frag}{Ha H:Hp}{σ:L2.St}{ρ:Ev}{k:Bool->ak Fl}{D':fP}(h:de K He H0e Ha σ H ρ){r:ak D}{Q:Bool->Hp->Prop}
  (q:b9 K E He H0e Ha (r.bind λx=>match x with|.bl b=>k b|_=>.stuck) D')(hk:∀b H',az H H'->b9 K E He H0e Ha (k b) D'->Q b H'):lL K E H (frz He Ha H) r Q:=by
 cases r with
 |stuck=>exact q|exn x=>exact λC ox H' Ha' g ex=>q C ox H' Ha' (h.frz_grow.trans g) ex
 |ok d=>
  cases d with|bl b=>exact λH' J g=>hk b H' g.s q| _=>exact q.elim
def aR(i:Nat)(f:cr):db:=λρ=>(f ρ).bind λd=>.ok (.nx (ρ.set i (.sh d)))
def bS(f:cr):db:=λρ=>(f (fB ρ)).bind λd=>.ok (.rt d)
def o9(f:cr):db:=λρ=>(f (fB ρ)).bind λ_=>.ok (.nx ρ)
def dR(c:cr)(s t:db):db:=λρ=>(c (fB ρ)).bind λx=>match x with
 |.bl b=>if b=true then s ρ else t ρ
 |_=>.stuck
def aP{i:Nat}{x:Str}{pos':Pos}(hN:X.N.Nodup)(hi:X.N[i]?=some x)(hx:A0 X.env.scope x)(he:DE X E e f)(hs:swapsWith e (some (.Name x pos')) pos.line X.env=pure false:=by rfl)
  (hf:X.fn x=true∨X.env.scope.names.lookup x=some .local := by first|exact .inl rfl|exact .inr rfl|assumption):DS X E He H0e (.Assign [.Name x pos'] e pos) (aR i f):=by
 refine⟨?_⟩;refine cf (qU hN hi hx he.o hs hf) λD σ H z9=>?_;obtain⟨Ha,ρ,h,q⟩:=z9;refine⟨Ha,ρ,h.g.sub,h.rd,?_⟩
 refine plain h q λd v H' Ha' _ g rp q'=>?_;exact q' _ H' Ha' (az.refl _) ((h.grow g).put rp)
def bx(he:DE X E e f):DS X E He H0e (.Return (some e) pos) (bS f):=by
 refine⟨?_⟩;refine cf (qV he.o) λD σ H z9=>?_;obtain⟨Ha,ρ,h,q⟩:=z9;refine⟨frz He Ha H,fB ρ,h.frz_le,h.looks,?_⟩
 exact look h q λd v H' J _ g rp q'=>q' v H' J (h.frz_grow.trans g) rp
def Ay(he:DE X E e f)(hs:swapsWith e none pos.line X.env=pure false:=by rfl):DS X E He H0e (.Expr e pos) (o9 f):=by
 refine⟨?_⟩;refine cf (kW he.o hs) λD σ H z9=>?_;obtain⟨Ha,ρ,h,q⟩:=z9;refine⟨frz He Ha H,fB ρ,h.frz_le,h.looks,?_⟩
 exact look h q λd v H' J _ g rp q'=>q' σ H' Ha (az.refl _) (h.same g.s)
def ck{c:Expr}{fc:cr}{sa sb:List Stmt}(hc:DT X E c fc)(ha:vh X E He H0e sa s)(hb:vh X E He H0e sb t):DS X E He H0e (.If c sa sb pos) (dR fc s t):=by
 refine⟨?_⟩;refine cf (Ep hc.o ha.o hb.o) λD σ H z9=>?_;obtain⟨Ha,ρ,h,q⟩:=z9;refine⟨frz He Ha H,fB ρ,h.frz_le,h.looks,?_⟩
 refine Bf (k:=λb=>if b=true then s ρ else t ρ) h q λb H' hs q'=>?_;cases b with|true=>rw[if_pos rfl]at q' ⊢;exact⟨Ha,ρ,h.same hs,q'⟩|false=>rw[if_neg Bool.false_ne_true]at q' ⊢;exact⟨Ha,ρ,h.same hs,q'⟩
noncomputable def tF(K:W.Frag) (E:XK) (f:cr):TE:=λσ H Q=>∃Ha ρ,az Ha H/\dA K Ha σ ρ/\match f ρ with
 |.ok (.lst ds)=>∀p vs H' Ha',br H Ha H' Ha'->H p=none->Ha' p=none->H' p=some (.lst vs)->Reps K Ha' ds vs->Q (.ref p) H'
 |.ok _=>False
 |.exn x=>∀C ox H' Ha',br H Ha H' Ha'->qH K Ha' x C ox->E C ox H'
 |.stuck=>False
structure DF (X:Cx) (E:XK) (e:Expr) (f:cr):Prop where
 o:PE X e (tF X.K E f)
def gr(i:Nat)(f:cr):db:=λρ=>(f ρ).bind λd=>match d with
 |.lst ds=>.ok (.nx (ρ.set i (.ow (.lst ds))))
 |_=>.stuck
def fF{i:Nat}{x:Str}{pos':Pos}(hN:X.N.Nodup)(hi:X.N[i]?=some x)(hx:A0 X.env.scope x)(he:DF X E e f)(hs:swapsWith e (some (.Name x pos')) pos.line X.env=pure false:=by rfl)
  (hf:X.fn x=true∨X.env.scope.names.lookup x=some .local := by first|exact .inl rfl|exact .inr rfl|assumption):DS X E He H0e (.Assign [.Name x pos'] e pos) (gr i f):=by
 refine⟨?_⟩;refine cf (qU hN hi hx he.o hs hf) λD σ H z9=>?_;obtain⟨Ha,ρ,h,q⟩:=z9;refine⟨Ha,ρ,h.g.sub,h.rd,?_⟩
 unfold gr at q;cases e1:f ρ with
 |stuck=>rw[e1]at q;exact q|exn x=>rw[e1]at q;exact λC ox H' Ha' g ex=>q C ox H' Ha' (h.g.trans g) ex
 |ok d=>
  rw[e1]at q;cases d with
  |lst ds=>
   intro p vs H' Ha' g hp h0 hv rp;refine q _ H' Ha' g.z ((h.grow g).putOwn (λj a ej ea d ed=>?_) (h.g.s.free hp) h0 hv rp (h.fresh_x g.s hp));subst ea;obtain⟨a',k1,_,_,k4⟩:=h.ow j d ed;rw[ej]at k1;cases k1;cases d with
   |lst ds'|dic ks ds'=>obtain⟨vs',h5,_⟩:=k4;rw[hp]at h5;cases h5
   |ob kk ds'=>
    cases kk with|dint ks=>obtain⟨vs',h5,_⟩:=k4;rw[hp]at h5;cases h5| _=>exact k4.elim
   |_=>exact k4.elim
  |_=>exact q.elim
def gG(h:DA X E es fa):DF X E (.List es pos) (aj fa bU):=by
 refine⟨?_⟩;refine aQ (wu h.o) λσ H Q h=>?_;obtain⟨Ha,ρ,hs,hr,q⟩:=h;refine⟨Ha,ρ,hs,hr,?_⟩;unfold aj at q;cases e1:fa ρ with
 |stuck|exn x=>rw[e1]at q;exact q
 |ok ds=>
  rw[e1]at q;intro vs H1 H01 g1 r1;replace q:match bU ds with
   |.ok (.lst ds)=>∀p vs H' Ha',br H Ha H' Ha'->H p=none->Ha' p=none->H' p=some (.lst vs)->Reps X.K Ha' ds vs->Q (.ref p) H'
   |.ok _=>False
   |.exn x=>∀C ox H' Ha',br H Ha H' Ha'->qH X.K Ha' x C ox->E C ox H'
   |.stuck=>False:=q
  unfold bU at q
  by_cases hl:ds.length<=line
  .rw[if_pos hl]at q
   refine⟨by rw[←r1.length];exact cX hl,λp hp=>?_⟩;have h0:H01 p=none:=g1.sub.free hp;refine q p vs _ H01 (g1.trans ⟨λb o q=>by rw[aD (aS q hp)];exact q,az.refl _,λb o q=>?_,λa h1 h2=>absurd h2 h1⟩) (g1.s.free hp) h0 aJ r1;rw[aD (by intro z;subst z;rw[h0]at q;cases q)];exact g1.sub _ _ q
  .rw[if_neg hl]at q;exact q.elim
def mW(ρ:Ev)(i:Nat)(k:ac->ak Fl):ak Fl:=match ρ[i]? with
 |some (.ow (.lst ds))=>k ds
 |_=>.stuck
def bE(i:Nat)(f:cr):db:=λρ=>mW ρ i λds=>(f ρ).bind λd=>if ds.length<line then .ok (.nx (ρ.set i (.ow (.lst (ds++[d]))))) else .stuck
def jv{K:W.Frag}{Ha H:Hp}{σ:L2.St}{ρ:Ev}{i:Nat}{k:ac->ak Fl}{D':fP}(h:de K He H0e Ha σ H ρ)(q:b9 K E He H0e Ha (mW ρ i k) D') :
  ∃ds p vs,ρ[i]?=some (.ow (.lst ds))/\σ[i]?=some (some (.ref p))/\He p=none/\Ha p=none/\H p=some (.lst vs)/\Reps K Ha ds vs/\b9 K E He H0e Ha (k ds) D':=by
 unfold mW at q;cases e:ρ[i]? with
 |none=>rw[e]at q;exact q.elim
 |some s=>
  rw[e]at q;cases s with
  |no|sh d|ox j ds|pt a=>exact q.elim
  |ow d=>
   cases d with
   |lst ds=>
    obtain⟨p,h1,h2,h3,vs,h4,h5⟩:=h.ow i _ e;exact⟨ds,p,vs,rfl,h1,h2,h3,h4,h5,q⟩
   |_=>exact q.elim
def cY{i:Nat}{x:Str}{p1 p2 p3:Pos}(hN:X.N[i]?=some x)(hv:vj X.env.scope x)(he:DE X E e f)
  (hd:(x==("__debug__":Str))=false:=by decide)(hcd:(x==("__classdict__":Str))=false:=by decide)
  (hbase:attributeBase (.Name x p1) "append" X.env (eval (.Name x p1) X.env)=eval (.Name x p1) X.env:=by rfl)
  (hfew:((backTo p3 (starEach [e] X.env)).all (λx=>!x.1)&&(backToKw p3 (keywordEach [] X.env)).all (λx=>x.1.isSome)
  &&decide ([e].length+([]:List Keyword).length+(if([]:List Keyword).isEmpty then 0 else 1)<30))=true:=by exact qc rfl)
  (hline:(p2.endLine==p3.line)=true:=by rfl) (hs:starEach [e] X.env=(false,eval e X.env)::starEach [] X.env:=by exact aC rfl) (hplain:(backTo p3 (starEach [] X.env)).any (·.1)=false:=by exact bg rfl)
  (hw:swapsWith (.Call (.Attribute (.Name x p1) "append" p2) [e] [] p3) none pos.line X.env=pure false:=by rfl) :
  DS X E He H0e (.Expr (.Call (.Attribute (.Name x p1) "append" p2) [e] [] p3) pos) (bE i f):=by
 refine⟨?_⟩;refine cf (kW (Bd PySem.F.plainAttrs_list PySem.F.slot_list_append PySem.F.type_list_append jX (g0 hN hv hd hcd) (bK he.o dG hs) hbase hfew hline hs hplain) hw) λD σ H ⟨Ha,ρ,h,q⟩=>?_;obtain⟨ds,p,vs,e1,e2,e3,e4,e5,e6,q⟩:=jv h q;refine⟨.ref p,e2,.inl ⟨rfl,vs,dF.of e5⟩,?_⟩;refine⟨Ha,ρ,h.g.sub,h.rd,plain h q λd v H' Ha' _ g rp q'=>?_⟩
 by_cases hl:ds.length<line
 .rw[if_pos hl]at q'
  have e5':H' p=some (.lst vs):=g.s _ _ e5;refine⟨p,vs,v,rfl,rfl,e5',by rw[←e6.length];exact Nat.lt_of_lt_of_le hl (by decide),?_⟩;exact q' σ _ Ha' (az.refl _) ((h.grow g).write e1 e2 ((e6.mono g.z).app (Reps.cons rp Reps.nil)))
 .rw[if_neg hl]at q';exact q'.elim
def i6(i:Nat):db:=λρ=>mW ρ i λ_=>.ok (.nx (ρ.set i (.ow (.lst []))))
def xI{i:Nat}{x:Str}{p1 p2 p3:Pos}(hN:X.N[i]?=some x)(hv:vj X.env.scope x)
  (hd:(x==("__debug__":Str))=false:=by decide)(hcd:(x==("__classdict__":Str))=false:=by decide)
  (hbase:attributeBase (.Name x p1) "clear" X.env (eval (.Name x p1) X.env)=eval (.Name x p1) X.env:=by rfl)(hline:(p2.endLine==p3.line)=true:=by rfl)
  (hw:swapsWith (.Call (.Attribute (.Name x p1) "clear" p2) [] [] p3) none pos.line X.env=pure false:=by rfl) :
  DS X E He H0e (.Expr (.Call (.Attribute (.Name x p1) "clear" p2) [] [] p3) pos) (i6 i):=by
 refine⟨?_⟩;refine cf (kW (BY PySem.F.plainAttrs_list PySem.F.slot_list_clear PySem.F.type_list_clear wO (g0 hN hv hd hcd) hbase hline) hw) λD σ H ⟨Ha,ρ,h,q⟩=>?_;obtain⟨ds,p,vs,e1,e2,e3,e4,e5,e6,q⟩:=jv h q;refine⟨.ref p,e2,.inl ⟨rfl,vs,dF.of e5⟩,p,vs,rfl,rfl,e5,?_⟩;exact q σ _ Ha (az.refl _) (h.write e1 e2 Reps.nil)
def putAt(ρ:Ev)(i:Nat)(ds:ac)(d:D)(j:D):ak Fl:=match j with
 |.int j=>match uE ds.length j with
  |some n=>.ok (.nx (ρ.set i (.ow (.lst (ds.set n d)))))
  |none=>.stuck
 |_=>.stuck
def vP(i:Nat)(f k:cr):db:=λρ=>mW ρ i λds=>(f (fB ρ)).bind λd=>(k (fB ρ)).bind λj=>if jA d=true then putAt ρ i ds d j else .stuck
def wd{K:W.Frag}{Ha H:Hp}{σ:L2.St}{ρ:Ev}{i:Nat}{D':fP}{ds:ac}{d j:D}{p:Addr}{vs:bv}{v u:V}(h:de K He H0e Ha σ H ρ)(e1:ρ[i]?=some (.ow (.lst ds)))(e2:σ[i]?=some (some (.ref p)))(e5:H p=some (.lst vs))(e6:Reps K Ha ds vs)
  (rp:bC K Ha d v)(rj:bC K Ha j u)(q:b9 K E He H0e Ha (putAt ρ i ds d j) D'):A8 (.ref p) u v H λH'=>D'.nx σ H':=by
 unfold putAt at q;cases j with
 |int n=>
  cases en:uE ds.length n with
  |none=>simp only[en]at q;exact q.elim
  |some m=>
   simp only[en]at q;refine⟨p,vs,n,m,rfl,aw.mp rj,e5,by rw[←e6.length];exact en,?_⟩;exact q σ _ Ha (az.refl _) (h.write e1 e2 (e6.set rp m))
 |_=>exact q.elim
section
variable {i:Nat}{x:Str}{p1 p2:Pos}{k:cr}
def Av(hN:X.N[i]?=some x)(hv:vj X.env.scope x)(he:DE X E e f)(hk:DE X E b k)
  (hd:(x==("__debug__":Str))=false:=by decide)(hcd:(x==("__classdict__":Str))=false:=by decide)
  (ha:∀v,assign (.Subscript (.Name x p1) b p2) X.env v=(do
   let ov ←holding [v] (eval (.Name x p1) X.env)
   let iv ←holding [v,ov] (eval b X.env)
   standAt p2
   holding [v,ov,iv] (setItem ov iv v)
   release [v,ov,iv] []):=by intro _;rfl)
  (hs:swapsWithSole [.Subscript (.Name x p1) b p2] e pos.line X.env=pure false:=by rfl) (hw:swappedStores [.Subscript (.Name x p1) b p2] e X.env=pure none:=by rfl)
  (h1:(assignEach [.Subscript (.Name x p1) b p2] X.env).map (·.2)=[assign (.Subscript (.Name x p1) b p2) X.env]:=by rfl) :
  DS X E He H0e (.Assign [.Subscript (.Name x p1) b p2] e pos) (vP i f k):=by
 refine⟨?_⟩;refine cf (BP he.o (BR (g0 hN hv hd hcd) hk.o vK ha) hs hw h1) λD σ H z9=>?_;obtain⟨Ha,ρ,h,q⟩:=z9;refine⟨frz He Ha H,fB ρ,h.frz_le,h.looks,?_⟩
 obtain⟨ds,p,vs,e1,e2,e3,e4,e5,e6,q⟩:=jv h q;refine look (k:=λd=>(k (fB ρ)).bind λj=>if jA d=true then putAt ρ i ds d j else .stuck) h q λd v H1 J1 _ g1 r1 q1=>⟨.ref p,e2,?_⟩
 have hJ1:az Ha J1:=h.frz_sub.trans g1.z;refine⟨J1,fB ρ,g1.sub,h.looks.mono g1.z,?_⟩;cases ek:k (fB ρ) with
 |stuck=>rw[ek]at q1;exact q1|exn x=>rw[ek]at q1;exact λC ox H' Ha' g ex=>q1 C ox H' Ha' (h.frz_grow.trans (g1.trans g)) ex
 |ok j=>
  rw[ek]at q1;intro u H2 J2 g2 r2;replace q1:b9 X.K E He H0e Ha (if jA d=true then putAt ρ i ds d j else .stuck) D:=q1
  by_cases fl:jA d=true
  .rw[if_pos fl]at q1
   have g:=g1.trans g2;have hJ:az Ha J2:=h.frz_sub.trans g.z;have z:az Ha (iR Ha J2):=λb o e=>by unfold iR;rw[e]
   have rd:=(r1.mono g2.z).flat_to (AS hJ) fl;have rj:bC X.K (iR Ha J2) j u:=by
    cases j with|int n=>exact aw.mpr (aw.mp r2)| _=>exact q1.elim
   exact wd (h.behind g) e1 e2 (g.s _ _ e5) (e6.mono z) rd rj (q1.grow z)
  .rw[if_neg fl]at q1;exact q1.elim
end
noncomputable def c8(tg:Ev->D->ak Ev) (body:db):ac->db
 |[],ρ=>.ok (.nx ρ)
 |d::r,ρ=>(tg ρ d).bind λρ1=>(body ρ1).bind λx=>match x with
  |.nx ρ2=>c8 tg body r ρ2
  |.ct ρ2=>c8 tg body r ρ2
  |.bk ρ2=>.ok (.nx ρ2)
  |.rt d=>.ok (.rt d)
def tG(K:W.Frag)(He H0e:Hp)(tg:Ev->D->ak Ev):TG:=λv σ H Q=>∃Ha ρ d,de K He H0e Ha σ H ρ/\bC K Ha d v/\match tg ρ d with
  |.ok ρ'=>∀σ' H' Ha',az Ha Ha'->de K He H0e Ha' σ' H' ρ'->Q σ' H'
  |_=>False
structure DG (X:Cx) (E:XK) (He H0e:Hp) (target:Expr) (tg:Ev->D->ak Ev):Prop where
 o:PG X target (tG X.K He H0e tg)
def eJ(i:Nat):Ev->D->ak Ev:=λρ d=>.ok (ρ.set i (.sh d))
def nT{tgt:Expr}{t t':TG}(h:PG X tgt t)(w:∀v σ H Q,t' v σ H Q->t v σ H Q):PG X tgt t':=λpins s σ H v u Q I r q=>h pins s σ H v u Q I r (w v σ H Q q)
def er{i:Nat}{x:Str}(hN:X.N.Nodup)(hi:X.N[i]?=some x)(hx:A0 X.env.scope x)(hf:X.fn x=true∨X.env.scope.names.lookup x=some .local := by first|exact .inl rfl|exact .inr rfl|assumption):DG X E He H0e (.Name x pos) (eJ i) :=
 ⟨nT (sW hN hi hx hf) λv σ H Q ⟨Ha,ρ,d,h,rp,q⟩=>q _ H Ha (az.refl _) (h.put rp)⟩
def jN(K:W.Frag)(E:XK)(He H0e Hb:Hp)(tg:Ev->D->ak Ev)(s:db)(ds:ac)(D':fP)(i:Nat)(σ:L2.St)(H:Hp):Prop :=
 ∃Ha ρ,az Hb Ha/\de K He H0e Ha σ H ρ/\b9 K E He H0e Ha (c8 tg s (ds.drop i) ρ) D'
def jN.step{K:W.Frag}{Hb:Hp}{tg:Ev->D->ak Ev}{ds:ac}{D':fP}{i:Nat}{σ:L2.St}{H:Hp}{d:D}{v:V}(h:jN K E He H0e Hb tg s ds D' i σ H)(hd:ds[i]?=some d)(rv:bC K Hb d v)
  (he:∀ρ,tg ρ d=.stuck∨∃ρ',tg ρ d=.ok ρ') :
  tG K He H0e tg v σ H λσ2 H2=>tS K E He H0e s { D' with nx:=jN K E He H0e Hb tg s ds D' (i+1),ct:=jN K E He H0e Hb tg s ds D' (i+1),bk:=D'.nx } σ2 H2:=by
 obtain⟨Ha,ρ,z,h,q⟩:=h;have hi:i<ds.length:=(List.getElem?_eq_some_iff.mp hd).1;have hdr:ds.drop i=d::ds.drop (i+1):=by
  rw[List.drop_eq_getElem_cons hi];rw[List.getElem?_eq_getElem hi]at hd;cases hd;rfl
 rw[hdr]at q;refine⟨Ha,ρ,d,h,rv.mono z,?_⟩;unfold c8 at q;rcases he ρ with e1|⟨ρ1,e1⟩
 .rw[e1]at q;exact q.elim
 .rw[e1]at q ⊢
  intro σ' H' Ha' z' h';refine⟨Ha',ρ1,h',?_⟩;replace q:=b9.grow (r:=(s ρ1).bind λx=>match x with
   |.nx ρ2=>c8 tg s (ds.drop (i+1)) ρ2
   |.ct ρ2=>c8 tg s (ds.drop (i+1)) ρ2
   |.bk ρ2=>.ok (.nx ρ2)
   |.rt d=>.ok (.rt d)) q z'
  cases e2:s ρ1 with
  |stuck|exn x=>rw[e2]at q;exact q
  |ok r=>
   rw[e2]at q;cases r with|nx ρ2=>exact λσ3 H3 H03 z3 h3=>⟨H03,ρ2,(z.trans z').trans z3,h3,b9.grow (r:=c8 tg s (ds.drop (i+1)) ρ2) q z3⟩|ct ρ2=>exact λσ3 H3 H03 z3 h3=>⟨H03,ρ2,(z.trans z').trans z3,h3,b9.grow (r:=c8 tg s (ds.drop (i+1)) ρ2) q z3⟩|bk ρ2|rt d=>exact q
def jN.done{K:W.Frag}{Hb:Hp}{tg:Ev->D->ak Ev}{ds:ac}{D':fP}{σ:L2.St}{H:Hp}(h:jN K E He H0e Hb tg s ds D' ds.length σ H):D'.nx σ H:=by
 obtain⟨Ha,ρ,z,h,q⟩:=h;rw[List.drop_length]at q;unfold c8 at q;exact q σ H Ha (az.refl _) h
def tY(tg:Ev->D->ak Ev):Prop:=∀ρ d,tg ρ d=.stuck∨∃ρ',tg ρ d=.ok ρ'
def dq{i:Nat}:tY (eJ i):=λρ d=>.inr ⟨_,rfl⟩
def fb(f:cr)(tg:Ev->D->ak Ev)(s:db):db:=λρ=>(f ρ).bind λd=>match d with
 |.lst ds=>c8 tg s ds ρ
 |_=>.stuck
def dm{tgt iter:Expr}{body:List Stmt}{tg:Ev->D->ak Ev}(hp:PassesOwn (model X.prog X.w) X.A X.env X.xe)(hc:X.calm=true)(hi:DE X E iter f)(hg:DG X E He H0e tgt tg)(ht:tY tg)(hb:vh X E He H0e body s)
  (hs:∀x,foldedSetIterable iter X.env x=pure x:=by intro _;rfl):DS X E He H0e (.For tgt iter body [] pos) (fb f tg s):=by
 refine⟨?_⟩;refine cf (wm hp hc (sV hi.o) hg.o hb.o hs) λD' σ H z9=>?_;obtain⟨Ha,ρ,h,q⟩:=z9;refine⟨Ha,ρ,h.g.sub,h.rd,?_⟩
 refine plain h q λd v H1 H01 _ g rp q1=>?_;cases d with
 |lst ds=>
  obtain⟨a,vs,rfl,hv,hr⟩:=ay.mp rp;refine⟨a,rfl,⟨vs,az.sqL g.sub hv⟩,?_⟩;refine xn (K:=X.K) (a:=a) (g:=tG X.K He H0e tg) (tb:=tS X.K E He H0e s) (D:=D') (xs:=vs) (jN X.K E He H0e H01 tg s ds D') ⟨H01,ρ,az.refl _,h.grow g,q1⟩ ?_ ?_ ?_
  .rintro i σ' H' _ ⟨Ha',ρ',z,h',_⟩
   exact az.sqL (z.trans h'.g.sub) hv
  .intro i x σ' H' hx hI
   have hil:i<ds.length:=by rw[hr.length];exact(List.getElem?_eq_some_iff.mp hx).1
   obtain⟨u,e1,e2⟩:=hr.get (List.getElem?_eq_getElem hil);rw[hx]at e1;cases e1;exact hI.step (List.getElem?_eq_getElem hil) e2 λρ=>ht ρ _
  .intro σ' H' hI
   rw[←hr.length]at hI;exact hI.done
 |_=>exact q1.elim
def intsFrom(lo:Int)(n:Nat):ac:=(List.range n).map λ(k:Nat)=>D.int (lo+(k:Int))
def sN(f:cr)(tg:Ev->D->ak Ev)(s:db):db:=λρ=>(f (fB ρ)).bind λd=>match d with
 |.int j=>if -4611686018427387904<=j/\j<4611686018427387904 then c8 tg s (intsFrom 0 j.toNat) ρ else .stuck
 |_=>.stuck
def tK{tgt iter:Expr}{p pos2:Pos}{body:List Stmt}{tg:Ev->D->ak Ev}(hp:PassesOwn (model X.prog X.w) X.A X.env X.xe)(hc:X.calm=true)(hgl:Gl X "range")(hm:X.mg "range"=none)(hi:DE X E iter f)(hg:DG X E He H0e tgt tg)(ht:tY tg)(hb:vh X E He H0e body s)
  (hst:starEach [iter] X.env=[(false,eval iter X.env)]:=by exact gW rfl)(hs:∀x,foldedSetIterable (.Call (.Name "range" p) [iter] [] pos2) X.env x=pure x:=by intro _;rfl):DS X E He H0e (.For tgt (.Call (.Name "range" p) [iter] [] pos2) body [] pos) (sN f tg s):=by
 refine⟨?_⟩;refine cf (wm hp hc (uw hgl hm (bK hi.o dG hst) hst) hg.o hb.o hs) λD' σ H ⟨Ha,ρ,h,q⟩=>?_;refine⟨frz He Ha H,fB ρ,h.frz_le,h.looks,look h q λd v H1 J _ g rp q1=>?_⟩;cases d with
 |int j=>
  rw[aw.mp rp];replace q1:b9 X.K E He H0e Ha (if -4611686018427387904<=j/\j<4611686018427387904 then c8 tg s (intsFrom 0 j.toNat) ρ else .stuck) D':=q1
  by_cases hj:-4611686018427387904<=j/\j<4611686018427387904
  .rw[if_pos hj]at q1
   refine⟨j,rfl,by omega,by omega,?_⟩;have hlen:(intsFrom 0 j.toNat).length=j.toNat:=by unfold intsFrom;simp
   refine uK (lo:=0) (n:=j.toNat) (g:=tG X.K He H0e tg) (tb:=tS X.K E He H0e s) (D:=D') (jN X.K E He H0e Ha tg s (intsFrom 0 j.toNat) D') ⟨Ha,ρ,az.refl _,h.same g.s,q1⟩ ?_ ?_
   .intro i σ' H' hlt hI
    refine hI.step (d:=.int (0+i)) ?_ (aw.mpr rfl) λρ=>ht ρ _;unfold intsFrom;simp[hlt]
   .intro σ' H' hI
    exact jN.done (ds:=intsFrom 0 j.toNat) (by rw[hlen];exact hI)
  .rw[if_neg hj]at q1;exact q1.elim
 |_=>exact q1.elim
noncomputable def cu(c:cr) (s:db):Nat->db
 |0,_=>.stuck
 |n+1,ρ=>(c (fB ρ)).bind λx=>match x with
  |.bl b=>if b=true then(s ρ).bind λx=>match x with
    |.nx ρ2=>cu c s n ρ2
    |.ct ρ2=>cu c s n ρ2
    |.bk ρ2=>.ok (.nx ρ2)
    |.rt d=>.ok (.rt d)
   else .ok (.nx ρ)
  |_=>.stuck
def lG(fuel:Ev->Nat)(c:cr)(s:db):db:=λρ=>cu c s (fuel ρ) ρ
def qi(fuel:Ev->Nat){c:Expr}{body:List Stmt}{fc:cr}(hp:PassesOwn (model X.prog X.w) X.A X.env X.xe)(hc:DT X E c fc)(hb:vh X E He H0e body s):DS X E He H0e (.While c body [] pos) (lG fuel fc s):=by
 refine⟨?_⟩;refine cf (wj hp hc.o hb.o) λD' σ H ⟨Ha,ρ,h,q⟩=>?_;refine⟨λm σ H=>∃Ha ρ,de X.K He H0e Ha σ H ρ/\b9 X.K E He H0e Ha (cu fc s m ρ) D',⟨fuel ρ,Ha,ρ,h,q⟩,?_⟩;rintro m σ1 H1 ⟨H01,ρ1,h1,q1⟩;cases m with
 |zero=>exact q1.elim
 |succ m=>
  refine⟨frz He H01 H1,fB ρ1,h1.frz_le,h1.looks,?_⟩;unfold cu at q1;refine Bf (k:=λb=>if b=true then(s ρ1).bind λx=>match x with
    |.nx ρ2=>cu fc s m ρ2
    |.ct ρ2=>cu fc s m ρ2
    |.bk ρ2=>.ok (.nx ρ2)
    |.rt d=>.ok (.rt d)
   else .ok (.nx ρ1)) h1 q1 λb H2 hs q2=>?_
  cases b with
  |false=>
   rw[if_neg Bool.false_ne_true]at q2 ⊢;exact q2 σ1 H2 H01 (az.refl _) (h1.same hs)
  |true=>
   rw[if_pos rfl]at q2 ⊢;refine⟨λσ' H'=>∃m',m' < m+1/\∃Ha ρ,de X.K He H0e Ha σ' H' ρ/\b9 X.K E He H0e Ha (cu fc s m' ρ) D',λσ' H' z=>z,H01,ρ1,h1.same hs,?_⟩;cases e2:s ρ1 with
   |stuck|exn x=>rw[e2]at q2;exact q2
   |ok r=>
    rw[e2]at q2;cases r with|nx ρ2=>exact λσ3 H3 H03 z3 h3=>⟨m,Nat.lt_succ_self _,H03,ρ2,h3,b9.grow (r:=cu fc s m ρ2) q2 z3⟩|ct ρ2=>exact λσ3 H3 H03 z3 h3=>⟨m,Nat.lt_succ_self _,H03,ρ2,h3,b9.grow (r:=cu fc s m ρ2) q2 z3⟩|bk ρ2|rt d=>exact q2
end
def cy(n:Nat)(s:db)(ds:ac):ak D:=(s (ds.map Sl.sh++List.replicate (n-ds.length) .no)).bind λr=>match r with
 |.nx _=>.ok .non
 |.rt d=>.ok d
 |_=>.stuck
def fi{K:W.Frag}{Ha:Hp}{N:List Str}{ds:ac}{vs:bv}(h:Reps K Ha ds vs):dA K Ha (start N vs) (ds.map Sl.sh++List.replicate (N.length-ds.length) .no):=by
 intro i d e;have hl:=h.length
 by_cases hi:i<ds.length
 .rw[List.getElem?_append_left (by simpa using hi),List.getElem?_map]at e
  cases q:ds[i]? with
  |none=>rw[q]at e;cases e
  |some d'=>
   rw[q]at e;cases e;obtain⟨v,h1,h2⟩:=h.get q;refine⟨v,?_,h2⟩;unfold L2.start;rw[List.getElem?_append_left (by simp;omega),List.getElem?_map,h1];rfl
 .rw[List.getElem?_append_right (by simpa using hi),List.getElem?_replicate]at e
  split at e<;>cases e
def iD{ds:ac}{n:Nat}(i j:Nat)(es:ac):(ds.map Sl.sh++List.replicate n Sl.no)[i]?≠some (.ox j es):=λe=>by
 have:=List.mem_of_getElem? e;rw[List.mem_append]at this;rcases this with h|h
 .obtain⟨_,_,h⟩:=List.mem_map.mp h;cases h
 .have:=List.eq_of_mem_replicate h;cases this
def gp{ds:ac}{n:Nat}{σ:L2.St}(i:Nat)(a:Addr)(e:(ds.map Sl.sh++List.replicate n Sl.no)[i]?=some (.pt a)):σ[i]?=some (some (.ref a)):=by
 have:=List.mem_of_getElem? e;rw[List.mem_append]at this;rcases this with h|h
 .obtain⟨_,_,h⟩:=List.mem_map.mp h;cases h
 .have:=List.eq_of_mem_replicate h;cases this
def uL{P:Program}{w:World}{K:W.Frag}{mg:Str->Option Value}{base:Heap}{x qual:Str}{st:Stmt}{f:Addr}{fd:FuncData}{N ps:List Str}{k:Nat}{s:db}(F:ym K x qual st f fd)(S:eA N ps (defScope st))
  (hbody:∀(cdv:Value) (A:Around) (outer:List PySem.Env) (s0:Shared) (H Ha:Hp) (E:XK),cn k (A.deeper (envOfC qual (defScope st) s0.heap.objs.size f cdv)) ->
   vh (dU CX0 P w K mg base N qual (defScope st) f cdv A outer s0 H E).nox E H Ha (defBody st) s):FnOk P w K mg base CX0 (k+1) f fd ps (spD K ps.length (cy N.length s)):=by
 have hpl:ps.length<=N.length:=by have:=congrArg List.length S.pre;rw[List.length_take]at this;omega
 refine F.ok S (λvs H Q E h=>h.1) λcdv A outer s0 H vs Q E hr h=>?_;obtain⟨hn,Ha,ds,hs,hv,q⟩:=h;refine⟨_,(hbody cdv A outer s0 H Ha E hr).o,Ha,ds.map Sl.sh++List.replicate (N.length-ds.length) .no,?_,?_⟩
 .refine⟨br.refl hs,fi hv,λi d e=>?_,λi j d d' hij e=>?_,?_,OX.none iD gp⟩
  .by_cases hi:i<ds.length
   .rw[List.getElem?_append_left (by simpa using hi),List.getElem?_map]at e
    cases q:ds[i]? with|none|some d'=>rw[q]at e;cases e
   .rw[List.getElem?_append_right (by simpa using hi),List.getElem?_replicate]at e
    split at e<;>cases e
  .by_cases hi:i<ds.length
   .rw[List.getElem?_append_left (by simpa using hi),List.getElem?_map]at e
    cases q:ds[i]? with|none|some d'=>rw[q]at e;cases e
   .rw[List.getElem?_append_right (by simpa using hi),List.getElem?_replicate]at e
    split at e<;>cases e
  .unfold L2.start
   have:=hv.length;simp only[List.length_append,List.length_map,List.length_replicate];omega
 .unfold cy at q
  cases e1:s (ds.map Sl.sh++List.replicate (N.length-ds.length) .no) with
  |stuck|exn x=>rw[e1]at q;exact q
  |ok r=>
   rw[e1]at q;cases r with|nx ρ'=>exact λσ' H' Ha' _ h'=>q .non H' Ha' h'.g (aK.mpr rfl)|rt d=>exact λv H' Ha' g rp=>q v H' Ha' g rp|bk ρ'|ct ρ'=>exact q.elim
mutual
def c7:D->D->Bool
 |.non,.non=>true
 |.bl a,.bl b=>a==b
 |.bl a,.int b=>(if a then 1 else 0)==b
 |.int a,.bl b=>a==(if b then 1 else 0)
 |.int a,.int b=>a==b
 |.str a,.str b=>a==b
 |.tup xs,.tup ys=>eqDs xs ys
 |.lst xs,.lst ys=>eqDs xs ys
 |_,_=>false
def eqDs:ac->ac->Bool
 |[],[]=>true
 |x::xs,y::ys=>c7 x y&&eqDs xs ys
 |_,_=>false
end
def bp:Nat->D->Bool
 |_,.non=>true
 |_,.bl _=>true
 |_,.int _=>true
 |_,.str _=>true
 |n+1,.tup ds=>ds.all (bp n)
 |n+1,.lst ds=>ds.all (bp n)
 |_,_=>false
def nk{ds:ac}(h:∀d∈ds,c7 d d=true):eqDs ds ds=true:=by
 induction ds with
 |nil=>simp[eqDs]
 |cons d r ih=>
  unfold eqDs;rw[h d List.mem_cons_self,ih λx hx=>h x (List.mem_cons_of_mem _ hx)];rfl
theorem h9:∀(n:Nat) (d:D),bp n d=true->c7 d d=true
 |_,.non,_=>by simp[c7]
 |_,.bl b,_=>by simp[c7]
 |_,.int b,_=>by simp[c7]
 |_,.str b,_=>by simp[c7]
 |n+1,.tup ds,h=>by
  unfold bp at h;unfold c7;exact nk λd hd=>h9 n d (List.all_eq_true.mp h d hd)
 |n+1,.lst ds,h=>by
  unfold bp at h;unfold c7;exact nk λd hd=>h9 n d (List.all_eq_true.mp h d hd)
 |0,.tup ds,h=>by unfold bp at h;cases h
 |0,.lst ds,h=>by unfold bp at h;cases h
 |0,.dic ks ds,h=>by unfold bp at h;cases h
 |n+1,.dic ks ds,h=>by unfold bp at h;cases h
 |0,.exc x,h=>by unfold bp at h;cases h
 |0,.ob k x,h=>by unfold bp at h;cases h
 |n+1,.ob k x,h=>by unfold bp at h;cases h
 |n+1,.exc x,h=>by unfold bp at h;cases h
def Au{xs ys:ac}:c7 (.tup xs) (.tup ys)=eqDs xs ys:=by rw[c7]
def tH{xs ys:ac}:c7 (.lst xs) (.lst ys)=eqDs xs ys:=by rw[c7]
theorem jg:∀(xs ys:ac),xs.length=ys.length->eqDs xs ys=(List.range xs.length).all λj=>c7 (xs.getD j .non) (ys.getD j .non)
 |[],[],_=>by simp[eqDs]
 |x::xs,y::ys,h=>by
  have ih:=jg xs ys (by simpa using h);unfold eqDs;rw[ih,List.length_cons,List.range_succ_eq_map,List.all_cons,List.all_map];rfl
 |[],_::_,h=>by simp at h
 |_::_,[],h=>by simp at h
theorem l4:∀(xs ys:ac),xs.length≠ys.length->eqDs xs ys=false
 |[],[],h=>absurd rfl h
 |x::xs,y::ys,h=>by
  unfold eqDs;rw[l4 xs ys (by simpa using h),Bool.and_false]
 |[],_::_,h=>by simp[eqDs]
 |_::_,[],h=>by simp[eqDs]
section
variable {X:Cx}{pins:List (Addr×Obj)}{σ:L2.St}{H:Hp}{s:Shared}
def aZ(I:Inv X pins σ H s){ds:ac}{v:V}{u:Value}(r:bC X.K H (.tup ds) v)(rv:bh v u):∃a vs its,v=.ref a/\u=.ref a/\gk X.K H a vs/\Reps X.K H ds vs/\aY vs its/\IsTup s.heap a its.toArray/\ds.length=its.length:=by
 obtain⟨a,vs,rfl,h1,h2⟩:=aG.mp r;obtain rfl:u=Value.ref a:=rv;obtain⟨its,h3,h4,_⟩:=I.tuple h1;exact⟨a,vs,its,rfl,rfl,h1,h2,h3,h4,h2.length.trans h3.length⟩
def aX(I:Inv X pins σ H s){ds:ac}{v:V}{u:Value}(r:bC X.K H (.lst ds) v)(rv:bh v u):∃a vs its,v=.ref a/\u=.ref a/\dF X.K H a vs/\Reps X.K H ds vs/\aY vs its/\s.heap.IsList a its.toArray/\ds.length=its.length:=by
 obtain⟨a,vs,rfl,h1,h2⟩:=ay.mp r;obtain rfl:u=Value.ref a:=rv;obtain⟨its,h3,h4,_⟩:=I.list h1;exact⟨a,vs,its,rfl,rfl,h1,h2,h3,h4.isList,h2.length.trans h3.length⟩
theorem lJ{n:Nat}(ih:∀(d d':D) (v:V),bp n d=true->bp n d'=true->bC X.K H d v->bC X.K H d' v->d=d'):∀(ds ds':ac) (vs:bv),ds.all (bp n)=true->ds'.all (bp n)=true->Reps X.K H ds vs->Reps X.K H ds' vs->ds=ds'
 |[],ds',vs,_,_,h,h'=>by
  rw[Reps.nil_iff.mp h]at h';cases ds' with|nil=>rfl|cons d r=>obtain⟨_,_,e,_⟩:=aA.mp h';cases e
 |d::ds,ds',vs,a,a',h,h'=>by
  obtain⟨v,r,rfl,h1,h2⟩:=aA.mp h;cases ds' with
  |nil=>cases Reps.nil_iff.mp h'
  |cons d' ds'=>
   obtain⟨v',r',e,h1',h2'⟩:=aA.mp h';cases e;rw[List.all_cons,Bool.and_eq_true]at a a';rw[ih d d' v a.1 a'.1 h1 h1',lJ ih ds ds' r a.2 a'.2 h2 h2']
def bC.inj(I:Inv X pins σ H s):∀(n:Nat) (d d':D) (v:V),bp n d=true->bp n d'=true->bC X.K H d v->bC X.K H d' v->d=d':=by
 have atom:∀(n:Nat) (d d':D) (v:V),(∀ds,d≠.tup ds)->(∀ds,d≠.lst ds)->bp n d=true->bp n d'=true->bC X.K H d v->bC X.K H d' v->d=d':=by
  intro n d d' v n1 n2 s1 s2 h h';have nd:∀m ks ds,bp m (.dic ks ds)=true->False:=λm ks ds h=>by cases m<;>(unfold bp at h;cases h)
  have nx:∀m x,bp m (.exc x)=true->False:=λm x h=>by cases m<;>(unfold bp at h;cases h)
  have nb:∀m k x,bp m (.ob k x)=true->False:=λm k x h=>by cases m<;>(unfold bp at h;cases h)
  cases d with
  |tup ds=>exact absurd rfl (n1 ds)|lst ds=>exact absurd rfl (n2 ds)|dic ks ds=>exact(nd _ _ _ s1).elim|exc x=>exact(nx _ _ s1).elim|ob k x=>exact(nb _ _ _ s1).elim
  |non=>
   rw[aK.mp h]at h';cases d' with|non=>rfl|bl b=>cases aE.mp h'|int b=>cases aw.mp h'|str b=>cases aF.mp h'|tup ds=>obtain⟨_,_,e,_⟩:=aG.mp h';cases e|lst ds=>obtain⟨_,_,e,_⟩:=ay.mp h';cases e|dic ks ds=>exact(nd _ _ _ s2).elim|exc x=>exact(nx _ _ s2).elim|ob k x=>exact(nb _ _ _ s2).elim
  |bl x=>
   rw[aE.mp h]at h';cases d' with|non=>cases aK.mp h'|bl b=>cases aE.mp h';rfl|int b=>cases aw.mp h'|str b=>cases aF.mp h'|tup ds=>obtain⟨_,_,e,_⟩:=aG.mp h';cases e|lst ds=>obtain⟨_,_,e,_⟩:=ay.mp h';cases e|dic ks ds=>exact(nd _ _ _ s2).elim|exc x=>exact(nx _ _ s2).elim|ob k x=>exact(nb _ _ _ s2).elim
  |int x=>
   rw[aw.mp h]at h';cases d' with|non=>cases aK.mp h'|bl b=>cases aE.mp h'|int b=>cases aw.mp h';rfl|str b=>cases aF.mp h'|tup ds=>obtain⟨_,_,e,_⟩:=aG.mp h';cases e|lst ds=>obtain⟨_,_,e,_⟩:=ay.mp h';cases e|dic ks ds=>exact(nd _ _ _ s2).elim|exc x=>exact(nx _ _ s2).elim|ob k x=>exact(nb _ _ _ s2).elim
  |str x=>
   rw[aF.mp h]at h';cases d' with|non=>cases aK.mp h'|bl b=>cases aE.mp h'|int b=>cases aw.mp h'|str b=>cases aF.mp h';rfl|tup ds=>obtain⟨_,_,e,_⟩:=aG.mp h';cases e|lst ds=>obtain⟨_,_,e,_⟩:=ay.mp h';cases e|dic ks ds=>exact(nd _ _ _ s2).elim|exc x=>exact(nx _ _ s2).elim|ob k x=>exact(nb _ _ _ s2).elim
 intro n
 induction n with
 |zero=>
  intro d d' v s1 s2 h h';exact atom 0 d d' v (λds e=>by subst e;unfold bp at s1;cases s1) (λds e=>by subst e;unfold bp at s1;cases s1) s1 s2 h h'
 |succ n ih=>
  intro d d' v s1 s2 h h'
  by_cases t1:∃ds,d=.tup ds
  .obtain⟨ds,rfl⟩:=t1
   by_cases t2:∃ds',d'=.tup ds'
   .obtain⟨ds',rfl⟩:=t2
    obtain⟨a,vs,rfl,h1,h2⟩:=aG.mp h;obtain⟨a',vs',e,h1',h2'⟩:=aG.mp h';cases e;rw[I.tuple_inj h1' h1]at h2';unfold bp at s1 s2;rw[lJ ih ds ds' vs s1 s2 h2 h2']
   .by_cases t3:∃ds',d'=.lst ds'
    .obtain⟨ds',rfl⟩:=t3
     obtain⟨a0,_,ev,_,_⟩:=aG.mp h;subst ev;obtain⟨a,vs,its,ea,_,h1,h2,h3,h4,_⟩:=aZ I h rfl;cases ea;obtain⟨a',vs',its',e,_,h1',h2',h3',h4',_⟩:=aX I h' rfl;cases e;exact absurd rfl (SeqAt.ne_of_list_tuple h4' h4)
    .exact(atom (n+1) d' _ v (λds e=>t2 ⟨ds,e⟩) (λds e=>t3 ⟨ds,e⟩) s2 s1 h' h).symm
  .by_cases t1':∃ds,d=.lst ds
   .obtain⟨ds,rfl⟩:=t1'
    by_cases t2:∃ds',d'=.lst ds'
    .obtain⟨ds',rfl⟩:=t2
     obtain⟨a,vs,rfl,h1,h2⟩:=ay.mp h;obtain⟨a',vs',e,h1',h2'⟩:=ay.mp h';cases e;rw[I.list_inj h1' h1]at h2';unfold bp at s1 s2;rw[lJ ih ds ds' vs s1 s2 h2 h2']
    .by_cases t3:∃ds',d'=.tup ds'
     .obtain⟨ds',rfl⟩:=t3
      obtain⟨a0,_,ev,_,_⟩:=ay.mp h;subst ev;obtain⟨a,vs,its,ea,_,h1,h2,h3,h4,_⟩:=aX I h rfl;cases ea;obtain⟨a',vs',its',e,_,h1',h2',h3',h4',_⟩:=aZ I h' rfl;cases e;exact absurd rfl (SeqAt.ne_of_list_tuple h4 h4')
     .exact(atom (n+1) d' _ v (λds e=>t3 ⟨ds,e⟩) (λds e=>t2 ⟨ds,e⟩) s2 s1 h' h).symm
   .exact atom (n+1) d d' v (λds e=>t1 ⟨ds,e⟩) (λds e=>t1' ⟨ds,e⟩) s1 s2 h h'
def pT{n:Nat}{A:Around}{xs ys:ac}{vs us:bv}{is js:List Value}
  (ih:∀(x y:D) (v u:V) (a b:Value),bp n x=true->bp n y=true->bC X.K H x v->bC X.K H y u->bh v a->bh u b->SeqAt.EqAt A.in1 s a b (c7 x y))
  (sx:xs.all (bp n)=true)(sy:ys.all (bp n)=true)(rx:Reps X.K H xs vs)(ry:Reps X.K H ys us)(qx:aY vs is)(qy:aY us js) :
  ∀j (h1:j<is.toArray.size) (h2:j<js.toArray.size),SeqAt.EqAt A.in1 s is.toArray[j] js.toArray[j] (c7 (xs.getD j .non) (ys.getD j .non)):=by
 intro j h1 h2;have lx:=rx.length;have ly:=ry.length;have kx:=qx.length;have ky:=qy.length;have h1':j<is.length:=by simpa using h1
 have h2':j<js.length:=by simpa using h2
 have hx:j<xs.length:=by omega
 have hy:j<ys.length:=by omega
 obtain⟨v,e1,r1⟩:=rx.get (List.getElem?_eq_getElem hx);obtain⟨u,e2,r2⟩:=ry.get (List.getElem?_eq_getElem hy);obtain⟨a,e3,r3⟩:=qx.get e1;obtain⟨b,e4,r4⟩:=qy.get e2;have ea:is.toArray[j]=a:=by
  rw[List.getElem?_eq_getElem h1']at e3;simpa using Option.some.inj e3
 have eb:js.toArray[j]=b:=by
  rw[List.getElem?_eq_getElem h2']at e4;simpa using Option.some.inj e4
 rw[ea,eb];have gx:xs.getD j .non=xs[j]:=by simp[List.getD,List.getElem?_eq_getElem hx]
 have gy:ys.getD j .non=ys[j]:=by simp[List.getD,List.getElem?_eq_getElem hy]
 rw[gx,gy];exact ih _ _ v u a b (List.all_eq_true.mp sx _ (List.getElem_mem hx)) (List.all_eq_true.mp sy _ (List.getElem_mem hy)) r1 r2 r3 r4
def pq(I:Inv X pins σ H s){A:Around}(hu:A.units<cLine){x y:D}{v u:V}{a b:Value}(rx:bC X.K H x v)(ry:bC X.K H y u)(qx:bh v a)(qy:bh u b)
  (n1:∀ds ds',¬(x=.lst ds/\y=.lst ds'))(n2:∀ds ds',¬(x=.tup ds/\y=.tup ds'))(d1:∀ks ds,x≠.dic ks ds)(d2:∀ks ds,y≠.dic ks ds)(x1:∀c,x≠.exc c)(x2:∀c,y≠.exc c)(o1:∀k c,x≠.ob k c)(o2:∀k c,y≠.ob k c) :
  SeqAt.RcAt A s a b (c7 x y)/\SeqAt.EqAt A s a b (c7 x y)/\SeqAt.RcNeAt A s a b (!(c7 x y)):=by
 cases x with
 |non=>
  cases y with
  |non=>
   obtain rfl:=aK.mp rx;obtain rfl:a=Value.none:=qx;obtain rfl:=aK.mp ry;obtain rfl:b=Value.none:=qy;unfold c7;exact⟨SeqAt.RcAt.none_none ,SeqAt.EqAt.same _,SeqAt.RcNeAt.none_none ⟩
  |bl y=>
   obtain rfl:=aK.mp rx;obtain rfl:a=Value.none:=qx;obtain rfl:=aE.mp ry;obtain rfl:b=Value.bool _:=qy;unfold c7;exact⟨SeqAt.RcAt.none_bool _,SeqAt.EqAt.none_bool _,SeqAt.RcNeAt.none_bool _⟩
  |int y=>
   obtain rfl:=aK.mp rx;obtain rfl:a=Value.none:=qx;obtain rfl:=aw.mp ry;obtain⟨ty,rfl⟩:∃t,b=Value.int _ t:=qy;unfold c7;exact⟨SeqAt.RcAt.none_int _ _,SeqAt.EqAt.none_int _ _,SeqAt.RcNeAt.none_int _ _⟩
  |str y=>
   obtain rfl:=aK.mp rx;obtain rfl:a=Value.none:=qx;obtain rfl:=aF.mp ry;obtain⟨ty,rfl⟩:∃t,b=Value.str _ t:=qy;unfold c7;exact⟨SeqAt.RcAt.none_str _ _,SeqAt.EqAt.none_str _ _,SeqAt.RcNeAt.none_str _ _⟩
  |lst y=>
   obtain rfl:=aK.mp rx;obtain rfl:a=Value.none:=qx;obtain⟨ly,_,_,rfl,rfl,_,_,_,hy,_⟩:=aX I ry qy;unfold c7;exact⟨SeqAt.RcAt.none_list  hy hu,SeqAt.EqAt.none_list  hy hu,SeqAt.RcNeAt.none_list  hy hu⟩
  |tup y=>
   obtain rfl:=aK.mp rx;obtain rfl:a=Value.none:=qx;obtain⟨ly,_,_,rfl,rfl,_,_,_,hy,_⟩:=aZ I ry qy;unfold c7;exact⟨SeqAt.RcAt.none_tuple  hy hu,SeqAt.EqAt.none_tuple  hy hu,SeqAt.RcNeAt.none_tuple  hy hu⟩
  |dic ks ds=>exact absurd rfl (d2 ks ds)|exc c=>exact absurd rfl (x2 c)|ob k c=>exact absurd rfl (o2 k c)
 |bl x=>
  cases y with
  |non=>
   obtain rfl:=aE.mp rx;obtain rfl:a=Value.bool _:=qx;obtain rfl:=aK.mp ry;obtain rfl:b=Value.none:=qy;unfold c7;exact⟨SeqAt.RcAt.bool_none _,SeqAt.EqAt.bool_none _,SeqAt.RcNeAt.bool_none _⟩
  |bl y=>
   obtain rfl:=aE.mp rx;obtain rfl:a=Value.bool _:=qx;obtain rfl:=aE.mp ry;obtain rfl:b=Value.bool _:=qy;unfold c7;exact⟨SeqAt.RcAt.bool_bool _ _,SeqAt.EqAt.bool_bool _ _,SeqAt.RcNeAt.bool_bool _ _⟩
  |int y=>
   obtain rfl:=aE.mp rx;obtain rfl:a=Value.bool _:=qx;obtain rfl:=aw.mp ry;obtain⟨ty,rfl⟩:∃t,b=Value.int _ t:=qy;unfold c7;exact⟨SeqAt.RcAt.bool_int _ _ _,SeqAt.EqAt.bool_int _ _ _,SeqAt.RcNeAt.bool_int _ _ _⟩
  |str y=>
   obtain rfl:=aE.mp rx;obtain rfl:a=Value.bool _:=qx;obtain rfl:=aF.mp ry;obtain⟨ty,rfl⟩:∃t,b=Value.str _ t:=qy;unfold c7;exact⟨SeqAt.RcAt.bool_str _ _ _,SeqAt.EqAt.bool_str _ _ _,SeqAt.RcNeAt.bool_str _ _ _⟩
  |lst y=>
   obtain rfl:=aE.mp rx;obtain rfl:a=Value.bool _:=qx;obtain⟨ly,_,_,rfl,rfl,_,_,_,hy,_⟩:=aX I ry qy;unfold c7;exact⟨SeqAt.RcAt.bool_list _ hy hu,SeqAt.EqAt.bool_list _ hy hu,SeqAt.RcNeAt.bool_list _ hy hu⟩
  |tup y=>
   obtain rfl:=aE.mp rx;obtain rfl:a=Value.bool _:=qx;obtain⟨ly,_,_,rfl,rfl,_,_,_,hy,_⟩:=aZ I ry qy;unfold c7;exact⟨SeqAt.RcAt.bool_tuple _ hy hu,SeqAt.EqAt.bool_tuple _ hy hu,SeqAt.RcNeAt.bool_tuple _ hy hu⟩
  |dic ks ds=>exact absurd rfl (d2 ks ds)|exc c=>exact absurd rfl (x2 c)|ob k c=>exact absurd rfl (o2 k c)
 |int x=>
  cases y with
  |non=>
   obtain rfl:=aw.mp rx;obtain⟨tx,rfl⟩:∃t,a=Value.int _ t:=qx;obtain rfl:=aK.mp ry;obtain rfl:b=Value.none:=qy;unfold c7;exact⟨SeqAt.RcAt.int_none _ _,SeqAt.EqAt.int_none _ _,SeqAt.RcNeAt.int_none _ _⟩
  |bl y=>
   obtain rfl:=aw.mp rx;obtain⟨tx,rfl⟩:∃t,a=Value.int _ t:=qx;obtain rfl:=aE.mp ry;obtain rfl:b=Value.bool _:=qy;unfold c7;exact⟨SeqAt.RcAt.int_bool _ _ _,SeqAt.EqAt.int_bool _ _ _,SeqAt.RcNeAt.int_bool _ _ _⟩
  |int y=>
   obtain rfl:=aw.mp rx;obtain⟨tx,rfl⟩:∃t,a=Value.int _ t:=qx;obtain rfl:=aw.mp ry;obtain⟨ty,rfl⟩:∃t,b=Value.int _ t:=qy;unfold c7;exact⟨SeqAt.RcAt.int_int _ _ _ _,SeqAt.EqAt.int_int _ _ _ _,SeqAt.RcNeAt.int_int _ _ _ _⟩
  |str y=>
   obtain rfl:=aw.mp rx;obtain⟨tx,rfl⟩:∃t,a=Value.int _ t:=qx;obtain rfl:=aF.mp ry;obtain⟨ty,rfl⟩:∃t,b=Value.str _ t:=qy;unfold c7;exact⟨SeqAt.RcAt.int_str _ _ _ _,SeqAt.EqAt.int_str _ _ _ _,SeqAt.RcNeAt.int_str _ _ _ _⟩
  |lst y=>
   obtain rfl:=aw.mp rx;obtain⟨tx,rfl⟩:∃t,a=Value.int _ t:=qx;obtain⟨ly,_,_,rfl,rfl,_,_,_,hy,_⟩:=aX I ry qy;unfold c7;exact⟨SeqAt.RcAt.int_list _ _ hy hu,SeqAt.EqAt.int_list _ _ hy hu,SeqAt.RcNeAt.int_list _ _ hy hu⟩
  |tup y=>
   obtain rfl:=aw.mp rx;obtain⟨tx,rfl⟩:∃t,a=Value.int _ t:=qx;obtain⟨ly,_,_,rfl,rfl,_,_,_,hy,_⟩:=aZ I ry qy;unfold c7;exact⟨SeqAt.RcAt.int_tuple _ _ hy hu,SeqAt.EqAt.int_tuple _ _ hy hu,SeqAt.RcNeAt.int_tuple _ _ hy hu⟩
  |dic ks ds=>exact absurd rfl (d2 ks ds)|exc c=>exact absurd rfl (x2 c)|ob k c=>exact absurd rfl (o2 k c)
 |str x=>
  cases y with
  |non=>
   obtain rfl:=aF.mp rx;obtain⟨tx,rfl⟩:∃t,a=Value.str _ t:=qx;obtain rfl:=aK.mp ry;obtain rfl:b=Value.none:=qy;unfold c7;exact⟨SeqAt.RcAt.str_none _ _,SeqAt.EqAt.str_none _ _,SeqAt.RcNeAt.str_none _ _⟩
  |bl y=>
   obtain rfl:=aF.mp rx;obtain⟨tx,rfl⟩:∃t,a=Value.str _ t:=qx;obtain rfl:=aE.mp ry;obtain rfl:b=Value.bool _:=qy;unfold c7;exact⟨SeqAt.RcAt.str_bool _ _ _,SeqAt.EqAt.str_bool _ _ _,SeqAt.RcNeAt.str_bool _ _ _⟩
  |int y=>
   obtain rfl:=aF.mp rx;obtain⟨tx,rfl⟩:∃t,a=Value.str _ t:=qx;obtain rfl:=aw.mp ry;obtain⟨ty,rfl⟩:∃t,b=Value.int _ t:=qy;unfold c7;exact⟨SeqAt.RcAt.str_int _ _ _ _,SeqAt.EqAt.str_int _ _ _ _,SeqAt.RcNeAt.str_int _ _ _ _⟩
  |str y=>
   obtain rfl:=aF.mp rx;obtain⟨tx,rfl⟩:∃t,a=Value.str _ t:=qx;obtain rfl:=aF.mp ry;obtain⟨ty,rfl⟩:∃t,b=Value.str _ t:=qy;unfold c7;exact⟨SeqAt.RcAt.str_str _ _ _ _,SeqAt.EqAt.str_str _ _ _ _,SeqAt.RcNeAt.str_str _ _ _ _⟩
  |lst y=>
   obtain rfl:=aF.mp rx;obtain⟨tx,rfl⟩:∃t,a=Value.str _ t:=qx;obtain⟨ly,_,_,rfl,rfl,_,_,_,hy,_⟩:=aX I ry qy;unfold c7;exact⟨SeqAt.RcAt.str_list _ _ hy hu,SeqAt.EqAt.str_list _ _ hy hu,SeqAt.RcNeAt.str_list _ _ hy hu⟩
  |tup y=>
   obtain rfl:=aF.mp rx;obtain⟨tx,rfl⟩:∃t,a=Value.str _ t:=qx;obtain⟨ly,_,_,rfl,rfl,_,_,_,hy,_⟩:=aZ I ry qy;unfold c7;exact⟨SeqAt.RcAt.str_tuple _ _ hy hu,SeqAt.EqAt.str_tuple _ _ hy hu,SeqAt.RcNeAt.str_tuple _ _ hy hu⟩
  |dic ks ds=>exact absurd rfl (d2 ks ds)|exc c=>exact absurd rfl (x2 c)|ob k c=>exact absurd rfl (o2 k c)
 |lst x=>
  cases y with
  |non=>
   obtain⟨lx,_,_,rfl,rfl,_,_,_,hx,_⟩:=aX I rx qx;obtain rfl:=aK.mp ry;obtain rfl:b=Value.none:=qy;unfold c7;exact⟨SeqAt.RcAt.list_none  hx hu,SeqAt.EqAt.list_none  hx hu,SeqAt.RcNeAt.list_none  hx hu⟩
  |bl y=>
   obtain⟨lx,_,_,rfl,rfl,_,_,_,hx,_⟩:=aX I rx qx;obtain rfl:=aE.mp ry;obtain rfl:b=Value.bool _:=qy;unfold c7;exact⟨SeqAt.RcAt.list_bool _ hx hu,SeqAt.EqAt.list_bool _ hx hu,SeqAt.RcNeAt.list_bool _ hx hu⟩
  |int y=>
   obtain⟨lx,_,_,rfl,rfl,_,_,_,hx,_⟩:=aX I rx qx;obtain rfl:=aw.mp ry;obtain⟨ty,rfl⟩:∃t,b=Value.int _ t:=qy;unfold c7;exact⟨SeqAt.RcAt.list_int _ _ hx hu,SeqAt.EqAt.list_int _ _ hx hu,SeqAt.RcNeAt.list_int _ _ hx hu⟩
  |str y=>
   obtain⟨lx,_,_,rfl,rfl,_,_,_,hx,_⟩:=aX I rx qx;obtain rfl:=aF.mp ry;obtain⟨ty,rfl⟩:∃t,b=Value.str _ t:=qy;unfold c7;exact⟨SeqAt.RcAt.list_str _ _ hx hu,SeqAt.EqAt.list_str _ _ hx hu,SeqAt.RcNeAt.list_str _ _ hx hu⟩
  |lst y=>
   exact absurd ⟨rfl,rfl⟩ (n1 x y)
  |tup y=>
   obtain⟨lx,_,_,rfl,rfl,_,_,_,hx,_⟩:=aX I rx qx;obtain⟨ly,_,_,rfl,rfl,_,_,_,hy,_⟩:=aZ I ry qy;unfold c7;exact⟨SeqAt.RcAt.list_tuple  hx hy hu,SeqAt.EqAt.list_tuple  hx hy hu,SeqAt.RcNeAt.list_tuple  hx hy hu⟩
  |dic ks ds=>exact absurd rfl (d2 ks ds)|exc c=>exact absurd rfl (x2 c)|ob k c=>exact absurd rfl (o2 k c)
 |tup x=>
  cases y with
  |non=>
   obtain⟨lx,_,_,rfl,rfl,_,_,_,hx,_⟩:=aZ I rx qx;obtain rfl:=aK.mp ry;obtain rfl:b=Value.none:=qy;unfold c7;exact⟨SeqAt.RcAt.tuple_none  hx hu,SeqAt.EqAt.tuple_none  hx hu,SeqAt.RcNeAt.tuple_none  hx hu⟩
  |bl y=>
   obtain⟨lx,_,_,rfl,rfl,_,_,_,hx,_⟩:=aZ I rx qx;obtain rfl:=aE.mp ry;obtain rfl:b=Value.bool _:=qy;unfold c7;exact⟨SeqAt.RcAt.tuple_bool _ hx hu,SeqAt.EqAt.tuple_bool _ hx hu,SeqAt.RcNeAt.tuple_bool _ hx hu⟩
  |int y=>
   obtain⟨lx,_,_,rfl,rfl,_,_,_,hx,_⟩:=aZ I rx qx;obtain rfl:=aw.mp ry;obtain⟨ty,rfl⟩:∃t,b=Value.int _ t:=qy;unfold c7;exact⟨SeqAt.RcAt.tuple_int _ _ hx hu,SeqAt.EqAt.tuple_int _ _ hx hu,SeqAt.RcNeAt.tuple_int _ _ hx hu⟩
  |str y=>
   obtain⟨lx,_,_,rfl,rfl,_,_,_,hx,_⟩:=aZ I rx qx;obtain rfl:=aF.mp ry;obtain⟨ty,rfl⟩:∃t,b=Value.str _ t:=qy;unfold c7;exact⟨SeqAt.RcAt.tuple_str _ _ hx hu,SeqAt.EqAt.tuple_str _ _ hx hu,SeqAt.RcNeAt.tuple_str _ _ hx hu⟩
  |lst y=>
   obtain⟨lx,_,_,rfl,rfl,_,_,_,hx,_⟩:=aZ I rx qx;obtain⟨ly,_,_,rfl,rfl,_,_,_,hy,_⟩:=aX I ry qy;unfold c7;exact⟨SeqAt.RcAt.tuple_list  hx hy hu,SeqAt.EqAt.tuple_list  hx hy hu,SeqAt.RcNeAt.tuple_list  hx hy hu⟩
  |tup y=>
   exact absurd ⟨rfl,rfl⟩ (n2 x y)
  |dic ks ds=>exact absurd rfl (d2 ks ds)|exc c=>exact absurd rfl (x2 c)|ob k c=>exact absurd rfl (o2 k c)
 |dic ks ds=>exact absurd rfl (d1 ks ds)
 |exc c=>exact absurd rfl (x1 c)
 |ob k c=>exact absurd rfl (o1 k c)
def Ef(I:Inv X pins σ H s):∀(n:Nat) (A:Around),A.units+n<cLine->∀(x y:D) (v u:V) (a b:Value),bp n x=true->bp n y=true->bC X.K H x v->bC X.K H y u->bh v a->bh u b ->
  SeqAt.RcAt A s a b (c7 x y)/\SeqAt.EqAt A s a b (c7 x y)/\SeqAt.RcNeAt A s a b (!(c7 x y)):=by
 have nd:∀m ks ds,bp m (.dic ks ds)=true->False:=λm ks ds h=>by cases m<;>(unfold bp at h;cases h)
 have nx:∀m x,bp m (.exc x)=true->False:=λm x h=>by cases m<;>(unfold bp at h;cases h)
 have nb:∀m k x,bp m (.ob k x)=true->False:=λm k x h=>by cases m<;>(unfold bp at h;cases h)
 intro n
 induction n with
 |zero=>
  intro A hu x y v u a b sx sy rx ry qa qb;refine pq I (by omega) rx ry qa qb (λds ds' z=>?_) (λds ds' z=>?_) (λks ds z=>?_) (λks ds z=>?_) (λc z=>nx _ _ (z▸sx)) (λc z=>nx _ _ (z▸sy)) (λk c z=>nb _ _ _ (z▸sx)) (λk c z=>nb _ _ _ (z▸sy))
  .rw[z.1]at sx;unfold bp at sx;cases sx
  .rw[z.1]at sx;unfold bp at sx;cases sx
  .rw[z]at sx;exact nd _ _ _ sx
  .rw[z]at sy;exact nd _ _ _ sy
 |succ n ih=>
  intro A hu x y v u a b sx sy rx ry qa qb;have ih':∀(x y:D) (v u:V) (a b:Value),bp n x=true->bp n y=true->bC X.K H x v->bC X.K H y u->bh v a->bh u b->SeqAt.EqAt A.in1 s a b (c7 x y) :=
   λx y v u a b s1 s2 r1 r2 q1 q2=>(ih A.in1 (by show A.units+1+n<cLine;omega) x y v u a b s1 s2 r1 r2 q1 q2).2.1
  by_cases t1:∃ds ds',x=.tup ds/\y=.tup ds'
  .obtain⟨xs,ys,rfl,rfl⟩:=t1
   obtain⟨l,vs,is,rfl,rfl,h1,h2,h3,h4,h5⟩:=aZ I rx qa;obtain⟨m,us,js,rfl,rfl,k1,k2,k3,k4,k5⟩:=aZ I ry qb;have hsx:=sx;have hsy:=sy;unfold bp at sx sy;have each:=pT (A:=A) ih' sx sy h2 k2 h3 k3;have eall:c7 (.tup xs) (.tup ys)=((List.range (min is.toArray.size js.toArray.size)).all (λj=>c7 (xs.getD j .non) (ys.getD j .non))&&is.toArray.size==js.toArray.size):=by
    rw[Au];simp only[List.size_toArray,←h5,←k5]
    by_cases hl:xs.length=ys.length
    .rw[jg xs ys hl,←hl,Nat.min_self,beq_self_eq_true,Bool.and_true]
    .rw[l4 xs ys hl,beq_eq_false_iff_ne.mpr hl,Bool.and_false]
   refine⟨?_,?_,?_⟩
   .rw[eall];exact SeqAt.RcAt.tuples h4 k4 (by omega) each
   .by_cases hlm:l=m
    .subst hlm
     rw[bC.inj I (n+1) _ _ _ hsx hsy rx ry,h9 (n+1) _ hsy];exact SeqAt.EqAt.same _
    .refine SeqAt.EqAt.of_refs hlm ?_
     rw[eall];exact SeqAt.RcAt.tuples h4 k4 (by omega) each
   .rw[eall];exact SeqAt.RcNeAt.tuples h4 k4 (by omega) each
  .by_cases t2:∃ds ds',x=.lst ds/\y=.lst ds'
   .obtain⟨xs,ys,rfl,rfl⟩:=t2
    obtain⟨l,vs,is,rfl,rfl,h1,h2,h3,h4,h5⟩:=aX I rx qa;obtain⟨m,us,js,rfl,rfl,k1,k2,k3,k4,k5⟩:=aX I ry qb;have hsx:=sx;have hsy:=sy;unfold bp at sx sy;have each:=pT (A:=A) ih' sx sy h2 k2 h3 k3
    by_cases hl:xs.length=ys.length
    .have hsz:is.toArray.size=js.toArray.size:=by simp only[List.size_toArray];omega
     have eall:c7 (.lst xs) (.lst ys)=(List.range is.toArray.size).all (λj=>c7 (xs.getD j .non) (ys.getD j .non)):=by
      rw[tH];simp only[List.size_toArray,←h5];exact jg xs ys hl
     refine⟨?_,?_,?_⟩
     .rw[eall];exact SeqAt.RcAt.lists h4 k4 hsz (by omega) each
     .by_cases hlm:l=m
      .subst hlm
       rw[bC.inj I (n+1) _ _ _ hsx hsy rx ry,h9 (n+1) _ hsy];exact SeqAt.EqAt.same _
      .refine SeqAt.EqAt.of_refs hlm ?_
       rw[eall];exact SeqAt.RcAt.lists h4 k4 hsz (by omega) each
     .rw[eall];exact SeqAt.RcNeAt.lists h4 k4 hsz (by omega) each
    .have hsz:(is.toArray.size != js.toArray.size)=true:=by simp only[List.size_toArray,bne_iff_ne,ne_eq];omega
     have eall:c7 (.lst xs) (.lst ys)=false:=by rw[tH];exact l4 xs ys hl
     rw[eall];refine⟨SeqAt.RcAt.lists_lengths h4 k4 hsz (by omega),?_,SeqAt.RcNeAt.lists_lengths h4 k4 hsz (by omega)⟩;refine SeqAt.EqAt.of_refs (λe=>?_) (SeqAt.RcAt.lists_lengths h4 k4 hsz (by omega));subst e;have:=bC.inj I (n+1) _ _ _ hsx hsy rx ry;cases this;exact hl rfl
   .exact pq I (by omega) rx ry qa qb (λds ds' z=>t2 ⟨ds,ds',z⟩) (λds ds' z=>t1 ⟨ds,ds',z⟩) (λks ds z=>by rw[z]at sx;exact nd _ _ _ sx) (λks ds z=>by rw[z]at sy;exact nd _ _ _ sy) (λc z=>nx _ _ (z▸sx)) (λc z=>nx _ _ (z▸sy)) (λk c z=>nb _ _ _ (z▸sx)) (λk c z=>nb _ _ _ (z▸sy))
end
section
variable {X:Cx}{E:XK}
def iK(x y:D):ak D:=if bp 40 x=true/\bp 40 y=true then .ok (.bl (c7 x y)) else .stuck
def l8(x y:D):ak D:=if bp 40 x=true/\bp 40 y=true then .ok (.bl (!(c7 x y))) else .stuck
def Ek(K:W.Frag):R2:=λv u H Q=>∃x y,bC K H x v/\bC K H y u/\bp 40 x=true/\bp 40 y=true/\Q (.bl (c7 x y)) H
def Eg(K:W.Frag):R2:=λv u H Q=>∃x y,bC K H x v/\bC K H y u/\bp 40 x=true/\bp 40 y=true/\Q (.bl (!(c7 x y))) H
def eV(hu:X.A.units+64<cLine):iw X (compareOp .Eq) (Ek X.K):=by
 intro pins s σ H x y v u Q I rx ry h;obtain⟨d,d',h1,h2,s1,s2,q⟩:=h;exact(Ef I 40 X.A (by omega) d d' x y v u s1 s2 h1 h2 rx ry).1 _ _ _ _ ⟨.bl _,H,I,rfl,q⟩
def jS(hu:X.A.units+64<cLine):iw X (compareOp .NotEq) (Eg X.K):=by
 intro pins s σ H x y v u Q I rx ry h;obtain⟨d,d',h1,h2,s1,s2,q⟩:=h;exact(Ef I 40 X.A (by omega) d d' x y v u s1 s2 h1 h2 rx ry).2.2 _ _ _ _ ⟨.bl _,H,I,rfl,q⟩
def g8:t9 X.K E (Ek X.K) iK:=by
 intro x y v u H Ha Q hs r1 r2 q;unfold iK at q
 by_cases c:bp 40 x=true/\bp 40 y=true
 .rw[if_pos c]at q
  exact⟨x,y,r1.mono hs,r2.mono hs,c.1,c.2,q _ H Ha (br.refl hs) (aE.mpr rfl)⟩
 .rw[if_neg c]at q;exact q.elim
def mX:t9 X.K E (Eg X.K) l8:=by
 intro x y v u H Ha Q hs r1 r2 q;unfold l8 at q
 by_cases c:bp 40 x=true/\bp 40 y=true
 .rw[if_pos c]at q
  exact⟨x,y,r1.mono hs,r2.mono hs,c.1,c.2,q _ H Ha (br.refl hs) (aE.mpr rfl)⟩
 .rw[if_neg c]at q;exact q.elim
end
@[irreducible] def B9:Nat:=2 ^ 9000
@[irreducible] def kE:Nat:=2 ^ 13500
@[irreducible] def yx:Nat:=2 ^ 60000
theorem yq:B9=2 ^ 9000:=by unfold B9;rfl
def oM:kE=2 ^ 13500:=by unfold kE;rfl
def oK:yx=2 ^ 60000:=by unfold yx;rfl
def lS{n k:Nat}(h:n<2 ^ k)(hk:0<k):n.log2<k:=by
 by_cases h0:n=0
 .rw[h0]
  have:Nat.log2 0=0:=by decide
  omega
 .exact(Nat.log2_lt h0).mpr h
def EF{x y:Int}(h:y.natAbs<B9):Builtin.divisionGoesByPylong x y=false:=by
 rw[yq]at h;exact PyProof.noPylong_of_log2 (lS h (by omega))
def B8{x y:Int}(h:x.natAbs<kE):Builtin.divisionGoesByPylong x y=false:=by
 rw[oM]at h;have hx:x.natAbs.log2<13500:=lS h (by omega);show(decide ((if y==0 then 0 else y.natAbs.log2 / 30+1) > 300)&&decide ((if x==0 then 0 else x.natAbs.log2 / 30+1) > (if y==0 then 0 else y.natAbs.log2 / 30+1)+150))=false;have k:(if x==0 then 0 else x.natAbs.log2 / 30+1)<=450:=by
  by_cases hx0:(x==0)=true
  .rw[if_pos hx0];omega
  .rw[if_neg hx0];omega
 by_cases c:(if y==0 then 0 else y.natAbs.log2 / 30+1) > 300
 .rw[Bool.and_eq_false_iff];right;exact decide_eq_false (by omega)
 .rw[Bool.and_eq_false_iff];left;exact decide_eq_false c
def eE(i j:Int):Bool:=decide (j≠0)&&(decide (j.natAbs<B9)||decide (i.natAbs<kE))
def dJ(i j:Int):Bool:=decide (i.natAbs<yx)&&decide (j.natAbs<yx)
def eE.ok{i j:Int}(h:eE i j=true):j≠0/\Builtin.divisionGoesByPylong i j=false:=by
 unfold eE at h;rw[Bool.and_eq_true,Bool.or_eq_true]at h;refine⟨of_decide_eq_true h.1,?_⟩;rcases h.2 with h|h
 .exact EF (of_decide_eq_true h)
 .exact B8 (of_decide_eq_true h)
def dJ.ok{i j:Int}(h:dJ i j=true):IntMulOk i j:=by
 unfold dJ at h;rw[Bool.and_eq_true]at h;have h1:=of_decide_eq_true h.1;have h2:=of_decide_eq_true h.2;rw[oK]at h1 h2;exact PyProof.Rows.mulOk_of_bits (m:=60000) (n:=60000) (PySem.intBits_le_iff.mpr h1) (PySem.intBits_le_iff.mpr h2) (by decide)
section
variable {X:Cx}{E:XK}{e a b c:Expr}{es:List Expr}{f g k:cr}{fa:Ev->ak (ac)}{pos:Pos}
def bJ{K:W.Frag}{H Ha:Hp}{d:D}{v:V}{Q:VK}(hs:az Ha H)(q:post K E H Ha (.ok d) Q)(r:bC K Ha d v):Q v H:=q v H Ha (br.refl hs) r
def uF(c:Int->Int->Bool)(g:Int->Int->D)(x y:D):ak D:=match x,y with
 |.int i,.int j=>if c i j=true then .ok (g i j) else .stuck
 |_,_=>.stuck
def q9{C:Int->Int->Prop}{c:Int->Int->Bool}{gv:Int->Int->V}{g:Int->Int->D}(hc:∀i j,c i j=true->C i j)(hg:∀K H i j,bC K H (g i j) (gv i j)):t9 X.K E (rI C gv) (uF c g):=by
 intro x y v u H Ha Q hs r1 r2 q;unfold uF at q;cases x with
 |int i=>
  cases y with
  |int j=>
   by_cases h:c i j=true
   .simp only[if_pos h]at q
    exact⟨i,j,aw.mp r1,aw.mp r2,hc i j h,bJ hs q (hg _ _ i j)⟩
   .simp only[if_neg h]at q;exact q.elim
  |_=>exact q.elim
 |_=>exact q.elim
def cL{gv:Int->Int->V}{g:Int->Int->D}(hg:∀K H i j,bC K H (g i j) (gv i j)):t9 X.K E (yP gv) (uF (λ_ _=>true) g):=by
 intro x y v u H Ha Q hs r1 r2 q;unfold uF at q;cases x with
 |int i=>
  cases y with|int j=>simp only[if_pos]at q;exact⟨i,j,aw.mp r1,aw.mp r2,bJ hs q (hg _ _ i j)⟩| _=>exact q.elim
 |_=>exact q.elim
def ri{K:W.Frag}{H:Hp}(n:Int):bC K H (.int n) (.int n):=aw.mpr rfl
def rb{K:W.Frag}{H:Hp}(n:Bool):bC K H (.bl n) (.bl n):=aE.mpr rfl
abbrev AK:=uF (λ_ _=>true) λi j=>.int (i-j)
abbrev kO:=uF eE λi j=>.int (i.fdiv j)
abbrev df:=uF (λ_ j=>decide (j≠0)) λi j=>.int (i.fmod j)
abbrev dS:=uF (λi j=>decide (0<=j)&&decide (j<=1000000)&&decide (i.natAbs<18446744073709551616)) λi j=>.int (i ^ j.toNat)
abbrev Gj:=uF (λ_ _=>true) λi j=>.bl (decide (i<j))
abbrev tT:=uF (λ_ _=>true) λi j=>.bl (decide (i<=j))
abbrev Bn:=uF (λ_ _=>true) λi j=>.bl (decide (j<i))
abbrev Dr:=uF (λ_ _=>true) λi j=>.bl (decide (j<=i))
def zi:iw X (binaryOp .Mult) (rI IntMulOk λi j=>.int (i*j)):=Fy λ_ _ _ _ _ _ _ hc q=>mul_int q hc
def zk:iw X (binaryOp .FloorDiv) (rI (λi j=>j≠0/\Builtin.divisionGoesByPylong i j=false) λi j=>.int (i.fdiv j)):=Fy λ_ _ _ _ _ _ _ hc q=>floordiv_int hc.1 q (.inl hc.2)
def C6(ha:DE X E a f)(hb:DE X E b g):DE X E (.BinOp a .Sub b pos) (ah f g AK):=nr B3 (cL λ_ _ _ _=>ri _) ha hb
def jj(ha:DE X E a f)(hb:DE X E b g):DE X E (.BinOp a .FloorDiv b pos) (ah f g kO):=nr zk (q9 (λ_ _ h=>eE.ok h) λ_ _ _ _=>ri _) ha hb
def dO(ha:DE X E a f)(hb:DE X E b g):DE X E (.BinOp a .Mod b pos) (ah f g df):=nr zj (q9 (λ_ _ h=>of_decide_eq_true h) λ_ _ _ _=>ri _) ha hb
def eW(ha:DE X E a f)(hb:DE X E b g):DE X E (.BinOp a .Pow b pos) (ah f g dS):=nr B5 (q9 (λi j h=>by
 rw[Bool.and_eq_true,Bool.and_eq_true]at h;exact⟨of_decide_eq_true h.1.1,of_decide_eq_true h.1.2,of_decide_eq_true h.2⟩) λ_ _ _ _=>ri _) ha hb
def nm{op:CmpOp}{b:Expr}(h1:op≠.In:=by decide)(h2:op≠.NotIn:=by decide):behindInMarks op b=false:=wH _ h1 h2
def fG(x:D):ak D:=match x with
 |.int i=>.ok (.int (-i))
 |_=>.stuck
def gH(ha:DE X E a f):DE X E (.UnaryOp .USub a pos) (aL f fG):=Fb vw (by
 intro x v H Ha Q hs r q;cases x with
 |int i=>exact⟨i,aw.mp r,bJ hs q (ri _)⟩
 |_=>exact q.elim) ha
def zq:iw X (binaryOp .Add) (λx y H Q=>∃l b xs zs,x=.ref l/\y=.ref b/\dF X.K H l xs/\dF X.K H b zs/\xs.length+zs.length<=sizeLine/\∀p,H p=none->Q (.ref p) (upd H p (.lst (xs++zs)))):=by
 intro pins s σ H x y v u Q I rx ry h;obtain⟨l,b,xs,zs,rfl,rfl,hH,hB,hz,q⟩:=h;cases rx;cases ry;obtain⟨its,r,pl,z⟩:=I.list hH;obtain⟨its2,r2,pl2,z2⟩:=I.list hB;obtain⟨⟨cls,dd,data,sl⟩,ho,hc,n,hd⟩:=pl.isList;obtain⟨⟨cls2,dd2,data2,sl2⟩,ho2,hc2,n2,hd2⟩:=pl2.isList;simp only at hc hd hc2 hd2;subst hc hd hc2 hd2;have e:its.toArray++its2.toArray=(its++its2).toArray:=by simp
 have l1:=r.length;have l2:=r2.length;refine concat_meets ⟨_,ho,rfl⟩ ⟨_,ho2,rfl⟩ noFill_list_add seq_list_add PySem.F.slot_list_add PySem.F.entry_list_add (PySem.F.args_list_add_2 _ _) (list_addW l b its.toArray its2.toArray n n2 dd dd2 sl sl2 (by simp only[List.size_toArray];omega)) ⟨ho,ho2,?_⟩;rw[e];exact⟨.ref _,_,I.lnew (t':=s.toks) (r.append r2) (by rw[List.length_append];omega),rfl,q _ I.fresh⟩
noncomputable def bu(x y:D):ak D:=match x,y with
 |.int i,.int j=>.ok (.int (i+j))
 |.str i,.str j=>if i.length+j.length<=line then .ok (.str (i++j)) else .stuck
 |.lst ds,.lst es=>if ds.length+es.length<=line then .ok (.lst (ds++es)) else .stuck
 |.tup ds,.tup es=>if ds.isEmpty=false/\ds.length+es.length<=line then .ok (.tup (ds++es)) else .stuck
 |_,_=>.stuck
def bG(ha:DE X E a f)(hb:DE X E b g):DE X E (.BinOp a .Add b pos) (ah f g bu):=nr (iw.or B6 (iw.or qZ (iw.or zq zo))) (by
 intro x y v u H Ha Q hs r1 r2 q;unfold bu at q;cases x with
 |int i=>
  cases y with|int j=>exact .inl ⟨i,j,aw.mp r1,aw.mp r2,bJ hs q (ri _)⟩| _=>exact q.elim
 |str i=>
  cases y with
  |str j=>
   by_cases h:i.length+j.length<=line
   .simp only[if_pos h]at q
    exact .inr (.inl ⟨i,j,aF.mp r1,aF.mp r2,cX h,bJ hs q (aF.mpr rfl)⟩)
   .simp only[if_neg h]at q;exact q.elim
  |_=>exact q.elim
 |lst ds=>
  cases y with
  |lst es=>
   by_cases h:ds.length+es.length<=line
   .simp only[if_pos h]at q
    obtain⟨l,vs,rfl,h1,h2⟩:=ay.mp r1;obtain⟨m,us,rfl,k1,k2⟩:=ay.mp r2;refine .inr (.inr (.inl ⟨l,m,vs,us,rfl,rfl,az.sqL hs h1,az.sqL hs k1,by rw[←h2.length,←k2.length];exact cX h,λp hp=>?_⟩));exact q _ _ _ (aI hs hp) (ay.mpr ⟨p,_,rfl,dF.of aJ,(h2.app k2).mono (aI hs hp).z⟩)
   .simp only[if_neg h]at q;exact q.elim
  |_=>exact q.elim
 |tup ds=>
  cases y with
  |tup es=>
   by_cases h:ds.isEmpty=false/\ds.length+es.length<=line
   .simp only[if_pos h]at q
    obtain⟨l,vs,rfl,h1,h2⟩:=aG.mp r1;obtain⟨m,us,rfl,k1,k2⟩:=aG.mp r2;refine .inr (.inr (.inr ⟨l,m,vs,us,rfl,rfl,az.sqT hs h1,az.sqT hs k1,λz=>?_,by rw[←h2.length,←k2.length];exact cX h.2,λz=>?_,λz p hp=>?_⟩))
    .have:=h2.length
     rw[z]at this;have e:ds=[]:=List.length_eq_zero_iff.mp this;rw[e]at h;exact absurd h.1 (by decide)
    .have:=k2.length
     rw[z]at this;have e:es=[]:=List.length_eq_zero_iff.mp this;rw[e,List.append_nil]at q;exact bJ hs q r1
    .exact q _ _ _ (aI hs hp) (aG.mpr ⟨p,_,rfl,gk.of aJ,(h2.app k2).mono (aI hs hp).z⟩)
   .simp only[if_neg h]at q;exact q.elim
  |_=>exact q.elim
 |_=>exact q.elim) ha hb
noncomputable def bq(x y:D):ak D:=match y with
 |.int i=>match x with
  |.lst ds=>match atI ds i with
   |some d=>.ok d
   |none=>.stuck
  |.tup ds=>match atI ds i with
   |some d=>.ok d
   |none=>.stuck
  |.str z=>if z.length<=line then match atI z.cps.toList i with
   |some c=>.ok (.str ⟨#[c]⟩)
   |none=>.stuck else .stuck
  |_=>.stuck
 |_=>.stuck
def Reps.atI{K:W.Frag}{H:Hp}{ds:ac}{vs:bv}{i:Int}{d:D}(h:Reps K H ds vs)(e:atI ds i=some d):∃v,L2.atI vs i=some v/\bC K H d v:=by
 unfold L2.atI at e ⊢;rw[←h.length];cases q:uE ds.length i with
 |none=>rw[q]at e;cases e
 |some j=>
  rw[q]at e;exact h.get e
def ED:t9 X.K E (Gz X.K) bq:=by
 intro x y v u H Ha Q hs r1 r2 q;unfold bq at q;cases y with
 |int i=>
  cases x with
  |lst ds=>
   obtain⟨l,vs,rfl,h1,h2⟩:=ay.mp r1;cases e:atI ds i with
   |none=>simp only[e]at q;exact q.elim
   |some d=>
    simp only[e]at q;obtain⟨w,e1,e2⟩:=h2.atI e;exact .inl ⟨l,vs,i,w,rfl,aw.mp r2,az.sqL hs h1,e1,bJ hs q e2⟩
  |tup ds=>
   obtain⟨l,vs,rfl,h1,h2⟩:=aG.mp r1;cases e:atI ds i with
   |none=>simp only[e]at q;exact q.elim
   |some d=>
    simp only[e]at q;obtain⟨w,e1,e2⟩:=h2.atI e;exact .inr (.inl ⟨l,vs,i,w,rfl,aw.mp r2,az.sqT hs h1,e1,bJ hs q e2⟩)
  |str z=>
   by_cases hz:z.length<=line
   .simp only[if_pos hz]at q
    cases e:atI z.cps.toList i with
    |none=>simp only[e]at q;exact q.elim
    |some c=>
     simp only[e]at q;exact .inr (.inr ⟨z,i,c,aF.mp r1,aw.mp r2,cX hz,e,bJ hs q (aF.mpr rfl)⟩)
   .simp only[if_neg hz]at q;exact q.elim
  |_=>exact q.elim
 |_=>exact q.elim
def aB(ha:DE X E a f)(hb:DE X E b g)(hs:oI b:=by intro _ _;rfl):DE X E (.Subscript a b pos) (ah f g bq):=Fc Ci ED ha hb hs
def gN:Ev->ak (Option Int):=λ_=>.ok none
def fY(f:cr):Ev->ak (Option Int):=λρ=>(f ρ).bind λx=>match x with
 |.int i=>.ok (some i)
 |_=>.stuck
def FW(K:W.Frag)(E:XK)(f:Ev->ak (Option Int)):TO:=λσ H Q=>∃Ha ρ,az Ha H/\dA K Ha σ ρ/\match f ρ with
 |.ok o=>∀H' Ha',br H Ha H' Ha'->Q o H'
 |.exn x=>∀C ox H' Ha',br H Ha H' Ha'->qH K Ha' x C ox->E C ox H'
 |.stuck=>False
structure DO (X:Cx) (E:XK) (e:Option Expr) (f:Ev->ak (Option Int)):Prop where
 o:PO X e (FW X.K E f)
def sT{eo:Option Expr}{t t':TO}(h:PO X eo t)(w:∀σ H Q,t' σ H Q->t σ H Q):PO X eo t':=λpins s σ H Q I q=>h pins s σ H Q I (w σ H Q q)
def gF:DO X E none gN:=⟨sT yW λσ H Q ⟨Ha,ρ,hs,hr,q⟩=>q H Ha (br.refl hs)⟩
def gE(ha:DE X E a f):DO X E (some a) (fY f):=by
 refine⟨?_⟩;refine sT (yV ha.o) λσ H Q z9=>?_;obtain⟨Ha,ρ,hs,hr,q⟩:=z9;refine⟨Ha,ρ,hs,hr,?_⟩
 unfold fY at q;cases e1:f ρ with
 |stuck|exn x=>rw[e1]at q;exact q
 |ok d=>
  rw[e1]at q;intro v H1 H01 g1 r1;cases d with|int i=>exact⟨i,aw.mp r1,q H1 H01 g1⟩| _=>exact q.elim
def ig(xs:ac)(lo hi:Option Int):ac:=(xs.drop (HT.sIx xs.length 0 lo)).take (HT.sIx xs.length xs.length hi-HT.sIx xs.length 0 lo)
def Reps.cut{K:W.Frag}{H:Hp}{ds:ac}{vs:bv}(h:Reps K H ds vs)(lo hi:Option Int):Reps K H (ig ds lo hi) (qp vs lo hi):=by
 unfold ig qp;rw[←h.length];exact(h.drop _).take _
def oZ{r:V->Option Int->Option Int->Hp->VK->Prop}{lo hi:Ev->ak (Option Int)}{m:D->Option Int->Option Int->ak D}
  (ho:∀x v l h H Ha Q,az Ha H->bC X.K Ha x v->post X.K E H Ha (m x l h) Q->r v l h H Q)(σ:L2.St)(H:Hp)(Q:VK)
  (h:tD X.K E (λρ=>(f ρ).bind λx=>(lo ρ).bind λl=>(hi ρ).bind λh=>m x l h) σ H Q):Gv r (tD X.K E f) (FW X.K E lo) (FW X.K E hi) σ H Q:=by
 obtain⟨Ha,ρ,hs,hr,q⟩:=h;refine⟨Ha,ρ,hs,hr,?_⟩;replace q:post X.K E H Ha ((f ρ).bind λx=>(lo ρ).bind λl=>(hi ρ).bind λh=>m x l h) Q:=q;cases e1:f ρ with
 |stuck|exn x=>rw[e1]at q;exact q
 |ok x=>
  rw[e1]at q;intro v H1 H01 g1 r1;refine⟨H01,ρ,g1.sub,hr.mono g1.z,?_⟩;replace q:post X.K E H Ha ((lo ρ).bind λl=>(hi ρ).bind λh=>m x l h) Q:=q;replace q:=q.grow g1;cases e2:lo ρ with
  |stuck|exn x=>rw[e2]at q;exact q
  |ok l=>
   rw[e2]at q;intro H2 H02 g2;refine⟨H02,ρ,g2.sub,(hr.mono g1.z).mono g2.z,?_⟩;replace q:post X.K E H1 H01 ((hi ρ).bind λh=>m x l h) Q:=q;replace q:=q.grow g2;cases e3:hi ρ with
   |stuck|exn x=>rw[e3]at q;exact q
   |ok h=>
    rw[e3]at q;intro H3 H03 g3;exact ho x v l h H3 H03 Q g3.sub ((r1.mono g2.z).mono g3.z) (post.grow (r:=m x l h) q g3)
def m1(m:D->ak D)(ds:ac):ak D:=match ds with
 |[x]=>m x
 |_=>.stuck
def m2(m:D->D->ak D)(ds:ac):ak D:=match ds with
 |[x,y]=>m x y
 |_=>.stuck
def tW{r:bv->Hp->VK->Prop}{m:D->ak D}(h:∀x v H Ha Q,az Ha H->bC X.K Ha x v->post X.K E H Ha (m x) Q->r [v] H Q):iz X E r (m1 m):=by
 intro ds vs H Ha Q hs hr q;unfold m1 at q
 match ds,hr,q with
 |[x],hr,q=>
  obtain⟨v,r',rfl,h1,h2⟩:=aA.mp hr;rw[Reps.nil_iff.mp h2];exact h x v H Ha Q hs h1 q
 |[],_,q=>exact q.elim
 |_::_::_,_,q=>exact q.elim
def Bp{r:bv->Hp->VK->Prop}{m:D->D->ak D}(h:∀x y v u H Ha Q,az Ha H->bC X.K Ha x v->bC X.K Ha y u->post X.K E H Ha (m x y) Q->r [v,u] H Q):iz X E r (m2 m):=by
 intro ds vs H Ha Q hs hr q;unfold m2 at q
 match ds,hr,q with
 |[x,y],hr,q=>
  obtain⟨v,r',rfl,h1,h2⟩:=aA.mp hr;obtain⟨u,r'',rfl,h3,h4⟩:=aA.mp h2;rw[Reps.nil_iff.mp h4];exact h x y v u H Ha Q hs h1 h3 q
 |[],_,q=>exact q.elim
 |[_],_,q=>exact q.elim
 |_::_::_::_,_,q=>exact q.elim
def qo(x:D):ak D:=match x with
 |.int i=>.ok (.int (if i<0 then -i else i))
 |_=>.stuck
def oz(x y:D):ak D:=match x,y with
 |.int i,.int j=>.ok (.int (if j > i then j else i))
 |_,_=>.stuck
def ic(x:D):ak D:=match x with
 |.lst ds=>.ok (.int ds.length)
 |.tup ds=>.ok (.int ds.length)
 |.str z=>if z.length<=line then .ok (.int z.length) else .stuck
 |_=>.stuck
def ml:iz X E (λxs H Q=>∃i,xs=[.int i]/\Q (.int (if i<0 then -i else i)) H) (m1 qo):=tW λx v H Ha Q hs r q=>by
 cases x with|int i=>exact⟨i,by rw[aw.mp r],bJ hs q (ri _)⟩| _=>exact q.elim
def rY:iz X E (λxs H Q=>∃i j,xs=[.int i,.int j]/\Q (.int (if j > i then j else i)) H) (m2 oz):=Bp λx y v u H Ha Q hs r r' q=>by
 cases x with
 |int i=>
  cases y with|int j=>exact⟨i,j,by rw[aw.mp r,aw.mp r'],bJ hs q (ri _)⟩| _=>exact q.elim
 |_=>exact q.elim
def ij:iz X E (λxs H Q=>∃x n,xs=[x]/\Fo X.K x H n/\Q (.int n) H) (m1 ic):=tW λx v H Ha Q hs r q=>by
 cases x with
 |lst ds=>
  obtain⟨p,vs,rfl,h1,h2⟩:=ay.mp r;refine⟨_,vs.length,rfl,.inl ⟨vs,az.sqL hs h1,rfl⟩,?_⟩;rw[←h2.length];exact bJ hs q (ri _)
 |tup ds=>
  obtain⟨p,vs,rfl,h1,h2⟩:=aG.mp r;refine⟨_,vs.length,rfl,.inr ⟨vs,az.sqT hs h1,rfl⟩,?_⟩;rw[←h2.length];exact bJ hs q (ri _)
 |str z=>
  unfold ic at q
  by_cases hz:z.length<=line
  .simp only[if_pos hz]at q
   rw[aF.mp r];exact⟨_,z.length,rfl,⟨cX hz,rfl⟩,bJ hs q (ri _)⟩
  .simp only[if_neg hz]at q;exact q.elim
 |_=>exact q.elim
def xT{T:String}{r:bv->Hp->VK->Prop}{m:ac->ak D}{x:Str}{p:Pos}(hc:fA X (.type T) r)(hd:iz X E r m)(hg:Gl X x)(hm:X.mg x=none)(hv:bootBuiltins x=some (.type T))(ha:DA X E (e::es) fa)(hn:x≠"__name__":=by decide)(hdb:(x==("__debug__":Str))=false:=by decide)
  (he:starEach (e::es) X.env=(false,eval e X.env)::starEach es X.env:=by exact aC rfl)(hpl:(backTo pos (starEach es X.env)).any (·.1)=false:=by exact bg rfl):DE X E (.Call (.Name x p) (e::es) [] pos) (aj fa m) :=
 ⟨aQ (ux hc hg hm hv ha.o hn hdb he hpl) (iN hd)⟩
def m9:D->Bool
 |.non=>true
 |_=>false
def jk(x y:D):ak D:=match y with
 |.non=>.ok (.bl (m9 x))
 |_=>.stuck
def tR(x y:D):ak D:=match y with
 |.non=>.ok (.bl (!(m9 x)))
 |_=>.stuck
def bC.is_non{K:W.Frag}{H:Hp}{x:D}{v:V}(r:bC K H x v):decide (v=.non)=m9 x:=by
 cases x with|non=>rw[aK.mp r];rfl|bl b=>rw[aE.mp r];rfl|int b=>rw[aw.mp r];rfl|str b=>rw[aF.mp r];rfl|tup ds=>obtain⟨_,_,e,_⟩:=aG.mp r;rw[e];rfl|lst ds=>obtain⟨_,_,e,_⟩:=ay.mp r;rw[e];rfl|dic ks ds=>rw[bC]at r;obtain⟨_,_,_,e,_⟩:=r;rw[e];rfl|exc x=>obtain⟨_,_,_,e,_⟩:=dz.mp r;rw[e];rfl|ob k x=>obtain⟨_,_,e,_⟩:=cF.mp r;rw[e];rfl
def jc:t9 X.K E (λx y H Q=>y=.non/\Q (.bl (decide (x=.non))) H) jk:=by
 intro x y v u H Ha Q hs r1 r2 q;unfold jk at q;cases y with|non=>exact⟨aK.mp r2,by rw[r1.is_non];exact bJ hs q (rb _)⟩| _=>exact q.elim
def zu:t9 X.K E (λx y H Q=>y=.non/\Q (.bl (!decide (x=.non))) H) tR:=by
 intro x y v u H Ha Q hs r1 r2 q;unfold tR at q;cases y with
 |non=>
  refine⟨aK.mp r2,?_⟩;rw[r1.is_non];exact bJ hs q (rb _)
 |_=>exact q.elim
noncomputable def oN:D->String
 |.non=>"NoneType"
 |.bl _=>"bool"
 |.int _=>"int"
 |.str _=>"str"
 |.tup _=>"tuple"
 |.lst _=>"list"
 |.dic _ _=>"dict"
 |.exc _=>"<exc>"
 |.ob (.ins _ _) _=>"<exc>"
 |.ob (.dint _) _=>"dict"
 |.ob (.exf _ _) _=>"<exc>"
 |.ob .pl _=>"list"
def dE(T:String)(x:D):ak D:=.ok (.bl (oN x==T||(oN x=="bool"&&T=="int")))
def iy(K:W.Frag)(T:String):Prop:=∀S,S∈["NoneType","bool","int","str","tuple","list","dict"]->W.kitOne K (.type S) (.type T)=some (S==T||(S=="bool"&&T=="int"))
def wX{pins:List (Addr×Obj)}{σ:L2.St}{H:Hp}{s:Shared}{A:Around}{Q:Value->Shared->Prop}{x:D}{v:V}{u:Value}{T:String}(I:Inv X pins σ H s)(r:bC X.K H x v)(q:bh v u)(hk:iy X.K T)(hT:T∈eX)(h:∀tk,Q (.bool (oN x==T||(oN x=="bool"&&T=="int"))) { s with toks:=tk }) :
  wpAny (model X.prog X.w) A (call (.builtin "isinstance") [u,.type T]) Q X.xe s:=by
 cases x with
 |non=>rw[aK.mp r]at q;exact f9 I q .non (hk _ (by simp)) h|bl b=>rw[aE.mp r]at q;exact f9 I q (.bl b) (hk _ (by simp)) h|int b=>rw[aw.mp r]at q;exact f9 I q (.int b) (hk _ (by simp)) h|str b=>rw[aF.mp r]at q;exact f9 I q (.str b) (hk _ (by simp)) h
 |tup ds=>
  obtain⟨a,vs,its,rfl,rfl,h1,h2,h3,h4,_⟩:=aZ I r q;obtain⟨o,k1,k2,_⟩:=h4;exact W.kia_one W.kitx_tuple I.kIn ⟨o,k1,k2⟩ (hk _ (by simp)) (λz=>nomatch z) h
 |lst ds=>
  obtain⟨a,vs,its,rfl,rfl,h1,h2,h3,h4,_⟩:=aX I r q;obtain⟨o,k1,k2,_⟩:=h4;exact W.kia_one W.kitx_list I.kIn ⟨o,k1,k2⟩ (hk _ (by simp)) (λz=>nomatch z) h
 |dic ks ds=>
  rw[bC]at r;obtain⟨a,kvs,vs,rfl,h1,h2,_⟩:=r;cases (show u=Value.ref a from q);obtain⟨_,_,vs',_,p⟩:=h1.ok I.hok;obtain⟨o,es,ep,k1,k2,_⟩:=p;exact W.kia_one W.kitx_dict I.kIn ⟨o,k1,k2.1⟩ (hk _ (by simp)) (λz=>nomatch z) h
 |exc x=>
  obtain⟨a,C,dc,rfl,hc,h1⟩:=dz.mp r;cases (show u=Value.ref a from q);obtain⟨p,_,_⟩:=h1.ok I.hok;have e:(oN (.exc x)==T||(oN (.exc x)=="bool"&&T=="int"))=false:=by
   have:∀T∈eX,(oN (.exc x)==T||(oN (.exc x)=="bool"&&T=="int"))=false:=by show ∀T∈eX,("<exc>"==T||("<exc>"=="bool"&&T=="int"))=false;decide
   exact this T hT
  rw[e]at h;exact W.kia_one (jy hc.ek hc.ek.isCls) I.kIn p (hc.bt T hT) (λz=>nomatch z) h
 |ob k xs=>
  obtain⟨a,vs,rfl,h1,_⟩:=cF.mp r;cases (show u=Value.ref a from q);cases k with
  |exf c ks=>
   obtain⟨C,dx,fs,hc,h2,_⟩:=h1;obtain⟨p,_,_⟩:=h2.ok I.hok;have e:(oN (.ob (.exf c ks) xs)==T||(oN (.ob (.exf c ks) xs)=="bool"&&T=="int"))=false:=by
    have:∀T∈eX,("<exc>"==T||("<exc>"=="bool"&&T=="int"))=false:=by decide
    exact this T hT
   rw[e]at h;exact W.kia_one (jy hc.ek hc.ek.isCls) I.kIn p (hc.bt T hT) (λz=>nomatch z) h
  |ins c ks=>
   obtain⟨C,dx,_,hc,h2,_⟩:=h1;obtain⟨mA,O,_⟩:=tj I.hok h2;obtain⟨od,O',_⟩:=O.look;have e:(oN (.ob (.ins c ks) xs)==T||(oN (.ob (.ins c ks) xs)=="bool"&&T=="int"))=false:=by
    have:∀T∈eX,(oN (.ob (.ins c ks) xs)==T||(oN (.ob (.ins c ks) xs)=="bool"&&T=="int"))=false:=by show ∀T∈eX,("<exc>"==T||("<exc>"=="bool"&&T=="int"))=false;decide
    exact this T hT
   rw[e]at h;exact W.kia_one (W.kitx_own (hc.cls.get _) hc.cls.hd hc.gc hc.gn hc.tk hc.mo) I.kIn O' (hc.bt T hT) (λz=>nomatch z) h
  |dint ks=>
   obtain⟨kvs,h2,_⟩:=h1;obtain⟨_,_,vs',_,p⟩:=h2.ok I.hok;obtain⟨o,es,ep,k1,k2,_⟩:=p;exact W.kia_one W.kitx_dict I.kIn ⟨o,k1,k2.1⟩ (hk _ (by simp)) (λz=>nomatch z) h
  |pl=>exact f9 I (show bh (.ref a) (Value.ref a) from rfl) (.lst h1) (hk _ (by simp)) h
def bW{T:String}{x:Str}{p1 p2:Pos}(hk:iy X.K T)(hgi:Gl X "isinstance")(hmi:X.mg "isinstance"=none)(hg:Gl X x)(hm:X.mg x=none)(hv:bootBuiltins x=some (.type T))(ha:DE X E a f)
  (hn:x≠"__name__":=by decide)(hdb:(x==("__debug__":Str))=false:=by decide)(hT:T∈eX:=by decide)
  (he:starEach [a,.Name x p2] X.env=(false,eval a X.env)::starEach [.Name x p2] X.env:=by exact aC rfl)(he2:starEach [.Name x p2] X.env=(false,eval (.Name x p2) X.env)::starEach [] X.env:=by exact aC rfl)(hpl:(backTo pos (starEach [.Name x p2] X.env)).any (·.1)=false:=by exact bg rfl) :
  DE X E (.Call (.Name "isinstance" p1) [a,.Name x p2] [] pos) (aL f (dE T)):=by
 refine⟨?_⟩;refine aQ (g6 (r:=λvs H Q=>∃d v,vs=[v,.ty T]/\bC X.K H d v/\Q (.bl (oN d==T||(oN d=="bool"&&T=="int"))) H) ?_ hgi hmi PyProof.Rows.Boot.«isinstance» (bK ha.o (bK (nX (v:=.ty T) hg hm hv rfl hn hdb) dG he2) he) (by decide) (by decide) he hpl) λσ H Q ⟨Ha,ρ,hs,hr,q⟩=>⟨Ha,ρ,hs,hr,?_⟩
 .intro pins s σ H xs us Q I r h
  obtain⟨d,v,rfl,h1,q⟩:=h;cases r with
  |cons r1 r2=>
   cases r2 with
   |cons r3 r4=>
    cases r4;rename_i u1 u2;obtain rfl:u2=Value.type T:=r3;exact wX I h1 r1 hk hT λtk=>⟨.bl _,H,I.tok _,rfl,q⟩
 .unfold aL at q
  cases e1:f ρ with
  |stuck|exn x=>rw[e1]at q;exact q
  |ok d=>
   rw[e1]at q;intro v H1 H01 g1 r1;exact⟨d,v,rfl,r1.mono g1.sub,q _ H1 H01 g1 (rb _)⟩
end
theorem nq{prog:Program}{w:World}{A:Around}{E:Value->Shared->Prop}{it t:Addr}{items:Array Value}(hne:t≠it):∀(n i:Nat) (s:Shared) (Q:List Value->Shared->Prop),s.heap.IsListIter it t i->s.heap.IsList t items->i+n<=items.size ->
  (∀h',h'.IsListIter it t (i+n)->Heap.SameBut it s.heap h'->Q ((items.toList.drop i).take n) { s with heap:=h' })->wpAny (model prog w) A (draw (.ref it) n) Q E s
 |0,i,s,Q,hit,_,_,hQ=>by
  show wpAny _ _ (pure []) Q E s;exact wpAny_pure (by simpa using hQ s.heap hit (Heap.SameBut.refl ..))
 |n+1,i,s,Q,hit,ht,hle,hQ=>by
  have hlt:i<items.size:=by omega
  show wpAny _ _ (pyNext (.ref it) >>= _) Q E s;refine wpAny_bind (wpAny_pyNext_list_item hit ht (x:=items[i]) (by simp[hlt]) λh₁ hit₁ hs₁=>?_);have ht₁:h₁.IsList t items:=by
   obtain⟨o,k1,k2⟩:=ht;exact⟨o,(hs₁.2 t hne).trans k1,k2⟩
  refine wpAny_bind (wpAny_holding (nq hne n (i+1) _ _ hit₁ ht₁ (by omega) λhV hit₂ hs₂=>wpAny_pure ?_));have hd:items.toList.drop i=items[i]::items.toList.drop (i+1):=by simp[List.drop_eq_getElem_cons,hlt]
  have:=hQ hV (by rw[show i+(n+1)=i+1+n by omega];exact hit₂) (hs₁.trans hs₂);rw[hd,List.take_succ_cons]at this;exact this
def jP{prog:Program}{w:World}{A:Around}{E:Value->Shared->Prop}{s:Shared}{t:Addr}{items:Array Value}{Q:List Value->Shared->Prop}(hh:A.handled=none)(ht:s.heap.IsList t items)
  (hQ:∀h',Heap.ExtBut s.heap.objs.size s.heap h'->Q items.toList { s with heap:=h' }):wpAny (model prog w) A (unpackItems (.ref t) items.size none) Q E s:=by
 have hlt:t≠s.heap.objs.size:=by obtain⟨o,ho,_⟩:=ht;exact Nat.ne_of_lt (Heap.lt_size ho)
 unfold unpackItems;refine wpAny_bind ?_
 .unfold notIterableAtAll
  refine wpAny_bind (wpAny_specialOf ht.typeIs slot_list_iter.lookup ?_);refine wpAny_pure ?_;simp only[Bool.false_eq_true,if_false];refine wpAny_bind (wpAny_holding (wpAny_pyIter_list ht ?_));have ht0:(s.heap.push { cls:=.type "list_iterator",data:=.fields #[.ref t,.int 0 0] }).IsList t items:=by
   obtain⟨o,k1,k2⟩:=ht;exact⟨o,Heap.get?_push_of_some _ k1,k2⟩
  refine wpAny_bind (wpAny_holding (nq hlt items.size 0 _ _ ⟨_,Heap.get?_push_size _ rfl,rfl,rfl⟩ ht0 (by omega) λh₁ hit₁ hs₁=>?_));have hall:List.take items.size (List.drop 0 items.toList)=items.toList:=by
   rw[List.drop_zero];exact List.take_of_length_le (by simp)
  rw[hall];rw[if_neg (by simp)];have ht₁:h₁.IsList t items:=by
   obtain⟨o,k1,k2⟩:=ht0;exact⟨o,(hs₁.2 t hlt).trans k1,k2⟩
  refine wpAny_bind (wpAny_holding (wpAny_pyNext_list_end hh hit₁ ht₁ (by simp) λhV he₂=>?_));simp only[Option.isSome_none,Bool.false_eq_true,if_false];refine wpAny_pure (hQ hV λb o hb e=>he₂ b o hb (hs₁.extBut b o hb (Heap.get?_push_of_some _ e)))
def qM(σ:L2.St):dl->bv->L2.St
 |i::is,v::vs=>qM (σ.set i (some v)) is vs
 |_,_=>σ
def eT(ρ:Ev):dl->ac->Ev
 |i::is,d::ds=>eT (ρ.set i (.sh d)) is ds
 |_,_=>ρ
theorem de.putAll{K:W.Frag}{He H0e Ha H:Hp}:∀{is:dl}{ds:ac}{vs:bv}{σ:L2.St}{ρ:Ev},de K He H0e Ha σ H ρ->Reps K Ha ds vs->de K He H0e Ha (qM σ is vs) H (eT ρ is ds)
 |[],_,_,_,_,h,_=>by unfold qM eT;exact h
 |_::_,[],_,_,_,h,r=>by rw[Reps.nil_iff.mp r];unfold qM eT;exact h
 |i::is,d::ds,_,_,_,h,r=>by
  obtain⟨v,vs,rfl,h1,h2⟩:=aA.mp r;unfold qM eT;exact de.putAll (h.put h1) h2
section
variable {X:Cx}{E:XK}{He H0e:Hp}{e a b:Expr}{es:List Expr}{f g:cr}{fa:Ev->ak (ac)}{pos:Pos}{is:dl}
def DK(is:dl):yt:=λvs σ H Q=>vs.length=is.length/\Q (qM σ is vs) H
def pA{t t':yt}(h:vk X es t)(w:∀vs σ H Q,t' vs σ H Q->t vs σ H Q):vk X es t':=λpins s σ H vs us Q I r q=>h pins s σ H vs us Q I r (w vs σ H Q q)
def cZ:vk X [] (DK []):=pA y0 λvs σ H Q z9=>by
 obtain⟨h,q⟩:=z9;have e:vs=[]:=List.length_eq_zero_iff.mp h;subst e;exact⟨rfl,q⟩
def aW{i:Nat}{x:Str}{p:Pos}(hN:X.N.Nodup)(hi:X.N[i]?=some x)(hx:A0 X.env.scope x)(h:vk X es (DK is))(hf:X.fn x=true∨X.env.scope.names.lookup x=some .local := by first|exact .inl rfl|exact .inr rfl|assumption)
  (hs:(assignEach (.Name x p::es) X.env).map (·.2)=assign (.Name x p) X.env::(assignEach es X.env).map (·.2):=by rfl):vk X (.Name x p::es) (DK (i::is)) :=
 pA (wq (sW hN hi hx hf) h hs) λvs σ H Q z9=>by
  obtain⟨h,q⟩:=z9;cases vs with|nil=>simp at h|cons v vs=>exact⟨v,vs,rfl,by simpa using h,q⟩
def za{k:Nat}{t:yt}{n:Nat}(hc:X.calm=true)(h:vk X es t)
  (hn:(assignEach es X.env).length=n:=by rfl)(hst:(assignEach es X.env).findIdx? (·.1)=none:=by rfl):PG X (.Tuple es k pos) (λv σ H Q=>∃a xs,v=.ref a/\dF X.K H a xs/\xs.length=n/\t xs σ H Q):=by
 intro pins s σ H v u Q I r hw;obtain⟨a,xs,e1,hq,hl,hw⟩:=hw;subst e1;cases r;obtain⟨its,rv,ht,hz⟩:=I.list hq;rw[assign_Tuple];refine wpAny_bind (wpAny_standAt ?_);unfold unpack;rw[hn,hst];have hsz:n=its.toArray.size:=by rw[List.size_toArray,←rv.length,hl]
 rw[hsz];refine wpAny_bind (wpAny_holding (jP (I.ok.hd hc) ht.isList λh' hx=>?_));have I1:Inv X pins σ H { s with heap:=h' }:=I.kept (t':=s.toks) λb o e=>hx b o (Nat.ne_of_lt (Heap.lt_size e)) e;exact h pins _ σ H xs _ Q I1 (by simpa using rv) hw
def Es{tgt:Expr}{t t':TG}(h:PG X tgt t)(h':PG X tgt t'):PG X tgt (λv σ H Q=>t v σ H Q∨t' v σ H Q):=λpins s σ H v u Q I r q=>q.elim (h pins s σ H v u Q I r) (h' pins s σ H v u Q I r)
def BS{k:Nat}(hc:X.calm=true)(h:vk X es (DK is))(hn:(assignEach es X.env).length=is.length:=by rfl)(hst:(assignEach es X.env).findIdx? (·.1)=none:=by rfl) :
  PG X (.Tuple es k pos) (λv σ H Q=>∃a xs,v=.ref a/\(gk X.K H a xs∨dF X.K H a xs)/\xs.length=is.length/\Q (qM σ is xs) H) :=
 nT (Es (BQ hc h hn hst) (za hc h hn hst)) λv σ H Q ⟨a,xs,e,hq,hl,q⟩=>hq.elim (λz=>.inl ⟨a,xs,e,z,hl,hl,q⟩) λz=>.inr ⟨a,xs,e,z,hl,hl,q⟩
def iE(n:Nat)(d:D):Option (ac):=match d with
 |.tup ds=>if ds.length=n then some ds else none
 |.lst ds=>if ds.length=n then some ds else none
 |_=>none
def pC{K:W.Frag}{H:Hp}{n:Nat}{d:D}{ds:ac}{v:V}(h:iE n d=some ds)(r:bC K H d v):∃a vs,v=.ref a/\(gk K H a vs∨dF K H a vs)/\vs.length=n/\Reps K H ds vs:=by
 unfold iE at h;cases d with
 |tup es=>
  by_cases c:es.length=n
  .simp only[if_pos c]at h;cases h
   obtain⟨a,vs,rfl,h1,h2⟩:=aG.mp r;exact⟨a,vs,rfl,.inl h1,by rw[←h2.length];exact c,h2⟩
  .simp only[if_neg c]at h;cases h
 |lst es=>
  by_cases c:es.length=n
  .simp only[if_pos c]at h;cases h
   obtain⟨a,vs,rfl,h1,h2⟩:=ay.mp r;exact⟨a,vs,rfl,.inr h1,by rw[←h2.length];exact c,h2⟩
  .simp only[if_neg c]at h;cases h
 |_=>cases h
def vM{K:W.Frag}{H H':Hp}{a:Addr}{vs:bv}(hs:az H H')(h:gk K H a vs∨dF K H a vs):gk K H' a vs∨dF K H' a vs:=h.elim (λz=>.inl (az.sqT hs z)) λz=>.inr (az.sqL hs z)
def bY(is:dl):Ev->D->ak Ev:=λρ d=>match iE is.length d with
 |some ds=>.ok (eT ρ is ds)
 |none=>.stuck
def cU:tY (bY is):=λρ d=>by
 unfold bY;cases iE is.length d with|none=>exact .inl rfl|some ds=>exact .inr ⟨_,rfl⟩
def dZ{k:Nat}(hc:X.calm=true)(h:vk X es (DK is))(hn:(assignEach es X.env).length=is.length:=by rfl)(hst:(assignEach es X.env).findIdx? (·.1)=none:=by rfl):DG X E He H0e (.Tuple es k pos) (bY is) :=
 ⟨nT (BS hc h hn hst) λv σ H Q z9=>by
  obtain⟨Ha,ρ,d,h,rp,q⟩:=z9;unfold bY at q;cases e1:iE is.length d with
  |none=>rw[e1]at q;exact q.elim
  |some ds=>
   rw[e1]at q;obtain⟨a,vs,rfl,k1,k2,k3⟩:=pC e1 rp;exact⟨a,vs,rfl,vM h.g.sub k1,k2,q _ H Ha (az.refl _) (h.putAll k3)⟩⟩
def vQ(i j:Nat)(fa:Ev->ak (ac)):db:=λρ=>(fa ρ).bind λds=>match ds with
 |[x,y]=>.ok (.nx ((ρ.set i (.sh x)).set j (.sh y)))
 |_=>.stuck
def C3{i j:Nat}{x y:Str}{px py pt pt2:Pos}{kt k2}(hc:X.calm=true)(hN:X.N.Nodup)(hi:X.N[i]?=some x)(hj:X.N[j]?=some y)(hij:i≠j)
  (hx:X.env.scope.names.lookup x=some .local)(hy:X.env.scope.names.lookup y=some .local)(ha:DA X E [a,b] fa)
  (hw:swappedStores [.Tuple [.Name x px,.Name y py] kt pt] (.Tuple [a,b] k2 pt2) X.env=pure (some [x,y]))
  (hs:swapsWithSole [.Tuple [.Name x px,.Name y py] kt pt] (.Tuple [a,b] k2 pt2) pos.line X.env=pure false:=by rfl) :
  DS X E He H0e (.Assign [.Tuple [.Name x px,.Name y py] kt pt] (.Tuple [a,b] k2 pt2) pos) (vQ i j fa):=by
 refine⟨?_⟩;refine cf (BO hc hN hi hj hij hx hy ha.o hw hs) λD σ H z9=>?_;obtain⟨Ha,ρ,h,q⟩:=z9;refine⟨Ha,ρ,h.g.sub,h.rd,?_⟩
 unfold vQ at q;cases e1:fa ρ with
 |stuck=>rw[e1]at q;exact q|exn x=>rw[e1]at q;exact λC ox H' Ha' g ex=>q C ox H' Ha' (h.g.trans g) ex
 |ok ds=>
  rw[e1]at q;intro vs H1 H01 g1 r1
  match ds,r1,q with
  |[x,y],r1,q=>
   obtain⟨v,r',rfl,h1,h2⟩:=aA.mp r1;obtain⟨u,r'',rfl,h3,h4⟩:=aA.mp h2;rw[Reps.nil_iff.mp h4];exact⟨v,u,rfl,q _ H1 H01 g1.z (((h.grow g1).put h1).put h3)⟩
  |[],_,q=>exact q.elim
  |[_],_,q=>exact q.elim
  |_::_::_::_,_,q=>exact q.elim
end
def lU{K:W.Frag}:iy K "int":=by
 intro S hS;simp only[List.mem_cons,List.mem_nil_iff,or_false]at hS;rcases hS with rfl|rfl|rfl|rfl|rfl|rfl|rfl<;>first|rfl|decide +kernel
def kn{K:W.Frag}:iy K "bool":=by
 intro S hS;simp only[List.mem_cons,List.mem_nil_iff,or_false]at hS;rcases hS with rfl|rfl|rfl|rfl|rfl|rfl|rfl<;>first|rfl|decide +kernel
def jf{K:W.Frag}:iy K "str":=by
 intro S hS;simp only[List.mem_cons,List.mem_nil_iff,or_false]at hS;rcases hS with rfl|rfl|rfl|rfl|rfl|rfl|rfl<;>first|rfl|decide +kernel
def eP{K:W.Frag}:iy K "tuple":=by
 intro S hS;simp only[List.mem_cons,List.mem_nil_iff,or_false]at hS;rcases hS with rfl|rfl|rfl|rfl|rfl|rfl|rfl<;>first|rfl|decide +kernel
def g9{K:W.Frag}:iy K "list":=by
 intro S hS;simp only[List.mem_cons,List.mem_nil_iff,or_false]at hS;rcases hS with rfl|rfl|rfl|rfl|rfl|rfl|rfl<;>first|rfl|decide +kernel
section
variable {X:Cx}{E:XK}{He H0e:Hp}{e a b c:Expr}{f g h:cr}{pos:Pos}
def dv(i:Nat){x:Str}(hN:X.N[i]?=some x:=by rfl)(hv:vj X.env.scope x:=by first|exact Or.inl rfl|exact Or.inr (Or.inl rfl)|exact Or.inr (Or.inr rfl))(hd:(x==("__debug__":Str))=false:=by decide)
  (hcd:(x==("__classdict__":Str))=false:=by decide):DE X E (.Name x pos) (ae i):=C5 hN hv hd hcd
end
def k9(i:Nat):Ev->Nat:=λρ=>match ρ[i]? with
 |some (.sh (.int j))=>j.natAbs+1
 |_=>0
section
variable {X:Cx}{E:XK}{a b:Expr}{f g:cr}{pos:Pos}
def dP(x y:D):ak D:=match x,y with
 |.int i,.int j=>if dJ i j=true then .ok (.int (i*j)) else .stuck
 |_,_=>.stuck
def gI(ha:DE X E a f)(hb:DE X E b g):DE X E (.BinOp a .Mult b pos) (ah f g dP):=nr zi (by
 intro x y v u H Ha Q hs r1 r2 q;unfold dP at q;cases x with
 |int i=>
  cases y with
  |int j=>
   by_cases h:dJ i j=true
   .simp only[if_pos h]at q
    exact⟨i,j,aw.mp r1,aw.mp r2,dJ.ok h,bJ hs q (ri _)⟩
   .simp only[if_neg h]at q;exact q.elim
  |_=>exact q.elim
 |_=>exact q.elim) ha hb
end
def Cp(K:W.Frag)(tg:Ev->D->ak Ev):TG:=λv σ H Q=>∃He H0e,tG K He H0e tg v σ H Q
theorem Reps.rep{K:W.Frag}{H:Hp}{ds:ac}{vs:bv}(h:Reps K H ds vs):∀k:Nat,Reps K H (List.replicate k ds).flatten (List.replicate k vs).flatten
 |0=>by simp;exact Reps.nil
 |k+1=>by
  rw[List.replicate_succ,List.replicate_succ,List.flatten_cons,List.flatten_cons];exact h.app (Reps.rep h k)
section
variable {X:Cx}{E:XK}{a b:Expr}{f g:cr}{pos:Pos}
def rV(x y:D):ak D:=match x,y with
 |.lst ds,.int k=>if ds.length*k.toNat<=line/\-9223372036854775808<=k/\k<9223372036854775808 then .ok (.lst (List.replicate k.toNat ds).flatten) else .stuck
 |_,_=>.stuck
def vY(f g:cr):cr:=λρ=>(f ρ).bind λx=>match x with
 |.lst ds=>(g ρ).bind λy=>rV (.lst ds) y
 |_=>.stuck
def C7(ha:DF X E a f)(hb:DE X E b g):DE X E (.BinOp a .Mult b pos) (vY f g):=by
 refine⟨?_⟩;refine aQ (Bc B4 ha.o hb.o) λσ H Q z9=>?_;obtain⟨Ha,ρ,hs,hr,q⟩:=z9;refine⟨Ha,ρ,hs,hr,?_⟩
 unfold vY at q;cases e1:f ρ with
 |stuck|exn x=>rw[e1]at q;exact q
 |ok x=>
  rw[e1]at q;cases x with
  |lst ds=>
   replace q:post X.K E H Ha ((g ρ).bind λy=>rV (.lst ds) y) Q:=q;intro p vs H1 H01 g1 hp h0 hv rp;refine⟨H01,ρ,g1.sub,hr.mono g1.z,?_⟩;replace q:=q.grow g1;cases e2:g ρ with
   |stuck|exn x=>rw[e2]at q;exact q
   |ok y=>
    rw[e2]at q;intro u H2 H02 g2 r2;replace q:=post.grow (r:=rV (.lst ds) y) q g2;cases y with
    |int k=>
     unfold rV at q
     by_cases c:ds.length*k.toNat<=line/\-9223372036854775808<=k/\k<9223372036854775808
     .simp only[if_pos c]at q
      refine⟨p,k,vs,rfl,aw.mp r2,g2.s _ _ hv,by omega,by omega,by rw[←rp.length];exact cX c.1,λn hn=>?_⟩;exact q _ _ _ (aI g2.sub hn) (ay.mpr ⟨n,_,rfl,dF.of aJ,((rp.mono g2.z).rep _).mono (aI g2.sub hn).z⟩)
     .simp only[if_neg c]at q;exact q.elim
    |_=>exact q.elim
  |_=>exact q.elim
end
section
variable {X:Cx}{E:XK}{a:Expr}{f:cr}{pos:Pos}
def F2:V->Option Int->Option Int->Hp->VK->Prop:=λx lo hi H Q=>∃z,x=.str z/\z.length<=sizeLine/\Q (.str (Txt.slice z lo hi)) H
def BC:yu X F2:=by
 intro pins s σ H x v vl vu lo hi sl Q I rx hs pl pu h;obtain⟨z,rfl,hz,q⟩:=h;obtain⟨t,rfl⟩:=rx;have fin:∀t' k,EP X pins σ Q (.str (Txt.slice z lo hi) t') { s with toks:=k }:=λt' k=>⟨.str (Txt.slice z lo hi),H,I.tok _,⟨_,rfl⟩,q⟩
 refine⟨"str",_,PySem.F.slot_str_getitem.lookup,typeIs_str s z t,?_⟩;cases pl with
 |none=>
  cases pu with|none=>exact wpAny_getItem_str_slice (l:=none) (u:=none) (st:=none) hs rfl (post_val_or_str ⟨Nat.le_trans (Txt.slice_le z _ _) hz,fin⟩)|int j uj=>exact wpAny_getItem_str_slice (l:=none) (u:=some (j,uj)) (st:=none) hs rfl (post_val_or_str ⟨Nat.le_trans (Txt.slice_le z _ _) hz,fin⟩)
 |int i ui=>
  cases pu with|none=>exact wpAny_getItem_str_slice (l:=some (i,ui)) (u:=none) (st:=none) hs rfl (post_val_or_str ⟨Nat.le_trans (Txt.slice_le z _ _) hz,fin⟩)|int j uj=>exact wpAny_getItem_str_slice (l:=some (i,ui)) (u:=some (j,uj)) (st:=none) hs rfl (post_val_or_str ⟨Nat.le_trans (Txt.slice_le z _ _) hz,fin⟩)
noncomputable def lF(x:D) (l h:Option Int):ak D:=match x with
 |.lst ds=>.ok (.lst (ig ds l h))
 |.str z=>if z.length<=line then .ok (.str (Txt.slice z l h)) else .stuck
 |.tup ds=>if HT.sIx ds.length 0 l=0/\HT.sIx ds.length ds.length h=ds.length then .stuck else .ok (.tup (ig ds l h))
 |_=>.stuck
def kM(f:cr)(lo hi:Ev->ak (Option Int)):cr:=λρ=>(f ρ).bind λx=>(lo ρ).bind λl=>(hi ρ).bind λh=>lF x l h
def d7{lo hi:Option Expr}{p2:Pos}{fl fh:Ev->ak (Option Int)}(ha:DE X E a f)(hl:DO X E lo fl)(hh:DO X E hi fh):DE X E (.Subscript a (.Slice lo hi none p2) pos) (kM f fl fh) :=
 ⟨aQ (wt (yu.or yJ (yu.or BC BB)) ha.o hl.o hh.o) (oZ (m:=lF) λx v l h H Ha Q hs r q=>by
  cases x with
  |lst ds=>
   obtain⟨p,vs,rfl,h1,h2⟩:=ay.mp r;exact .inl ⟨p,vs,rfl,az.sqL hs h1,λn hn=>q _ _ _ (aI hs hn) (ay.mpr ⟨n,_,rfl,dF.of aJ,(h2.cut l h).mono (aI hs hn).z⟩)⟩
  |str z=>
   unfold lF at q
   by_cases c:z.length<=line
   .simp only[if_pos c]at q
    exact .inr (.inl ⟨z,aF.mp r,cX c,bJ hs q (aF.mpr rfl)⟩)
   .simp only[if_neg c]at q;exact q.elim
  |tup ds=>
   unfold lF at q
   by_cases c:HT.sIx ds.length 0 l=0/\HT.sIx ds.length ds.length h=ds.length
   .simp only[if_pos c]at q;exact q.elim
   .simp only[if_neg c]at q
    obtain⟨p,vs,rfl,h1,h2⟩:=aG.mp r;exact .inr (.inr ⟨p,vs,rfl,az.sqT hs h1,by rw[←h2.length];exact c,λn hn=>q _ _ _ (aI hs hn) (aG.mpr ⟨n,_,rfl,gk.of aJ,(h2.cut l h).mono (aI hs hn).z⟩)⟩)
  |_=>exact q.elim)⟩
end
section
variable {X:Cx}{E:XK}
def En(K:W.Frag):bv->Hp->VK->Prop:=λxs H Q=>∃(p:Addr) (bs:List Bool),xs=[.ref p]/\dF K H p (bs.map V.bl)/\Q (.bl (bs.all id)) H
theorem nI:∀bs:List Bool,(List.range bs.length).all (λi=>bs.getD i false)=bs.all id
 |[]=>rfl
 |b::r=>by
  rw[List.length_cons,List.range_succ_eq_map,List.all_cons,List.all_map,List.all_cons,←nI r];rfl
def xY(hc:X.calm=true):fA X (.builtin "all") (En X.K):=by
 intro pins s σ H xs us Q I r h;obtain⟨p,bs,rfl,hq,q⟩:=h;obtain⟨u,rfl,rx⟩:=sE r;cases rx;obtain⟨its,rv,pl,hz⟩:=I.list hq;have hlen:=rv.length;rw[List.length_map]at hlen;have hne:p≠s.heap.objs.size:=Nat.ne_of_lt pl.lt;refine call_all_walk (wpAny_pyIter_list pl.isList ?_);have pl2:(s.heap.push { cls:=.type "list_iterator",data:=.fields #[.ref p,.int 0 0] }).IsList p its.toArray:=by
  obtain⟨o,k1,k2⟩:=pl.isList;exact⟨o,Heap.get?_push_of_some _ k1,k2⟩
 refine⟨s.heap.objs.size,_,_,_,_,_,λi=>bs.getD i false,rfl,Walks.list (A:=X.A.in1) (I.ok.hd hc) s.heap.objs.size p hne its.toArray,⟨⟨_,Heap.get?_push_size _ rfl,rfl,rfl⟩,pl2⟩,?_,λh' tk hk=>?_⟩
 .intro i v s' Q' E' hv hQ
  have hv':its[i]?=some v:=by simpa using hv
  have hi:i<its.length:=(List.getElem?_eq_some_iff.mp hv').1;obtain⟨w,e1,e2⟩:=rv.get (show(bs.map V.bl)[i]?=some (V.bl (bs.getD i false)) by
   rw[List.getElem?_map,List.getElem?_eq_getElem (by omega)];simp[List.getD,List.getElem?_eq_getElem (show i<bs.length by omega)])
  rw[hv']at e1;cases e1;obtain rfl:v=Value.bool _:=e2;exact wpAny_truthy_bool hQ
 .have hall:(List.range its.toArray.size).all (λi=>bs.getD i false)=bs.all id:=by
   rw[List.size_toArray,←hlen];exact nI bs
  rw[hall];exact⟨.bl _,H,I.kept (t':=tk) (λb o e=>hk b o (by simp only[List.mem_singleton];exact Nat.ne_of_lt (Heap.lt_size e)) (Heap.get?_push_of_some _ e)),rfl,q⟩
def fx:ac->Option (List Bool)
 |[]=>some []
 |.bl b::r=>(fx r).map (b::·)
 |_=>none
theorem nB{K:W.Frag}{H:Hp}:∀{ds:ac}{bs:List Bool}{vs:bv},fx ds=some bs->Reps K H ds vs->vs=bs.map V.bl
 |[],bs,vs,h,r=>by cases h;exact Reps.nil_iff.mp r
 |d::ds,bs,vs,h,r=>by
  obtain⟨v,r',rfl,h1,h2⟩:=aA.mp r;cases d with
  |bl x=>
   unfold fx at h;cases e:fx ds with
   |none=>rw[e]at h;cases h
   |some zs=>
    rw[e]at h;cases h;rw[aE.mp h1,nB e h2];rfl
  |_=>cases h
def uV(x:D):ak D:=match x with
 |.lst ds=>match fx ds with
  |some bs=>.ok (.bl (bs.all id))
  |none=>.stuck
 |_=>.stuck
def Dc:iz X E (En X.K) (m1 uV):=tW λx v H Ha Q hs r q=>by
 cases x with
 |lst ds=>
  unfold uV at q;obtain⟨p,vs,rfl,h1,h2⟩:=ay.mp r;cases e:fx ds with
  |none=>simp only[e]at q;exact q.elim
  |some bs=>
   simp only[e]at q;exact⟨p,bs,rfl,by rw[←nB e h2];exact az.sqL hs h1,bJ hs q (rb _)⟩
 |_=>exact q.elim
end
end DL
namespace L2
open PySem PySem.Spec PyProof.Rows
section
variable {κ:Type}[DecidableEq κ]
def kF(kvs:List (κ×V))(k:κ):Option V:=(kvs.find? λkv=>decide (kv.1=k)).map (·.2)
def jR(kvs:List (κ×V))(k:κ)(v:V):List (κ×V) :=
 if(kvs.any λkv=>decide (kv.1=k))=true then kvs.map (λkv=>if kv.1=k then(kv.1,v) else kv) else kvs++[(k,v)]
def jo{p:κ×V}{r:List (κ×V)}{k:κ}(e:p.1=k):kF (p::r) k=some p.2:=by simp[kF,List.find?_cons,e]
def gU{p:κ×V}{r:List (κ×V)}{k:κ}(e:¬p.1=k):kF (p::r) k=kF r k:=by simp[kF,List.find?_cons,e]
theorem oR(k:κ):∀kvs:List (κ×V),(kvs.any λkv=>decide (kv.1=k))=(kF kvs k).isSome
 |[]=>rfl
 |p::r=>by
  rw[List.any_cons]
  by_cases e:p.1=k
  .simp only[jo e,decide_eq_true e,Bool.true_or,Option.isSome_some]
  .rw[gU e,decide_eq_false e,Bool.false_or];exact oR k r
def km(kvs:List (κ×V))(k:κ)(v:V):(jR kvs k v).length<=kvs.length+1:=by
 unfold jR;split
 .rw[List.length_map];omega
 .rw[List.length_append,List.length_cons,List.length_nil];omega
def qF.isSome_eq{o:Option V}{u:Option Value}(r:qF o u):o.isSome=u.isSome:=by
 cases o with
 |none=>cases u with
  |none=>rfl
  |some _=>exact(show False from r).elim
 |some _=>cases u with
  |none=>exact(show False from r).elim
  |some _=>rfl
def KV.val{kvs:List (κ×V)}{vs:List (κ×Value)}(r:KV kvs vs)(k:κ):qF (kF kvs k) (valueAt vs k):=by
 unfold KV at r
 induction r with
 |nil=>exact True.intro
 |@cons p q ps qs h t ih=>
  obtain⟨h1,h2⟩:=h
  by_cases e:p.1=k
  .have e':q.1=k:=h1.symm.trans e
   have b:valueAt (q::qs) k=some q.2:=by simp[valueAt,List.find?_cons,e']
   rw[jo e,b];exact h2
  .have e':¬q.1=k:=λz=>e (h1.trans z)
   have b:valueAt (q::qs) k=valueAt qs k:=by simp[valueAt,List.find?_cons,e']
   rw[gU e,b];exact ih
def KV.any{kvs:List (κ×V)}{vs:List (κ×Value)}(r:KV kvs vs)(k:κ):(kvs.any λkv=>decide (kv.1=k))=vs.any λkv=>decide (kv.1=k):=by
 unfold KV at r
 induction r with|nil=>rfl|cons h t ih=>rw[List.any_cons,List.any_cons,ih,h.1]
def KV.repl{kvs:List (κ×V)}{vs:List (κ×Value)}(r:KV kvs vs)(k:κ){y:V}{u:Value}(ry:bh y u) :
  KV (kvs.map λkv=>if kv.1=k then(kv.1,y) else kv) (vs.map λkv=>if kv.1=k then(kv.1,u) else kv):=by
 unfold KV at r ⊢
 induction r with
 |nil=>exact .nil
 |@cons p q ps qs h t ih=>
  rw[List.map_cons,List.map_cons];refine .cons ?_ ih;obtain⟨h1,h2⟩:=h
  by_cases e:p.1=k
  .rw[if_pos e,if_pos (h1.symm.trans e)];exact⟨h1,ry⟩
  .rw[if_neg e,if_neg (λz=>e (h1.trans z))];exact⟨h1,h2⟩
def KV.put{kvs:List (κ×V)}{vs:List (κ×Value)}(r:KV kvs vs)(k:κ){y:V}{u:Value}(ry:bh y u):KV (jR kvs k y) (stored vs k u):=by
 unfold jR stored;rw[r.any k]
 by_cases e:(vs.any λkv=>decide (kv.1=k))=true
 .rw[if_pos e,if_pos e];exact r.repl k ry
 .rw[if_neg e,if_neg e];exact Paired.snoc r ⟨rfl,ry⟩
def KV.length{kvs:List (κ×V)}{vs:List (κ×Value)}(r:KV kvs vs):kvs.length=vs.length:=Paired.length r
end
def sZ{P:Program}{w:World}{k:dQ}{u:Value}(r:bh (kV k) u):(cM P w).is k u=true:=by
 cases k with|inl i=>obtain⟨t,e⟩:=(show ∃t,u=Value.int i t from r);subst e;exact pJ P w i t|inr x=>obtain⟨t,e⟩:=(show ∃t,u=Value.str x t from r);subst e;exact pI P w x t
theorem m8{P:Program}{w:World}:∀{ks:List dQ}{us:List Value},aY (ks.map kV) us->ItemsAre (cM P w) ks us
 |[],_,r=>by rw[List.map_nil]at r;cases r;exact .nil
 |k::ks,_,r=>by
  rw[List.map_cons]at r;cases r with|cons h t=>exact .cons (sZ h) (m8 t)
abbrev KT(H:Hp):List (List dQ×V)->List (List dQ×Addr×Value)->Prop:=Paired λp q=>p.1=q.1/\H q.2.1=some (.tup (p.1.map kV))/\bh p.2 q.2.2
def KT.val{H:Hp}{kvs:List (List dQ×V)}{xs:List (List dQ×Addr×Value)}(r:KT H kvs xs)(k:List dQ):qF (kF kvs k) ((atKey xs k).map (·.2)):=by
 induction r with
 |nil=>exact True.intro
 |@cons p q ps qs h t ih=>
  obtain⟨h1,_,h2⟩:=h
  by_cases e:p.1=k
  .have e':q.1=k:=h1.symm.trans e
   have b:atKey (q::qs) k=some q.2:=by simp[atKey,List.find?_cons,e']
   rw[jo e,b];exact h2
  .have e':¬q.1=k:=λz=>e (h1.trans z)
   have b:atKey (q::qs) k=atKey qs k:=by simp[atKey,List.find?_cons,e']
   rw[gU e,b];exact ih
def KT.repl{H:Hp}{kvs:List (List dQ×V)}{xs:List (List dQ×Addr×Value)}(r:KT H kvs xs)(k:List dQ){y:V}{u:Value}(ry:bh y u) :
  KT H (kvs.map λkv=>if kv.1=k then(kv.1,y) else kv) (xs.map (putAt k u)):=by
 induction r with
 |nil=>exact .nil
 |@cons p q ps qs h t ih=>
  rw[List.map_cons,List.map_cons];refine .cons ?_ ih;obtain⟨h1,h2,h3⟩:=h;unfold putAt
  by_cases e:p.1=k
  .rw[if_pos e,if_pos (h1.symm.trans e)];exact⟨h1,h2,ry⟩
  .rw[if_neg e,if_neg (λz=>e (h1.trans z))];exact⟨h1,h2,h3⟩
def KT.put{H:Hp}{kvs:List (List dQ×V)}{xs:List (List dQ×Addr×Value)}(r:KT H kvs xs)(k:List dQ){b:Addr}{y:V}{u:Value}(hb:H b=some (.tup (k.map kV)))(ry:bh y u) :
  KT H (jR kvs k y) (storedH xs k b u):=by
 have e:(kvs.any λkv=>decide (kv.1=k))=(atKey xs k).isSome:=by
  rw[oR,(r.val k).isSome_eq,Option.isSome_map]
 unfold jR storedH;rw[e]
 by_cases q:(atKey xs k).isSome=true
 .rw[if_pos q,if_pos q];exact r.repl k ry
 .rw[if_neg q,if_neg q];exact Paired.snoc r ⟨rfl,hb,ry⟩
def KT.keeps{H H':Hp}{kvs:List (List dQ×V)}{xs:List (List dQ×Addr×Value)}(r:KT H kvs xs)(ht:∀b ys,H b=some (.tup ys)->H' b=some (.tup ys)):KT H' kvs xs :=
 iu r λ_ _ z=>⟨z.1,ht _ _ z.2.1,z.2.2⟩
section
variable {P:Program}{w:World}{H:Hp}{h:Heap}{a:Addr}
def A7{u:HO}(ok:fK P w H h)(e:Rd H a u):bR P w H h a u:=e.ok ok
def tL{kvs:List (dQ×V)}(ok:fK P w H h)(e:Rd H a (.dK kvs)):kvs.length<=sizeLine/\(a==sysModules)=false/\∃vs,KV kvs vs/\h.DictOf (cM P w) a vs :=
 show bR P w H h a (.dK kvs) from A7 ok e
def E8{kvs:List (dQ×V)}(ok:fK P w H h)(e:H a=some (.dK kvs)):kvs.length<=sizeLine/\(a==sysModules)=false/\∃vs,KV kvs vs/\h.DictOf (cM P w) a vs:=tL ok (.inl e)
def n8{ks:List dQ}(ok:fK P w H h)(e:H a=some (.tup (ks.map kV))):(tupleKind (cM P w)).is h ks a:=by
 obtain⟨_,its,r,o,h1,h2,n,h3⟩:=(show bR P w H h a (.tup (ks.map kV)) from ok a _ e)
 exact⟨o,its.toArray,n,h1,h2,h3,by simpa using m8 r⟩
def tJ{kvs:List (List dQ×V)}(ok:fK P w H h)(e:Rd H a (.dT kvs)):kvs.length<=sizeLine/\(a==sysModules)=false /\
  ∃xs,KT H kvs xs/\h.DictOfH (tupleKind (cM P w)) a xs:=by
 obtain⟨z,y,xs,r,o,es,ep,h1,h2,h3,h4,h5⟩:=(show bR P w H h a (.dT kvs) from A7 ok e)
 refine⟨z,y,xs,r,o,es,ep,h1,h2,h3,h4,λx hx=>?_,h5⟩;have all:∀{l:List (List dQ×V)}{m:List (List dQ×Addr×Value)},KT H l m->∀x∈m,(tupleKind (cM P w)).is h x.1 x.2.1:=by
  intro l m q
  induction q with
  |nil=>intro x hx;exact nomatch hx
  |@cons p q ps qs hq t ih=>
   intro x hx;rcases List.mem_cons.mp hx with e|hx
   .subst e
    exact n8 ok (by rw[←hq.1];exact hq.2.1)
   .exact ih x hx
 exact all r x hx
def E7{kvs:List (List dQ×V)}(ok:fK P w H h)(e:H a=some (.dT kvs)):kvs.length<=sizeLine/\(a==sysModules)=false /\
  ∃xs,KT H kvs xs/\h.DictOfH (tupleKind (cM P w)) a xs:=tJ ok (.inl e)
end
def sC(H:Hp)(a:Addr)(y:V)(r:Option V):Prop :=
 (∃kvs k,Rd H a (.dK kvs)/\y=kV k/\r=kF kvs k)∨∃kvs k b,Rd H a (.dT kvs)/\y=.ref b/\H b=some (.tup (k.map kV))/\r=kF kvs k
noncomputable def yp(H:Hp) (a:Addr) (y v:V) (H':Hp):Prop :=
 (∃kvs k,H a=some (.dK kvs)/\y=kV k/\kvs.length<sizeLine/\H'=upd H a (.dK (jR kvs k v))) ∨
 ∃kvs k b,H a=some (.dT kvs)/\y=.ref b/\H b=some (.tup (k.map kV))/\kvs.length<sizeLine/\H'=upd H a (.dT (jR kvs k v))
theorem yp.k{H:Hp}{a:Addr}{kvs:List (dQ×V)}{k:dQ}{v:V}(e:H a=some (.dK kvs))(hl:kvs.length<sizeLine):yp H a (kV k) v (upd H a (.dK (jR kvs k v))):=.inl ⟨kvs,k,e,rfl,hl,rfl⟩
section
variable {X:Cx}{pins:List (Addr×Obj)}{σ:St}{H:Hp}{s:Shared}{a:Addr}{y v:V}{u r:Value}{o:Option V}{A:Around}{E:Value->Shared->Prop}
def Inv.big(I:Inv X pins σ H s):sysModules<s.heap.objs.size:=by
 have h:mainGlobals<s.heap.objs.size:=(I.mod.glob.keeps I.bk).lt;exact Nat.lt_trans (by decide) h
def uT{Q:Value->Shared->Prop}(hu:A.units+1<cLine)(I:Inv X pins σ H s)(g:sC H a y (some v))(ry:bh y u)(h:∀w' s',Inv X pins σ H s'->bh v w'->Q w' s') :
  wpAny (model X.prog X.w) A (getItem (.ref a) u) Q E s:=by
 rcases g with⟨kvs,k,e,ey,l⟩|⟨kvs,k,b,e,ey,eb,l⟩
 .subst ey
  obtain⟨z,hd,vs,rel,dd⟩:=tL I.hok e;obtain⟨w',hw,rw'⟩:=jM (v:=v) (o:=valueAt vs k) (by rw[l];exact rel.val k);exact wpAny_getItem_of (sZ ry) dd.mapOf hw (h w' _ (I.tok _) rw')
 .subst ey
  cases (show u=Value.ref b from ry);obtain⟨z,hd,xs,rel,dd⟩:=tJ I.hok e;obtain⟨w',hw,rw'⟩:=jM (v:=v) (o:=(atKey xs k).map (·.2)) (by rw[l];exact rel.val k);obtain⟨p,hp,hp2⟩:=Option.map_eq_some_iff.mp hw;refine wpAny_getItem_heap (tupleKind_room_in1 hu) (n8 I.hok eb) dd hp ?_;rw[hp2];exact h w' _ (I.tok _) rw'
def AJ{Q:Value->Shared->Prop}(hu:A.units+1<cLine)(I:Inv X pins σ H s)(g:sC H a y o)(ry:bh y u)(h:∀s',Inv X pins σ H s'->Q (.bool (!o.isSome)) s') :
  wpAny (model X.prog X.w) A (compareOp .NotIn u (.ref a)) Q E s:=by
 rcases g with⟨kvs,k,e,ey,l⟩|⟨kvs,k,b,e,ey,eb,l⟩
 .subst ey
  obtain⟨z,hd,vs,rel,dd⟩:=tL I.hok e;refine wpAny_notIn_of (sZ ry) hd dd.mapOf ?_;rw[←(rel.val k).isSome_eq,←l];exact h _ (I.tok _)
 .subst ey
  cases (show u=Value.ref b from ry);obtain⟨z,hd,xs,rel,dd⟩:=tJ I.hok e;refine wpAny_notIn_heap (tupleKind_room_in1 hu) (n8 I.hok eb) hd dd ?_;have q:=(rel.val k).isSome_eq;rw[Option.isSome_map]at q;rw[←q,←l];exact h _ (I.tok _)
def tP{h':Heap}{t':Nat}{ob:HO}(I:Inv X pins σ H s)(mu:Fm (H a))(hs:Heap.SameBut a s.heap h')(he:∃q,h'.get? a=some q)(new:bR X.prog X.w (upd H a ob) h' a ob) :
  Inv X pins σ (upd H a ob) { s with heap:=h',toks:=t' } :=
 I.write (x:=a) (e:=a) mu (.inl rfl) (λb q hb z=>(hs.2 b hb).trans z) he new
def C4{P:Program}{w:World}{H':Hp}{h':Heap}{kvs:List (dQ×V)}{vs:List (dQ×Value)}(z:kvs.length<=sizeLine)(hd:(a==sysModules)=false)(rel:KV kvs vs)(dd:h'.DictOf (cM P w) a vs) :
  bR P w H' h' a (.dK kvs):=⟨z,hd,vs,rel,dd⟩
def uS{H':Hp}{Q:Unit->Shared->Prop}(hu:A.units+1<cLine)(I:Inv X pins σ H s)(g:yp H a y v H')(ry:bh y u)(rv:bh v r)(h:∀s',Inv X pins σ H' s'->Q () s') :
  wpAny (model X.prog X.w) A (setItem (.ref a) u r) Q E s:=by
 rcases g with⟨kvs,k,e,ey,l,eH⟩|⟨kvs,k,b,e,ey,eb,l,eH⟩
 .subst ey eH
  obtain⟨z,hd,vs,rel,dd⟩:=E8 I.hok e;have hz:vs.length<=sizeLine:=by rw[←rel.length];exact z
  have hl:(jR kvs k v).length<=sizeLine:=by have:=km kvs k v;omega
  refine wpAny_setItem_pairs (hsz:=hz) (sZ ry) dd λh' dd' hs=>h _ ?_;have he:∃q,h'.get? a=some q:=let ⟨q,_,_,hq,_⟩:=dd';⟨q,hq⟩;exact tP I (by rw[e];exact True.intro) hs he (C4 hl hd (rel.put k rv) dd')
 .subst ey eH
  cases (show u=Value.ref b from ry);obtain⟨z,hd,xs,rel,dd⟩:=E7 I.hok e;have hz:xs.length<=sizeLine:=by rw[←Paired.length rel];exact z
  have hl:(jR kvs k v).length<=sizeLine:=by have:=km kvs k v;omega
  refine wpAny_setItem_heap (hsz:=hz) (tupleKind_room_in1 hu) (n8 I.hok eb) dd λh' dd' hs=>h _ ?_;obtain⟨q,es,ep,hq,h2,h3,h4,_,h5⟩:=dd';refine tP I (by rw[e];exact True.intro) hs ⟨q,hq⟩ ⟨hl,hd,_,(rel.put k eb rv).keeps λc ys ec=>?_,q,es,ep,hq,h2,h3,h4,h5⟩;rw[aD (EG ec e (λz=>nomatch z))];exact ec
end
def Dj(i:Expr):Prop:=∀ov iv,subscripted i false ov iv=operate [ov,iv] (getItem ov iv)
def yG{prog:Program}{w:World}{A:Around}{E:Value->Shared->Prop}{s:Shared}{env:Env}{value slice:Expr}{pos:Pos}{T id:String}{Q:Value->Shared->Prop}
  (hl:typeLookup (.type T) "__getitem__"=pure (some (.builtin id)))(hs:Dj slice)
  (h:wpAny (model prog w) A (eval value env) (λo se=>wpAny (model prog w) A (eval slice env) (λi sg=>sg.TypeIs o T/\wpAny (model prog w) A (getItem o i) Q E sg) E se) E s) :
  wpAny (model prog w) A (eval (.Subscript value slice pos) env) Q E s:=by
 refine Subscript_ (wpAny_mono h (λo se h₁=>wpAny_mono h₁ (λi sg hV=>?_) λ_ _ x=>x) λ_ _ x=>x);obtain⟨hT,hV⟩:=hV;unfold subscriptTail;refine wpAny_bind ?_;rw[getitemInPython_of_ne hT.not_modules];refine wpAny_bind (wpAny_specialOf hT hl ?_);have fin:wpAny (model prog w) A (subscripted slice false o i) (λr si=>wpAny (model prog w) A (letTemporaryGo value o r >>= λ_=>pure r) Q E si) E sg:=by
  rw[hs o i];exact wpAny_operating (wpAny_mono hV (λr si h₃=>wpAny_bind (wpAny_letTemporaryGo (wpAny_pure h₃))) λ_ _ x=>x)
 first
  |exact wpAny_pure (wpAny_bind fin)
  |exact wpAny_bind (wpAny_pure (wpAny_bind fin))
  |exact wpAny_bind fin
def qk{X:Cx}{pins:List (Addr×Obj)}{σ:St}{H:Hp}{s:Shared}{a:Addr}{y:V}{o:Option V}(I:Inv X pins σ H s)(g:sC H a y o):s.TypeIs (.ref a) "dict":=by
 rcases g with⟨kvs,k,e,_,_⟩|⟨kvs,k,b,e,_,_,_⟩
 .obtain⟨_,_,vs,_,dd⟩:=tL I.hok e
  exact dd.typeIs
 .obtain⟨_,_,xs,_,dd⟩:=tJ I.hok e
  exact dd.typeIs
def D0(td ty:TE):TE:=λσ H Q=>td σ H λx H1=>ty σ H1 λy H2=>∃a v,x=.ref a/\sC H2 a y (some v)/\Q v H2
def Eb(td ty tv:TE):TS:=λD σ H=>tv σ H λv H1=>td σ H1 λx H2=>ty σ H2 λy H3=>∃a H4,x=.ref a/\yp H3 a y v H4/\D.nx σ H4
section
variable {X:Cx}{o i e value:Expr}{pos pos' tpos:Pos}{td ty tv:TE}
def zc(hu:X.A.units+1<cLine)(ho:PE X o td)(hi:PE X i ty)(hs:Dj i):PE X (.Subscript o i pos) (D0 td ty):=by
 intro pins s σ H Q I h;refine yG PySem.F.slot_dict_getitem.lookup hs (cG (ho pins s σ H _ I h) λu s1 ⟨x,H1,I1,rx,q1⟩=>cG (hi pins s1 σ H1 _ I1 q1) λiv s2 z9=>?_);obtain⟨y,H2,I2,ry,a,v,ex,g,q2⟩:=z9;subst ex;obtain rfl:u=Value.ref a:=rx;exact⟨qk I2 g,uT hu I2 g ry λw' s3 I3 rw'=>⟨v,H2,I3,rw',q2⟩⟩
def yT(hu:X.A.units+1<cLine)(ho:PE X o td)(hi:PE X i ty)(hv:PE X value tv)(hs:swapsWith value (some (.Subscript o i pos')) pos.line X.env=pure false) :
  PS X (.Assign [.Subscript o i pos'] value pos) (Eb td ty tv):=by
 intro pins s σ H D I h;refine wpAny_Assign_Subscript (cG (hv pins s σ H _ I h) λr s1 ⟨v,H1,I1,rv,q1⟩=>cG (ho pins s1 σ H1 _ I1 q1) λu s2 ⟨x,H2,I2,rx,q2⟩=>cG (hi pins s2 σ H2 _ I2 q2) λiv s3 z9=>?_) hs;obtain⟨y,H3,I3,ry,a,H4,ex,g,q3⟩:=z9;subst ex;obtain rfl:u=Value.ref a:=rx;exact uS hu I3 g ry rv λs4 I4=>⟨σ,H4,I4,q3⟩
end
def xK{P:Program}{w:World}{H:Hp}(h:Heap)(hb:sysModules<h.objs.size):bR P w H (h.push { cls:=.type "dict",data:=.dict #[] }) h.objs.size (.dK []) :=
 ⟨Nat.zero_le _,beq_eq_false_iff_ne.mpr (Ne.symm (Nat.ne_of_lt hb)),[],.nil,Heap.DictOf.new h⟩
def Bz:TE:=λ_ H Q=>∀p,H p=none->Q (.ref p) (upd H p (.dK []))
section
variable {X:Cx}{pos:Pos}
def pB:PE X (.Dict [] [] pos) Bz:=λpins s σ H Q I h=>
 wpAny_Dict_empty ⟨.ref s.heap.objs.size,_,I.laid (a:=s.heap.objs.size) (o:=.dK []) (t':=s.toks) (λ_ _ q=>Heap.get?_push_of_some _ q) (Nat.le_refl _) (xK s.heap I.big),rfl,h _ (I.hok.fresh (Nat.le_refl _))⟩
end
end L2
namespace DL
open PySem PySem.Spec PyProof.Rows L2
def qE{K:W.Frag}{H:Hp}{ks:List Str}{ds:ac}{v:V}:bC K H (.dic ks ds) v↔∃a kvs vs,v=.ref a/\Rd H a (.dK kvs)/\kvs=(ks.map Sum.inr).zip vs/\ks.length=vs.length/\Reps K H ds vs:=by rw[bC]
section
variable {X:Cx}{E:XK}{e:Expr}{f:cr}{pos p1:Pos}
def AH:DE X E (.Dict [] [] pos) (dC (.dic [] [])):=by
 refine⟨?_⟩;refine aQ pB λσ H Q ⟨Ha,ρ,hs,hr,q⟩ p hp=>?_;exact q _ _ _ (aI hs hp) (qE.mpr ⟨p,[],[],rfl,.inl aJ,rfl,rfl,Reps.nil⟩)
def dOne(x:Str)(d:D):ak D:=.ok (.dic [x] [d])
end
def fH(cells:List (Str×Addr)):List (Str×NameKind)->List (Str×Addr)->List (Str×Addr)
 |[],acc=>acc
 |(n,k)::r,acc=>if(k==NameKind.free)=true then fH cells r ((n,(cells.lookup n).getD 0)::acc) else fH cells r acc
def mO{scope:Scope}{env:PySem.Env}(h:∀x∈scope.names,x.2=.free->∃c,env.cells.lookup x.1=some c):closureFor scope env=pure (fH env.cells scope.names []):=by
 simp only[closureFor];have key:∀(names:List (Str×NameKind)) (acc:List (Str×Addr)),(∀x∈names,x.2=.free->∃c,env.cells.lookup x.1=some c) ->
   (forIn names acc λ(x:Str×NameKind) (z:List (Str×Addr))=>
      if(x.snd==NameKind.free)=true then do
       let y ←cellOf env x.fst
       pure (ForInStep.yield ((x.fst,y)::z))
      else(pure (ForInStep.yield z):Sem _))=pure (fH env.cells names acc):=by
  intro names
  induction names with
  |nil=>intro acc _;rfl
  |cons x r ih=>
   intro acc hh;obtain⟨n,k⟩:=x;rw[List.forIn_cons]
   by_cases hk:(k==NameKind.free)=true
   .obtain⟨c,hc⟩:=hh (n,k) List.mem_cons_self (by simpa using hk)
    have hcell:cellOf env n=pure c:=by unfold cellOf;rw[show env.cells.lookup n=some c from hc]
    simp only[hk,if_true];rw[hcell];have:=ih ((n,c)::acc) (λy hy=>hh y (List.mem_cons_of_mem _ hy));rw[show fH env.cells ((n,k)::r) acc=fH env.cells r ((n,c)::acc) by
     show(if(k==NameKind.free)=true then _ else _)=_;rw[if_pos hk,show env.cells.lookup n=some c from hc];rfl]
    rw[←this];rfl
   .have:=ih acc (λy hy=>hh y (List.mem_cons_of_mem _ hy))
    rw[if_neg hk];rw[show fH env.cells ((n,k)::r) acc=fH env.cells r acc by
     show(if(k==NameKind.free)=true then _ else _)=_;rw[if_neg hk]]
    rw[←this];rfl
 rw[key _ _ h];rfl
theorem mh{cells:List (Str×Addr)}:∀{names:List (Str×NameKind)}{acc:List (Str×Addr)}{x:Str}{c:Addr},(∀y∈names,y.2=.free->∃c,cells.lookup y.1=some c) ->
  (fH cells names acc).lookup x=some c->acc.lookup x=some c∨cells.lookup x=some c
 |[],acc,x,c,_,h=>.inl h
 |(n,k)::r,acc,x,c,hh,h=>by
  unfold fH at h
  by_cases hk:(k==NameKind.free)=true
  .rw[if_pos hk]at h
   obtain⟨d,hd⟩:=hh (n,k) List.mem_cons_self (by simpa using hk);rcases mh (λy hy=>hh y (List.mem_cons_of_mem _ hy)) h with h|h
   .rw[List.lookup_cons]at h
    cases e:x==n with
    |true=>
     rw[e]at h;rw[show cells.lookup n=some d from hd]at h;cases h;rw[eq_of_beq e];exact .inr hd
    |false=>rw[e]at h;exact .inl h
   .exact .inr h
  .rw[if_neg hk]at h
   exact mh (λy hy=>hh y (List.mem_cons_of_mem _ hy)) h
theorem kj{α:Type}{x:Str}:∀{l:List (Str×α)},(∃v,(x,v)∈l)->∃v,l.lookup x=some v
 |[],⟨v,h⟩=>by cases h
 |(n,w)::r,⟨v,h⟩=>by
  rw[List.lookup_cons];cases e:x==n with
  |true=>exact⟨w,rfl⟩
  |false=>
   rcases List.mem_cons.mp h with h|h
   .cases h;simp at e
   .exact kj ⟨v,h⟩
theorem mj{cells:List (Str×Addr)}{x:Str}{c:Addr}:∀{names:List (Str×NameKind)}{acc:List (Str×Addr)},(x,c)∈acc->(x,c)∈fH cells names acc
 |[],acc,h=>h
 |(n,k)::r,acc,h=>by
  unfold fH
  by_cases hk:(k==NameKind.free)=true
  .rw[if_pos hk];exact mj (List.mem_cons_of_mem _ h)
  .rw[if_neg hk];exact mj h
def mi{cells:List (Str×Addr)}{x:Str}:∀{names:List (Str×NameKind)}{acc:List (Str×Addr)},(x,NameKind.free)∈names->∃c,(fH cells names acc).lookup x=some c:=by
 intro names
 induction names with
 |nil=>intro acc h;cases h
 |cons y r ih=>
  intro acc h;obtain⟨n,k⟩:=y;unfold fH;rcases List.mem_cons.mp h with h|h
  .cases h
   rw[if_pos (by rfl)];exact kj ⟨_,mj List.mem_cons_self⟩
  .by_cases hk:(k==NameKind.free)=true
   .rw[if_pos hk];exact ih h
   .rw[if_neg hk];exact ih h
noncomputable def dw(X:Cx) (N:List Str) (scope:Scope) (s:Shared) (H:Hp) (C:Addr) (fp:List Addr) (pn:List (Addr×Obj)):Cx :=
 { X with N:=N,sd:=s,Ha:=H,env:=compEnvC scope (fH X.env.cells scope.names []) C X.env,outer:=X.stack,stack:=X.stack,ex:=fp,fn:=λ_=>false,pn:=pn,xe:=λ_ _=>False }
def jH(n:Nat)(fr:dl)(σ:L2.St):L2.St:=List.replicate n none++fr.map λ(i:Nat)=>(σ[i]?).getD none
noncomputable def yn(X:Cx) (N:List Str) (n:Nat) (fr:dl) (scope:Scope):Prop :=
 N.length=n+fr.length/\((N.drop n).zip fr).all (λp=>X.N[p.2]?==some p.1&&X.env.scope.names.lookup p.1==some .cell&&scope.names.lookup p.1==some .free&&(relabel scope X.env).names.lookup p.1==some .cell)=true
theorem yn.at{X:Cx}{N:List Str}{n:Nat}{fr:dl}{scope:Scope}(h:yn X N n fr scope){k:Nat}{x:Str}{v:V}{σ:L2.St}(hx:N[k]?=some x)(hv:(jH n fr σ)[k]?=some (some v)) :
  ∃i:Nat,X.N[i]?=some x/\σ[i]?=some (some v)/\X.env.scope.names.lookup x=some .cell/\scope.names.lookup x=some .free/\(relabel scope X.env).names.lookup x=some .cell:=by
 unfold jH at hv
 by_cases hk:k<n
 .rw[List.getElem?_append_left (by simpa using hk),List.getElem?_replicate,if_pos hk]at hv
  cases hv
 .rw[List.getElem?_append_right (by simpa using hk),List.length_replicate,List.getElem?_map]at hv
  cases hi:fr[k-n]? with
  |none=>rw[hi]at hv;cases hv
  |some i=>
   rw[hi]at hv;have hz:((N.drop n).zip fr)[k-n]?=some (x,i):=by
    rw[List.getElem?_zip_eq_some];exact⟨by rw[List.getElem?_drop,show n+(k-n)=k by omega];exact hx,hi⟩
   have:=List.all_eq_true.mp h.2 _ (List.mem_of_getElem? hz);simp only[Bool.and_eq_true,beq_iff_eq]at this;refine⟨i,this.1.1.1,?_,this.1.1.2,this.1.2,this.2⟩;simp only[Option.map_some,Option.some.injEq]at hv;cases hs:σ[i]? with|none=>rw[hs]at hv;cases hv|some u=>rw[hs]at hv;exact congrArg some hv
noncomputable def Fh(X:Cx) (ifs:List Expr) (t:TT):Prop :=
 ∀(pins:List (Addr×Obj)) (s:Shared) (σ:L2.St) (H:Hp) (Q:Bool->Hp->Prop),Inv X pins σ H s->t σ H Q ->
  wpAny (model X.prog X.w) X.A (forIn ifs true λc r=>if r=true then do let ok ←isTrue c X.env (eval c X.env);pure (ForInStep.yield ok) else pure (ForInStep.yield r)) (TP X pins σ Q) X.xe s
def FH:TT:=λ_ H Q=>Q true H
def yY{X:Cx}:Fh X [] FH:=λ_ _ _ H _ I h=>wpAny_tests_nil ⟨H,I,h⟩
def yX{X:Cx}{c:Expr}{t:TT}(h:PT X c t):Fh X [c] t:=λpins s σ H Q I q=>wpAny_tests_one (h pins s σ H Q I q)
theorem md{prog:Program}{w:World}{A:Around}{R:Result->Shared->Prop}{s:Shared}{elt target iter:Expr}{ifs:List Expr}{scope:Scope}{pos:Pos}{it acc:Value}{env:PySem.Env}(I:Nat->Shared->Prop)
  (turn:∀n s,I n s->wpAny (model prog w) A (pyNext it) (λr se=>match r with
   |none=>R (.ok .next) se
   |some v=>wpAny (model prog w) A (letOwnedTupleGo target it v) (λ_ se'=>wpAny (model prog w) A (assign target env v) (λ_ sg=>
     wpAny (model prog w) A (forIn ifs true λc r=>if r=true then do let ok ←isTrue c env (eval c env);pure (ForInStep.yield ok) else pure (ForInStep.yield r)) (λok si=>
      if ok=true then wpAny (model prog w) A (eval elt env) (λx sj=>
       wpAny (model prog w) A (call (.builtin "list.append") [acc,x]) (λ_ sk=>∃m,m<n/\I m sk) (λ_ _=>False) sj) (λ_ _=>False) si
      else ∃m,m<n/\I m si) (λ_ _=>False) sg) (λ_ _=>False) se') (λ_ _=>False) se) (λ_ _=>False) s)
  (n:Nat) (h:I n s) :
  codeAny (model prog w) A (.compLoop (.ListComp elt [⟨target,iter,ifs,0⟩] scope pos) 0 it acc env) R s:=by
 refine codeAny_loop rfl I (λn s hI=>?_) n h;show wpAny _ A ((compTurn (.ListComp elt [⟨target,iter,ifs,0⟩] scope pos) 0 it acc env).onRaise (λx=>do noteFrame x env;theTreesLotGoes x)) _ _ s;refine wpAny_noted ?_;rw[compTurn_list];refine wpAny_bind (wpAny_standAt (wpAny_bind (wpAny_mono (turn n s hI) (λr se h₁=>?_) λ_ _ h'=>h'.elim)));cases r with
 |none=>exact wpAny_pure h₁
 |some v=>
  refine wpAny_bind (wpAny_mono h₁ (λ_ se' h₁'=>?_) λ_ _ h'=>h'.elim);refine wpAny_bind (wpAny_mono h₁' (λ_ sg hV=>wpAny_bind (wpAny_mono hV (λok si h₃=>?_) λ_ _ h'=>h'.elim)) λ_ _ h'=>h'.elim);cases ok with
  |false=>exact wpAny_pure ⟨rfl,h₃⟩
  |true=>
   exact wpAny_bind (wpAny_bind (wpAny_mono h₃ (λx sj h₄=>wpAny_bind (wpAny_mono h₄ (λ_ sk h₅=>wpAny_pure (wpAny_pure ⟨rfl,h₅⟩)) λ_ _ h'=>h'.elim)) λ_ _ h'=>h'.elim))
noncomputable def qL(n:Nat) (fr:dl) (g:TG) (tt:TT) (te:TE) (J:It) (σ:L2.St) (H1:Hp) (Q:VK):Prop:=∀D,H1 D=none->∃W:Nat->Nat->bv->L2.St->Hp->Prop,(∃m,W 0 m [] (jH n fr σ) (upd H1 D (.lst []))) /\
 ∀i m ys σ' H',W i m ys σ' H'->H' D=some (.lst ys)/\((J.stop i H'/\Q (.ref D) H')∨(J.go i H'/\ys.length<sizeLine/\∀x H2,J.yld i H' x H2->g x σ' H2 λσ3 H3=>tt σ3 H3 λb H4=>
  if b=true then te σ3 H4 λy H5=>H5 D=some (.lst ys)/\∃m',m' < m/\W (i+1) m' (ys++[y]) σ3 (upd H5 D (.lst (ys++[y])))
  else ∃m',m' < m/\W (i+1) m' ys σ3 H4))
def uX{X:Cx}{tg iter elt:Expr}{ifs:List Expr}{scope:Scope}{pos:Pos}{N:List Str}{n:Nat}{fr:dl}{g:TG}{tt:TT}{te:TE}(hc:X.calm=true)(hfr:yn X N n fr scope)
  (hcell:∀x∈scope.names,x.2≠.cell)(hfree:∀x∈scope.names,x.2=.free->X.env.scope.names.lookup x.1=some .cell)(hkind:scope.kind=.function)
  (blk:∀s H C fp pn,PG (dw X N scope s H C fp pn) tg g/\Fh (dw X N scope s H C fp pn) ifs tt/\PE (dw X N scope s H C fp pn) elt te)
  {pins:List (Addr×Obj)}{σ:L2.St}{s2:Shared}{Q:VK}{itv:Value}{RR:Value->Addr->Result->Shared->Prop}
  (h2:Gp X pins σ tg (λJ H1=>qL n fr g tt te J σ H1 Q) itv s2)
  (fin:∀(Da C:Addr) (s6:Shared) (H5:Hp) (m:Str->Option Value),Inv X pins σ H5 s6->s6.heap.Ns C m->kQ X pins H5 C->Q (.ref Da) H5->RR (.ref Da) C (.ok .next) s6) :
  wpAny (model X.prog X.w) X.A (newList []) (λacc si=>wpAny (model X.prog X.w) X.A (newFunctionEnv scope X.env.globals (fH X.env.cells scope.names []) [] X.env.qual none .none (some X.env)) (λcenv sj=>
   codeAny (model X.prog X.w) X.A (.compStart (.ListComp elt [⟨tg,iter,ifs,0⟩] scope pos) 0 itv acc { cenv with scope:=relabel scope X.env }) (RR acc cenv.locals) sj) X.xe si) X.xe s2:=by
 obtain⟨it,fp,tn,J,H2,e,I2,T,st2,f2,q⟩:=h2;subst e;have hD:H2 s2.heap.objs.size=none:=I2.fresh;refine wpAny_newObj_type ?_;have I3:Inv X pins σ (upd H2 s2.heap.objs.size (.lst [])) { s2 with heap:=s2.heap.push { cls:=.type "list",data:=.seq ([]:List Value).toArray } }:=I2.lnew (t':=s2.toks) (its:=[]) .nil (Nat.zero_le _);obtain⟨W,⟨m0,w0⟩,turn⟩:=q s2.heap.objs.size hD;generalize hs3:({ s2 with heap:=s2.heap.push { cls:=.type "list",data:=.seq ([]:List Value).toArray } }:Shared)=s3 at I3 ⊢;have hs3h:s3.heap=s2.heap.push { cls:=.type "list",data:=.seq ([]:List Value).toArray }:=by rw[←hs3]
 have hDs:s2.heap.objs.size<s3.heap.objs.size:=by rw[hs3h,Heap.size_push];exact Nat.lt_succ_self _
 have fpl:∀b∈fp,b<s2.heap.objs.size:=λb hb=>by
  obtain⟨o,ho,_⟩:=T.obj _ _ st2 b hb;exact Heap.lt_size ho
 have kept3:∀b o,s2.heap.get? b=some o->s3.heap.get? b=some o:=λb o e=>by rw[hs3h];exact Heap.get?_push_of_some _ e
 have st3:tn 0 s3.heap:=T.keep _ _ _ st2 λb _ o e=>kept3 b o e;generalize hDa:s2.heap.objs.size=Da at *;generalize hH3:upd H2 Da (.lst [])=H3 at *;have fr3:∀b∈fp,H3 b=none:=λb hb=>by rw[←hH3,aD (Nat.ne_of_lt (fpl b hb))];exact(f2 b hb).1
 have cls:∀x c,(fH X.env.cells scope.names []).lookup x=some c->X.env.cells.lookup x=some c:=λx c e=>by
  rcases mh (λy hy hf=>I3.ok.has y.1 (.inl (hfree y hy hf))) e with e|e
  .cases e
  .exact e
 refine wpAny_newFunctionEnv hcell (by intro y hy;simp at hy) (λh4 ns4 sb4=>?_) hkind;have k4:∀b o,s3.heap.get? b=some o->h4.get? b=some o:=λb o e=>(sb4.2 b (Nat.ne_of_lt (Heap.lt_size e))).trans (Heap.get?_push_of_some _ e);generalize hC:s3.heap.objs.size=C at *;have hCn:H3 C=none:=I3.hok.fresh (by rw[hC];exact Nat.le_refl _);have ltC:∀b o,s3.heap.get? b=some o->b≠C:=λb o e=>by rw[←hC];exact Nat.ne_of_lt (Heap.lt_size e)
 have cellC:∀x c,X.env.cells.lookup x=some c->c≠C:=λx c e=>by
  obtain⟨v,o,ho,_⟩:=I3.cell x c e;exact ltC c o ho
 have fpC:∀b∈fp,b≠C:=λb hb=>by
  have:=fpl b hb;exact Nat.ne_of_lt (Nat.lt_trans this hDs)
 show codeAny (model X.prog X.w) X.A (.compStart (.ListComp elt [⟨tg,iter,ifs,0⟩] scope pos) 0 (.ref it) (.ref Da) (compEnvC scope (fH X.env.cells scope.names []) C X.env)) _ _;generalize hs4:({ s3 with heap:=h4,toks:=s3.toks+([]:List (Str×Value)).length }:Shared)=s4;have hs4h:s4.heap=h4:=by rw[←hs4]
 have ok:(dw X N scope s3 H3 C fp (X.pn++pins)).Ok:=by
  refine⟨I3.ok.mod,hkind,I3.ok.glob,I3.ok.blt,Nat.le_of_eq hC,λx y c e1 e2=>I3.ok.inj x y c (cls x c e1) (cls y c e2),λx e=>?_,λx c e=>?_,λ_=>I3.ok.hd hc,I3.ok.frames,.inl rfl,λb hb=>⟨fpC b hb,λx c e=>(f2 b hb).2.2.2.2.1 x c (cls x c e)⟩,I3.bs,Nat.le_trans I3.ok.bsz I3.sz,λb o e hb=>?_,λb hb z=>?_,I3.stack,I3.stkFree⟩
  .have mm:∀k:NameKind,(relabel scope X.env).names.lookup x=some k->(k=.cell∨k=.free)->(x,NameKind.free)∈scope.names:=λk hk hk2=>by
    have hm:=PySem.mem_of_lookup hk;obtain⟨⟨n',k'⟩,hm1,hm2⟩:=List.mem_map.mp hm;dsimp only at hm2;split at hm2
    .rename_i hcnd
     cases hm2;simp only[Bool.and_eq_true,beq_iff_eq]at hcnd;rw[hcnd.1.1]at hm1;exact hm1
    .cases hm2
     rcases hk2 with rfl|rfl
     .exact absurd rfl (hcell _ hm1)
     .exact hm1
   rcases e with e|e
   .exact mi (mm _ e (.inl rfl))
   .exact mi (mm _ e (.inr rfl))
  .cases e
  .rcases(f2 b hb).2.2.2.1 with z|z
   .exact I3.ok.noex b o e z
   .exact absurd (Nat.lt_of_lt_of_le (Heap.lt_size e) (Nat.le_trans I3.ok.bsz z)) (Nat.lt_irrefl _)
  .rcases List.mem_cons.mp (I3.stkSub b z) with z|z
   .exact(f2 b hb).2.1 z
   .exact(f2 b hb).2.2.1 z
 have I4:Inv (dw X N scope s3 H3 C fp (X.pn++pins)) [] (jH n fr σ) H3 s4:=by
  refine⟨ok,by rw[←hs4];rfl,by rw[←hs4];exact I3.bare,by rw[hs4h];exact Un.kept k4,⟨_,by rw[hs4h];exact ns4,λi x v h1 h2 h3=>?_⟩,λx c e=>?_,hCn,λx c e=>I3.freeC x c (cls x c e),λp hp=>?_,by rw[hs4h];exact I3.hok.kept k4,?_⟩
  .obtain⟨j,j1,j2,j3,j4,j5⟩:=hfr.at h1 h2
   obtain⟨m,hn,hl⟩:=I3.loc;obtain⟨u,ru,l⟩:=hl j x v j1 j2 (.inr (.inl j3));refine⟨u,ru,.inr ⟨.inl j5,?_⟩⟩;rcases l with⟨z,_⟩|⟨_,c,z1,z2⟩
   .rw[show X.env.kindOf x=X.env.scope.names.lookup x from rfl,j3]at z;cases z
   .obtain⟨c',hc'⟩:=mi (cells:=X.env.cells) (names:=scope.names) (acc:=[]) (PySem.mem_of_lookup j4)
    have:=cls x c' hc';rw[z1]at this;cases this;obtain⟨oc,q1,q2⟩:=z2;exact⟨c,hc',oc,by rw[hs4h];exact k4 _ _ q1,q2⟩
  .obtain⟨v,oc,q1,q2⟩:=I3.cell x c (cls x c e)
   exact⟨v,oc,by rw[hs4h];exact k4 _ _ q1,q2⟩
  .rw[List.append_nil]at hp
   obtain⟨p1,p2,p3,p4,p5⟩:=I3.pin p hp;refine⟨by rw[hs4h];exact k4 _ _ p1,p2,ltC _ _ p1,λz=>?_,p5⟩;rcases List.mem_cons.mp (I3.stkSub _ z) with z|z
   .exact p3 z
   .exact p4 z
  .show(jH n fr σ).length=N.length
   unfold jH;rw[List.length_append,List.length_replicate,List.length_map,hfr.1]
 have st4:tn 0 s4.heap:=by rw[hs4h];exact T.keep _ _ _ st3 λb _ o e=>k4 b o e
 have stat:∀{H':Hp},(∀b∈fp,H' b=none)->∀b∈fp,kQ (dw X N scope s3 H3 C fp (X.pn++pins)) [] H' b:=λhn b hb=>by
  refine⟨hn b hb,fpC b hb,λz=>?_,.inl hb,λx c e=>(f2 b hb).2.2.2.2.1 x c (cls x c e),λp hp=>?_⟩
  .rcases List.mem_cons.mp (I3.stkSub b z) with z|z
   .exact(f2 b hb).2.1 z
   .exact(f2 b hb).2.2.1 z
  .rw[List.append_nil]at hp
   exact(f2 b hb).2.2.2.2.2 p hp
 have loop:codeAny (model X.prog X.w) X.A (.compLoop (.ListComp elt [⟨tg,iter,ifs,0⟩] scope pos) 0 (.ref it) (.ref Da) (compEnvC scope (fH X.env.cells scope.names []) C X.env)) (RR (.ref Da) C) s4:=by
  refine md (λn s'=>∃i ys σ' H',Inv (dw X N scope s3 H3 C fp (X.pn++pins)) [] σ' H' s'/\tn i s'.heap/\(∀b∈fp,H' b=none)/\W i n ys σ' H') ?_ m0 ⟨0,[],_,H3,I4,st4,fr3,w0⟩;rintro k s5 ⟨i,ys,σ5,H5,I5,st5,fr5,w5⟩;obtain⟨hDl,ways⟩:=turn i k ys σ5 H5 w5;rcases ways with⟨stop,fin'⟩|⟨go,hz,step⟩
  .refine cG (T.done (dw X N scope s3 H3 C fp (X.pn++pins)) rfl rfl rfl hc i [] s5 σ5 H5 (λ_ _=>False) I5 (stat fr5) st5 stop) λr s6 ⟨hr,I6⟩=>?_
   subst hr;obtain⟨mm,nsm,_⟩:=I6.loc;have free6:H5 C=none:=I6.free;have hok:fK X.prog X.w H5 s6.heap:=I6.hok;have un:Un (fQ X.stack) fp H3 H5 s3.heap s6.heap:=I6.base;have IX:Inv X pins σ H5 s6:=I3.call' (s':=s6) (ch:=fp) I6.os un hok I6.bare (λb hb=>⟨(f2 b hb).2.2.2.1,(f2 b hb).2.1,(f2 b hb).2.2.2.2.1,(f2 b hb).2.2.2.2.2⟩);have fC:kQ X pins H5 C:=I3.fpOk (b:=C) (H':=H5) (by rw[hC];exact Nat.le_refl _) free6;exact fin Da C s6 H5 mm IX nsm fC fin'
  .refine cG (T.item (dw X N scope s3 H3 C fp (X.pn++pins)) rfl rfl rfl hc i [] s5 σ5 H5 (λ_ _=>False) I5 (stat fr5) st5 go) λr s6 ⟨u,hr,h6⟩=>?_
   subst hr;refine cG h6 λ_ s7 ⟨x,H7,I7,r7,y7,st7,fr7⟩=>?_;have I7':=I7.pinned (stat fr7) (T.obj _ _ st7);refine cG ((blk s3 H3 C fp (X.pn++pins)).1 _ s7 σ5 H7 x u _ I7' r7 (step x H7 y7)) λ_ s8 ⟨σ8,H8,I8,q8⟩=>?_;refine cG ((blk s3 H3 C fp (X.pn++pins)).2.1 _ s8 σ8 H8 _ I8 q8) λb s8b ⟨H8b,I8b,q8b⟩=>?_;have back:∀{σ':L2.St}{H':Hp}{s':Shared},L2.Inv (dw X N scope s3 H3 C fp (X.pn++pins)) (([]:List (Addr×Obj))++lM fp s7.heap) σ' H' s'->tn (i+1) s'.heap/\∀b∈fp,H' b=none:=λ{σ' H' s'} I'=>by
    refine⟨T.keep _ _ _ st7 λb hb o e=>(I'.pin (b,o) (List.mem_append_right _ (List.mem_append_right _ (gw hb e)))).1,λb hb=>?_⟩;obtain⟨o,e,d⟩:=T.obj _ _ st7 b hb;exact(I'.pin (b,o) (List.mem_append_right _ (List.mem_append_right _ (gw hb e)))).2.1
   cases b with
   |false=>
    rw[if_neg Bool.false_ne_true]at q8b ⊢;obtain⟨m',hm,w9⟩:=q8b;exact⟨m',hm,i+1,ys,σ8,_,I8b.unpinned,(back I8b).1,(back I8b).2,w9⟩
   |true=>
    rw[if_pos rfl]at q8b ⊢;refine cG ((blk s3 H3 C fp (X.pn++pins)).2.2 _ s8b σ8 H8b _ I8b q8b) λy s9 ⟨yv,H9,I9,r9,hD9,m',hm,w9⟩=>?_;refine cG (jX (X:=dw X N scope s3 H3 C fp (X.pn++pins)) _ s9 σ8 H9 (.ref Da) [yv] (.ref Da) [y] (λv H'=>H'=upd H9 Da (.lst (ys++[yv]))) I9 rfl (.cons r9 .nil) ⟨Da,ys,yv,rfl,rfl,hD9,hz,rfl⟩) λ_ s10 ⟨v10,H10,I10,_,e10⟩=>?_;subst e10;exact⟨m',hm,i+1,ys++[yv],σ8,_,I10.unpinned,(back I10).1,(back I10).2,w9⟩
 exact codeAny_compStart_list loop (T.self _ 0 _ _ _ st4 loop)
structure Gq (K:W.Frag) (ds:ac) (J:It) (Ha:Hp):Prop where
 go:∀(i:Nat) (H' Ha':Hp),az Ha Ha'->az Ha' H'->i<ds.length->J.go i H'
 yld:∀(i:Nat) (H' Ha':Hp) (x:V) (H2:Hp) (d:D),az Ha Ha'->az Ha' H'->ds[i]?=some d->J.yld i H' x H2->∃H₀2,br H' Ha' H2 H₀2/\bC K H₀2 d x
 stop:∀(i:Nat) (H' Ha':Hp),az Ha Ha'->az Ha' H'->ds.length<=i->J.stop i H'
noncomputable def GS(K:W.Frag) (E:XK) (src:Ev->ak (ac)):TI:=λσ H R=>∃Ha ρ,az Ha H/\dA K Ha σ ρ/\match src ρ with
 |.ok ds=>∀J H' Ha',br H Ha H' Ha'->Gq K ds J Ha'->R J H'
 |.exn x=>∀C ox H' Ha',br H Ha H' Ha'->qH K Ha' x C ox->E C ox H'
 |.stuck=>False
structure DI (X:Cx) (E:XK) (tg iter:Expr) (src:Ev->ak (ac)):Prop where
 o:PI X tg iter (GS X.K E src)
def sU{X:Cx}{tg iter:Expr}{t t':TI}(h:PI X tg iter t)(w:∀σ H R,t' σ H R->t σ H R):PI X tg iter t':=λpins s σ H R I q=>h pins s σ H R I (w σ H R q)
def nL(f:cr):Ev->ak (ac):=λρ=>(f ρ).bind λd=>match d with
 |.lst ds=>.ok ds
 |_=>.stuck
section
variable {X:Cx}{E:XK}{tg e a b:Expr}{f g:cr}
def jE(h:DE X E e f):DI X E tg e (nL f):=by
 refine⟨sU (sV h.o) λσ H R z9=>?_⟩;obtain⟨Ha,ρ,hs,hr,q⟩:=z9;refine⟨Ha,ρ,hs,hr,?_⟩;unfold nL at q;cases e1:f ρ with
 |stuck|exn x=>rw[e1]at q;exact q
 |ok d=>
  rw[e1]at q;intro v H1 H01 g1 r1;cases d with
  |lst ds=>
   obtain⟨p,vs,rfl,hv,hrv⟩:=ay.mp r1;refine⟨p,rfl,⟨vs,az.sqL g1.sub hv⟩,q _ H1 H01 g1 ⟨λi H' Ha' s1 s2 hi=>?_,λi H' Ha' x H2 d s1 s2 hd hy=>?_,λi H' Ha' s1 s2 hi=>?_⟩⟩
   .exact⟨vs,vs[i]'(by rw[←hrv.length];exact hi),az.sqL (s1.trans s2) hv,by simp⟩
   .obtain⟨rfl,hy⟩:=hy
    obtain⟨u,k1,k2⟩:=hrv.get hd;have:=hy vs (az.sqL (s1.trans s2) hv);rw[k1]at this;cases this;exact⟨Ha',br.refl s2,k2.mono s1⟩
   .exact⟨vs,az.sqL (s1.trans s2) hv,by rw[←hrv.length];exact hi⟩
  |_=>exact q.elim
end
def A6(src:Ev->ak (ac))(tg:Ev->D->ak Ev)(s:db):db:=λρ=>(src ρ).bind λds=>c8 tg s ds ρ
def mC(f:cr):Prop:=∀ρ d,f ρ=.ok d->∃ds,d=.lst ds
def vF{K:W.Frag}{E:XK}{f:cr}(hf:mC f){σ:L2.St}{H:Hp}{Q:VK}(h:tD K E f σ H Q):tF K E f σ H Q:=by
 obtain⟨Ha,ρ,hs,hr,q⟩:=h;refine⟨Ha,ρ,hs,hr,?_⟩;cases e1:f ρ with
 |stuck|exn x=>rw[e1]at q;exact q
 |ok d=>
  obtain⟨ds,rfl⟩:=hf ρ d e1;rw[e1]at q;intro p vs H' Ha' g hp h0 hv rp;have n0:Ha p=none:=hs.free hp;refine q (.ref p) H' (upd Ha' p (.lst vs)) ⟨g.s,λb o e=>?_,λb o e=>?_,λb k1 k2=>?_⟩ (ay.mpr ⟨p,vs,rfl,dF.of aJ,rp.mono λb o e=>?_⟩)
  .rw[aD (by intro z;subst z;rw[n0]at e;cases e)];exact g.z _ _ e
  .by_cases hb:b=p
   .subst hb;rw[aJ]at e;cases e;exact hv
   .rw[aD hb]at e;exact g.sub _ _ e
  .by_cases hb:b=p
   .subst hb;exact hp
   .rw[aD hb]at k1;exact g.nw b k1 k2
  .rw[aD (by intro z;subst z;rw[h0]at e;cases e)];exact e
def xR{X:Cx}{E:XK}{e:Expr}{f:cr}(hf:mC f)(h:DF X E e f):DE X E e f:=⟨aQ h.o λσ H Q q=>vF hf q⟩
def cq(n:Nat)(fr:dl)(ρ:Ev):Ev:=List.replicate n .no++fr.map λ(i:Nat)=>match ρ[i]? with
 |some (.sh d)=>.sh d
 |_=>.no
noncomputable def bH(b:Ev) (tg:Ev->D->ak Ev) (tt fe:cr):ac->ak (ac)
 |[]=>.ok []
 |d::r=>(tg b d).bind λρ1=>(tt ρ1).bind λt=>match t with
  |.bl true=>(fe ρ1).bind λx=>(bH b tg tt fe r).bind λxs=>.ok (x::xs)
  |.bl false=>bH b tg tt fe r
  |_=>.stuck
def eG(n:Nat)(fr:dl)(src:Ev->ak (ac))(tg:Ev->D->ak Ev)(tt fe:cr):cr:=λρ=>(src ρ).bind λds=>
 if ds.length<=line then match bH (cq n fr ρ) tg tt fe ds with
  |.ok es=>.ok (.lst es)
  |_=>.stuck
 else .stuck
def uW{n:Nat}{fr:dl}{src:Ev->ak (ac)}{tg:Ev->D->ak Ev}{tt fe:cr}:mC (eG n fr src tg tt fe):=λρ d h=>by
 unfold eG at h;cases e1:src ρ with
 |stuck|exn x=>rw[e1]at h;cases h
 |ok ds=>
  rw[e1]at h;replace h:(if ds.length<=line then match bH (cq n fr ρ) tg tt fe ds with
   |.ok es=>ak.ok (D.lst es)
   |_=>.stuck else .stuck)=.ok d:=h
  split at h
  .split at h
   .cases h;exact⟨_,rfl⟩
   .cases h
  .cases h
def gL{b:Ev}{tg:Ev->D->ak Ev}{tt fe:cr}{d:D}{r es:ac}(h:bH b tg tt fe (d::r)=.ok es) :
  ∃ρ1 t,tg b d=.ok ρ1/\tt ρ1=.ok (.bl t)/\((t=true/\∃x xs,fe ρ1=.ok x/\bH b tg tt fe r=.ok xs/\es=x::xs)∨(t=false/\bH b tg tt fe r=.ok es)):=by
 unfold bH at h;cases e1:tg b d with
 |stuck|exn z=>rw[e1]at h;cases h
 |ok ρ1=>
  rw[e1]at h;replace h:((tt ρ1).bind λt=>match t with
   |.bl true=>(fe ρ1).bind λx=>(bH b tg tt fe r).bind λxs=>ak.ok (x::xs)
   |.bl false=>bH b tg tt fe r
   |_=>.stuck)=.ok es:=h
  cases e2:tt ρ1 with
  |stuck|exn z=>rw[e2]at h;cases h
  |ok t=>
   rw[e2]at h;cases t with
   |bl t=>
    cases t with
    |true=>
     replace h:((fe ρ1).bind λx=>(bH b tg tt fe r).bind λxs=>ak.ok (x::xs))=.ok es:=h;cases e3:fe ρ1 with
     |stuck|exn z=>rw[e3]at h;cases h
     |ok x=>
      rw[e3]at h;replace h:((bH b tg tt fe r).bind λxs=>ak.ok (x::xs))=.ok es:=h;cases e4:bH b tg tt fe r with|stuck|exn z=>rw[e4]at h;cases h|ok xs=>rw[e4]at h;cases h;exact⟨ρ1,true,rfl,e2,.inl ⟨rfl,x,xs,e3,rfl,rfl⟩⟩
    |false=>exact⟨ρ1,false,rfl,e2,.inr ⟨rfl,h⟩⟩
   |_=>cases h
def iM{b:Ev}{tg:Ev->D->ak Ev}{tt fe:cr}{d x:D}{r:ac}{ρ1:Ev}(h1:tg b d=.ok ρ1)(h2:tt ρ1=.ok (.bl true))(h3:fe ρ1=.ok x):bH b tg tt fe (d::r)=(bH b tg tt fe r).bind λxs=>.ok (x::xs):=by
 rw[bH,h1];simp only[ak.bind,h2,h3]
def me{b:Ev}{tg:Ev->D->ak Ev}{tt fe:cr}{d:D}{r:ac}{ρ1:Ev}(h1:tg b d=.ok ρ1)(h2:tt ρ1=.ok (.bl false)):bH b tg tt fe (d::r)=bH b tg tt fe r:=by
 rw[bH,h1];simp only[ak.bind,h2]
theorem kc{b:Ev}{tg:Ev->D->ak Ev}{tt fe:cr}:∀{r q es:ac},bH b tg tt fe (r++q)=.ok es->∃e1 e2,bH b tg tt fe r=.ok e1/\bH b tg tt fe q=.ok e2/\es=e1++e2
 |[],q,es,h=>⟨[],es,rfl,h,rfl⟩
 |d::r,q,es,h=>by
  obtain⟨ρ1,t,h1,h2,h3⟩:=gL h;rcases h3 with⟨rfl,x,xs,h3,h4,rfl⟩|⟨rfl,h4⟩
  .obtain⟨e1,e2,k1,k2,rfl⟩:=kc h4
   refine⟨x::e1,e2,?_,k2,rfl⟩;rw[iM h1 h2 h3,k1];rfl
  .obtain⟨e1,e2,k1,k2,rfl⟩:=kc h4
   refine⟨e1,e2,?_,k2,rfl⟩;rw[me h1 h2];exact k1
theorem gK{b:Ev}{tg:Ev->D->ak Ev}{tt fe:cr}:∀{r q e1 e2:ac},bH b tg tt fe r=.ok e1->bH b tg tt fe q=.ok e2->bH b tg tt fe (r++q)=.ok (e1++e2)
 |[],q,e1,e2,h,h'=>by cases h;exact h'
 |d::r,q,e1,e2,h,h'=>by
  obtain⟨ρ1,t,h1,h2,h3⟩:=gL h;show bH b tg tt fe (d::(r++q))=_;rcases h3 with⟨rfl,x,xs,h3,h4,rfl⟩|⟨rfl,h4⟩
  .rw[iM h1 h2 h3,gK h4 h'];rfl
  .rw[me h1 h2];exact gK h4 h'
theorem mf{b:Ev}{tg:Ev->D->ak Ev}{tt fe:cr}:∀{r es:ac},bH b tg tt fe r=.ok es->es.length<=r.length
 |[],es,h=>by cases h;exact Nat.le_refl _
 |d::r,es,h=>by
  obtain⟨ρ1,t,h1,h2,h3⟩:=gL h;rcases h3 with⟨rfl,x,xs,h3,h4,rfl⟩|⟨rfl,h4⟩
  .exact Nat.succ_le_succ (mf h4)
  .exact Nat.le_succ_of_le (mf h4)
def yi(n:Nat)(tg:Ev->D->ak Ev):Prop:=∀ρ d ρ',tg ρ d=.ok ρ'->ρ'.length=ρ.length/\∀(k:Nat),n<=k->ρ'[k]?=ρ[k]?
def oU{i n:Nat}(h:i<n):yi n (eJ i):=λρ d ρ' e=>by
 cases e;exact⟨by simp,λk hk=>by rw[List.getElem?_set_ne (by omega)]⟩
theorem jr{n:Nat}:∀{is:dl}{ds:ac}{ρ:Ev},(is.all λi=>decide (i<n))=true->(eT ρ is ds).length=ρ.length/\∀(k:Nat),n<=k->(eT ρ is ds)[k]?=ρ[k]?
 |[],ds,ρ,_=>by unfold eT;exact⟨rfl,λ_ _=>rfl⟩
 |i::is,[],ρ,_=>by unfold eT;exact⟨rfl,λ_ _=>rfl⟩
 |i::is,d::ds,ρ,h=>by
  rw[List.all_cons,Bool.and_eq_true,decide_eq_true_eq]at h;unfold eT;obtain⟨h1,h2⟩:=jr (ds:=ds) (ρ:=ρ.set i (.sh d)) h.2;exact⟨by rw[h1];simp,λk hk=>by rw[h2 k hk,List.getElem?_set_ne (by omega)]⟩
def jq{n:Nat}{is:dl}(h:(is.all λi=>decide (i<n))=true):yi n (bY is):=λρ d ρ' e=>by
 unfold bY at e;cases hp:iE is.length d with|none=>rw[hp]at e;cases e|some ds=>rw[hp]at e;cases e;exact jr h
def r0{K:W.Frag}{Ha:Hp}{σ:L2.St}{ρ:Ev}{n:Nat}{fr:dl}(h:dA K Ha σ ρ):dA K Ha (jH n fr σ) (cq n fr ρ):=λi d e=>by
 unfold cq at e;unfold jH
 by_cases hi:i<n
 .rw[List.getElem?_append_left (by simpa using hi),List.getElem?_replicate,if_pos hi]at e
  cases e
 .rw[List.getElem?_append_right (by simpa using hi),List.length_replicate,List.getElem?_map]at e ⊢
  cases hf:fr[i-n]? with
  |none=>rw[hf]at e;cases e
  |some j=>
   rw[hf]at e;simp only[Option.map_some,Option.some.injEq]at e ⊢;cases hj:ρ[j]? with
   |none=>rw[hj]at e;cases e
   |some s=>
    rw[hj]at e;cases s with
    |sh d'=>
     cases e;obtain⟨v,h1,h2⟩:=h j d hj;exact⟨v,by rw[h1];rfl,h2⟩
    |_=>cases e
def AR{n:Nat}{fr:dl}{ρ:Ev}{k:Nat}(h:k<n):(cq n fr ρ)[k]?=some .no:=by
 unfold cq;rw[List.getElem?_append_left (by simpa using h),List.getElem?_replicate,if_pos h]
def yc{n:Nat}{fr:dl}{ρ:Ev}(i j:Nat)(es:ac):(cq n fr ρ)[i]?≠some (.ox j es):=λe=>by
 unfold cq at e
 by_cases hj:i<n
 .rw[List.getElem?_append_left (by simpa using hj),List.getElem?_replicate,if_pos hj]at e;cases e
 .rw[List.getElem?_append_right (by simpa using hj),List.getElem?_map]at e
  cases hf:fr[i-(List.replicate n Sl.no).length]? with
  |none=>rw[hf]at e;cases e
  |some z=>
   rw[hf]at e;simp only[Option.map_some,Option.some.injEq]at e;split at e<;>cases e
def u9{n:Nat}{fr:dl}{ρ:Ev}{σ:L2.St}(i:Nat)(a:Addr)(e:(cq n fr ρ)[i]?=some (.pt a)):σ[i]?=some (some (.ref a)):=by
 unfold cq at e
 by_cases hj:i<n
 .rw[List.getElem?_append_left (by simpa using hj),List.getElem?_replicate,if_pos hj]at e;cases e
 .rw[List.getElem?_append_right (by simpa using hj),List.getElem?_map]at e
  cases hf:fr[i-(List.replicate n Sl.no).length]? with
  |none=>rw[hf]at e;cases e
  |some z=>
   rw[hf]at e;simp only[Option.map_some,Option.some.injEq]at e;split at e<;>cases e
def qz{n:Nat}{fr:dl}{ρ:Ev}:(cq n fr ρ).length=n+fr.length:=by unfold cq;simp
def rX{K:W.Frag}{E:XK}{n:Nat}{fr:dl}{tg:Ev->D->ak Ev}{tt fe:cr}{σ:L2.St}{ρ:Ev}{H Ha H1 H01:Hp}{ds es:ac}{J:It}{Q:VK}(hsame:az Ha H)(g1:br H Ha H1 H01)(it:Gq K ds J H01)(hl:ds.length<=line)
  (e2:bH (cq n fr ρ) tg tt fe ds=.ok es)(hr:dA K H01 σ ρ)(hok:yi n tg)
  (q:∀p vs H' Ha',br H Ha H' Ha'->H p=none->Ha' p=none->H' p=some (.lst vs)->Reps K Ha' es vs->Q (.ref p) H') :
  qL n fr (Cp K tg) (Dp K E tt) (tD K E fe) J σ H1 Q:=by
 intro Da hDa;have h0D:H01 Da=none:=g1.sub.free hDa;refine⟨λi m ys σ' H'=>m=ds.length-i/\i<=ds.length/\σ'.length=n+fr.length/\∃Ha',br H1 H01 H' Ha'/\Ha' Da=none/\H' Da=some (.lst ys)/\dA K Ha' σ' (cq n fr ρ)/\∃es1,bH (cq n fr ρ) tg tt fe (ds.take i)=.ok es1/\Reps K Ha' es1 ys,
  ⟨ds.length,by simp,Nat.zero_le _,by unfold jH;simp,H01,?_,h0D,aJ,r0 hr,[],rfl,Reps.nil⟩,?_⟩
 .refine⟨λb o e=>by rw[aD (aS e hDa)];exact e,az.refl _,λb o e=>?_,λb k1 k2=>absurd k2 k1⟩
  rw[aD (by intro z;subst z;rw[h0D]at e;cases e)];exact g1.sub _ _ e
 .rintro i m ys σ' H' ⟨rfl,hile,hsl,Ha',gg,hD0,hDl,hrd,es1,hes1,hys⟩
  refine⟨hDl,?_⟩
  by_cases hlt:i<ds.length
  .refine .inr ⟨it.go i H' Ha' gg.z gg.sub hlt,?_,?_⟩
   .rw[←hys.length]
    have:=mf hes1;rw[List.length_take]at this;have h2:line<sizeLine:=by decide
    omega
   .intro x H2 hy
    obtain⟨H₀2,g2,rp⟩:=it.yld i H' Ha' x H2 ds[i] gg.z gg.sub (List.getElem?_eq_getElem hlt) hy;have hsplit:ds=ds.take i++(ds[i]::ds.drop (i+1)):=by rw[←List.drop_eq_getElem_cons hlt,List.take_append_drop]
    rw[hsplit]at e2;obtain⟨a1,a2,k1,k2,k3⟩:=kc e2;rw[hes1]at k1;cases k1;obtain⟨ρ1,t,t1,t2,t3⟩:=gL k2;have hn2:H₀2 Da=none:=by
     cases qq:H₀2 Da with|none=>rfl|some o=>have:=g2.nw Da (by rw[qq];simp) hD0;rw[hDl]at this;cases this
    have hD2:H2 Da=some (.lst ys):=g2.s _ _ hDl;refine⟨H2,H₀2,H₀2,cq n fr ρ,ds[i],⟨br.refl g2.sub,hrd.mono g2.z,λj d' e=>?_,λj k d1 d2 _ e=>?_,by rw[qz,hsl],OX.none yc u9⟩,rp,?_⟩
    .unfold cq at e
     by_cases hj:j<n
     .rw[List.getElem?_append_left (by simpa using hj),List.getElem?_replicate,if_pos hj]at e;cases e
     .rw[List.getElem?_append_right (by simpa using hj),List.getElem?_map]at e
      cases hf:fr[j-(List.replicate n Sl.no).length]? with
      |none=>rw[hf]at e;cases e
      |some z=>
       rw[hf]at e;simp only[Option.map_some,Option.some.injEq]at e;split at e<;>cases e
    .unfold cq at e
     by_cases hj:j<n
     .rw[List.getElem?_append_left (by simpa using hj),List.getElem?_replicate,if_pos hj]at e;cases e
     .rw[List.getElem?_append_right (by simpa using hj),List.getElem?_map]at e
      cases hf:fr[j-(List.replicate n Sl.no).length]? with
      |none=>rw[hf]at e;cases e
      |some z=>
       rw[hf]at e;simp only[Option.map_some,Option.some.injEq]at e;split at e<;>cases e
    .rw[t1]
     intro σ3 H3 H03 z3 s3;have hrl:=hok _ _ _ t1;have hσ3:σ3.length=n+fr.length:=by rw[←s3.ln,hrl.1,qz]
     have back:∀{Hx:Hp},az H03 Hx->dA K Hx σ3 (cq n fr ρ):=λ{Hx} sx k d e=>by
      by_cases hk:k<n
      .rw[AR hk]at e;cases e
      .rw[←hrl.2 k (by omega)]at e
       obtain⟨v,h1,h2⟩:=s3.rd k d e;exact⟨v,h1,h2.mono sx⟩
     have n3:H03 Da=none:=by
      cases qq:H03 Da with|none=>rfl|some o=>have:=s3.g.nw Da (by rw[qq];simp) hn2;rw[hD2]at this;cases this
     have hD3:H3 Da=some (.lst ys):=s3.g.s _ _ hD2;refine⟨H03,ρ1,s3.g.sub,s3.rd,?_⟩;rw[t2];intro H4 H04 g4;have hD4:H4 Da=some (.lst ys):=g4.s _ _ hD3;have n4:H04 Da=none:=by
      cases qq:H04 Da with|none=>rfl|some o=>have:=g4.nw Da (by rw[qq];simp) n3;rw[hD3]at this;cases this
     have htake:ds.take (i+1)=ds.take i++[ds[i]]:=by rw[List.take_add_one,List.getElem?_eq_getElem hlt];rfl
     have g04:=(gg.trans g2).trans (s3.g.trans g4);rcases t3 with⟨rfl,y,xs,t3,t4,_⟩|⟨rfl,t4⟩
     .rw[if_pos rfl]
      refine⟨H04,ρ1,g4.sub,s3.rd.mono g4.z,?_⟩;rw[t3];intro yv H5 H05 g5 ry;have hD5:H5 Da=some (.lst ys):=g5.s _ _ hD4;have n5:H05 Da=none:=by
       cases qq:H05 Da with|none=>rfl|some o=>have:=g5.nw Da (by rw[qq];simp) n4;rw[hD4]at this;cases this
      have gall:=g04.trans g5;refine⟨hD5,ds.length-(i+1),by omega,rfl,hlt,hσ3,H05,⟨λb o e=>?_,gall.z,λb o e=>?_,gall.nw⟩,n5,aJ,back (g4.z.trans g5.z),es1++[y],?_,?_⟩
      .rw[aD (aS e hDa)];exact gall.s _ _ e
      .rw[aD (by intro z;subst z;rw[n5]at e;cases e)];exact gall.sub _ _ e
      .rw[htake]
       refine gK hes1 ?_;rw[iM t1 t2 t3];rfl
      .exact(hys.mono ((g2.z.trans s3.g.z).trans (g4.z.trans g5.z))).app (Reps.cons ry Reps.nil)
     .rw[if_neg Bool.false_ne_true]
      refine⟨ds.length-(i+1),by omega,rfl,hlt,hσ3,H04,g04,n4,hD4,back g4.z,es1,?_,hys.mono ((g2.z.trans s3.g.z).trans g4.z)⟩;rw[htake];rw[show es1=es1++[] by simp];refine gK hes1 ?_;rw[me t1 t2];rfl
  .have hi2:i=ds.length:=by omega
   refine .inl ⟨it.stop i H' Ha' gg.z gg.sub (by omega),?_⟩;rw[hi2,List.take_length]at hes1;rw[e2]at hes1;cases hes1;exact q Da ys H' Ha' (g1.trans gg) (g1.s.free hDa) hD0 hDl hys
structure FC (X:Cx) (E:XK) (ifs:List Expr) (f:cr):Prop where
 o:Fh X ifs (Dp X.K E f)
def mYes:cr:=λ_=>.ok (.bl true)
def jD{X:Cx}{E:XK}:FC X E [] mYes:=⟨λpins s σ H Q I ⟨Ha,ρ,hs,hr,q⟩=>yY pins s σ H Q I (q H Ha (br.refl hs))⟩
def Az{X:Cx}{E:XK}{c:Expr}{f:cr}(h:DT X E c f):FC X E [c] f:=⟨yX h.o⟩
structure FD (X:Cx) (E:XK) (e:Expr) (f:cr):Prop where
 ev:PE X e (tF X.K E f)
 st:∀{i:Nat}{x:Str}{pos' spos:Pos},X.N.Nodup->X.N[i]?=some x->X.env.scope.names.lookup x=some .local -> swapsWith e (some (.Name x pos')) spos.line X.env=pure true->PS X (.Assign [.Name x pos'] e spos) (BA (tF X.K E f) (xk i))
def GX{X:Cx}{E:XK}{tgt iter elt:Expr}{ifs:List Expr}{scope:Scope}{pos:Pos}(N:List Str)(n:Nat)(fr:dl){src:Ev->ak (ac)}{tg:Ev->D->ak Ev}{tt fe:cr}(hc:X.calm=true)(hi:DI X E tgt iter src)(hok:yi n tg)
  (blk:∀s H C fp pn,(∀He H0e,DG (dw X N scope s H C fp pn) E He H0e tgt tg)/\FC (dw X N scope s H C fp pn) E ifs tt/\DE (dw X N scope s H C fp pn) E elt fe)
  (hfr:yn X N n fr scope)(hcell:∀x∈scope.names,x.2≠.cell)(hfree:∀x∈scope.names,x.2=.free->X.env.scope.names.lookup x.1=some .cell)(hkind:scope.kind=.function)(hnames:∀x∈scope.names,x.2=.local -> scope.names.lookup x.1=some .local)
  (hs:∀x,foldedSetIterable iter X.env x=pure x:=by intro _;rfl):FD X E (.ListComp elt [⟨tgt,iter,ifs,0⟩] scope pos) (eG n fr src tg tt fe):=by
 have blk':∀s H C fp pn,PG (dw X N scope s H C fp pn) tgt (Cp X.K tg)/\Fh (dw X N scope s H C fp pn) ifs (Dp X.K E tt)/\PE (dw X N scope s H C fp pn) elt (tD X.K E fe):=λs H C fp pn=>
  ⟨λpins s' σ' H' v u Q' I r ⟨He,H0e,q'⟩=>((blk s H C fp pn).1 He H0e).o pins s' σ' H' v u Q' I r q',(blk s H C fp pn).2.1.o,(blk s H C fp pn).2.2.o⟩
 have first:∀{pins:List (Addr×Obj)}{s:Shared}{σ:L2.St}{H:Hp}{Q:VK}{RR:Value->Addr->Result->Shared->Prop},L2.Inv X pins σ H s->tF X.K E (eG n fr src tg tt fe) σ H Q ->
   (∀(Da C:Addr) (s6:Shared) (H5:Hp) (m:Str->Option Value),L2.Inv X pins σ H5 s6->s6.heap.Ns C m->kQ X pins H5 C->Q (.ref Da) H5->RR (.ref Da) C (.ok .next) s6) ->
   wpAny (model X.prog X.w) X.A (eval iter X.env) (λx se=>wpAny (model X.prog X.w) X.A (pyIter x) (λit sg=>wpAny (model X.prog X.w) X.A (newList []) (λacc si=>
    wpAny (model X.prog X.w) X.A (newFunctionEnv scope X.env.globals (fH X.env.cells scope.names []) [] X.env.qual none .none (some X.env)) (λcenv sj=>
     codeAny (model X.prog X.w) X.A (.compStart (.ListComp elt [⟨tgt,iter,ifs,0⟩] scope pos) 0 it acc { cenv with scope:=relabel scope X.env }) (RR acc cenv.locals) sj) X.xe si) X.xe sg) X.xe se) X.xe s:=by
  intro pins s σ H Q RR I ⟨Ha,ρ,hsame,hr,q⟩ fin;refine cG (hi.o pins s σ H (λJ H1=>qL n fr (Cp X.K tg) (Dp X.K E tt) (tD X.K E fe) J σ H1 Q) I ⟨Ha,ρ,hsame,hr,?_⟩) λv s1 h1=>cG h1 λitv s2 h2=>uX (N:=N) hc hfr hcell hfree hkind blk' h2 fin;unfold eG at q;cases e1:src ρ with
  |stuck|exn x=>rw[e1]at q;exact q
  |ok ds=>
   rw[e1]at q;intro J H1 H01 g1 it;replace q:match (if ds.length<=line then match bH (cq n fr ρ) tg tt fe ds with
     |.ok es=>ak.ok (D.lst es)
     |_=>.stuck else .stuck) with
    |.ok (.lst ds)=>∀p vs H' Ha',br H Ha H' Ha'->H p=none->Ha' p=none->H' p=some (.lst vs)->Reps X.K Ha' ds vs->Q (.ref p) H'
    |.ok _=>False
    |.exn x=>∀C ox H' Ha',br H Ha H' Ha'->qH X.K Ha' x C ox->E C ox H'
    |.stuck=>False:=q
   by_cases hl:ds.length<=line
   .rw[if_pos hl]at q
    cases e2:bH (cq n fr ρ) tg tt fe ds with
    |stuck|exn x=>rw[e2]at q;exact q.elim
    |ok es=>
     rw[e2]at q;exact rX hsame g1 it hl e2 (hr.mono g1.z) hok q
   .rw[if_neg hl]at q;exact q.elim
 have hcl:∀{pins:List (Addr×Obj)}{s:Shared}{σ:L2.St}{H:Hp},L2.Inv X pins σ H s->closureFor scope X.env=pure (fH X.env.cells scope.names []):=λ{pins s σ H} I=>mO λy hy hf=>I.ok.has y.1 (.inl (hfree y hy hf));refine⟨λpins s σ H Q I h=>?_,λ{i x pos' spos} hN hi' hx hsw pins s σ H D' I h=>?_⟩
 .rw[eval_ListComp]
  refine wpAny_comprehension_free (use:=none) rfl hs (hcl I) hkind hnames (first (RR:=λacc C=>compPost (model X.prog X.w) X.A X.xe none (EP X pins σ Q) acc C) I h λDa C s6 H5 m I6 ns fC q=>?_);refine⟨m,ns,λh' sb=>⟨.ref Da,H5,?_,rfl,q⟩⟩;exact I6.turned (t':=s6.toks) (it:=C) (λb o hb e=>(sb.2 b hb).trans e) fC.1 fC.2.1 fC.2.2.2.1 fC.2.2.2.2.1 fC.2.2.2.2.2
 .rw[exec_Assign_Name_used _ _ _ _ hsw]
  refine wpAny_bind (wpAny_standAt (wpAny_bind ?_));show wpAny _ X.A (do let _ ←comprehension (.ListComp elt [⟨tgt,iter,ifs,0⟩] scope pos) scope X.env _ (newList []) false (eval iter X.env) (some (assign (.Name x pos') X.env))) _ _ s;refine wpAny_bind (wpAny_mono (wpAny_comprehension_free (use:=some (assign (.Name x pos') X.env)) (Q:=λ_ s'=>SP X pins D' .next s') rfl hs (hcl I) hkind hnames
   (first (RR:=λacc C=>compPost (model X.prog X.w) X.A X.xe (some (assign (.Name x pos') X.env)) (λ_ s'=>SP X pins D' .next s') acc C) I h λDa C s6 H5 m I6 ns fC q=>?_)) (λ_ s' hq=>wpAny_pure (wpAny_pure hq)) λ_ _ e=>e)
  show wpAny _ X.A (assign (.Name x pos') X.env (.ref Da)) _ _ _;refine wpAny_assign_Name (mU (v:=.ref Da) I6 hN hi' (.inl hx) rfl (λs' I' z9=>?_) (.inr hx));obtain⟨a,sb,ha⟩:=z9;have hCa:C≠a:=by
   rcases ha with rfl|ha
   .exact fC.2.1
   .exact λz=>fC.2.2.2.2.1 x a ha z.symm
  refine⟨m,ns.sameBut sb hCa,λh' sb'=>⟨_,H5,?_,q⟩⟩;exact I'.turned (t':=s'.toks) (it:=C) (λb o hb e=>(sb'.2 b hb).trans e) fC.1 fC.2.1 fC.2.2.2.1 fC.2.2.2.2.1 fC.2.2.2.2.2
def E9{X:Cx}{E:XK}{e:Expr}{f:cr}(h:FD X E e f):DF X E e f:=⟨h.ev⟩
def nu{X:Cx}{E:XK}{e:Expr}{n:Nat}{fr:dl}{src:Ev->ak (ac)}{tg:Ev->D->ak Ev}{tt fe:cr}(h:FD X E e (eG n fr src tg tt fe)):DE X E e (eG n fr src tg tt fe):=xR uW (E9 h)
section
variable {X:Cx}{E:XK}{He H0e:Hp}{e:Expr}{f:cr}{s:db}{pos:Pos}{st:Stmt}
def unown(i:Nat)(ρ:Ev):Ev:=match ρ[i]? with
 |some (.ow d)=>ρ.set i (.sh d)
 |_=>ρ
def BG(i:Nat)(s:db):db:=λρ=>s (unown i ρ)
def de.unown{K:W.Frag}{Ha H:Hp}{σ:L2.St}{ρ:Ev}(h:de K He H0e Ha σ H ρ)(i:Nat):∃Ha',az Ha Ha'/\de K He H0e Ha' σ H (DL.unown i ρ):=by
 unfold DL.unown;cases e:ρ[i]? with
 |none=>exact⟨Ha,az.refl _,h⟩
 |some s=>
  cases s with
  |no|sh d|ox j ds|pt a=>exact⟨Ha,az.refl _,h⟩
  |ow d=>
   obtain⟨a,k1,k2,k3,k4⟩:=h.ow i d e;obtain⟨o,h5,hrep⟩:∃o,H a=some o/\∀Hb,az Ha Hb->Hb a=some o->bC K Hb d (.ref a):=by
    cases d with
    |lst ds=>obtain⟨vs,h5,h6⟩:=k4;exact⟨_,h5,λHb z e=>ay.mpr ⟨a,vs,rfl,dF.of e,h6.mono z⟩⟩
    |dic ks ds=>obtain⟨vs,h5,hl,h6⟩:=k4;exact⟨_,h5,λHb z e=>by rw[bC];exact⟨a,_,vs,rfl,.inl e,rfl,hl,h6.mono z⟩⟩
    |ob kk ds=>
     cases kk with|dint ks=>obtain⟨vs,h5,hl,h6⟩:=k4;exact⟨_,h5,λHb z e=>by exact cF.mpr ⟨a,vs,rfl,⟨_,.inl e,rfl,hl⟩,h6.mono z⟩⟩| _=>exact k4.elim
    |_=>exact k4.elim
   have z:az Ha (upd Ha a o):=λb o' q=>by rw[aD (by intro z;subst z;rw[k3]at q;cases q)];exact q
   have h':de K He H0e (upd Ha a o) σ H (ρ.set i .no):=by
    have nset:∀(j:Nat) (s:Sl),(ρ.set i .no)[j]?=some s->s≠.no->j≠i/\ρ[j]?=some s:=λj s q hs=>by
     by_cases hj:i=j
     .subst hj
      rw[List.getElem?_set_self']at q;rw[e]at q;cases q;exact absurd rfl hs
     .rw[List.getElem?_set_ne hj]at q;exact⟨λz=>hj z.symm,q⟩
    refine⟨⟨h.g.s,h.g.z.trans z,λb o' q=>?_,λb q1 q2=>?_⟩,λj d' q=>?_,λj d' q=>?_,λj k d1 d2 hn q1 q2=>?_,by simp[h.ln],h.ex.upd (λj s q=>?_) z (λb us _ eb=>eb) λq us _ q0 hq hd=>?_⟩
    rotate_left 5
    .by_cases hs:s=.no
     .exact .inr (.inr (.inl hs))
     .exact .inl ⟨(nset j s q hs).2,rfl⟩
    .have hq':q≠a:=by
      intro zz;subst zz;exact hd i _ e k1
     exact⟨hq,by rw[aD hq'];exact q0⟩
    .by_cases hb:b=a
     .subst hb;rw[aJ]at q;cases q;exact h5
     .rw[aD hb]at q;exact h.g.sub _ _ q
    .by_cases hb:b=a
     .subst hb;exact k2
     .rw[aD hb]at q1;exact h.g.nw b q1 q2
    .obtain⟨hj,q⟩:=nset j _ q (λz=>nomatch z)
     obtain⟨v,q1,q2⟩:=h.rd j d' q;exact⟨v,q1,q2.mono z⟩
    .obtain⟨hj,q⟩:=nset j _ q (λz=>nomatch z)
     obtain⟨b,q1,q2,q3,q4⟩:=h.ow j d' q;have hb:b≠a:=by
      intro zz;subst zz;exact h.ap j i d' d hj q e (by rw[q1,k1])
     refine⟨b,q1,q2,by rw[aD hb];exact q3,?_⟩;cases d' with
     |lst ds'=>obtain⟨vs',h7,h8⟩:=q4;exact⟨vs',h7,h8.mono z⟩|dic ks' ds'=>obtain⟨vs',h7,hl,h8⟩:=q4;exact⟨vs',h7,hl,h8.mono z⟩
     |ob kk ds'=>
      cases kk with|dint ks'=>obtain⟨vs',h7,hl,h8⟩:=q4;exact⟨vs',h7,hl,h8.mono z⟩| _=>exact q4.elim
     |_=>exact q4.elim
    .obtain⟨_,q1⟩:=nset j _ q1 (λz=>nomatch z)
     obtain⟨_,q2⟩:=nset k _ q2 (λz=>nomatch z);exact h.ap j k d1 d2 hn q1 q2
   refine⟨_,z,?_⟩;have hp:=h'.put (i:=i) (d:=d) (v:=.ref a) (hrep _ z aJ);rw[List.set_set]at hp;have hσ:σ.set i (some (V.ref a))=σ:=by
    apply List.ext_getElem?;intro k
    by_cases hk:i=k
    .subst hk
     obtain⟨hil,_⟩:=List.getElem?_eq_some_iff.mp k1;rw[List.getElem?_set_self hil,k1]
    .rw[List.getElem?_set_ne hk]
   rw[hσ]at hp;exact hp
end
def uR{X:Cx}{E:XK}{tgt iter elt:Expr}{ifs:List Expr}{scope:Scope}{pos:Pos}(N:List Str)(n:Nat)(fr:dl){src:Ev->ak (ac)}{tg:Ev->D->ak Ev}{tt fe:cr}(hc:X.calm=true)(hi:DI X E tgt iter src)(hok:yi n tg)
  (blk:∀s H C fp pn,(∀He H0e,DG (dw X N scope s H C fp pn) E He H0e tgt tg)/\FC (dw X N scope s H C fp pn) E ifs tt/\DE (dw X N scope s H C fp pn) E elt fe)
  (hfr:yn X N n fr scope)(hcell:(scope.names.all λx=>!(x.2==.cell))=true)(hfree:(scope.names.all λx=>!(x.2==.free)||(X.env.scope.names.lookup x.1==some .cell))=true)(hkind:scope.kind=.function)
  (hnames:(scope.names.all λx=>!(x.2==.local)||(scope.names.lookup x.1==some .local))=true)
  (hs:∀x,foldedSetIterable iter X.env x=pure x:=by intro _;rfl):FD X E (.ListComp elt [⟨tgt,iter,ifs,0⟩] scope pos) (eG n fr src tg tt fe):=by
 refine GX N n fr hc hi hok blk hfr (λx hx z=>?_) (λx hx z=>?_) hkind (λx hx z=>?_) hs
 .have:=List.all_eq_true.mp hcell x hx
  rw[z]at this;simp at this
 .have:=List.all_eq_true.mp hfree x hx
  rw[z]at this;simpa using this
 .have:=List.all_eq_true.mp hnames x hx
  rw[z]at this;simpa using this
end DL
namespace Com
open PySem L2 DL
def r8:db :=
 (ar (bS (fg (aL (ae 0) (dE "int")) (c9 (aL (ae 0) (dE "bool")))))
 aq)
def m_is_whole:ac->ak D:=cy 1 r8
noncomputable def c5:db :=
 (ar (aR 2 (aj (aa (ae 0) ax) (m1 qo)))
 (ar (aR 3 (aj (aa (ae 1) ax) (m1 qo)))
 (ar (lG (k9 3) (ah (ae 3) (dC (.int 0)) l8)
 (ar (aR 4 (ah (ae 2) (ae 3) df))
 (ar (aR 2 (ae 3))
 (ar (aR 3 (ae 4))
 aq))))
 (ar (bS (ae 2))
 aq))))
def m_common_divisor:ac->ak D:=cy 5 c5
noncomputable def lq:db :=
 (ar (dR (kN (c9 (aj (aa (ae 0) ax) m_is_whole)) (c9 (aj (aa (ae 1) ax) m_is_whole)))
 (ar lH
 aq)
 aq)
 (ar (dR (ah (ae 1) (dC (.int 0)) iK)
 (ar lH
 aq)
 aq)
 (ar (aR 2 (aj (aa (ae 0) (aa (ae 1) ax)) m_common_divisor))
 (ar (dR (ah (ae 1) (dC (.int 0)) Gj)
 (ar (aR 2 (aL (ae 2) fG))
 aq)
 aq)
 (ar (bS (aj (aa (ah (ae 0) (ae 2) kO) (aa (ah (ae 1) (ae 2) kO) ax)) cb))
 aq)))))
def m_ratio:ac->ak D:=cy 3 lq
def uZ{α β:Type}{a:α}{f:α->ak β}:(ak.ok a).bind f=f a:=rfl
def gY{s t:db}{ρ ρ':Ev}(h:s ρ=.ok (.nx ρ')):ar s t ρ=t ρ':=by unfold ar;rw[h];rfl
def vL{s t:db}{ρ:Ev}{d:D}(h:s ρ=.ok (.rt d)):ar s t ρ=.ok (.rt d):=by unfold ar;rw[h];rfl
def D8{s:db}{ρ ρ':Ev}(h:s ρ=.ok (.nx ρ')):ar s aq ρ=.ok (.nx ρ'):=by unfold ar;rw[h];rfl
def vJ{i:Nat}{f:cr}{ρ:Ev}{d:D}(h:f ρ=.ok d):aR i f ρ=.ok (.nx (ρ.set i (.sh d))):=by unfold aR;rw[h];rfl
def vX{f:cr}{ρ:Ev}{d:D}(h:f (fB ρ)=.ok d):bS f ρ=.ok (.rt d):=by unfold bS;rw[h];rfl
def Co{c:cr}{s t:db}{ρ:Ev}(h:c (fB ρ)=.ok (.bl false)):dR c s t ρ=t ρ:=by unfold dR;rw[h];rfl
def wM{i j:Int}:l8 (.int i) (.int j)=.ok (.bl (!(i==j))):=by unfold l8;rw[if_pos ⟨rfl,rfl⟩,c7]
def oo{i j:Int}:iK (.int i) (.int j)=.ok (.bl (i==j)):=by unfold iK;rw[if_pos ⟨rfl,rfl⟩,c7]
def qD{f:cr}{fa:Ev->ak (ac)}{ρ:Ev}{x:D}{xs:ac}(h:f ρ=.ok x)(h':fa ρ=.ok xs):aa f fa ρ=.ok (x::xs):=by unfold aa;rw[h,uZ,h'];rfl
def mv{f g:cr}{op:D->D->ak D}{ρ:Ev}{x y:D}(h:f ρ=.ok x)(h':g ρ=.ok y):ah f g op ρ=op x y:=by unfold ah;rw[h,uZ,h'];rfl
def qv{fa:Ev->ak (ac)}{m:ac->ak D}{ρ:Ev}{xs:ac}(h:fa ρ=.ok xs):aj fa m ρ=m xs:=by unfold aj;rw[h];rfl
def wQ{a b:Int}(h:b≠0):df (.int a) (.int b)=.ok (.int (a.fmod b)):=by
 show(if decide (b≠0)=true then ak.ok (D.int (a.fmod b)) else .stuck)=_;rw[if_pos (decide_eq_true h)]
def xM{a b:Int}(h:eE a b=true):kO (.int a) (.int b)=.ok (.int (a.fdiv b)):=by
 show(if eE a b=true then ak.ok (D.int (a.fdiv b)) else .stuck)=_;rw[if_pos h]
def pY(a b:Int):Int.gcd b (a.fmod b)=Int.gcd a b:=by
 rw[Int.fmod_def,Int.gcd_sub_mul_left_right,Int.gcd_comm]
def gC{a b:Int}(h:b≠0):(a.fmod b).natAbs<b.natAbs:=by
 rcases Int.lt_or_gt_of_ne h with hb|hb
 .have h1:=Int.fmod_lt_of_pos (-a) (show 0 < -b by omega)
  have h2:=Int.fmod_nonneg_of_pos (-a) (show 0 < -b by omega);rw[Int.neg_fmod_neg]at h1 h2;omega
 .have h1:=Int.fmod_lt_of_pos a hb
  have h2:=Int.fmod_nonneg_of_pos a hb;omega
theorem kB:∀(n:Nat) (x y:D) (a b:Int) (r:Sl),0<=a->0<=b->b.natAbs<n->∃r',
  cu (ah (ae 3) (dC (.int 0)) l8) (ar (aR 4 (ah (ae 2) (ae 3) df)) (ar (aR 2 (ae 3)) (ar (aR 3 (ae 4)) aq))) n [.sh x,.sh y,.sh (.int a),.sh (.int b),r]=.ok (.nx [.sh x,.sh y,.sh (.int (Int.gcd a b)),.sh (.int 0),r'])
 |0,_,_,a,b,_,_,_,h=>absurd h (Nat.not_lt_zero _)
 |n+1,x,y,a,b,r,ha,hb0,h=>by
  unfold cu;have c:∀r,(ah (ae 3) (dC (.int 0)) l8) (fB [.sh x,.sh y,.sh (.int a),.sh (.int b),r])=.ok (.bl (!(b==0))):=λr=>wM;rw[c]
  by_cases hb:b=0
  .subst hb
   refine⟨r,?_⟩;have e:((Int.gcd a 0:Nat):Int)=a:=by simp;omega
   rw[e];rfl
  .have e:(!(b==0))=true:=by simp[hb]
   have hp:0<b:=by omega
   obtain⟨r',h2⟩:=kB n x y b (a.fmod b) (.sh (.int (a.fmod b))) hb0 (Int.fmod_nonneg_of_pos a hp) (by have:=gC (a:=a) hb;omega);refine⟨r',?_⟩;rw[pY]at h2;rw[←h2,e];have st:(ar (aR 4 (ah (ae 2) (ae 3) df)) (ar (aR 2 (ae 3)) (ar (aR 3 (ae 4)) aq))) [.sh x,.sh y,.sh (.int a),.sh (.int b),r]=.ok (.nx [.sh x,.sh y,.sh (.int b),.sh (.int (a.fmod b)),.sh (.int (a.fmod b))]):=by
    have m:(ah (ae 2) (ae 3) df) [.sh x,.sh y,.sh (.int a),.sh (.int b),r]=.ok (.int (a.fmod b)):=by
     exact wQ hb
    rw[gY (vJ m)];rfl
   show(ak.bind _ _)=_;rw[st];rfl
def iL(a b:Int):m_common_divisor [.int a,.int b]=.ok (.int (Int.gcd a b)):=by
 have e:∀i:Int,(if i<0 then -i else i)=(i.natAbs:Int):=λi=>by split<;>omega
 obtain⟨r',h⟩:=kB ((b.natAbs:Int).natAbs+1) (.int a) (.int b) a.natAbs b.natAbs .no (Int.natCast_nonneg _) (Int.natCast_nonneg _) (Nat.lt_succ_self _);have hg:Int.gcd (a.natAbs:Int) (b.natAbs:Int)=Int.gcd a b:=by simp[Int.gcd]
 rw[hg]at h;have r:c5 [.sh (.int a),.sh (.int b),.no,.no,.no]=.ok (.rt (.int (Int.gcd a b))):=by
  unfold c5;rw[gY (ρ':=[.sh (.int a),.sh (.int b),.sh (.int (a.natAbs:Int)),.no,.no]) (by rw[←e a];rfl)];rw[gY (ρ':=[.sh (.int a),.sh (.int b),.sh (.int (a.natAbs:Int)),.sh (.int (b.natAbs:Int)),.no]) (by rw[←e b];rfl)];have w:lG (k9 3) (ah (ae 3) (dC (.int 0)) l8) (ar (aR 4 (ah (ae 2) (ae 3) df)) (ar (aR 2 (ae 3)) (ar (aR 3 (ae 4)) aq))) [.sh (.int a),.sh (.int b),.sh (.int (a.natAbs:Int)),.sh (.int (b.natAbs:Int)),.no]=.ok (.nx [.sh (.int a),.sh (.int b),.sh (.int (Int.gcd a b)),.sh (.int 0),r']):=h;rw[gY w];exact vL (vX rfl)
 show(c5 [.sh (.int a),.sh (.int b),.no,.no,.no]).bind _=_;rw[r];rfl
def qW:(2:Nat) ^ 64<=yx:=by rw[oK];exact Nat.pow_le_pow_right (by decide) (by decide)
def EH{i:Int}(h:i.natAbs<18446744073709551616):i.natAbs<yx:=Nat.lt_of_lt_of_le h qW
def fZ{i j:Int}(h:i.natAbs<18446744073709551616)(h':j.natAbs<18446744073709551616):dJ i j=true:=by
 unfold dJ;rw[Bool.and_eq_true];exact⟨decide_eq_true (EH h),decide_eq_true (EH h')⟩
def wN{i j:Int}(h:i.natAbs<yx)(h':j.natAbs<yx):dJ i j=true:=by
 unfold dJ;rw[Bool.and_eq_true];exact⟨decide_eq_true h,decide_eq_true h'⟩
def Bl{i j:Int}(h0:j≠0)(h:j.natAbs<B9):eE i j=true:=by
 unfold eE;rw[Bool.and_eq_true,Bool.or_eq_true];exact⟨decide_eq_true h0,.inl (decide_eq_true h)⟩
def l5{i j:Int}(h0:j≠0)(h:i.natAbs<kE):eE i j=true:=by
 unfold eE;rw[Bool.and_eq_true,Bool.or_eq_true];exact⟨decide_eq_true h0,.inr (decide_eq_true h)⟩
def n9{ds:ac}{k:Nat}{d:D}(h:ds[k]?=some d):bq (.lst ds) (.int (k:Int))=.ok d:=by
 unfold bq;simp only[oC h]
def nj{a b:Int}(hb:0<b):0<=a.fmod b/\a.fmod b<b:=⟨Int.fmod_nonneg_of_pos a hb,Int.fmod_lt_of_pos a hb⟩
def uH{n k:Nat}(h:k<n):(DL.intsFrom 0 n).drop k=.int (k:Int)::(DL.intsFrom 0 n).drop (k+1):=by
 have hl:(DL.intsFrom 0 n).length=n:=by unfold DL.intsFrom;simp
 rw[List.drop_eq_getElem_cons (by rw[hl];exact h)]
 congr 1
 unfold DL.intsFrom;simp
def wZ{n:Nat}:(DL.intsFrom 0 n).drop n=[]:=by
 have hl:(DL.intsFrom 0 n).length=n:=by unfold DL.intsFrom;simp
 exact List.drop_eq_nil_of_le (by omega)
def iH{tg:Ev->D->ak Ev}{s:db}{d:D}{r:ac}{ρ ρ1 ρ2:Ev}(h1:tg ρ d=.ok ρ1)(h2:s ρ1=.ok (.nx ρ2)):c8 tg s (d::r) ρ=c8 tg s r ρ2:=by
 rw[c8,h1,uZ,h2,uZ]
def EJ:D->Bool
 |.int _=>true
 |_=>false
def fw(d:D):m_is_whole [d]=.ok (.bl (EJ d)):=by cases d<;>first|rfl|(rename_i k _;cases k<;>rfl)
def gf{a g:Int}(hg:0<g):a.fdiv g=a / g:=Int.fdiv_eq_ediv_of_nonneg a (by omega)
def k8{a b:Int}(h:b≠0):0<(Int.gcd a b:Int):=by
 have:=Int.gcd_pos_of_ne_zero_right a h;omega
def v3{a b:Int}(hb:0<b)(h1:a.natAbs<kE)(h2:b.natAbs<kE):m_ratio [.int a,.int b]=.ok (.tup [.int (a / Int.gcd a b),.int (b / Int.gcd a b)]):=by
 have hg:=k8 (a:=a) (b:=b) (by omega);have r:lq [.sh (.int a),.sh (.int b),.no]=.ok (.rt (.tup [.int (a / Int.gcd a b),.int (b / Int.gcd a b)])):=by
  unfold lq;rw[gY (ρ':=[.sh (.int a),.sh (.int b),.no]) (Co (t:=aq) rfl)];rw[gY (ρ':=[.sh (.int a),.sh (.int b),.no]) (Co (t:=aq) ((mv (x:=.int b) (y:=.int 0) rfl rfl).trans (oo.trans (by rw[beq_eq_false_iff_ne.mpr (by omega)]))))];rw[gY (ρ':=[.sh (.int a),.sh (.int b),.sh (.int (Int.gcd a b))]) (vJ ((qv (xs:=[.int a,.int b]) rfl).trans (iL a b)))];rw[gY (ρ':=[.sh (.int a),.sh (.int b),.sh (.int (Int.gcd a b))]) (Co (t:=aq) (by
   show ak.ok (D.bl (decide (b<0)))=_;rw[decide_eq_false (by omega)]))]
  refine vL (vX ?_);refine(qv (xs:=[.int (a / Int.gcd a b),.int (b / Int.gcd a b)]) (qD ?_ (qD ?_ rfl))).trans rfl
  .rw[←gf hg]
   exact(mv (x:=.int a) (y:=.int (Int.gcd a b)) rfl rfl).trans (xM (l5 (by omega) h1))
  .rw[←gf hg]
   exact(mv (x:=.int b) (y:=.int (Int.gcd a b)) rfl rfl).trans (xM (l5 (by omega) h2))
 show(lq [.sh (.int a),.sh (.int b),.no]).bind _=_;rw[r];rfl
def Gg(p q:Int):D:=.tup [.int p,.int q]
end Com
open Com
namespace Com
open PySem L2 DL
abbrev jO:=Int×Int
def fr(x:jO):D:=Gg x.1 x.2
def su:Nat:=1000000000000000000000000000000000000000000000000000000000000
def Dl:su<=B9:=by rw[yq];exact Nat.le_trans (show su<=2 ^ 200 by decide) (Nat.pow_le_pow_right (by decide) (by decide))
def ua:su<=yx:=by rw[oK];exact Nat.le_trans (show su<=2 ^ 200 by decide) (Nat.pow_le_pow_right (by decide) (by decide))
def ub:kE<=yx:=by rw[oM,oK];exact Nat.pow_le_pow_right (by decide) (by decide)
structure Dm (x:jO):Prop where
 q1:1<=x.2
 g1:Int.gcd x.1 x.2=1
structure e9 (x:jO):Prop extends Dm x where
 pN:x.1.natAbs<su
 qN:x.2.natAbs<su
def cj(a b:Int):jO:=(a / Int.gcd a b,b / Int.gcd a b)
def iG{a b:Int}(hb:0<b):Dm (cj a b):=by
 have hg:=k8 (a:=a) (b:=b) (by omega);refine⟨?_,Int.gcd_ediv_gcd_ediv_gcd (by omega)⟩;have:=Int.ediv_gcd_ne_zero_if_ne_zero_right a (show b≠0 by omega);have h2:0<=b / (Int.gcd a b:Int):=Int.ediv_nonneg (by omega) (by omega);show 1<=b / (Int.gcd a b:Int);omega
def kY{a b:Int}:(cj a b).1*b=a*(cj a b).2:=by
 unfold cj;obtain⟨x,hx⟩:=Int.gcd_dvd_left a b;obtain⟨y,hy⟩:=Int.gcd_dvd_right a b
 by_cases hg:(Int.gcd a b:Int)=0
 .simp only[hg,Int.ediv_zero,Int.zero_mul,Int.mul_zero]
 .generalize hG:(Int.gcd a b:Int)=G at *
  have e1:a / G=x:=by rw[hx];exact Int.mul_ediv_cancel_left x hg
  have e2:b / G=y:=by rw[hy];exact Int.mul_ediv_cancel_left y hg
  show a / G*b=a*(b / G);rw[e1,e2]
  calc x*b=x*(G*y):=by rw[←hy]
   _=G*x*y:=by grind
   _=a*y:=by rw[←hx]
def zA{a b:Int}:(cj a b).1.natAbs<=a.natAbs:=Int.natAbs_ediv_le_natAbs _ _
def zy{a b:Int}:(cj a b).2.natAbs<=b.natAbs:=Int.natAbs_ediv_le_natAbs _ _
def wR{x y:jO}(hx:Dm x)(hy:Dm y)(h:x.1*y.2=y.1*x.2):x=y:=by
 have d1:x.2∣y.2:=by
  have:x.2∣x.1*y.2:=⟨y.1,by rw[h];exact Int.mul_comm _ _⟩
  rw[←Int.dvd_gcd_mul_iff_dvd_mul,Int.gcd_comm,hx.g1]at this;simpa using this
 have d2:y.2∣x.2:=by
  have:y.2∣y.1*x.2:=⟨x.1,by rw[←h];exact Int.mul_comm _ _⟩
  rw[←Int.dvd_gcd_mul_iff_dvd_mul,Int.gcd_comm,hy.g1]at this;simpa using this
 have e:x.2=y.2:=Int.dvd_antisymm (by have:=hx.q1;omega) (by have:=hy.q1;omega) d1 d2;have e1:x.1=y.1:=by
  rw[e]at h;exact Int.eq_of_mul_eq_mul_right (by have:=hy.q1;omega) h
 exact Prod.ext e1 e
def pv{a b:Int}(hb:0<b)(h1:a.natAbs<kE)(h2:b.natAbs<kE):m_ratio [.int a,.int b]=.ok (fr (cj a b)):=v3 hb h1 h2
def EI{a b:Int}(hb:0<b)(h1:a.natAbs<su)(h2:b.natAbs<su):e9 (cj a b):=⟨iG hb,Nat.lt_of_le_of_lt zA h1,Nat.lt_of_le_of_lt zy h2⟩
theorem lh{tg:Ev->D->ak Ev}{body:db}(P:Ev->Prop):∀{ds:ac},(∀d∈ds,∀ρ,P ρ->∃ρ1 ρ2,tg ρ d=.ok ρ1/\body ρ1=.ok (.nx ρ2)/\P ρ2)->∀ρ,P ρ->∃ρ',c8 tg body ds ρ=.ok (.nx ρ')/\P ρ'
 |[],_,ρ,h=>⟨ρ,rfl,h⟩
 |d::r,hs,ρ,h=>by
  obtain⟨ρ1,ρ2,h1,h2,h3⟩:=hs d List.mem_cons_self ρ h;obtain⟨ρ',h4,h5⟩:=lh P (λe he=>hs e (List.mem_cons_of_mem _ he)) ρ2 h3;exact⟨ρ',by rw[iH h1 h2];exact h4,h5⟩
def aO{α:Type}{a b:α}(h:a=b):a=b:=h
def BD(t:db)(r:Fl):ak Fl:=match r with
 |.nx ρ'=>t ρ'
 |r=>.ok r
def D7(i:Nat)(ρ:Ev)(d:D):ak Fl:=.ok (.nx (ρ.set i (.sh d)))
def Ec(d:D):ak Fl:=.ok (.rt d)
def Bk(ρ:Ev)(_:D):ak Fl:=.ok (.nx ρ)
def Gb(s t:db)(ρ:Ev)(x:D):ak Fl:=match x with
 |.bl b=>if b=true then s ρ else t ρ
 |_=>.stuck
def EA(i:Nat)(ρ:Ev)(d:D):ak Fl:=match d with
 |.lst ds=>.ok (.nx (ρ.set i (.ow (.lst ds))))
 |_=>.stuck
def B2(s:Option Sl)(k:ac->ak Fl):ak Fl:=match s with
 |some (.ow (.lst ds))=>k ds
 |_=>.stuck
def Ff(i:Nat)(ρ:Ev)(ds:ac)(d:D):ak Fl:=if ds.length<line then .ok (.nx (ρ.set i (.ow (.lst (ds++[d]))))) else .stuck
def qT(i:Nat)(ρ:Ev)(ds:ac)(d j:D):ak Fl:=if jA d=true then DL.putAt ρ i ds d j else .stuck
def A9(i:Nat)(ρ:Ev)(k:cr)(ds:ac)(d:D):ak Fl:=(k (fB ρ)).bind (qT i ρ ds d)
def Ey(i j:Nat)(ρ:Ev)(ds:ac):ak Fl:=match ds with
 |[x,y]=>.ok (.nx ((ρ.set i (.sh x)).set j (.sh y)))
 |_=>.stuck
def k2(g:cr)(op:D->D->ak D)(ρ:Ev)(x:D):ak D:=(g ρ).bind (op x)
def rW(x:D)(xs:ac):ak (ac):=.ok (x::xs)
def Bo(fa:Ev->ak (ac))(ρ:Ev)(x:D):ak (ac):=(fa ρ).bind (rW x)
def Df(g:cr)(ρ:Ev)(x:D):ak D:=match x with
 |.bl true=>g ρ
 |.bl false=>.ok (.bl false)
 |_=>.stuck
def F7(g:cr)(ρ:Ev)(x:D):ak D:=match x with
 |.bl true=>.ok (.bl true)
 |.bl false=>g ρ
 |_=>.stuck
def EE(x:D):ak D:=match x with
 |.bl b=>.ok (.bl (!b))
 |_=>.stuck
def Cn(f g:cr)(ρ:Ev)(x:D):ak D:=match x with
 |.bl true=>f ρ
 |.bl false=>g ρ
 |_=>.stuck
def DC(s:Option Sl):ak D:=match s with
 |some (.sh d)=>.ok d
 |_=>.stuck
def uk(s:Sl):Sl:=match s with
 |.ow d=>.sh d
 |.ox _ ds=>.sh (.tup ds)
 |x=>x
def BH(r:Fl):ak D:=match r with
 |.nx _=>.ok .non
 |.rt d=>.ok d
 |_=>.stuck
def GB(x:D):ak (Option Int):=match x with
 |.int i=>.ok (some i)
 |_=>.stuck
def yK(x:D)(l:Option Int)(h:Option Int):ak D:=lF x l h
def FZ(hi:Ev->ak (Option Int))(ρ:Ev)(x:D)(l:Option Int):ak D:=(hi ρ).bind (yK x l)
def D6(lo hi:Ev->ak (Option Int))(ρ:Ev)(x:D):ak D:=(lo ρ).bind (FZ hi ρ x)
def ER(tg:Ev->D->ak Ev)(s:db)(ρ:Ev)(d:D):ak Fl:=match d with
 |.lst ds=>c8 tg s ds ρ
 |_=>.stuck
section
variable {s t:db}{f g h:cr}{fa:Ev->ak (ac)}{ρ r:Ev}{i j:Nat}{d x y:D}{ds xs:ac}{op op':D->D->ak D}{a b:Int}
def EY{α β:Type}{a:α}{k:α->ak β}:(ak.ok a).bind k=k a:=aO rfl
def CA:ar s t ρ=(s ρ).bind (BD t):=aO rfl
def zT:BD t (.nx ρ)=t ρ:=aO rfl
def zS:BD t (.rt d)=.ok (.rt d):=aO rfl
def Ad:aq ρ=.ok (.nx ρ):=aO rfl
def Cz:aR i f ρ=(f ρ).bind (D7 i ρ):=aO rfl
def zR:D7 i ρ d=.ok (.nx (ρ.set i (.sh d))):=aO rfl
def CC:bS f ρ=(f (fB ρ)).bind Ec:=aO rfl
def zW:Ec d=.ok (.rt d):=aO rfl
def An:o9 f ρ=(f (fB ρ)).bind (Bk ρ):=aO rfl
def xB:Bk ρ d=.ok (.nx ρ):=aO rfl
def E2:dR f s t ρ=(f (fB ρ)).bind (Gb s t ρ):=aO rfl
def CS:Gb s t ρ (.bl true)=s ρ:=aO rfl
def CQ:Gb s t ρ (.bl false)=t ρ:=aO rfl
def CF:gr i f ρ=(f ρ).bind (EA i ρ):=aO rfl
def Ab:EA i ρ (.lst ds)=.ok (.nx (ρ.set i (.ow (.lst ds)))):=aO rfl
def CW:bE i f ρ=B2 ρ[i]? λds=>(f ρ).bind (Ff i ρ ds):=aO rfl
def zZ{k:ac->ak Fl}:B2 (some (.ow (.lst ds))) k=k ds:=aO rfl
def cO(h:decide (ds.length<=999)=true):Ff i ρ ds d=.ok (.nx (ρ.set i (.ow (.lst (ds++[d]))))):=if_pos (Nat.lt_of_le_of_lt (of_decide_eq_true h) (by decide))
def zX:vP i f g ρ=B2 ρ[i]? λds=>(f (fB ρ)).bind (A9 i ρ g ds):=aO rfl
def xy:A9 i ρ g ds d=(g (fB ρ)).bind (qT i ρ ds d):=aO rfl
def xx(hf:jA d=true):qT i ρ ds d x=DL.putAt ρ i ds d x:=if_pos hf
def CT:BG i s ρ=s (unown i ρ):=aO rfl
def CD:vQ i j fa ρ=(fa ρ).bind (Ey i j ρ):=aO rfl
def zY:Ey i j ρ [x,y]=.ok (.nx ((ρ.set i (.sh x)).set j (.sh y))):=aO rfl
def E6{o:D->ak D}:aL f o ρ=(f ρ).bind o:=aO rfl
def E5:ah f g op ρ=(f ρ).bind (k2 g op ρ):=aO rfl
def CV:k2 g op ρ x=(g ρ).bind (op x):=aO rfl
def E4{m:ac->ak D}:aj fa m ρ=(fa ρ).bind m:=aO rfl
def CL:ax ρ=.ok []:=aO rfl
def Ao:aa f fa ρ=(f ρ).bind (Bo fa ρ):=aO rfl
def xD:Bo fa ρ x=(fa ρ).bind (rW x):=aO rfl
def xC:rW x xs=.ok (x::xs):=aO rfl
def CY:fg f g ρ=(f ρ).bind (Df g ρ):=aO rfl
def Ar:Df g ρ (.bl true)=g ρ:=aO rfl
def Aq:Df g ρ (.bl false)=.ok (.bl false):=aO rfl
def EW:kN f g ρ=(f ρ).bind (F7 g ρ):=aO rfl
def CJ:F7 g ρ (.bl true)=.ok (.bl true):=aO rfl
def CI:F7 g ρ (.bl false)=g ρ:=aO rfl
def CK:c9 f ρ=(f ρ).bind EE:=aO rfl
def Ac{c:Bool}:EE (.bl c)=.ok (.bl (!c)):=aO rfl
def CP:AL h f g ρ=(h ρ).bind (Cn f g ρ):=aO rfl
def Aj:Cn f g ρ (.bl true)=f ρ:=aO rfl
def Ai:Cn f g ρ (.bl false)=g ρ:=aO rfl
def Cq:ae i ρ=DC ρ[i]?:=aO rfl
def zK:DC (some (.sh d))=.ok d:=aO rfl
def Gh:dC d ρ=.ok d:=aO rfl
def zQ:fB []=[]:=aO rfl
def Cy{c:Sl}:fB (c::r)=uk c::fB r:=aO rfl
def zP:uk (.ow d)=.sh d:=aO rfl
def zM:uk (.ox j ds)=.sh (.tup ds):=aO rfl
def zO:uk (.sh d)=.sh d:=aO rfl
def zN:uk .no=.no:=aO rfl
def CB{n:Nat}:cy n s ds=(s (ds.map Sl.sh++List.replicate (n-ds.length) .no)).bind BH:=aO rfl
def zV:BH (.rt d)=.ok d:=aO rfl
def zU:BH (.nx ρ)=.ok .non:=aO rfl
def EV:fY f ρ=(f ρ).bind GB:=aO rfl
def CH:GB (.int a)=.ok (some a):=aO rfl
def EX:gN ρ=.ok none:=aO rfl
def EU{lo hi:Ev->ak (Option Int)}:kM f lo hi ρ=(f ρ).bind (D6 lo hi ρ):=aO rfl
def Cw{lo hi:Ev->ak (Option Int)}:D6 lo hi ρ x=(lo ρ).bind (FZ hi ρ x):=aO rfl
def Cv{hi:Ev->ak (Option Int)}{l:Option Int}:FZ hi ρ x l=(hi ρ).bind (yK x l):=aO rfl
def Cu{l l':Option Int}:yK (.lst ds) l l'=.ok (.lst (ig ds l l')):=aO rfl
def CU{tg:Ev->D->ak Ev}:fb f tg s ρ=(f ρ).bind (ER tg s ρ):=aO rfl
def Am{tg:Ev->D->ak Ev}:ER tg s ρ (.lst ds)=c8 tg s ds ρ:=aO rfl
def CO{o:Int->Int->D}:uF (λ_ _=>true) o (.int a) (.int b)=.ok (o a b):=aO rfl
def CZ:bu (.int a) (.int b)=.ok (.int (a+b)):=aO rfl
def jC{es:ac}(h:decide (ds.length+es.length<=1000)=true):bu (.lst ds) (.lst es)=.ok (.lst (ds++es)):=if_pos (Nat.le_trans (of_decide_eq_true h) (by decide))
def E1{m:D->ak D}:m1 m [x]=m x:=aO rfl
def EZ{m:D->D->ak D}:m2 m [x,y]=m x y:=aO rfl
def Af:ic (.lst ds)=.ok (.int ds.length):=aO rfl
def Ae:ic (.tup ds)=.ok (.int ds.length):=aO rfl
def Cs(h:decide (ds.length<=1000)=true):cb ds=.ok (.tup ds):=if_pos (Nat.le_trans (of_decide_eq_true h) (by decide))
def CM(h:decide (ds.length<=1000)=true):bU ds=.ok (.lst ds):=if_pos (Nat.le_trans (of_decide_eq_true h) (by decide))
def lZ:dE "bool" (.int a)=.ok (.bl false):=aO rfl
def mM:dE "int" (.int a)=.ok (.bl true):=aO rfl
def mL:dE "str" (.int a)=.ok (.bl false):=aO rfl
def kL:dE "tuple" (.tup ds)=.ok (.bl true):=aO rfl
def rP:jk (.int a) .non=.ok (.bl false):=aO rfl
def rO:jk (.tup ds) .non=.ok (.bl false):=aO rfl
def gD(h:dJ a b=true):dP (.int a) (.int b)=.ok (.int (a*b)):=if_pos h
def j8(h:(b==0)=false):df (.int a) (.int b)=.ok (.int (a.fmod b)):=wQ (λz=>by rw[z]at h;cases h)
def l3(h:eE a b=true):kO (.int a) (.int b)=.ok (.int (a.fdiv b)):=if_pos h
def Gu(i:Nat)(ρ:Ev)(s:Option Sl):Ev:=match s with
 |some (.ow d)=>ρ.set i (.sh d)
 |_=>ρ
def ET:unown i ρ=Gu i ρ ρ[i]?:=aO rfl
def Cr:Gu i ρ (some (.ow d))=ρ.set i (.sh d):=aO rfl
def xA{n:Nat}{j:Int}(h:uE ds.length j=some n):DL.putAt ρ i ds d (.int j)=.ok (.nx (ρ.set i (.ow (.lst (ds.set n d))))):=by
 unfold DL.putAt;simp only[h]
def Ah{x0:D}:bq (.tup (x0::xs)) (.int 0)=.ok x0:=by
 unfold bq;simp only[show atI (x0::xs) 0=some x0 from oC (j:=0) rfl]
def Ag{x0 x1:D}:bq (.tup (x0::x1::xs)) (.int 1)=.ok x1:=by
 unfold bq;simp only[show atI (x0::x1::xs) 1=some x1 from oC (j:=1) rfl]
def E3:((2:Nat):Int)=2:=aO rfl
end
def Ee(g:cr)(ρ:Ev)(x:D):ak D:=match x with
 |.lst ds=>(g ρ).bind (rV (.lst ds))
 |_=>.stuck
def om{f g:cr}{ρ:Ev}:vY f g ρ=(f ρ).bind (Ee g ρ):=aO rfl
def ll{g:cr}{ρ:Ev}{ds:ac}:Ee g ρ (.lst ds)=(g ρ).bind (rV (.lst ds)):=aO rfl
end Com
def bV{a b:Prop}(x:a)(y:b):a/\b:=⟨x,y⟩
def Dn:=(bV (bV (bV (bV (bV (bV @EY @CA) (bV @zT (bV @zS @Ad))) (bV (bV @Cz (bV @zR @CC)) (bV @zW (bV @An @xB)))) (bV (bV (bV @E2 @CS) (bV @CQ (bV @CF @Ab))) (bV (bV @CW (bV @zZ @zX)) (bV @xy (bV @CT @CD))))) (bV (bV (bV (bV @zY @E6) (bV @E5 (bV @CV @E4))) (bV (bV @CL (bV @Ao @xD)) (bV @xC (bV @CY @Ar)))) (bV (bV (bV @Aq @EW) (bV @CJ (bV @CI @CK))) (bV (bV @Ac (bV @CP @Aj)) (bV @Ai (bV @Cq @zK)))))) (bV (bV (bV (bV (bV @Gh @zQ) (bV @Cy (bV @zP @zO))) (bV (bV @zN (bV @CB @zV)) (bV @zU (bV @EV @CH)))) (bV (bV (bV @EX @EU) (bV @Cw (bV @Cv @Cu))) (bV (bV @CU (bV @Am @CO)) (bV @CZ (bV @E1 @EZ))))) (bV (bV (bV (bV @Af @Ae) (bV @oo (bV @wM @Cs))) (bV (bV @CM (bV @jC @cO)) (bV @j8 (bV @ET @Cr)))) (bV (bV (bV @Ah @Ag) (bV @lZ (bV @mM @mL))) (bV (bV @kL (bV @rP @rO)) (bV @E3 (bV @om @ll)))))))
local macro_rules|`(tactic|open_line with[$xs,*])=>`(tactic|simp only[Dn,List.map_cons,List.map_nil,List.length_cons,List.length_nil,List.replicate_succ,List.replicate_zero,List.nil_append,List.cons_append,List.getElem?_cons_zero,List.getElem?_cons_succ,List.set_cons_zero,List.set_cons_succ,Nat.sub_zero,Nat.reduceSub,Nat.reduceAdd,Nat.add_zero,Nat.zero_add,Bool.not_true,Bool.not_false,decide_true,decide_false,Nat.reduceLeDiff,Nat.reduceBEq,Int.reduceBEq,beq_self_eq_true,DL.dOne,DL.mYes,Int.reduceLT,Int.reduceLE,Int.reduceSub,Int.reduceAdd,Int.reduceMul,Int.reduceNeg,Int.reduceToNat,Bool.and_self,$[$xs:term],*])
namespace Com
open PySem L2 DL
noncomputable def cS:db :=
 (ar (dR (kN (c9 (aL (ae 0) (dE "tuple"))) (ah (aj (aa (ae 0) ax) (m1 ic)) (dC (.int 2)) l8))
 (ar (bS (dC (.bl false)))
 aq)
 aq)
 (ar (dR (kN (c9 (aj (aa (ah (ae 0) (dC (.int 0)) bq) ax) m_is_whole)) (c9 (aj (aa (ah (ae 0) (dC (.int 1)) bq) ax) m_is_whole)))
 (ar (bS (dC (.bl false)))
 aq)
 aq)
 (ar (bS (fg (ah (ah (ae 0) (dC (.int 1)) bq) (dC (.int 1)) Dr) (ah (aj (aa (ah (ae 0) (dC (.int 0)) bq) (aa (ah (ae 0) (dC (.int 1)) bq) ax)) m_common_divisor) (dC (.int 1)) iK)))
 aq)))
def m_is_ratio:ac->ak D:=cy 1 cS
theorem nz{b:Ev}{tg:Ev->D->ak Ev}{tt fe:cr}{F:D->D}:∀{ds:ac},(∀d∈ds,∃ρ1,tg b d=.ok ρ1/\tt ρ1=.ok (.bl true)/\fe ρ1=.ok (F d))->bH b tg tt fe ds=.ok (ds.map F)
 |[],_=>rfl
 |d::r,h=>by
  obtain⟨ρ1,h1,h2,h3⟩:=h d List.mem_cons_self;rw[iM h1 h2 h3,nz (λe he=>h e (List.mem_cons_of_mem _ he))];rfl
def lK:D->Bool
 |.tup [.int p,.int q]=>decide (1<=q)&&(Int.gcd p q==1)
 |_=>false
def C0{g:Nat}:((g:Int)==1)=(g==1):=by
 cases h:(g==1) with
 |true=>rw[eq_of_beq h];rfl
 |false=>
  have:g≠1:=λz=>by rw[z]at h;cases h
  exact beq_eq_false_iff_ne.mpr (by omega)
def Bv{xs:ac}:(∃x y,xs=[x,y])∨xs.length≠2:=by
 match xs with
 |[]=>exact .inr (by decide)
 |[x]=>exact .inr (by simp)
 |[x,y]=>exact .inl ⟨x,y,rfl⟩
 |x::y::z::r=>exact .inr (by simp)
theorem vZ:∀{xs:ac},xs.length≠2->lK (.tup xs)=false
 |[],_=>rfl
 |[x],_=>by cases x<;>rfl
 |[x,y],h=>absurd rfl h
 |x::y::z::r,_=>by cases x<;>cases y<;>rfl
def qS{x y:D}:lK (.tup [x,y])=(EJ x&&(EJ y&&lK (.tup [x,y]))):=by
 cases x<;>cases y<;>rfl
def oa(d:D):m_is_ratio [d]=.ok (.bl (lK d)):=by
 cases d with
 |tup xs=>
  rcases Bv (xs:=xs) with⟨x,y,rfl⟩|h
  .rw[qS]
   show cy 1 cS _=_;cases hx:EJ x with
   |false=>open_line with[cS,fw,hx,Bool.false_and]
   |true=>
    cases hy:EJ y with
    |false=>open_line with[cS,fw,hx,hy,Bool.false_and,Bool.true_and]
    |true=>
     cases x<;>first|(cases hx;done)|skip
     cases y<;>first|(cases hy;done)|skip
     rename_i p q;show _=ak.ok (D.bl (decide (1<=q)&&(Int.gcd p q==1)))
     by_cases hq:1<=q
     .open_line with[cS,fw,hx,hy,iL,Bool.true_and,decide_eq_true hq,C0]
     .open_line with[cS,fw,hx,hy,iL,Bool.true_and,decide_eq_false hq,Bool.false_and]
  .have e2:((xs.length:Int)==2)=false:=beq_eq_false_iff_ne.mpr (by omega)
   rw[vZ h];show cy 1 cS _=_;open_line with[cS,e2]
 |ob k _=>cases k<;>rfl
 |_=>rfl
def oA{α:Type}{F:α->D}{xs:List α}{lo hi:Option Int}:ig (xs.map F) lo hi=((xs.drop (HT.sIx xs.length 0 lo)).take (HT.sIx xs.length xs.length hi-HT.sIx xs.length 0 lo)).map F:=by
 unfold ig;rw[List.length_map,←List.map_drop,←List.map_take]
def yO{n d:Nat}{v:Int}(hv:0<=v):HT.sIx n d (some v)=min v.toNat n:=by
 show(if v<0 then _ else _)=_;rw[if_neg (by omega)]
def Fe(ns:List Int):ig (ns.map D.int) none (some 63)=(ns.take 63).map D.int:=by
 rw[oA];have e1:HT.sIx ns.length 0 none=0:=rfl;rw[e1,yO (by decide),List.drop_zero,Nat.sub_zero]
 congr 1
 show ns.take (min 63 ns.length)=_
 by_cases h:63<=ns.length
 .rw[Nat.min_eq_left h]
 .rw[Nat.min_eq_right (by omega),List.take_length,List.take_of_length_le (by omega)]
end Com
namespace DL
open PySem PySem.Spec PyProof.Rows L2
def bR.there{P:Program}{w:World}{H:Hp}{h:Heap}{a:Addr}{o:HO}(x:bR P w H h a o):∃u,h.get? a=some u:=by
 cases o with|lst xs=>obtain⟨_,_,_,_,e⟩:=x;exact⟨_,e⟩|tup xs=>obtain⟨_,_,_,ob,e,_⟩:=x;exact⟨_,e⟩|dK kvs|dT kvs=>obtain⟨_,_,_,_,o,_,_,e,_⟩:=x;exact⟨_,e⟩|set S n=>obtain⟨o,_,_,_,e,_⟩:=x;exact⟨_,e⟩|ins C dx fs=>obtain⟨_,_,_,e,_⟩:=x;exact⟨_,e⟩|own y=>obtain⟨_,e⟩:=x;exact⟨_,e⟩|xd fs=>obtain⟨_,⟨_,_,_,e,_⟩,_⟩:=x;exact⟨_,e⟩|rng lo hi=>obtain⟨_,_,_,e⟩:=x;exact⟨_,e⟩|frz ob u=>obtain⟨e,_⟩:=x;exact⟨_,e⟩|tbl ps|met f y=>exact⟨_,show h.get? a=some _ from x⟩|ext φ=>obtain⟨_,⟨_,e⟩,_⟩:=x;exact⟨_,e⟩
noncomputable def gQ(P:Program) (w:World):ke:=λouter H s E e s'=>∃(ea C:Addr) (a0:Value) (B:Heap) (H':Hp),e=.ref ea/\s'.os=s.os/\AllBare s'.gens/\Un (fQ outer) [] H H' s.heap s'.heap/\fK P w H' s'.heap/\H' ea=none /\
 Heap.FlyingW B outer ea (.ref C) a0 s'.heap/\(∀b,b∉fQ outer->(H' b≠none∨∃o,s.heap.get? b=some o)->∃o,B.get? b=some o)/\∃ox,Fi s'.heap ea ox/\E (.ref C) ox H'
def zH{l:List PySem.Env}:∀env∈l,∀a,env.frame=some a->a∈fQ l:=λenv he a hf=>List.mem_filterMap.mpr ⟨env,he,hf⟩
section
variable {P:Program}{w:World}{K:W.Frag}{mg:Str->Option Value}{base:Heap}{N:List Str}{qual:Str}{scope:Scope}{f:Addr}{cd:Value}{A:Around}{outer:List PySem.Env}{s0:Shared}{H0:Hp}{E:XK}
 {pins:List (Addr×Obj)}{σ:L2.St}{H:Hp}{s:Shared}
def eQ{B h h':Heap}(k:B.StaysIn h)(k':B.StaysIn h'){b:Addr}{o:Obj}(hb:∃u,B.get? b=some u)(e:h.get? b=some o):h'.get? b=some o:=by
 obtain⟨u,q⟩:=hb;have:=k b u q;rw[e]at this;cases this;exact k' b o q
def Bh{X:Cx}(hX:X=dU (gQ P w) P w K mg base N qual scope f cd A outer s0 H0 E)(I:Inv X pins σ H s){s1:Shared}{H1:Hp}{ea C:Addr}{a0:Value}{B h':Heap}(os:s1.os=s.os)(bare:AllBare s1.gens)
  (un:Un (fQ X.stack) [] H H1 s.heap s1.heap)(hok:fK P w H1 s1.heap)(hne:H1 ea=none)(hst:B.StaysIn s1.heap)(hfr:s1.heap.FunFrames B X.stack)
  (hB:∀b,b∉fQ X.stack->(H1 b≠none∨∃o,s.heap.get? b=some o)->∃o,B.get? b=some o)(fl:Heap.FlyingW B outer ea (.ref C) a0 h')(up:s1.heap.UpToSlots h')(hE:∃ox,Fi h' ea ox/\E (.ref C) ox H1) :
  gQ P w outer H0 s0 E (.ref ea) { s1 with heap:=h' }:=by
 subst hX;have hL:(envOfC qual scope s0.heap.objs.size f cd).frame=some (envOfC qual scope s0.heap.objs.size f cd).locals:=rfl;have hstk:∀b,b∈fQ (envOfC qual scope s0.heap.objs.size f cd::outer)->b=(envOfC qual scope s0.heap.objs.size f cd).locals∨b∈fQ outer:=λb hb=>by
  unfold fQ at hb;rw[List.filterMap_cons,hL]at hb;exact List.mem_cons.mp hb
 have hsub:∀b,b∈fQ outer->b∈fQ (envOfC qual scope s0.heap.objs.size f cd::outer):=λb hb=>by
  unfold fQ;rw[List.filterMap_cons,hL];exact List.mem_cons_of_mem _ hb
 have old:∀b o,s0.heap.get? b=some o->b≠(envOfC qual scope s0.heap.objs.size f cd).locals:=λb o e=>Nat.ne_of_lt (Nat.lt_of_lt_of_le (Heap.lt_size e) I.ok.above);have nofr:∀b o,s0.heap.get? b=some o->b∉fQ outer->b∉fQ (envOfC qual scope s0.heap.objs.size f cd::outer):=λb o e hb hm=>(hstk b hm).elim (old b o e) hb;have thr:∀b o,s0.heap.get? b=some o->∃o',s.heap.get? b=some o':=λb o e=>I.base.there b o e (by intro z;exact nomatch z);have fst:∀b,b∈fQ outer->∀o,s1.heap.get? b=some o->∃sl,h'.get? b=some { o with slots:=sl }:=λb hb o e=>by
  obtain⟨_,o',ho',hd⟩:=hfr.mem (hsub b hb);rw[e]at ho';cases ho';exact up b o e hd
 have free1:∀b∈fQ (envOfC qual scope s0.heap.objs.size f cd::outer),H1 b=none:=λb hb=>by
  obtain⟨_,o,ho,_⟩:=I.stack.mem hb;exact un.free b o ho (I.stkFree b hb) (by simp)
 have B0:∀b o,s0.heap.get? b=some o->b∉fQ outer->∃u,B.get? b=some u:=λb o e hb=>hB b (nofr b o e hb) (.inr (thr b o e));refine⟨ea,C,a0,B,H1,rfl,os.trans I.os,bare,⟨λb o e n hb hx=>?_,λb o e n hb hx=>?_,λb o e n hx=>?_,λb o e hx=>?_,λb xs e=>un.tups b xs (I.base.tups b xs e),λb o u e=>un.frzs b o u (I.base.frzs b o u e),λb ps e=>?_⟩,λa o e=>?_,hne,fl,λb hb h=>?_,hE⟩
 .have e1:=I.base.keep b o e n hb (by intro z;exact nomatch z)
  have n1:=I.base.free b o e n (by intro z;exact nomatch z);have e2:=un.keep b o e1 n1 (nofr b o e hb) (by simp);exact eQ hst fl.1 (B0 b o e hb) e2
 .obtain⟨sl,e1⟩:=I.base.slot b o e n hb (by intro z;exact nomatch z)
  have n1:=I.base.free b o e n (by intro z;exact nomatch z);obtain⟨sl2,e2⟩:=un.any e1 n1 (by simp);obtain⟨sl3,e3⟩:=fst b hb _ e2;exact⟨sl3,e3⟩
 .obtain⟨o',e1⟩:=thr b o e
  exact un.free b o' e1 (I.base.free b o e n (by intro z;exact nomatch z)) (by simp)
 .obtain⟨o',e1⟩:=thr b o e
  obtain⟨o2,e2⟩:=un.there b o' e1 (by simp)
  by_cases hb:b∈fQ outer
  .obtain⟨sl,e3⟩:=fst b hb _ e2
   exact⟨_,e3⟩
  .exact⟨_,eQ hst fl.1 (B0 b o e hb) e2⟩
 .obtain⟨m1,e1⟩:=I.base.tbls b ps e
  obtain⟨m2,e2⟩:=un.tbls b _ e1;exact⟨m1++m2,by rw[e2,Array.append_assoc]⟩
 .refine(hok a o e).stay (λb u hb q=>?_) (λ_ q=>q) λ_ _ q=>q
  have hn:H1 b≠none:=by
   rcases hb with rfl|hb
   .rw[e];simp
   .rw[hb];simp
  exact eQ hst fl.1 (hB b (λhm=>hn (free1 b hm)) (.inl hn)) q
 .by_cases hm:b∈fQ (envOfC qual scope s0.heap.objs.size f cd::outer)
  .rcases hstk b hm with z|z
   .rcases h with h|⟨o,h⟩
    .exact absurd (free1 b hm) h
    .exact absurd z (old b o h)
   .exact absurd z hb
  .exact hB b hm (h.elim .inl λ⟨o,h⟩=>.inr (thr b o h))
def nQ(I:Inv (dU (gQ P w) P w K mg base N qual scope f cd A outer s0 H0 E) pins σ H s){h1:Heap}{e C:Addr}{vs:List Value}(hx:Heap.MadeExcOf s.heap h1 e (.ref C) vs)(hE:E (.ref C) none H) :
  (dU (gQ P w) P w K mg base N qual scope f cd A outer s0 H0 E).xe (.ref e) { s with heap:=h1 }:=by
 have hin:=zH (l:=envOfC qual scope s0.heap.objs.size f cd::outer);have hl:s.heap.FunFrames (W.hideAll s.heap (fQ (envOfC qual scope s0.heap.objs.size f cd::outer))) (envOfC qual scope s0.heap.objs.size f cd::outer):=W.funFrames_hide I.stack hin;have hn:H e=none:=by
  cases q:H e with|none=>rfl|some o=>obtain⟨u,hu⟩:=bR.there (I.hok e o q);rw[hx.new]at hu;cases hu
 obtain⟨t,he,_,_⟩:=hx.there;have hen:(W.hideAll s.heap (fQ (envOfC qual scope s0.heap.objs.size f cd::outer))).get? e=none:=by
  cases q:(W.hideAll s.heap (fQ (envOfC qual scope s0.heap.objs.size f cd::outer))).get? e with|none=>rfl|some o=>have:=W.of_hideAll _ q;rw[hx.new]at this;cases this
 refine rL (s:={ s with heap:=h1 }) (a0:=.ref t) I.ok.frames (hl.of_keeps λb o hb _=>⟨o,hx.keeps b o hb,rfl⟩) rfl he (λb o q=>hx.keeps b o (W.of_hideAll _ q)) hen rfl rfl rfl (λz=>absurd rfl z) λh' fl up dch=>?_;refine Bh rfl I (s1:={ s with heap:=h1 }) (H1:=H) rfl I.bare (Un.kept hx.keeps) (I.hok.kept hx.keeps) hn (λb o q=>hx.keeps b o (W.of_hideAll _ q)) (hl.of_keeps λb o hb _=>⟨o,hx.keeps b o hb,rfl⟩) (λb hb h=>?_) fl up ⟨none,⟨none,dch,.inl rfl⟩,hE⟩;have:∃o,s.heap.get? b=some o:=by
  rcases h with h|h
  .cases q:H b with
   |none=>exact absurd q h
   |some o=>exact bR.there (I.hok b o q)
  .exact h
 obtain⟨o,q⟩:=this;exact⟨o,W.hideAll_get _ q hb⟩
def kX:eY (gQ P w) (dU (gQ P w) P w K mg base N qual scope f cd A outer s0 H0 E) E:=by
 intro pins σ H s e s' I h;obtain⟨ea,C,a0,B,H',rfl,os,bare,un,hok,hne,fl,hB,ox,⟨dc,hdc,hox⟩,hE⟩:=h;refine uM I.ok.frames rfl fl hdc λh' fl' up hd'=>?_;exact Bh rfl I os bare un hok hne fl.1 fl.2.2.1 hB fl' up ⟨ox,⟨dc,hd',hox⟩,hE⟩
end
def rK{P:Program}{w:World}{K:W.Frag}{mg:Str->Option Value}{base:Heap}{x qual:Str}{st:Stmt}{f:Addr}{fd:FuncData}{N ps:List Str}{k:Nat}{s:db}(F:ym K x qual st f fd)(S:eA N ps (defScope st))
  (hbody:∀(cdv:Value) (A:Around) (outer:List PySem.Env) (s0:Shared) (H Ha:Hp) (E:XK),cn k (A.deeper (envOfC qual (defScope st) s0.heap.objs.size f cdv)) ->
   vh (dU (gQ P w) P w K mg base N qual (defScope st) f cdv A outer s0 H E) E H Ha (defBody st) s):FnOk P w K mg base (gQ P w) (k+1) f fd ps (spD K ps.length (cy N.length s)):=by
 have hpl:ps.length<=N.length:=by have:=congrArg List.length S.pre;rw[List.length_take]at this;omega
 obtain⟨oc,od,kV,doc,pm,an,cdv,ct,osl,rfl,lk,hcd⟩:=F.ex;refine tu lk hcd S (λvs H Q E h=>h.1) λA outer s0 H vs Q E hr h=>?_;obtain⟨hn,Ha,ds,hs,hv,q⟩:=h;refine⟨_,(hbody cdv A outer s0 H Ha E hr).o,Ha,ds.map Sl.sh++List.replicate (N.length-ds.length) .no,?_,?_⟩
 .refine⟨br.refl hs,fi hv,λi d e=>?_,λi j d d' hij e=>?_,?_,OX.none iD gp⟩
  .by_cases hi:i<ds.length
   .rw[List.getElem?_append_left (by simpa using hi),List.getElem?_map]at e
    cases q:ds[i]? with|none|some d'=>rw[q]at e;cases e
   .rw[List.getElem?_append_right (by simpa using hi),List.getElem?_replicate]at e
    split at e<;>cases e
  .by_cases hi:i<ds.length
   .rw[List.getElem?_append_left (by simpa using hi),List.getElem?_map]at e
    cases q:ds[i]? with|none|some d'=>rw[q]at e;cases e
   .rw[List.getElem?_append_right (by simpa using hi),List.getElem?_replicate]at e
    split at e<;>cases e
  .unfold L2.start
   have:=hv.length;simp only[List.length_append,List.length_map,List.length_replicate];omega
 .unfold cy at q
  cases e1:s (ds.map Sl.sh++List.replicate (N.length-ds.length) .no) with
  |stuck|exn x=>rw[e1]at q;exact q
  |ok r=>
   rw[e1]at q;cases r with|nx ρ'=>exact λσ' H' Ha' _ h'=>q .non H' Ha' h'.g (aK.mpr rfl)|rt d=>exact λv H' Ha' g rp=>q v H' Ha' g rp|bk ρ'|ct ρ'=>exact q.elim
def noX(m:ac->ak D)(ds:ac):ak D:=match m ds with
 |.exn _=>.stuck
 |r=>r
structure AV (K:W.Frag) (x:Str) (C:Addr):Prop where
 xc:XC K x C
 ex:W.excIn K C [.type "ValueError",.type "Exception",.type "BaseException",.type "object"] "ValueError.__new__"=true
def AV.obj{K:W.Frag}{x:Str}{C:Addr}(c:AV K x C){h:Heap}(X:K.In h):∃bm N nm q bs hdct sn sub ab col dd k0 k1 k2 k3 k5 mN,h.get? C=some (excClassObj nm q C N bs bm hdct sn sub ab col dd k0 k1 k2 k3 k5 "ValueError.__new__")/\h.Ns N mN/\mN "__init__"=none /\
  OwnTail h [.type "ValueError",.type "Exception",.type "BaseException",.type "object"] bm:=by
 have q:=c.ex;unfold W.excIn at q;split at q
 .rename_i dd cd sl ho
  split at q
  .rename_i C' bm k0 k1 k2 k3 n k5 hm hs
   simp only[Bool.and_eq_true,beq_iff_eq,Bool.not_eq_true']at q;obtain⟨⟨⟨⟨⟨rfl,rfl⟩,hdel⟩,ht⟩,hok⟩,hni⟩:=q;obtain⟨nm,bs,mro,ns,qn,hd,sn,sub,ab,col,del⟩:=cd;dsimp only at hm hdel hok hni;subst hm hdel;have hsl:sl=#[k0,k1,k2,k3,some (.builtin "ValueError.__new__"),k5]:=by
    obtain⟨l⟩:=sl;simp only at hs;rw[hs]
   subst hsl;exact⟨bm,ns,nm,qn,bs,hd,sn,sub,ab,col,dd,k0,k1,k2,k3,k5,_,X _ _ ho,.of_isNs (W.isNs_of_in X hok),W.nsMap_none_of_in X hok hni,W.tail_of_in X ht⟩
  .cases q
 .cases q
def qO(x:Str)(fa:Ev->ak (ac)):db:=λρ=>(fa (fB ρ)).bind λds=>if ds.length<=line then .exn ⟨x,[]⟩ else .stuck
section
variable {P:Program}{w:World}{K:W.Frag}{mg:Str->Option Value}{base:Heap}{N:List Str}{qual:Str}{scope:Scope}{f:Addr}{cd:Value}{A:Around}{outer:List PySem.Env}{s0:Shared}{H0:Hp}{E:XK}{He H0e:Hp}
def xH{x:Str}{C:Addr}{np cpos pos:Pos}{e:Expr}{es:List Expr}{fa:Ev->ak (ac)}(c:AV K x C)(hm:mg x=some (.ref C))(hh:A.handled=none)
  (hg:Gl (dU (gQ P w) P w K mg base N qual scope f cd A outer s0 H0 E) x)(ha:DA (dU (gQ P w) P w K mg base N qual scope f cd A outer s0 H0 E) E (e::es) fa)
  (hdb:(x==("__debug__":Str))=false:=by decide)(he:starEach (e::es) (dU (gQ P w) P w K mg base N qual scope f cd A outer s0 H0 E).env=(false,eval e (dU (gQ P w) P w K mg base N qual scope f cd A outer s0 H0 E).env)::starEach es (dU (gQ P w) P w K mg base N qual scope f cd A outer s0 H0 E).env:=by exact aC rfl)
  (hpl:(backTo cpos (starEach es (dU (gQ P w) P w K mg base N qual scope f cd A outer s0 H0 E).env)).any (·.1)=false:=by exact bg rfl) :
  DS (dU (gQ P w) P w K mg base N qual scope f cd A outer s0 H0 E) E He H0e (.Raise (some (.Call (.Name x np) (e::es) [] cpos)) none pos) (qO x fa):=by
 refine⟨?_⟩;intro pins s σ H D I ⟨Ha,ρ,hr,q⟩;obtain⟨bm,Nn,nm,qn,bs,hdct,sn,sub,ab,col,dd,k0,k1,k2,k3,k5,mN,hC,hN,hni,T⟩:=c.obj I.ok.mod.kin;refine wpAny_Raise_call_subT (C:=C) (nm:=nm) (q:=qn) (N:=Nn) (bs:=bs) (bm:=bm) (hdct:=hdct) (sn:=sn) (sub:=sub) (ab:=ab) (col:=col) (dd:=dd) (k0:=k0) (k1:=k1) (k2:=k2) (k3:=k3) (k5:=k5)
  PySem.F.excBase_ValueError (mN:=mN) (T.hasType PySem.F.excBase_ValueError.hasBase) hh (by rw[he];show(false||(backTo cpos (starEach es (dU (gQ P w) P w K mg base N qual scope f cd A outer s0 H0 E).env)).any (·.1))=false;rw[hpl];rfl) hni (jx I hg hm ⟨rfl,?_⟩ hdb)
 have hq:iW K E H (frz He Ha H) (fa (fB ρ)) (λvs H1=>vs.length<=sizeLine/\E (.ref C) none H1):=by
  unfold qO at q;cases e1:fa (fB ρ) with
  |stuck=>rw[e1]at q;exact q|exn z=>rw[e1]at q;exact λC ox H' Ha' g ex=>q C ox H' Ha' (hr.frz_grow.trans g) ex
  |ok ds=>
   rw[e1]at q;intro vs H1 H01 g rp;have q:b9 K E He H0e Ha (if ds.length<=line then ak.exn ⟨x,[]⟩ else .stuck) D:=q
   by_cases hl:ds.length<=line
   .rw[if_pos hl]at q
    exact⟨by rw[←rp.length];exact cX hl,q (.ref C) none H1 H01 (hr.frz_grow.trans g) ⟨⟨C,rfl,c.xc⟩,rfl⟩⟩
   .rw[if_neg hl]at q;exact q.elim
 have h1:=ha.o cpos pins s σ H _ I ⟨frz He Ha H,fB ρ,hr.frz_le,hr.looks,hq⟩;rw[he]at h1 ⊢;refine Calls.evalArgs_plain (wpAny_mono h1 (λvs s2 h2=>?_) λ_ _ y=>y);obtain⟨vs',H1,I1,rv,hl,hE⟩:=h2;exact⟨rfl,by rw[←rv.length];exact hl,I1.bk _ _ hC,hN.keeps I1.bk,T.keeps I1.bk,λh' ee hx=>nQ I1 hx hE⟩
end
section
variable {P:Program}{w:World}{st:List PySem.Env}{H H':Hp}{h g g' B:Heap}
def Un.fly(un:Un (fQ st) [] H H' h g)(k:B.StaysIn g)(hfr:g.FunFrames B st)(hB:∀b,b∉fQ st->(H' b≠none∨∃o,h.get? b=some o)->∃o,B.get? b=some o)(k':B.StaysIn g')(up:g.UpToSlots g'):Un (fQ st) [] H H' h g':=by
 have fst:∀b,b∈fQ st->∀o,g.get? b=some o->∃sl,g'.get? b=some { o with slots:=sl }:=λb hb o e=>by
  obtain⟨_,o',ho',hd⟩:=hfr.mem hb;rw[e]at ho';cases ho';exact up b o e hd
 refine⟨λb o e n hb hx=>?_,λb o e n hb hx=>?_,un.free,λb o e hx=>?_,un.tups,un.frzs,un.tbls⟩
 .exact eQ k k' (hB b hb (.inr ⟨o,e⟩)) (un.keep b o e n hb hx)
 .obtain⟨sl,e1⟩:=un.slot b o e n hb hx
  obtain⟨sl2,e2⟩:=fst b hb _ e1;exact⟨sl2,e2⟩
 .obtain⟨o',e1⟩:=un.there b o e hx
  by_cases hb:b∈fQ st
  .obtain⟨sl,e2⟩:=fst b hb _ e1
   exact⟨_,e2⟩
  .exact⟨_,eQ k k' (hB b hb (.inr ⟨o,e⟩)) e1⟩
def fK.fly(ok:fK P w H' g)(hf:∀b∈fQ st,H' b=none)(k:B.StaysIn g)(hB:∀b,b∉fQ st->(H' b≠none∨∃o,h.get? b=some o)->∃o,B.get? b=some o)(k':B.StaysIn g'):fK P w H' g':=λa o e=>by
 refine(ok a o e).stay (λb u hb q=>?_) (λ_ q=>q) λ_ _ q=>q;have hn:H' b≠none:=by
  rcases hb with rfl|hb
  .rw[e];simp
  .rw[hb];simp
 exact eQ k k' (hB b (λhm=>hn (hf b hm)) (.inl hn)) q
def fK.ext(ok:fK P w H g){a:Addr}{φ:Heap->Prop}(hn:H a=none)(p:φ g)(ht:∃o,g.get? a=some o)(hm:∀h1 h2:Heap,φ h1->(∀o,h1.get? a=some o->h2.get? a=some o)->φ h2):fK P w (upd H a (.ext φ)) g:=λb u e=>by
 by_cases hb:b=a
 .subst hb;rw[aJ]at e;cases e;exact⟨p,ht,hm⟩
 .rw[aD hb]at e
  exact(ok b u e).stay (λc v _ q=>q) (λc q=>by rw[aD (aS q hn)];exact q) λc xs q=>by rw[aD (aS q hn)];exact q
def Un.ext{fs:List Addr}(un:Un fs [] H H' h g){a:Addr}{o:HO}(hn:H' a=none)(ha:h.get? a=none):Un fs [] H (upd H' a o) h g :=
 ⟨un.keep,un.slot,λb ob e n hx=>by rw[aD (λz=>by subst z;rw[ha]at e;cases e)];exact un.free b ob e n hx,un.there,λb xs q=>by rw[aD (aS (un.tups b xs q) hn)];exact un.tups b xs q,
  λb ob u q=>by rw[aD (aS (un.frzs b ob u q) hn)];exact un.frzs b ob u q,λb ps q=>by
   obtain⟨m,e⟩:=un.tbls b ps q;exact⟨m,by rw[aD (aS e hn)];exact e⟩⟩
def uO{a C:Addr}{dc:Option Addr}:∀h1 h2:Heap,sA a C dc h1->(∀o,h1.get? a=some o->h2.get? a=some o)->sA a C dc h2:=λh1 h2 ⟨o,vs,e,c,d⟩ k=>⟨o,vs,k o e,c,d⟩
end
def hand(X:Cx)(e:Addr):Cx:={ X with A:=X.A.mark (some (.ref e)),calm:=false,xe:=λ_ _=>False }
section
variable {X:Cx}{pins:List (Addr×Obj)}{σ:L2.St}{H:Hp}{s:Shared}{e:Addr}
def zG(ok:X.Ok):(hand X e).Ok :=
 ⟨ok.mod,ok.kind,ok.glob,ok.blt,ok.above,ok.inj,ok.has,ok.cab,λz=>Bool.noConfusion z,ok.frames,ok.stk,ok.exf,ok.bs,ok.bsz,ok.noex,ok.exfs,ok.funs,ok.frf⟩
def Inv.hand(I:Inv X pins σ H s):Inv (DL.hand X e) pins σ H s:=⟨zG I.ok,I.os,I.bare,I.base,I.loc,I.cell,I.free,I.freeC,I.pin,I.hok,I.len⟩
def sv(ok:X.Ok)(I:Inv (DL.hand X e) pins σ H s):Inv X pins σ H s:=⟨ok,I.os,I.bare,I.base,I.loc,I.cell,I.free,I.freeC,I.pin,I.hok,I.len⟩
def yk{i:Nat}{x:Str}{m:Str->Option Value}{v:Option Value}{h':Heap}{t':Nat}(I:Inv X pins σ H s)(hN:X.N.Nodup)(hi:X.N[i]?=some x)
  (hm:∀(j:Nat) (y:Str) (v:V),X.N[j]?=some y->σ[j]?=some (some v)->vj X.env.scope y->∃u,bh v u/\Fn X.env s.heap m y u)(hn:h'.Ns X.env.locals (λy=>if y=x then v else m y))(hs:Heap.SameBut X.env.locals s.heap h') :
  Inv X pins (σ.set i none) H { s with heap:=h',toks:=t' }:=by
 have cne:=I.cne;obtain⟨m0,⟨oL,_,_,hoL,_⟩,_⟩:=id I.loc;have tracked:fK X.prog X.w H h':=λb ob e=>by
  refine(I.hok b ob e).stay (λc w' hc q=>(hs.2 c ?_).trans q) (λ_ q=>q) λ_ _ q=>q;rintro rfl;have hfree:=I.free;rcases hc with rfl|hc
  .rw[hfree]at e;cases e
  .rw[hfree]at hc;cases hc
 refine⟨I.ok,I.os,I.bare,⟨λb o e n hb hx=>?_,λb o e n hb hx=>?_,I.base.free,λb o e hx=>?_,I.base.tups,I.base.frzs,I.base.tbls⟩,⟨_,hn,λj y v' e1 e2 e3=>?_⟩,λy c e=>?_,I.free,I.freeC,λp hp=>?_,tracked,by simpa using I.len⟩
 .exact(hs.2 b (Nat.ne_of_lt (Nat.lt_of_lt_of_le (Heap.lt_size e) I.ok.above))).trans (I.base.keep b o e n hb hx)
 .obtain⟨sl,e1⟩:=I.base.slot b o e n hb hx
  exact⟨sl,(hs.2 b (Nat.ne_of_lt (Nat.lt_of_lt_of_le (Heap.lt_size e) I.ok.above))).trans e1⟩
 .obtain⟨o',e1⟩:=I.base.there b o e hx
  exact⟨o',(hs.2 b (Nat.ne_of_lt (Nat.lt_of_lt_of_le (Heap.lt_size e) I.ok.above))).trans e1⟩
 .by_cases hj:j=i
  .subst hj
   have hiσ:j<σ.length:=by rw[I.len];exact(List.getElem?_eq_some_iff.mp hi).1
   rw[List.getElem?_set_self hiσ]at e2;cases e2
  .rw[List.getElem?_set_ne (Ne.symm hj)]at e2
   obtain⟨u',r',q⟩:=hm j y v' e1 e2 e3;refine⟨u',r',?_⟩;rcases q with⟨k,e⟩|⟨k,c,e,z⟩
   .refine .inl ⟨k,?_⟩
    have:y≠x:=λe=>hj (lR hN e1 (e▸hi));simp[this,e]
   .exact .inr ⟨k,c,e,z.sameBut hs (cne y c e)⟩
 .obtain⟨w',z⟩:=I.cell y c e
  exact⟨w',z.sameBut hs (cne y c e)⟩
 .obtain⟨e,n,ne,nf,d⟩:=I.pin p hp
  exact⟨(hs.2 p.1 ne).trans e,n,ne,nf,d⟩
def Dd{H1:Hp}{s1 s':Shared}{Ex:XK}{ev:Value}{c n:Str}{np hpos:Pos}{bf:Stmt}{suite:List Stmt}{rest:List ExceptHandler}{cv:Value}{ni:Nat}{D:fP}(hstk:X.stack=X.env::X.outer/\X.env.frame=some X.env.locals)(I:Inv X pins σ H1 s1)
  (h:gQ X.prog X.w X.stack H1 s1 Ex ev s')(hg:Gl X c)(hm:X.mg c=some cv)(hx:∀C ox H',Ex (.ref C) ox H'->W.exmOne X.K (.ref C) cv=some true)
  (hN:X.N.Nodup)(hi:X.N[ni]?=some n)(hlo:X.env.scope.names.lookup n=some .local)
  (hs:∀ea C dc ox H' s2,Ex (.ref C) ox H'->(ox=none∨ox=dc)->H' ea=none->Inv (DL.hand X ea) pins (σ.set ni (some (.ref ea))) (upd H' ea (.ext (sA ea C dc))) s2 ->
   wpAny (model X.prog X.w) (X.A.mark (some (.ref ea))) (execs (bf::suite) X.env) (SP (DL.hand X ea) pins { nx:=λσ' H=>D.nx (σ'.set ni none) H,rt:=D.rt,bk:=λσ' H=>D.bk (σ'.set ni none) H,ct:=λσ' H=>D.ct (σ'.set ni none) H }) (λ_ _=>False) s2)
  (hdb:(c==("__debug__":Str))=false:=by decide) :
  wpAny (model X.prog X.w) X.A (noteFrame ev X.env) (λ_ sg=>wpAny (model X.prog X.w) X.A (setFlight ev none) (λ_ si=>
   wpAny (model X.prog X.w) X.A (handleBy ev X.env (.ExceptHandler (some (.Name c np)) (some n) (bf::suite) hpos::rest)) (SP X pins D) X.xe si) X.xe sg) X.xe s':=by
 obtain⟨ea,C,a0,B,H',rfl,os,bare,un,hok,hne,fl,hB,ox,⟨dc,hdc,hox⟩,hE⟩:=h;have hA:X.A.frames=some (X.env::X.outer):=by rw[←hstk.1];exact I.ok.frames
 have fl0:=fl;rw[hstk.1]at fl;have hf1:∀b∈fQ X.stack,H' b=none:=λb hb=>by
  obtain⟨_,o,ho,_⟩:=I.stack.mem hb;exact un.free b o ho (I.stkFree b hb) (by simp)
 have hnew:s1.heap.get? ea=none:=by
  cases q:s1.heap.get? ea with
  |none=>rfl
  |some o=>
   by_cases hb:ea∈fQ X.stack
   .obtain⟨_,o',ho',hd⟩:=fl0.2.2.1.mem hb
    obtain⟨oe,vs,he,_,hd',_⟩:=fl0.first
    rw[ho']at he;cases he;exact absurd hd' (hd vs)
   .obtain⟨u,hu⟩:=hB ea hb (.inr ⟨o,q⟩)
    rw[fl.2.1]at hu;cases hu
 have inv:∀g,B.StaysIn g->s'.heap.UpToSlots g->Inv X pins σ H' { s' with heap:=g }:=λg k up=>
  I.call' (ch:=[]) os (Un.fly un fl0.1 fl0.2.2.1 hB k up) (fK.fly hok hf1 fl0.1 hB k) bare (λ_ z=>nomatch z)
 have invx:∀g,B.StaysIn g->s'.heap.UpToSlots g->sA ea C dc g->Inv X pins σ (upd H' ea (.ext (sA ea C dc))) { s' with heap:=g }:=λg k up p=>
  I.call' (ch:=[]) os (Un.ext (Un.fly un fl0.1 fl0.2.2.1 hB k up) hne hnew) (fK.ext (fK.fly hok hf1 fl0.1 hB k) hne p (let ⟨o,_,e,_⟩:=p;⟨o,e⟩) uO) bare (λ_ z=>nomatch z)
 refine xt hA hstk.2 fl hdc λh4 held4 up4 dc4=>?_;refine xu held4 dc4 λh5 fl5 up5 dc5=>?_;have I5:Inv (DL.hand X ea) pins σ H' { s' with heap:=h5 }:=Inv.hand (inv h5 fl5.1 (up4.trans up5));refine wpAny_handleBy_cons (codeAny_handlers_test ?_) (by intro q;cases q);refine jx I5 hg hm ?_ hdb;obtain⟨ob,hob,hoc⟩:=fl5.there;have LT:W.Looks (model X.prog X.w) h5 (typeOf (.ref ea)) (.ref C):=hoc▸(W.Looks.ld hob).andThen .now;refine(W.exm_one I5.kIn LT (hx C ox H' hE)).here ?_;refine codeAny_handlers_suite_as ?_;refine xv fl5 dc5 λh6 fl6 up6 dc6=>?_;obtain⟨oe,vs,he,hc,hd,_⟩:=fl6.first
 have I6:Inv (DL.hand X ea) pins σ (upd H' ea (.ext (sA ea C dc))) { s' with heap:=h6 }:=Inv.hand (invx h6 fl6.1 ((up4.trans up5).trans up6) ⟨oe,vs,he,hc,hd,(by obtain⟨o6,e6,d6,_⟩:=dc6;rw[he]at e6;cases e6;exact d6)⟩);refine gV (X:=DL.hand X ea) (v:=.ref ea) I6 hN hi (.inl hlo) rfl (λs7 I7=>?_) (.inr hlo);refine wpAny_mono (hs ea C dc ox H' s7 hE hox hne I7) (λf s8 h8=>?_) λ_ _ z=>z.elim;have hcls:(X.env.scope.kind==.class||(X.env.scope.kind==.module&&X.env.locals != X.env.globals))=false:=by rw[I.ok.kind];rfl
 have fin:∀{σ':L2.St}{H2:Hp}{Q:Unit->Shared->Prop},Inv (DL.hand X ea) pins σ' H2 s8->(∀s9,Inv X pins (σ'.set ni none) H2 s9->Q () s9) ->
   wpAny (model X.prog X.w) X.A (do bindName X.env n .none;unbindBehindTheSuite X.env n hpos) Q X.xe s8:=λ{σ' H2 Q} J q=>by
  have J':=sv I.ok J;obtain⟨m,hn,hl⟩:=id J'.loc;exact wpAny_nameGoes_keeps hlo hn hcls λh' v hn' hs'=>q _ (yk J' hN hi hl hn' hs')
 cases f with|next=>obtain⟨σ',H2,J,q⟩:=h8;exact fin J λs9 J9=>⟨_,H2,J9,q⟩|brk=>obtain⟨σ',H2,J,q⟩:=h8;exact fin J λs9 J9=>⟨_,H2,J9,q⟩|cont=>obtain⟨σ',H2,J,q⟩:=h8;exact fin J λs9 J9=>⟨_,H2,J9,q⟩|ret u=>obtain⟨v,σ',H2,J,r,q⟩:=h8;exact fin J λs9 J9=>⟨v,_,H2,J9,r,q⟩
end
def PA.nox{X:Cx}{es:List Expr}{t:TA}(h:PA X.nox es t):PA X es t:=λpos pins s σ H Q I hw=>
 wpAny_mono (h pos pins s σ H Q (I.wish _) hw) (λ_ _ ⟨v,H',I',r,q⟩=>⟨v,H',I'.unwish,r,q⟩) λ_ _ z=>False.elim z
section
variable {X:Cx}{pins:List (Addr×Obj)}{σ:L2.St}{H:Hp}{s:Shared}{CX:ke}{k:Nat}{f:Addr}{fd:FuncData}{ps:List Str}{sp:Sp}{Ex:XK}{x:Str}{p pos:Pos}{e:Expr}{es:List Expr}{t:TA}
def AN{Q:VK}{XE:Value->Shared->Prop}(F:FnOk X.prog X.w X.K X.mg X.base CX k f fd ps sp)(hr:cn k X.A)(hg:Gl X x)(hm:X.mg x=some (.ref f))(hk:W.keepIn X.K (.ref f)=true)(hb:iA X.K fd ps [])(ha:PA X.nox (e::es) t)
  (I:Inv X pins σ H s)(h:t σ H λvs H1=>sp vs H1 Q Ex)(hx:∀H1 s1 e s',Inv X pins σ H1 s1->CX X.stack H1 s1 Ex e s'->XE e s')
  (hdb:(x==("__debug__":Str))=false:=by decide)(he:starEach (e::es) X.env=(false,eval e X.env)::starEach es X.env:=by exact aC rfl)(hpl:(backTo pos (starEach es X.env)).any (·.1)=false:=by exact bg rfl) :
  wpAny (model X.prog X.w) X.A (eval (.Call (.Name x p) (e::es) [] pos) X.env) (EP X pins σ Q) XE s:=by
 refine wpAny_Call_Name_kw (jx I hg hm ?_ hdb);have ha':PA (X.wish XE) (e::es) t:=PA.nox (X:=X.wish XE) ha;refine W.callWith_K (h₀:=X.base) I.ok.mod.kin hk (cG (ha' pos pins s σ H _ (I.wish XE) h) λus s1 z9=>?_) he hpl;obtain⟨vs,H1,I1,r,q⟩:=z9;refine⟨I1.unwish.kIn,?_⟩;have I1:=I1.unwish;have hl:us.length=ps.length:=by rw[←r.length];exact F.len _ _ _ _ q
 have hb1:=hb s1 us I1.kIn (by simpa using hl);rw[List.append_nil]at hb1;refine wpAny_call (codeAny_mono (F.run X.A X.stack s1 H1 ⟨us,[]⟩ us vs Q Ex hr I1.env0 hb1 r q) λr s' hq=>?_);cases r with
 |error e=>exact hx H1 s1 e s' I1 hq
 |ok fl=>
  cases fl with|ret u=>exact I1.after hq|next|brk|cont=>exact False.elim hq
end
def vB(K:W.Frag)(He H0e Ha:Hp)(r:ak Fl)(D:fP):Prop:=match r with
 |.exn _=>True
 |r=>b9 K E0 He H0e Ha r D
def FG(K:W.Frag)(He H0e Ha:Hp)(σ:L2.St)(ρ:Ev)(r:ak Fl):XK:=λC ox H'=>∃x Ha',r=.exn x/\az Ha Ha'/\de K He H0e Ha' σ H' ρ/\qH K Ha' x C ox
structure TB (X:Cx) (st:Stmt) (g:db):Prop where
 o:∀(pins:List (Addr×Obj)) (s:Shared) (σ:L2.St) (H He H0e Ha:Hp) (ρ:Ev) (D:fP) (XE:Value->Shared->Prop),Inv X pins σ H s->de X.K He H0e Ha σ H ρ->vB X.K He H0e Ha (g ρ) D ->
  (∀H1 s1 e s',Inv X pins σ H1 s1->gQ X.prog X.w X.stack H1 s1 (FG X.K He H0e Ha σ ρ (g ρ)) e s'->XE e s')->wpAny (model X.prog X.w) X.A (exec st X.env) (SP X pins D) XE s
section
variable {X:Cx}{E:XK}{e:Expr}{es:List Expr}{fa:Ev->ak (ac)}{pos:Pos}
def de.drop{K:W.Frag}{He H0e Ha H:Hp}{σ:L2.St}{ρ:Ev}(h:de K He H0e Ha σ H ρ){i:Nat}:de K He H0e Ha (σ.set i none) H (ρ.set i .no):=by
 have key:∀(j:Nat) (s:Sl),(ρ.set i .no)[j]?=some s->s≠.no->j≠i/\ρ[j]?=some s:=λj s e hs=>by
  by_cases hj:i=j
  .subst hj
   rw[List.getElem?_set_self']at e;cases q:ρ[i]? with|none=>rw[q]at e;cases e|some s'=>rw[q]at e;cases e;exact absurd rfl hs
  .rw[List.getElem?_set_ne hj]at e
   exact⟨λz=>hj z.symm,e⟩
 refine⟨h.g,λj d' e=>?_,λj d' e=>?_,λj k d1 d2 hn e1 e2=>?_,by simp[h.ln],h.ex.upd (λj s e=>?_) (az.refl _) (λa vs _ e=>e) λp us _ h0 hp _=>⟨hp,h0⟩⟩
 rotate_left 3
 .by_cases hs:s=.no
  .exact .inr (.inr (.inl hs))
  .obtain⟨hj,e'⟩:=key j s e hs
   exact .inl ⟨e',by rw[List.getElem?_set_ne (Ne.symm hj)]⟩
 .obtain⟨hj,e'⟩:=key j _ e (by simp)
  obtain⟨v',h1,h2⟩:=h.rd j d' e';exact⟨v',by rw[List.getElem?_set_ne (Ne.symm hj)];exact h1,h2⟩
 .obtain⟨hj,e'⟩:=key j _ e (by simp)
  obtain⟨a,h1,h2⟩:=h.ow j d' e';exact⟨a,by rw[List.getElem?_set_ne (Ne.symm hj)];exact h1,h2⟩
 .obtain⟨hj,e1'⟩:=key j _ e1 (by simp)
  obtain⟨hk,e2'⟩:=key k _ e2 (by simp);rw[List.getElem?_set_ne (Ne.symm hj),List.getElem?_set_ne (Ne.symm hk)];exact h.ap j k d1 d2 hn e1' e2'
def zf(ni:Nat)(r:Fl):ak Fl:=match r with
 |.nx ρ=>.ok (.nx (ρ.set ni .no))
 |.rt d=>.ok (.rt d)
 |.bk ρ=>.ok (.bk (ρ.set ni .no))
 |.ct ρ=>.ok (.ct (ρ.set ni .no))
def uN(x:A1):D:=match x.flds with
 |[]=>.exc x.cls
 |f::fs=>if((f::fs).map (·.1)).Nodup then .ob (.exf x.cls ((f::fs).map (·.1))) ((f::fs).map (·.2)) else .exc x.cls
theorem m5{β:Type}:∀{l:List (Str×β)}{f:Str}{d:β},(l.map (·.1)).Nodup->(f,d)∈l->l.lookup f=some d
 |(g,e)::l,f,d,nd,h=>by
  rw[List.map_cons,List.nodup_cons]at nd;rcases List.mem_cons.mp h with h|h
  .cases h;rw[List.lookup_cons,beq_self_eq_true]
  .have:f≠g:=λz=>nd.1 (z▸List.mem_map.mpr ⟨(f,d),h,rfl⟩)
   rw[List.lookup_cons,beq_eq_false_iff_ne.mpr this];exact m5 nd.2 h
theorem p9{K:W.Frag}{H:Hp}{fs:List (Str×V)}:∀(l:List (Str×D)),(∀n d,(n,d)∈l->∃v,fs.lookup n=some v/\bC K H d v)->∃vs,Reps K H (l.map (·.2)) vs/\l.length=vs.length/\∀(i:Nat) (f:Str) (v:V),(l.map (·.1))[i]?=some f->vs[i]?=some v->fs.lookup f=some v
 |[],_=>⟨[],Reps.nil_iff.mpr rfl,rfl,λi f v e=>by simp at e⟩
 |(n,d)::l,h=>by
  obtain⟨v,h1,h2⟩:=h n d List.mem_cons_self;obtain⟨vs,h3,h4,h5⟩:=p9 l λn d hm=>h n d (List.mem_cons_of_mem _ hm);refine⟨v::vs,aA.mpr ⟨v,vs,rfl,h2,h3⟩,by simp[h4],λi f w e1 e2=>?_⟩;cases i with|zero=>simp at e1 e2;rw[←e1,←e2];exact h1|succ i=>exact h5 i f w (by simpa using e1) (by simpa using e2)
def xw{K:W.Frag}{H:Hp}{x:A1}{C ea:Addr}{ox dc:Option Addr}(xc:XC K x.cls C)(ex:qH K H x (.ref C) ox)(hox:ox=none∨ox=dc)(hne:H ea=none):bC K (upd H ea (.ext (sA ea C dc))) (uN x) (.ref ea):=by
 have plain:bC K (upd H ea (.ext (sA ea C dc))) (.exc x.cls) (.ref ea):=dz.mpr ⟨ea,C,dc,rfl,xc,.inl aJ⟩;have sm:az H (upd H ea (.ext (sA ea C dc))):=λb o q=>by rw[aD (aS q hne)];exact q
 obtain⟨cls,flds⟩:=x;unfold uN;cases flds with
 |nil=>exact plain
 |cons f fs=>
  show bC _ _ (if((f::fs).map (·.1)).Nodup then D.ob (.exf cls ((f::fs).map (·.1))) ((f::fs).map (·.2)) else .exc cls) _
  by_cases nd:((f::fs).map (·.1)).Nodup
  .rw[if_pos nd]
   obtain⟨_,hm⟩:=ex;cases ox with
   |none=>cases hm
   |some a=>
    obtain⟨gs,h1,h2⟩:=hm;have hdc:dc=some a:=by
     rcases hox with z|z
     .cases z
     .exact z.symm
    obtain⟨vs,k1,k2,k3⟩:=p9 (K:=K) (H:=H) (fs:=gs) (f::fs) λn d hmm=>h2 n d (m5 nd hmm);exact cF.mpr ⟨ea,vs,rfl,⟨C,a,gs,xc,hdc▸.inl aJ,sm _ _ h1,by rw[List.length_map];exact k2,k3⟩,k1.mono sm⟩
  .rw[if_neg nd];exact plain
def o7(g:db)(hit:Str->Bool)(ni:Nat)(sh:db):db:=λρ=>match g ρ with
 |.exn x=>if hit x.cls=true then(sh (ρ.set ni (.sh (uN x)))).bind (zf ni) else .stuck
 |r=>r
def C2{He H0e:Hp}{st bf:Stmt}{suite:List Stmt}{g sh:db}{hit:Str->Bool}{ni:Nat}{c n:Str}{np hpos:Pos}{cv:Value}(hstk:X.stack=X.env::X.outer/\X.env.frame=some X.env.locals)(hb:TB X st g)
  (hg:Gl X c)(hm:X.mg c=some cv)(hhit:∀x C,hit x=true->XC X.K x C->W.exmOne X.K (.ref C) cv=some true)(hN:X.N.Nodup)(hi:X.N[ni]?=some n)(hlo:X.env.scope.names.lookup n=some .local)
  (hh:∀ea,vh (DL.hand X ea) E He H0e (bf::suite) sh)(hdb:(c==("__debug__":Str))=false:=by decide) :
  DS X E He H0e (.Try [st] [.ExceptHandler (some (.Name c np)) (some n) (bf::suite) hpos] [] [] pos) (o7 g hit ni sh):=by
 refine⟨?_⟩;intro pins s σ H D I ⟨Ha,ρ,h,q⟩;have hq:vB X.K He H0e Ha (g ρ) D:=by
  unfold o7 at q;cases e1:g ρ with
  |exn x=>trivial|stuck=>rw[e1]at q;exact q
  |ok r=>rw[e1]at q;cases r<;>exact q
 refine wpAny_Try_except (wpAny_execs_cons (cG (hb.o pins s σ H He H0e Ha ρ D _ I h hq λH1 s1 e s' I1 hc=>?_) λf s1 hf=>?_))
 .have hit1:∀x,g ρ=.exn x->hit x.cls=true:=λx e1=>by
   unfold o7 at q;rw[e1]at q
   by_cases z:hit x.cls=true
   .exact z
   .simp only[if_neg z]at q;exact q.elim
  refine Dd hstk I1 hc hg hm (λC ox H' ⟨x,Ha',e1,_,_,⟨⟨c',ec,xc⟩,_⟩⟩=>?_) hN hi hlo (λea C dc ox H' s2 ⟨x,Ha',e1,sm,srx,⟨⟨c',ec,xc⟩,hm2⟩⟩ hox hne I2=>?_) hdb
  .cases ec;exact hhit _ _ (hit1 x e1) xc
  .cases ec
   refine(hh ea).o pins s2 _ _ _ I2 ⟨upd Ha' ea (.ext (sA ea C dc)),ρ.set ni (.sh (uN x)),(srx.grow (aI srx.g.sub hne)).put (xw xc ⟨⟨C,rfl,xc⟩,hm2⟩ hox (srx.g.sub.free hne)),?_⟩;have sm2:az Ha (upd Ha' ea (.ext (sA ea C dc))):=sm.trans (aI srx.g.sub hne).z;unfold o7 at q;rw[e1]at q;simp only[if_pos (hit1 x e1)]at q;cases e2:sh (ρ.set ni (.sh (uN x))) with
   |stuck|exn z=>rw[e2]at q;exact q
   |ok r=>
    rw[e2]at q;cases r with|nx ρ'=>exact λσ' H2 H02 s2 h2=>q _ H2 H02 (sm2.trans s2) (de.drop h2)|rt d=>exact q|bk ρ'=>exact λσ' H2 H02 s2 h2=>q _ H2 H02 (sm2.trans s2) (de.drop h2)|ct ρ'=>exact λσ' H2 H02 s2 h2=>q _ H2 H02 (sm2.trans s2) (de.drop h2)
 .cases f with
  |next=>exact wpAny_execs_nil (wpAny_execs_nil hf)
  |brk=>exact hf
  |cont=>exact hf
  |ret u=>exact hf
end
structure Bs (k:Nat) (A:Around):Prop where
 dp:A.depth+3*k+5<recursionLimit
 un:A.units+16*k+200<cLine
def cn.h{k:Nat}{A:Around}(r:cn k A):Bs k A:=⟨r.dp,r.un⟩
structure GK (P:Program) (w:World) (K:W.Frag) (mg:Str->Option Value) (base:Heap) (k:Nat) (f:Addr) (fd:FuncData) (ps:List Str) (sp:Sp):Prop where
 len:∀vs H Q E,sp vs H Q E->vs.length=ps.length
 run:∀(A:Around) (outer:List PySem.Env) (s:Shared) (H:Hp) (args:Args) (us:List Value) (vs:bv) (Q:VK) (E:XK),Bs k A->yo P w K mg base A outer s H->BindsTo s fd args (ps.zip us)->aY vs us->sp vs H Q E ->
  codeAny (model P w) A (.call (.ref f) args) (CR CX0 outer P w H s Q E) s
def GK.ok{P:Program}{w:World}{K:W.Frag}{mg:Str->Option Value}{base:Heap}{k:Nat}{f:Addr}{fd:FuncData}{ps:List Str}{sp:Sp}(F:GK P w K mg base k f fd ps sp):FnOk P w K mg base CX0 k f fd ps sp :=
 ⟨F.len,λA outer s H args us vs Q E hr=>F.run A outer s H args us vs Q E (cn.h hr)⟩
def ff(tab:Str->Option Bool)(x:D):ak D:=match x with
 |.exc c=>(match tab c with
  |some b=>.ok (.bl b)
  |none=>.stuck)
 |.ob (.exf c _) _=>(match tab c with
  |some b=>.ok (.bl b)
  |none=>.stuck)
 |_=>.stuck
def nJ(K:W.Frag)(tab:Str->Option Bool)(cv:Value):Prop:=∀c C b,tab c=some b->XC K c C->W.kitOne K (.ref C) cv=some b
def sr(K:W.Frag)(tab:Str->Option Bool)(cs:List Addr):Prop:=∀c C b,tab c=some b->XC K c C->W.kitAny K (.ref C) (cs.map Value.ref)=some b
section
variable {X:Cx}{E:XK}{e a:Expr}{es:List Expr}{f:cr}{pos:Pos}{tab:Str->Option Bool}
def zE{cV:V}{cv:Value}(hrel:∀u,bh cV u->u=cv)(ht:nJ X.K tab cv):fA X (.builtin "isinstance") (λvs H Q=>∃c v b,vs=[v,cV]/\bC X.K H (.exc c) v/\tab c=some b/\Q (.bl b) H):=by
 intro pins s σ H xs us Q I r h;obtain⟨c,v,b,rfl,h1,h2,q⟩:=h;cases r with
 |cons r1 r2=>
  cases r2 with
  |cons r3 r4=>
   cases r4;rename_i u1 u2;obtain rfl:=hrel _ r3;obtain⟨ad,C,dc,rfl,hc,hr⟩:=dz.mp h1;cases (show u1=Value.ref ad from r1);obtain⟨p,_,_⟩:=hr.ok I.hok;exact W.kia_one (jy hc.ek hc.ek.isCls) I.kIn p (ht c C b h2 hc) (λz=>nomatch z) λtk=>⟨.bl b,H,I.tok _,rfl,q⟩
def wY{cV:V}{σ:L2.St}{H:Hp}{Q:VK}(h:tD X.K E (aL f (ff tab)) σ H Q):tD X.K E f σ H λv H1=>∃c v' b,[v,cV]=[v',cV]/\bC X.K H1 (.exc c) v'/\tab c=some b/\Q (.bl b) H1:=by
 obtain⟨Ha,ρ,hs,hr,q⟩:=h;refine⟨Ha,ρ,hs,hr,?_⟩;unfold aL at q;cases e1:f ρ with
 |stuck|exn x=>rw[e1]at q;exact q
 |ok d=>
  rw[e1]at q;intro v H1 H01 g1 r1;have q:post X.K E H Ha (ff tab d) Q:=q;cases d with
  |exc c=>
   unfold ff at q;cases e2:tab c with|none=>simp only[e2]at q;exact q.elim|some b=>simp only[e2]at q;exact⟨c,v,b,rfl,r1.mono g1.sub,e2,q _ H1 H01 g1 (rb _)⟩
  |ob k ds=>
   cases k with
   |exf c ks=>
    replace r1:=r1.exf_exc;unfold ff at q;cases e2:tab c with|none=>simp only[e2]at q;exact q.elim|some b=>simp only[e2]at q;exact⟨c,v,b,rfl,r1.mono g1.sub,e2,q _ H1 H01 g1 (rb _)⟩
   |_=>exact q.elim
  |_=>exact q.elim
def xS{x:Str}{p1 p2:Pos}{cV:V}{cv:Value}(hrel:∀u,bh cV u->u=cv)(ht:nJ X.K tab cv)(hc:PE X (.Name x p2) (tC cV))(hgi:Gl X "isinstance")(hmi:X.mg "isinstance"=none)(ha:DE X E a f)
  (he:starEach [a,.Name x p2] X.env=(false,eval a X.env)::starEach [.Name x p2] X.env:=by exact aC rfl)(he2:starEach [.Name x p2] X.env=(false,eval (.Name x p2) X.env)::starEach [] X.env:=by exact aC rfl)(hpl:(backTo pos (starEach [.Name x p2] X.env)).any (·.1)=false:=by exact bg rfl) :
  DE X E (.Call (.Name "isinstance" p1) [a,.Name x p2] [] pos) (aL f (ff tab)):=by
 refine⟨?_⟩;exact aQ (g6 (zE hrel ht) hgi hmi PyProof.Rows.Boot.«isinstance» (bK ha.o (bK hc dG he2) he) (by decide) (by decide) he hpl) λσ H Q h=>wY h
def uP{x:Str}{p1 p2:Pos}{C:Addr}(hg:Gl X x)(hm:X.mg x=some (.ref C))(ht:nJ X.K tab (.ref C))(hgi:Gl X "isinstance")(hmi:X.mg "isinstance"=none)(ha:DE X E a f)(hdb:(x==("__debug__":Str))=false:=by decide)
  (he:starEach [a,.Name x p2] X.env=(false,eval a X.env)::starEach [.Name x p2] X.env:=by exact aC rfl):DE X E (.Call (.Name "isinstance" p1) [a,.Name x p2] [] pos) (aL f (ff tab)) :=
 xS (cV:=.ref C) (λu h=>h) ht (nV hg hm rfl hdb) hgi hmi ha he
def uQ{x:Str}{p1 p2:Pos}{T:String}(hg:Gl X x)(hm:X.mg x=none)(hv:bootBuiltins x=some (.type T))(ht:nJ X.K tab (.type T))(hgi:Gl X "isinstance")(hmi:X.mg "isinstance"=none)(ha:DE X E a f)(hn:x≠"__name__":=by decide)(hdb:(x==("__debug__":Str))=false:=by decide)
  (he:starEach [a,.Name x p2] X.env=(false,eval a X.env)::starEach [.Name x p2] X.env:=by exact aC rfl):DE X E (.Call (.Name "isinstance" p1) [a,.Name x p2] [] pos) (aL f (ff tab)) :=
 xS (cV:=.ty T) (λu h=>h) ht (nX hg hm hv rfl hn hdb) hgi hmi ha he
structure CN (X:Cx) (es:List Expr) (cs:List Addr):Prop where
 o:PA X es (λσ H Q=>Q (cs.map V.ref) H)
def C9:CN X [] []:=⟨dG⟩
def tU{x:Str}{p:Pos}{C:Addr}{cs:List Addr}(hg:Gl X x)(hm:X.mg x=some (.ref C))(h:CN X es cs)(hdb:(x==("__debug__":Str))=false:=by decide):CN X (.Name x p::es) (C::cs) :=
 ⟨bK (nV (v:=.ref C) hg hm rfl hdb) h.o (aC rfl)⟩
theorem mS:∀{cs:List Addr}{us:List Value},aY (cs.map V.ref) us->us=cs.map Value.ref
 |[],_,.nil=>rfl
 |c::cs,_,.cons r t=>by rw[mS t];obtain rfl:_=Value.ref c:=r;rfl
def zD{cs:List Addr}(ht:sr X.K tab cs):fA X (.builtin "isinstance") (λvs H Q=>∃c v b p,vs=[v,.ref p]/\H p=some (.tup (cs.map V.ref))/\bC X.K H (.exc c) v/\tab c=some b/\Q (.bl b) H):=by
 intro pins s σ H xs us Q I r h;obtain⟨c,v,b,p,rfl,hp,h1,h2,q⟩:=h;cases r with
 |cons r1 r2=>
  cases r2 with
  |cons r3 r4=>
   cases r4;rename_i u1 u2;obtain rfl:u2=Value.ref p:=r3;obtain⟨ad,C,dc,rfl,hc,hr⟩:=dz.mp h1;cases (show u1=Value.ref ad from r1);obtain⟨pe,_,_⟩:=hr.ok I.hok;obtain⟨_,its,rv,ob,k1,k2,n,k3⟩:=I.hok p _ hp;obtain rfl:=mS rv;obtain⟨oc,od,odt,osl⟩:=ob;cases k2;cases k3;exact W.kia_tup (jy hc.ek hc.ek.isCls) I.kIn pe k1 (ht c C b h2 hc) (λz=>nomatch z) λtk=>⟨.bl b,H,I.tok _,rfl,q⟩
def AF{p1 p2:Pos}{k2}{cs:List Addr}(ht:sr X.K tab cs)(hc:CN X es cs)(hl:cs.length<=30)(hgi:Gl X "isinstance")(hmi:X.mg "isinstance"=none)(ha:DE X E a f)
  (he:starEach [a,.Tuple es k2 p2] X.env=(false,eval a X.env)::starEach [.Tuple es k2 p2] X.env:=by exact aC rfl)(he2:starEach [.Tuple es k2 p2] X.env=(false,eval (.Tuple es k2 p2) X.env)::starEach [] X.env:=by exact aC rfl)(hpl:(backTo pos (starEach [.Tuple es k2 p2] X.env)).any (·.1)=false:=by exact bg rfl) :
  DE X E (.Call (.Name "isinstance" p1) [a,.Tuple es k2 p2] [] pos) (aL f (ff tab)):=by
 refine⟨?_⟩;refine aQ (g6 (zD ht) hgi hmi PyProof.Rows.Boot.«isinstance» (bK ha.o (bK (nU hc.o) dG he2) he) (by decide) (by decide) he hpl) λσ H Q z9=>?_;obtain⟨Ha,ρ,hs,hr,q⟩:=z9;refine⟨Ha,ρ,hs,hr,?_⟩
 unfold aL at q;cases e1:f ρ with
 |stuck|exn x=>rw[e1]at q;exact q
 |ok d=>
  rw[e1]at q;intro v H1 H01 g1 r1;have q:post X.K E H Ha (ff tab d) Q:=q;cases d with
  |exc c=>
   unfold ff at q;cases e2:tab c with
   |none=>simp only[e2]at q;exact q.elim
   |some b=>
    simp only[e2]at q;refine⟨?_,λp hp=>?_⟩
    .rw[List.length_map];exact Nat.le_trans hl (by decide)
    .have ga:=aI (o:=.tup (cs.map V.ref)) g1.sub hp
     exact⟨c,v,b,p,rfl,aJ,(r1.mono g1.sub).mono ga.s,e2,q _ _ _ (g1.trans ga) (rb _)⟩
  |ob k ds=>
   cases k with
   |exf c ks=>
    replace r1:=r1.exf_exc;unfold ff at q;cases e2:tab c with
    |none=>simp only[e2]at q;exact q.elim
    |some b=>
     simp only[e2]at q;refine⟨?_,λp hp=>?_⟩
     .rw[List.length_map];exact Nat.le_trans hl (by decide)
     .have ga:=aI (o:=.tup (cs.map V.ref)) g1.sub hp
      exact⟨c,v,b,p,rfl,aJ,(r1.mono g1.sub).mono ga.s,e2,q _ _ _ (g1.trans ga) (rb _)⟩
   |_=>exact q.elim
  |_=>exact q.elim
end
end DL
namespace DL
open PySem PySem.Spec PyProof.Rows L2 PySem.W
structure iU (K:Frag) (x:Str) (C:Addr):Prop where
 ns:nsIn K mainGlobals x=some (some (.ref C))
 ty:typeIn K (.ref C)=some (.type "type")
 ob:mroIn K C (.type "object")=some true
 be:subIn K (.ref C) (.type "BaseException")=some true
def iU.isCls{K:Frag}{x:Str}{C:Addr}(Z:iU K x C):(clsIn K C).isSome=true:=by
 obtain⟨cd,a,b⟩:=Option.bind_eq_some_iff.mp Z.ob;rw[a];rfl
def iU.kitCls{K:Frag}{x:Str}{C:Addr}(Z:iU K x C){t:Value}:W.kitCls K t (.ref C)=subIn K t (.ref C):=by
 show(if((clsIn K C).isSome&&typeIn K (.ref C)==some (.type "type"))=true then subIn K t (.ref C) else none)=_;rw[Z.isCls,Z.ty];rfl
def iU.exm{K:Frag}{x:Str}{C:Addr}(Z:iU K x C){t:Value}{b:Bool}(h:subIn K t (.ref C)=some b):exmOne K t (.ref C)=some b:=by
 unfold exmOne;rw[Z.be,if_pos (by decide),Z.kitCls,h]
def iU.kit{K:Frag}{x:Str}{C R:Addr}(Z:iU K x C){b:Bool}(hR:subIn K (.ref R) (.ref R)=some true)(h:subIn K (.ref R) (.ref C)=some b):kitOne K (.ref R) (.ref C)=some b:=by
 unfold kitOne
 by_cases e:(Value.ref R==Value.ref C)=true
 .rw[if_pos e]
  cases (Value.ref.inj (beq_iff_eq.mp e));rw[←hR,h]
 .rw[if_neg e,Z.kitCls,h]
def wW{K:Frag}{C:Addr}{T:String}{b:Bool}(hm:kitMeta T=true)(h:subIn K (.ref C) (.type T)=some b):kitOne K (.ref C) (.type T)=some b:=by
 unfold kitOne;rw[if_neg (by intro z;cases beq_iff_eq.mp z)];show(if kitMeta T=true then subIn K (.ref C) (.type T) else none)=_;rw[if_pos hm,h]
def rz{K:Frag}{t:Value}:kitAny K t []=some false:=rfl
def pQ{K:Frag}{t c:Value}{r:List Value}{b:Bool}(h:kitOne K t c=some false)(h':kitAny K t r=some b):kitAny K t (c::r)=some b:=by unfold kitAny;rw[h];exact h'
def pP:∀T∈eX,kitMeta T=true:=by decide +kernel
def rq:kitMeta "ValueError"=true:=by decide +kernel
structure tX (K:Frag) (x:Str) (C:Addr):Prop where
 i:iU K x C
 cls:findIn K (.ref C) "__class__"=some (some (.builtin "object.__class__"))
 ga:findIn K (.ref C) "__getattribute__"=some (some (.builtin "BaseException.__getattribute__"))
 gt:findIn K (.ref C) "__getattr__"=some none
 t1:subIn K (.ref C) (.type "NoneType")=some false
 t2:subIn K (.ref C) (.type "bool")=some false
 t3:subIn K (.ref C) (.type "int")=some false
 t4:subIn K (.ref C) (.type "str")=some false
 t5:subIn K (.ref C) (.type "tuple")=some false
 t6:subIn K (.ref C) (.type "list")=some false
 t7:subIn K (.ref C) (.type "dict")=some false
 ve:subIn K (.ref C) (.type "ValueError")=some true
 self:subIn K (.ref C) (.ref C)=some true
 ex:excIn K C [.type "ValueError",.type "Exception",.type "BaseException",.type "object"] "ValueError.__new__"=true
def tX.xcls{K:Frag}{x:Str}{C:Addr}(Z:tX K x C):AV K x C where
 xc:=⟨Z.i.ns,⟨Z.cls,Z.ga,Z.gt,Z.i.ob,Z.i.be⟩,λT hT=>by
  refine wW (pP T hT) ?_;simp only[eX,List.mem_cons,List.not_mem_nil,or_false]at hT;rcases hT with rfl|rfl|rfl|rfl|rfl|rfl|rfl
  .exact Z.t1
  .exact Z.t2
  .exact Z.t3
  .exact Z.t4
  .exact Z.t5
  .exact Z.t6
  .exact Z.t7⟩
 ex:=Z.ex
def XC.inj{K:Frag}{x:Str}{C C':Addr}(a:XC K x C)(b:XC K x C'):C=C':=by
 have:=a.ns.symm.trans b.ns;simpa using this
def lC:List (Str×Bool)->Str->Option Bool
 |[],_=>none
 |(x,b)::r,c=>if x=c then some b else lC r c
theorem fV{K:Frag}{p:Str->Addr->Bool->Prop}:∀{l:List (Str×Bool)},(∀q∈l,∃C,XC K q.1 C/\p q.1 C q.2)->∀c C b,lC l c=some b->XC K c C->p c C b
 |[],_,c,C,b,h,_=>by cases h
 |(x,v)::r,H,c,C,b,h,xc=>by
  unfold lC at h
  by_cases e:x=c
  .subst e
   rw[if_pos rfl]at h;cases h;obtain⟨C',xc',q⟩:=H _ List.mem_cons_self;obtain rfl:=XC.inj xc xc';exact q
  .rw[if_neg e]at h
   exact fV (λq hq=>H q (List.mem_cons_of_mem _ hq)) c C b h xc
def lX(l:List (Str×Bool))(c:Str):Bool:=lC l c==some true
def xh{K:Frag}{l:List (Str×Bool)}{cv:Value}(H:∀q∈l,∃C,XC K q.1 C/\exmOne K (.ref C) cv=some q.2):∀x C,lX l x=true->XC K x C->exmOne K (.ref C) cv=some true:=λx C h xc=>
 fV (p:=λ_ C b=>exmOne K (.ref C) cv=some b) H x C true (by unfold lX at h;exact beq_iff_eq.mp h) xc
end DL
namespace Com
open PySem L2 DL
section
variable {α β:Type}
def l0{x:A1}{f:α->ak β}:(ak.exn x:ak α).bind f=.exn x:=aO rfl
end
def DH(hit:Str->Bool)(ni:Nat)(sh:db)(ρ:Ev)(r:ak Fl):ak Fl:=match r with
 |.exn x=>if hit x.cls=true then(sh (ρ.set ni (.sh (uN x)))).bind (zf ni) else .stuck
 |r=>r
def Ct{g:db}{hit:Str->Bool}{ni:Nat}{sh:db}{ρ:Ev}:o7 g hit ni sh ρ=DH hit ni sh ρ (g ρ):=aO rfl
def zL{hit:Str->Bool}{ni:Nat}{sh:db}{ρ:Ev}{c:Str}(h:hit c=true):DH hit ni sh ρ (.exn ⟨c,[]⟩)=(sh (ρ.set ni (.sh (.exc c)))).bind (zf ni):=if_pos h
def CG{ni:Nat}{ρ:Ev}:zf ni (.nx ρ)=.ok (.nx (ρ.set ni .no)):=aO rfl
def rN{tab:Str->Option Bool}{c:Str}{b:Bool}(h:tab c=some b):ff tab (.exc c)=.ok (.bl b):=by unfold ff;simp only[h]
end Com
namespace DL
open PySem PySem.Spec PyProof.Rows L2
section
variable {X:Cx}{pins:List (Addr×Obj)}{σ:L2.St}{H:Hp}{s:Shared}{h':Heap}
def mT{t':Nat}{fp:List Addr}{T:Addr}{xs:bv}(I:Inv X pins σ H s)(k:∀b o,b∉fp->s.heap.get? b=some o->h'.get? b=some o)(hf:∀b∈fp,kQ X pins H b)(hT:s.heap.objs.size<=T)
  (new:bR X.prog X.w (upd H T (.tup xs)) h' T (.tup xs)):Inv X pins σ (upd H T (.tup xs)) { s with heap:=h',toks:=t' }:=by
 have hn:H T=none:=I.hok.fresh hT;have nit:∀b u,H b=some u->b∉fp:=λb u e z=>by rw[(hf b z).1]at e;cases e
 refine I.step (g':=s.gens) (d':=s.drawn) (ch:=fp) (λb hb=>?_) (λb o _ _ hc e _=>k b o hc e) (λb o _ _ hc e _=>⟨o.slots,k b o hc e⟩) (λb o _ e n=>?_)
  (λb o hc e=>⟨o,k b o hc e⟩) (λb xs e=>by rw[aD (aS e hn)];exact e) (λb o u e=>by rw[aD (aS e hn)];exact e) (λb ps e=>⟨#[],by rw[aD (aS e hn),e];simp⟩) (λm hm=>?_) (λb u e=>?_) I.bare
 .obtain⟨_,f1,_,f3,f4,f5⟩:=hf b hb
  exact⟨f3,f1,f4,f5⟩
 .rw[aD (Nat.ne_of_lt (Nat.lt_of_lt_of_le (Heap.lt_size e) hT))];exact n
 .obtain⟨o,es,ep,ho,r⟩:=hm
  exact⟨o,es,ep,k _ o (λz=>(hf _ z).2.1 rfl) ho,r⟩
 .by_cases hb:b=T
  .subst hb;rw[aJ]at e;cases e;exact new
  .rw[aD hb]at e
   refine(I.hok b u e).stay (λc v hc q=>k c v ?_ q) (λc q=>by rw[aD (aS q hn)];exact q) λc xs q=>by rw[aD (aS q hn)];exact q
   rcases hc with z|z
   .rw[z];exact nit b u e
   .exact nit c _ z
def sF{t':Nat}{fp:List Addr}(I:Inv X pins σ H s)(k:∀b o,b∉fp->s.heap.get? b=some o->h'.get? b=some o)(hf:∀b∈fp,kQ X pins H b):Inv X pins σ H { s with heap:=h',toks:=t' }:=by
 have nit:∀b u,H b=some u->b∉fp:=λb u e z=>by rw[(hf b z).1]at e;cases e
 refine I.step (g':=s.gens) (d':=s.drawn) (ch:=fp) (λb hb=>?_) (λb o _ _ hc e _=>k b o hc e) (λb o _ _ hc e _=>⟨o.slots,k b o hc e⟩) (λb o _ e n=>n)
  (λb o hc e=>⟨o,k b o hc e⟩) (λb xs e=>e) (λb o u e=>e) (λb ps e=>⟨#[],by rw[e];simp⟩) (λm hm=>?_) (λb u e=>?_) I.bare
 .obtain⟨_,f1,_,f3,f4,f5⟩:=hf b hb
  exact⟨f3,f1,f4,f5⟩
 .obtain⟨o,es,ep,ho,r⟩:=hm
  exact⟨o,es,ep,k _ o (λz=>(hf _ z).2.1 rfl) ho,r⟩
 .refine(I.hok b u e).stay (λc v hc q=>k c v ?_ q) (λ_ q=>q) λ_ _ q=>q
  rcases hc with z|z
  .rw[z];exact nit b u e
  .exact nit c _ z
end
section
variable {X:Cx}{E:XK}{elts:List Expr}{k:Nat}{tp:Pos}{e a b:Expr}{f g:cr}
def pH(n:Nat):ac->ac
 |[]=>[]
 |d::ds=>.tup [.int n,d]::pH (n+1) ds
def sG{K:W.Frag}{H Ha:Hp}{p:Addr}{vs:bv}{ds:ac}(hs:az Ha H)(hp:H p=none)(r:Reps K Ha ds vs):∃H₀2,br H Ha (upd H p (.tup vs)) H₀2/\bC K H₀2 (.tup ds) (.ref p) :=
 ⟨upd Ha p (.tup vs),aI hs hp,aG.mpr ⟨p,vs,rfl,gk.of aJ,r.mono (aI (o:=.tup vs) hs hp).z⟩⟩
end
noncomputable def GJ(K:W.Frag) (a b:Addr):It :=
 ⟨λi H=>∃xs ys x y,dF K H a xs/\dF K H b ys/\xs[i]?=some x/\ys[i]?=some y,λi H x H'=>∃p y z,H p=none/\x=.ref p/\(∀xs,dF K H a xs->xs[i]?=some y)/\(∀xs,dF K H b xs->xs[i]?=some z)/\H'=upd H p (.tup [y,z]),
  λi H=>∃xs ys,dF K H a xs/\dF K H b ys/\min xs.length ys.length<=i⟩
def vy{P:Program}{w:World}{K:W.Frag}{elts:List Expr}{k:Nat}{pos:Pos}(z TI TO i1 i2 a b:Addr)(D:ZipApart z TI TO i1 i2 a b) :
  yh P w K (.Tuple elts k pos) (GJ K a b) [z,TI,TO,i1,i2] z (λi h=>IsZip h z TI TO .none/\IsPair h TI (.ref i1) (.ref i2)/\(∃a b,IsPair h TO a b)/\h.IsListIter i1 a i/\h.IsListIter i2 b i) where
 mem:=by simp
 obj:=λi h st b hb=>by
  obtain⟨hz,hTI,⟨a',b',hTO⟩,⟨o1,e1,c1,d1⟩,⟨o2,e2,c2,d2⟩⟩:=st;simp only[List.mem_cons,List.not_mem_nil,or_false]at hb;rcases hb with rfl|rfl|rfl|rfl|rfl
  .exact⟨_,hz,λv z=>by cases z⟩
  .exact⟨_,hTI,λv z=>by cases z⟩
  .exact⟨_,hTO,λv z=>by cases z⟩
  .exact⟨_,e1,λv z=>by rw[d1]at z;cases z⟩
  .exact⟨_,e2,λv z=>by rw[d2]at z;cases z⟩
 keep:=λi h h' st k=>by
  obtain⟨hz,hTI,⟨a',b',hTO⟩,h1,h2⟩:=st;exact⟨k z (by simp) _ hz,k TI (by simp) _ hTI,⟨a',b',k TO (by simp) _ hTO⟩,h1.at λo y=>k i1 (by simp) o y,h2.at λo y=>k i2 (by simp) o y⟩
 item:=by
  intro X hP hw hK hc i pins s σ H E I hf st hg;subst hP hw hK;obtain⟨xs,ys,x,y,hqx,hqy,hx,hy⟩:=hg;obtain⟨its,rv,p,hz⟩:=I.list hqx;obtain⟨jts,rw_,p',hz'⟩:=I.list hqy;obtain⟨u,hu,ru⟩:=rv.get hx;obtain⟨u',hu',ru'⟩:=rw_.get hy;have W:=WalksT.zip2 (prog:=X.prog) (w:=X.w) (I.ok.hd hc) z TI TO i1 i2 a b D its.toArray jts.toArray;have hil:i<min its.toArray.size jts.toArray.size:=by
   have h1:=(List.getElem?_eq_some_iff.mp hu).1;have h2:=(List.getElem?_eq_some_iff.mp hu').1;simp only[List.size_toArray];omega
  have sub:∀b,b∉[z,TI,TO,i1,i2]->b∉[z,TO,i1,i2]:=λb hb hc=>hb (by simp only[List.mem_cons,List.not_mem_nil,or_false]at hc ⊢;rcases hc with h|h|h|h<;>simp[h]);refine W.item i s _ _ hil ⟨st.1,st.2.1,st.2.2.1,st.2.2.2.1,st.2.2.2.2,p.isList,p'.isList⟩ λT vals h' tk hPt hT hTup hMid hk=>?_;refine⟨_,rfl,W.go elts k pos i T _ _ _ hMid λh'' st'' hk''=>?_⟩;obtain⟨v,v',hv,hv',rfl⟩:=hPt;have hyu:v=u:=by
   have:its[i]?=some v:=by simpa using hv
   rw[hu]at this;cases this;rfl
  have hyu':v'=u':=by
   have:jts[i]?=some v':=by simpa using hv'
   rw[hu']at this;cases this;rfl
  subst hyu hyu';obtain⟨o,ho,hr⟩:=hTup;have ho':=hk'' T o (W.apart i T _ hMid) ho;refine⟨.ref T,upd H T (.tup [x,y]),mT (s:=s) (h':=h'') (t':=tk) I (λb o hb e=>hk'' b o (sub b hb) (hk b o (sub b hb) e)) hf hT ⟨by show 2<=sizeLine;decide,[v,v'],.cons ru (.cons ru' .nil),o,ho',hr⟩,rfl,⟨T,x,y,I.hok.fresh hT,rfl,λys hy'=>by rw[I.list_inj hy' hqx];exact hx,λys hy'=>by rw[I.list_inj hy' hqy];exact hy,rfl⟩,
   ⟨st''.1,st''.2.1,st''.2.2.1,st''.2.2.2.1,st''.2.2.2.2.1⟩,λb hb=>?_⟩
  have hb0:=(hf b hb).1;obtain⟨ob,hob⟩:∃o,s.heap.get? b=some o:=by
   obtain⟨hz,hTI,⟨a',b',hTO⟩,⟨o1,e1,c1,d1⟩,⟨o2,e2,c2,d2⟩⟩:=st;simp only[List.mem_cons,List.not_mem_nil,or_false]at hb;rcases hb with rfl|rfl|rfl|rfl|rfl
   .exact⟨_,hz⟩
   .exact⟨_,hTI⟩
   .exact⟨_,hTO⟩
   .exact⟨_,e1⟩
   .exact⟨_,e2⟩
  rw[aD (Nat.ne_of_lt (Nat.lt_of_lt_of_le (Heap.lt_size hob) hT))];exact hb0
 done:=by
  intro X hP hw hK hc i pins s σ H E I hf st hg;subst hP hw hK;obtain⟨xs,ys,hqx,hqy,hx⟩:=hg;obtain⟨its,rv,p,hz⟩:=I.list hqx;obtain⟨jts,rw_,p',hz'⟩:=I.list hqy;have hl:=rv.length;have hl':=rw_.length;obtain⟨hz,hTI,⟨a',b',hTO⟩,h1,h2⟩:=st;refine wpAny_pyNext_zip_end (I.ok.hd hc) D hz hTI hTO h1 h2 p.isList p'.isList ?_ λh' hk=>⟨rfl,sF (t':=s.toks) I (λc o hb e=>hk c o (λx=>hb (by simp[x])) (λx=>hb (by simp[x])) (λx=>hb (by simp[x])) (λx=>hb (by simp[x])) e) hf⟩
  by_cases hle:xs.length<=ys.length
  .left;simp;omega
  .right;simp;omega
 self:=λ_ _ _ _ _ st h=>by
  obtain⟨hz,_⟩:=st;exact wpAny_pyIter_zip hz h
section
variable {X:Cx}{E:XK}{elts:List Expr}{k:Nat}{tp:Pos}{e a b:Expr}{f g:cr}
def cz:ac->ac->ac
 |d::ds,e::es=>.tup [d,e]::cz ds es
 |_,_=>[]
theorem eU:∀(ds es:ac),(cz ds es).length=min ds.length es.length
 |[],_=>by simp[cz]
 |_::_,[]=>by simp[cz]
 |d::ds,e::es=>by simp[cz,eU ds es]
theorem i7:∀(ds es:ac) (i:Nat) (d:D),(cz ds es)[i]?=some d->∃x y,ds[i]?=some x/\es[i]?=some y/\d=.tup [x,y]
 |[],_,_,_,h=>by simp[cz]at h
 |_::_,[],_,_,h=>by simp[cz]at h
 |d::ds,e::es,0,_,h=>by simp[cz]at h;exact⟨d,e,rfl,rfl,h.symm⟩
 |d::ds,e::es,i+1,_,h=>by
  simp only[cz,List.getElem?_cons_succ]at h;obtain⟨x,y,h1,h2,h3⟩:=i7 ds es i _ h;exact⟨x,y,by simpa using h1,by simpa using h2,h3⟩
end
section
variable {X:Cx}{E:XK}{e a b o:Expr}{es:List Expr}{fe fo:cr}{fa:Ev->ak (ac)}{pos:Pos}
def gB:ac->Option (List Int)
 |[]=>some []
 |.int x::r=>(gB r).map (x::·)
 |_=>none
theorem pV{K:W.Frag}{H:Hp}:∀{ds:ac}{ys:List Int}{vs:bv}{us:List Value},gB ds=some ys->Reps K H ds vs->aY vs us->IntsAre us ys
 |[],ys,vs,us,h,r,q=>by
  cases h;rw[Reps.nil_iff.mp r]at q;cases q;exact .nil
 |d::ds,ys,vs,us,h,r,q=>by
  obtain⟨v,r',rfl,h1,h2⟩:=aA.mp r;cases q with
  |cons q1 q2=>
   cases d with
   |int x=>
    unfold gB at h;cases e:gB ds with
    |none=>rw[e]at h;cases h
    |some zs=>
     rw[e]at h;cases h;rw[aw.mp h1]at q1;obtain⟨t,rfl⟩:=q1;exact .cons _ _ (pV e h2 q2)
   |_=>cases h
def pW(a:Int):List Int->List Int
 |[]=>[a]
 |b::l=>if a<=b then a::b::l else b::pW a l
def cH:List Int->List Int
 |[]=>[]
 |a::l=>pW a (cH l)
theorem j7(a:Int):∀l:List Int,(pW a l).Perm (a::l)
 |[]=>by unfold pW;exact .refl _
 |b::l=>by
  unfold pW;split
  .exact .refl _
  .exact((j7 a l).cons b).trans (.swap a b l)
theorem cw:∀l:List Int,(cH l).Perm l
 |[]=>.refl _
 |a::l=>by unfold cH;exact(j7 a _).trans ((cw l).cons a)
theorem ku(a:Int):∀l:List Int,l.Pairwise (·<=·)->(pW a l).Pairwise (·<=·)
 |[],_=>by simp[pW]
 |b::l,h=>by
  rw[List.pairwise_cons]at h;unfold pW;split
  .rename_i c
   refine List.pairwise_cons.mpr ⟨λx hx=>?_,List.pairwise_cons.mpr h⟩;rcases List.mem_cons.mp hx with rfl|hx
   .exact c
   .exact Int.le_trans c (h.1 x hx)
  .rename_i c
   refine List.pairwise_cons.mpr ⟨λx hx=>?_,ku a l h.2⟩;rcases List.mem_cons.mp ((j7 a l).mem_iff.mp hx) with rfl|hx
   .omega
   .exact h.1 x hx
theorem eO:∀l:List Int,(cH l).Pairwise (·<=·)
 |[]=>.nil
 |a::l=>by unfold cH;exact ku a _ (eO l)
def v7(K:W.Frag):bv->Hp->VK->Prop:=λxs H Q=>∃p ds ns,xs=[.ref p]/\bC K H (.lst ds) (.ref p)/\gB ds=some ns/\ns.length<64/\∀l,H l=none->Q (.ref l) (upd H l (.lst ((cH ns).map V.int)))
theorem fR:∀{us:List Value}{ns:List Int},IntsAre us ns->aY (ns.map V.int) us
 |_,_,.nil=>.nil
 |_,_,.cons _ t h=>.cons ⟨_,rfl⟩ (fR h)
theorem pU:∀{us:List Value}{ns:List Int},IntsAre us ns->us.length=ns.length
 |_,_,.nil=>rfl
 |_,_,.cons _ _ h=>by simp[pU h]
def mn:fA X (.builtin "sorted") (v7 X.K):=by
 intro pins s σ H xs us Q I r h;obtain⟨p,ds,ns,rfl,hr,hi,hl,q⟩:=h;obtain⟨u,rfl,ru⟩:=r.one;obtain⟨a,vs,its,ea,rfl,h1,h2,h3,h4,_⟩:=aX I hr ru;have hI:=pV hi h2 h3;refine sorted_ints h4 hI (by rw[pU hI];exact hl) λout ns' a1 a2 a3=>?_;obtain⟨e,he⟩:=sortedAll_at s.heap its out;have en:ns'=cH ns:=W.ksm_same (a2.trans (cw ns).symm) a3 (eO ns);subst en;have hz:(cH ns).length=ns.length:=(cw ns).length_eq;refine⟨.ref (s.heap.objs.size+1),upd H (s.heap.objs.size+1) (.lst ((cH ns).map V.int)),I.laid (o:=.lst ((cH ns).map V.int)) (t':=s.toks) (λb o e=>sortedAll_old e) (Nat.le_succ _) ⟨?_,out.toList,e,fR a1,?_⟩,rfl,q _ (I.hok.fresh (Nat.le_succ _))⟩
 .rw[List.length_map,hz];exact Nat.le_trans (Nat.le_of_lt hl) (by decide)
 .simpa[seqObj] using he
def kz(x:D):ak D:=match x with
 |.lst ds=>match gB ds with
  |some ns=>if ns.length<64 then .ok (.lst ((cH ns).map D.int)) else .stuck
  |none=>.stuck
 |_=>.stuck
def tV:iz X E (v7 X.K) (m1 kz):=tW λx v H Ha Q hs r q=>by
 cases x with
 |lst ds=>
  unfold kz at q;cases e:gB ds with
  |none=>simp only[e]at q;exact q.elim
  |some ns=>
   simp only[e]at q
   by_cases c:ns.length<64
   .rw[if_pos c]at q
    obtain⟨p,vs,rfl,h1,h2⟩:=ay.mp r;exact⟨p,ds,ns,rfl,r.mono hs,e,c,λl hl=>q _ _ _ (aI hs hl) (ay.mpr ⟨l,_,rfl,dF.of aJ,iQ _⟩)⟩
   .rw[if_neg c]at q;exact q.elim
 |_=>exact q.elim
end
end DL
namespace Com
open PySem L2 DL
def Gy(d:D):ak (ac):=match d with
 |.lst ds=>.ok (pH 0 ds)
 |_=>.stuck
def A5(d:D):ak (ac):=match d with
 |.lst ds=>.ok ds
 |_=>.stuck
def gj(n:Nat)(fr:dl)(tg:Ev->D->ak Ev)(tt fe:cr)(ρ:Ev)(ds:ac):ak D:=if ds.length<=line then match bH (cq n fr ρ) tg tt fe ds with
  |.ok es=>.ok (.lst es)
  |_=>.stuck
 else .stuck
def tq(tg:Ev->D->ak Ev)(s:db)(ρ:Ev)(d:D):ak Fl:=match d with
 |.int j=>if -4611686018427387904<=j/\j<4611686018427387904 then c8 tg s (intsFrom 0 j.toNat) ρ else .stuck
 |_=>.stuck
section
variable {s t:db}{f g h:cr}{src:Ev->ak (ac)}{fa:Ev->ak (ac)}{ρ r:Ev}{i j n:Nat}{d x y:D}{ds es xs:ac}{a b:Int}{tg:Ev->D->ak Ev}{tt fe:cr}{fr:dl}
def oj:nL f ρ=(f ρ).bind A5:=aO rfl
def lY:A5 (.lst ds)=.ok ds:=aO rfl
def jB:eG n fr src tg tt fe ρ=(src ρ).bind (gj n fr tg tt fe ρ):=aO rfl
def lp:sN f tg s ρ=(f (fB ρ)).bind (tq tg s ρ):=aO rfl
def p6{k:Nat}(h:k<=1000000):tq tg s ρ (.int (k:Int))=c8 tg s (intsFrom 0 k) ρ:=by
 unfold tq;dsimp only;rw[if_pos ⟨by omega,by omega⟩,Int.toNat_natCast]
def ev_mx:oz (.int a) (.int b)=.ok (.int (if b > a then b else a)):=aO rfl
def rM:dS (.int 10) (.int 18)=.ok (.int 1000000000000000000):=aO rfl
def qr{F:D->D}(hl:ds.length<=1000000)(h:∀d∈ds,∃ρ1,tg (cq n fr ρ) d=.ok ρ1/\tt ρ1=.ok (.bl true)/\fe ρ1=.ok (F d)):gj n fr tg tt fe ρ ds=.ok (.lst (ds.map F)):=by
 unfold gj;rw[if_pos (show ds.length<=line from hl),nz h]
theorem kC{B:Ev}{F:D->D}{p:D->Bool}:∀{ds:ac},(∀d∈ds,∃ρ1,tg B d=.ok ρ1/\tt ρ1=.ok (.bl (p d))/\(p d=true->fe ρ1=.ok (F d)))->bH B tg tt fe ds=.ok ((ds.filter p).map F)
 |[],_=>rfl
 |d::ds,h=>by
  obtain⟨ρ1,h1,h2,h3⟩:=h d List.mem_cons_self;have ih:=kC (ds:=ds) λd hd=>h d (List.mem_cons_of_mem _ hd);unfold bH;rw[h1,uZ,h2,uZ];cases hp:p d with
  |true=>
   show(fe ρ1).bind _=_;rw[h3 hp,uZ,ih,uZ,List.filter_cons_of_pos hp];rfl
  |false=>
   show bH B tg tt fe ds=_;rw[ih,List.filter_cons_of_neg (by rw[hp];decide)]
def qt{F:D->D}{p:D->Bool}(hl:ds.length<=1000000)(h:∀d∈ds,∃ρ1,tg (cq n fr ρ) d=.ok ρ1/\tt ρ1=.ok (.bl (p d))/\(p d=true->fe ρ1=.ok (F d))):gj n fr tg tt fe ρ ds=.ok (.lst ((ds.filter p).map F)):=by
 unfold gj;rw[if_pos (show ds.length<=line from hl),kC h]
end
def AZ:su<=2 ^ 200:=by decide
end Com
def Fq:=(bV (bV @zM (bV @oj @lY)) (bV (bV @jB @lp) (bV @Com.ev_mx @rM)))
local macro_rules|`(tactic|open_line with[$xs,*])=>`(tactic|simp only[Dn,Fq,List.map_cons,List.map_nil,List.length_cons,List.length_nil,List.replicate_succ,List.replicate_zero,List.nil_append,List.cons_append,List.getElem?_cons_zero,List.getElem?_cons_succ,List.set_cons_zero,List.set_cons_succ,Nat.sub_zero,Nat.reduceSub,Nat.reduceAdd,Nat.add_zero,Nat.zero_add,Bool.not_true,Bool.not_false,decide_true,decide_false,Nat.reduceLeDiff,Nat.reduceBEq,Int.reduceBEq,beq_self_eq_true,DL.dOne,DL.mYes,Int.reduceLT,Int.reduceLE,Int.reduceSub,Int.reduceAdd,Int.reduceMul,Int.reduceNeg,Int.reduceToNat,Bool.and_self,$[$xs:term],*])
namespace Com
open PySem L2 DL
def tm{i:Nat}{body:db}(P:Nat->Ev->Prop){n:Nat}(h:∀k,k<n->∀ρ,P k ρ->∃ρ2,body (ρ.set i (.sh (.int (k:Int))))=.ok (.nx ρ2)/\P (k+1) ρ2){ρ:Ev}(h0:P 0 ρ):∃ρ',c8 (eJ i) body (intsFrom 0 n) ρ=.ok (.nx ρ')/\P n ρ':=by
 have key:∀(m k:Nat) (ρ:Ev),k+m=n->P k ρ->∃ρ',c8 (eJ i) body ((intsFrom 0 n).drop k) ρ=.ok (.nx ρ')/\P n ρ':=by
  intro m
  induction m with
  |zero=>
   intro k ρ hk hp;have:k=n:=by omega
   subst this;rw[wZ];exact⟨ρ,rfl,hp⟩
  |succ m ih=>
   intro k ρ hk hp;obtain⟨ρ2,h1,h2⟩:=h k (by omega) ρ hp;rw[uH (by omega),iH (tg:=eJ i) rfl h1];exact ih (k+1) ρ2 (by omega) h2
 exact key n 0 ρ (by omega) h0
structure Drawn (sz vs:List Int):Prop where
 len:vs.length=sz.length
 bnd:∀(i:Nat) (v s:Int),vs[i]?=some v->sz[i]?=some s->0<=v/\v<s
def Drawn.at{sz vs:List Int}(W:Drawn sz vs)(i:Nat){s:Int}(h:sz[i]?=some s):∃v,vs[i]?=some v/\(0<=v/\v<s)/\bq (.lst (vs.map D.int)) (.int (i:Int))=.ok (.int v):=by
 have hi:i<vs.length:=by rw[W.len];exact(List.getElem?_eq_some_iff.mp h).1
 refine⟨vs[i],List.getElem?_eq_getElem hi,W.bnd i _ _ (List.getElem?_eq_getElem hi) h,n9 ?_⟩;rw[List.getElem?_map,List.getElem?_eq_getElem hi];rfl
def Drawn.ix{sz vs:List Int}(W:Drawn sz vs)(k:Int)(i:Nat){s:Int}(hk:k=(i:Int))(h:sz[i]?=some s):∃v,vs[i]?=some v/\(0<=v/\v<s)/\bq (.lst (vs.map D.int)) (.int k)=.ok (.int v):=by
 subst hk;exact W.at i h
def bZ:Option jO->D
 |none=>.non
 |some x=>fr x
def b_look_at_purse:db :=
 (ar (dR (kN (c9 (aj (aa (ae 0) ax) m_is_ratio)) (ah (ah (ae 0) (dC (.int 0)) bq) (dC (.int 0)) Gj))
 (ar lH
 aq)
 aq)
 aq)
def m_look_at_purse:ac->ak D:=cy 1 b_look_at_purse
def qR{x:jO}(h:Dm x):m_is_ratio [fr x]=.ok (.bl true):=by
 rw[oa];show ak.ok (D.bl (lK (.tup [.int x.1,.int x.2])))=_;have h1:=h.q1;have h2:=h.g1;show ak.ok (D.bl (decide (1<=x.2)&&(Int.gcd x.1 x.2==1)))=_;rw[decide_eq_true h1,h2];rfl
def C8{α:Type}{F:α->D}{xs:List α}{k:Nat}(h:k<=xs.length):ig (xs.map F) none (some (k:Int))=(xs.take k).map F:=by
 rw[oA,HT.sIx_none,HT.sIx_nat,Nat.min_eq_left h,List.drop_zero,Nat.sub_zero]
def wg{x:jO}(h:Dm x)(h0:0<=x.1):m_look_at_purse [fr x]=.ok .non:=by
 have h1:=qR h;rw[show fr x=.tup [.int x.1,.int x.2] from rfl]at h1 ⊢;open_line with[m_look_at_purse,b_look_at_purse,h1,decide_eq_false (show ¬x.1<0 by omega)]
noncomputable def gP:db :=
 (ar (aR 1 (dC (.int 1)))
 (ar (fb (ae 0) (eJ 2)
 (ar (aR 1 (ah (ah (ae 1) (aj (aa (ae 1) (aa (ah (ae 2) (dC (.int 1)) bq) ax)) m_common_divisor) kO) (ah (ae 2) (dC (.int 1)) bq) dP))
 aq))
 (ar (bS (ae 1))
 aq)))
def m_shared_bottom:ac->ak D:=cy 3 gP
def mw:db :=
 (ar (bS (ah (ah (ae 0) (dC (.int 0)) bq) (ah (ae 1) (ah (ae 0) (dC (.int 1)) bq) kO) dP))
 aq)
def m_as_whole:ac->ak D:=cy 2 mw
noncomputable def ip:db :=
 (ar (aR 1 (aj (aa (eG 1 [] (nL (ae 0)) (eJ 0) (ah (ae 0) (dC (.non)) tR) (ae 0)) ax) m_shared_bottom))
 (ar (bS (aj (aa (eG 1 [1] (nL (ae 0)) (eJ 0) mYes (AL (ah (ae 0) (dC (.non)) jk) (dC (.non)) (aj (aa (ae 0) (aa (ae 1) ax)) m_as_whole))) (aa (ae 1) ax)) cb))
 aq))
def m_on_one_scale:ac->ak D:=cy 2 ip
def gO(b:Int)(x:jO):Int:=b / (Int.gcd b x.2:Int)*x.2
def rZ(xs:List jO):Int:=xs.foldl gO 1
structure nK (k:Nat) (b:Int):Prop where
 pos:0<b
 bd:b.natAbs<=2 ^ (200*k)
def ju{k:Nat}(h:k<=60):2 ^ (200*k)<kE:=by rw[oM];exact Nat.pow_lt_pow_right (by decide) (by omega)
def pZ{a b:Int}(h:b≠0):0<(Int.gcd a b:Int):=k8 h
def nK.step{k:Nat}{b:Int}{x:jO}(h:nK k b)(hx:e9 x):nK (k+1) (gO b x)/\b∣gO b x/\x.2∣gO b x:=by
 have q1:=hx.q1;have hg:0<(Int.gcd b x.2:Int):=pZ (by omega);have hd:(Int.gcd b x.2:Int)∣b:=Int.gcd_dvd_left ..;have hd2:(Int.gcd b x.2:Int)∣x.2:=Int.gcd_dvd_right ..;have hq:0<b / (Int.gcd b x.2:Int):=Int.ediv_pos_of_pos_of_dvd h.pos (by omega) hd;refine⟨⟨Int.mul_pos hq (by omega),?_⟩,?_,⟨b / (Int.gcd b x.2:Int),by unfold gO;rw[Int.mul_comm]⟩⟩
 .unfold gO
  rw[Int.natAbs_mul,show 200*(k+1)=200*k+200 by omega,Nat.pow_add];refine Nat.mul_le_mul (Nat.le_trans (Int.natAbs_ediv_le_natAbs _ _) h.bd) (Nat.le_trans (Nat.le_of_lt hx.qN) AZ)
 .obtain⟨c,hc⟩:=hd
  obtain⟨d,hd'⟩:=hd2;refine⟨d,?_⟩;unfold gO;generalize (Int.gcd b x.2:Int)=g at *;have e1:b / g=c:=by rw[hc];exact Int.mul_ediv_cancel_left c (by omega)
  rw[e1,hd',hc,←Int.mul_assoc,Int.mul_comm c g]
def ya{xs:List jO}(hx:∀x∈xs,e9 x):∀(b:Int) (k:Nat),nK k b->nK (k+xs.length) (xs.foldl gO b)/\b∣xs.foldl gO b/\∀x∈xs,x.2∣xs.foldl gO b:=by
 induction xs with
 |nil=>intro b k h;exact⟨h,Int.dvd_refl b,λx hx=>nomatch hx⟩
 |cons x xs ih=>
  intro b k h;obtain⟨h1,h2,h3⟩:=h.step (hx x List.mem_cons_self);obtain⟨k1,k2,k3⟩:=ih (λy hy=>hx y (List.mem_cons_of_mem _ hy)) _ _ h1;refine⟨?_,Int.dvd_trans h2 k2,λy hy=>?_⟩
  .rw[List.length_cons,show k+(xs.length+1)=k+1+xs.length by omega];exact k1
  .rcases List.mem_cons.mp hy with rfl|hy
   .exact Int.dvd_trans h3 k2
   .exact k3 y hy
def yb{L:Sl}:∀(xs:List jO) (k:Nat) (b:Int) (z:Sl),nK k b->k+xs.length<=60->(∀x∈xs,e9 x)->∃z',c8 (eJ 2) (ar (aR 1 (ah (ah (ae 1) (aj (aa (ae 1) (aa (ah (ae 2) (dC (.int 1)) bq) ax)) m_common_divisor) kO) (ah (ae 2) (dC (.int 1)) bq) dP)) aq) (xs.map fr) [L,.sh (.int b),z] =
  .ok (.nx [L,.sh (.int (xs.foldl gO b)),z']):=by
 intro xs
 induction xs with
 |nil=>intro k b z _ _ _;exact⟨z,rfl⟩
 |cons x xs ih=>
  intro k b z h hk hx;have hxx:=hx x List.mem_cons_self;have q1:=hxx.q1;obtain⟨h1,h2,h3⟩:=h.step hxx;simp only[List.length_cons]at hk;obtain⟨z',hz'⟩:=ih (k+1) _ (.sh (fr x)) h1 (by omega) (λy hy=>hx y (List.mem_cons_of_mem _ hy));refine⟨z',?_⟩;have hg:0<(Int.gcd b x.2:Int):=pZ (by omega);have hdiv:eE b (Int.gcd b x.2:Int)=true:=l5 (by omega) (Nat.lt_of_le_of_lt h.bd (ju (by omega)));have hb13:(b / (Int.gcd b x.2:Int)).natAbs<kE:=Nat.lt_of_le_of_lt (Nat.le_trans (Int.natAbs_ediv_le_natAbs _ _) h.bd) (ju (by omega));have hmul:dJ (b / (Int.gcd b x.2:Int)) x.2=true:=wN (Nat.lt_of_lt_of_le hb13 ub) (Nat.lt_of_lt_of_le hxx.qN ua);rw[List.map_cons,iH (ρ1:=[L,.sh (.int b),.sh (fr x)]) (ρ2:=[L,.sh (.int (gO b x)),.sh (fr x)]) rfl ?_]
  .exact hz'
  .rw[show fr x=.tup [.int x.1,.int x.2] from rfl]
   open_line with[iL,l3 hdiv,gf hg,gD hmul]
   rfl
def uY{xs:List jO}(hl:xs.length<=60)(hx:∀x∈xs,e9 x):m_shared_bottom [.lst (xs.map fr)]=.ok (.int (rZ xs)):=by
 obtain⟨z',hz⟩:=yb (L:=.sh (.lst (xs.map fr))) xs 0 1 .no ⟨by decide,by decide⟩ (by omega) hx;open_line with[m_shared_bottom,gP,hz]
 rfl
def wI(b:Int):Option jO->D
 |none=>.non
 |some x=>.int (x.1*(b / x.2))
def c6(os:List (Option jO)):List jO:=os.filterMap id
def jY{os:List (Option jO)}{x:jO}:x∈c6 os↔some x∈os:=by unfold c6;simp
def vt{x:jO}{b:Int}(hx:e9 x)(hb:b.natAbs<kE):m_as_whole [fr x,.int b]=.ok (.int (x.1*(b / x.2))):=by
 have q1:=hx.q1;have hdiv:eE b x.2=true:=Bl (by omega) (Nat.lt_of_lt_of_le hx.qN Dl);have hmul:dJ x.1 (b / x.2)=true:=wN (Nat.lt_of_lt_of_le hx.pN ua) (Nat.lt_of_lt_of_le (Nat.lt_of_le_of_lt (Int.natAbs_ediv_le_natAbs _ _) hb) ub);rw[show fr x=.tup [.int x.1,.int x.2] from rfl];open_line with[m_as_whole,mw,l3 hdiv,gf (show 0<x.2 by omega),gD hmul]
theorem gq:∀os:List (Option jO),(os.map bZ).filter (λd=>!(m9 d))=(c6 os).map fr
 |[]=>rfl
 |none::os=>by
  rw[List.map_cons,List.filter_cons_of_neg (by decide),gq os];rfl
 |some x::os=>by
  have:m9 (bZ (some x))=false:=rfl;rw[List.map_cons,List.filter_cons_of_pos (by rw[this];rfl),gq os];rfl
def o5{os:List (Option jO)}(hl:os.length<=60)(hx:∀x,some x∈os->e9 x):m_on_one_scale [.lst (os.map bZ)]=.ok (.tup [.lst (os.map (wI (rZ (c6 os)))),.int (rZ (c6 os))]):=by
 have hxs:∀x∈c6 os,e9 x:=λx h=>hx x (jY.mp h);have hls:(c6 os).length<=60:=Nat.le_trans (List.length_filterMap_le _ _) hl;have h1:=uY hls hxs;obtain⟨B,_,_⟩:=ya hxs 1 0 ⟨by decide,by decide⟩;have hb:(rZ (c6 os)).natAbs<kE:=Nat.lt_of_le_of_lt B.bd (ju (by omega));have c1:gj 1 [] (eJ 0) (ah (ae 0) (dC (.non)) tR) (ae 0) [.sh (.lst (os.map bZ)),.no] (os.map bZ)=.ok (.lst ((c6 os).map fr)):=by
  rw[qt (F:=id) (p:=λd=>!(m9 d)) (by rw[List.length_map];omega)]
  .rw[List.map_id,gq]
  .intro d hd
   exact⟨[.sh d],rfl,rfl,λ_=>rfl⟩
 have c2:gj 1 [1] (eJ 0) mYes (AL (ah (ae 0) (dC (.non)) jk) (dC (.non)) (aj (aa (ae 0) (aa (ae 1) ax)) m_as_whole)) [.sh (.lst (os.map bZ)),.sh (.int (rZ (c6 os)))] (os.map bZ)=.ok (.lst (os.map (wI (rZ (c6 os))))):=by
  rw[qr (F:=λd=>match d with|.tup [.int p,.int q]=>.int (p*(rZ (c6 os) / q))|_=>.non) (by rw[List.length_map];omega)]
  .congr 2
   rw[List.map_map];apply List.map_congr_left;intro o _;cases o<;>rfl
  .intro d hd
   obtain⟨o,ho,rfl⟩:=List.mem_map.mp hd;refine⟨[.sh (bZ o),.sh (.int (rZ (c6 os)))],rfl,rfl,?_⟩;cases o with
   |none=>rfl
   |some x=>
    have hw:=vt (hx x ho) hb;rw[show fr x=.tup [.int x.1,.int x.2] from rfl]at hw;rw[show bZ (some x)=.tup [.int x.1,.int x.2] from rfl];open_line with[hw]
 open_line with[m_on_one_scale,ip,c1,h1,c2]
def xV{xs:ac}{x:D}:ig (xs++[x]) none (some (-1))=xs:=by
 unfold ig;have e:HT.sIx (xs++[x]).length (xs++[x]).length (some (-1))=xs.length:=by
  have h:=HT.clip_eq (-1) (xs++[x]).length (xs++[x]).length;rw[if_pos (by decide)]at h;have:(xs++[x]).length=xs.length+1:=by simp
  omega
 rw[e,HT.sIx_none,List.drop_zero,Nat.sub_zero];simp
def jz{xs:ac}{x:D}:bq (.lst (xs++[x])) (.int (-1))=.ok x:=by
 have e:atI (xs++[x]) (-1)=some x:=by
  unfold atI uE;rw[if_neg (by decide)];have h:(-((xs++[x]).length:Int))<=-1:=by simp;omega
  rw[if_pos h];have e:(-1+((xs++[x]).length:Int)).toNat=xs.length:=by simp;omega
  rw[e];simp
 show(match atI (xs++[x]) (-1) with|some d=>ak.ok d|none=>.stuck)=_;rw[e]
theorem lW:∀ns:List Int,gB (ns.map D.int)=some ns
 |[]=>rfl
 |n::ns=>by show(gB (ns.map D.int)).map _=_;rw[lW ns];rfl
def vv{c:cr}{s:db}{n:Nat}{ρ ρ2:Ev}(h1:c (fB ρ)=.ok (.bl true))(h2:s ρ=.ok (.nx ρ2)):cu c s (n+1) ρ=cu c s n ρ2:=by
 conv=>lhs;unfold cu
 rw[h1,h2];rfl
def ug{c:cr}{s:db}{n:Nat}{ρ:Ev}(h1:c (fB ρ)=.ok (.bl false)):cu c s (n+1) ρ=.ok (.nx ρ):=by
 conv=>lhs;unfold cu
 rw[h1];rfl
end Com
namespace DL
open PySem PySem.Spec PyProof.Rows L2
noncomputable def Er(K:W.Frag) (E:XK) (He H0e Ha:Hp) (r:ak Fl) (D:fP):Prop:=match r with
 |.ok (.rt (.lst es))=>∀p us H Ha',br He H0e H Ha'->He p=none->Ha' p=none->H p=some (.lst us)->Reps K Ha' es us->D.rt (.ref p) H
 |.exn x=>∀C ox H Ha',br He H0e H Ha'->qH K Ha' x C ox->E C ox H
 |_=>False
def GO(K:W.Frag)(E:XK)(He H0e:Hp)(g:db):TS:=λD σ H=>∃Ha ρ,de K He H0e Ha σ H ρ/\Er K E He H0e Ha (g ρ) D
structure kR (X:Cx) (E:XK) (He H0e:Hp) (st:List Stmt) (g:db):Prop where
 o:qG X st (GO X.K E He H0e g)
section
variable {X:Cx}{E:XK}{He H0e:Hp}{st:Stmt}{rest:List Stmt}{e:Expr}{es:List Expr}{f:cr}{fa:Ev->ak (ac)}{s t:db}{pos:Pos}
def BE(t:db)(r:Fl):ak Fl:=match r with
 |.nx ρ=>t ρ
 |_=>.stuck
def gZ(s t:db):db:=λρ=>(s ρ).bind (BE t)
def dr(h1:DS X E He H0e st s)(h2:kR X E He H0e rest t):kR X E He H0e (st::rest) (gZ s t):=by
 refine⟨?_⟩;refine fX (jt h1.o h2.o) λD σ H z9=>?_;obtain⟨Ha,ρ,h,q⟩:=z9;refine⟨Ha,ρ,h,?_⟩
 unfold gZ at q;cases e1:s ρ with
 |stuck|exn x=>rw[e1]at q;exact q
 |ok r=>
  rw[e1]at q;cases r with|nx ρ'=>exact λσ' H' Ha' s' h'=>⟨Ha',ρ',h',q⟩|rt d|bk ρ'|ct ρ'=>exact q.elim
def F0(s:Option Sl):ak Fl:=match s with
 |some (.ow (.lst ds))=>.ok (.rt (.lst ds))
 |_=>.stuck
def vO(i:Nat):db:=λρ=>F0 ρ[i]?
def xF{i:Nat}{x:Str}{p1:Pos}(hN:X.N[i]?=some x)(hv:vj X.env.scope x)(hd:(x==("__debug__":Str))=false:=by decide)(hcd:(x==("__classdict__":Str))=false:=by decide) :
  kR X E He H0e [.Return (some (.Name x p1)) pos] (vO i):=by
 refine⟨?_⟩;refine fX (jt (qV (g0 hN hv hd hcd)) nS) λD σ H ⟨Ha,ρ,h,q⟩=>?_;unfold vO at q;cases e1:ρ[i]? with
 |none=>rw[e1]at q;exact q.elim
 |some s=>
  rw[e1]at q;cases s with
  |ow d=>
   cases d with
   |lst ds=>
    obtain⟨p,h1,h2,h3,vs,h4,h5⟩:=h.ow i _ e1;exact⟨.ref p,h1,q p vs H Ha h.g h2 h3 h4 h5⟩
   |_=>exact q.elim
  |_=>exact q.elim
end
def wC(r:Fl):ak D:=match r with
 |.rt (.lst es)=>.ok (.lst es)
 |_=>.stuck
def gR(n:Nat)(s:db)(ds:ac):ak D:=(s (ds.map Sl.sh++List.replicate (n-ds.length) .no)).bind wC
def vT{n:Nat}{s:db}{ds:ac}{d:D}(h:gR n s ds=.ok d):∃es,d=.lst es:=by
 unfold gR at h;cases e:s (ds.map Sl.sh++List.replicate (n-ds.length) .no) with
 |stuck|exn x=>rw[e]at h;cases h
 |ok r=>
  rw[e]at h;cases r with
  |rt d'=>
   cases d' with|lst es=>cases h;exact⟨es,rfl⟩| _=>cases h
  |_=>cases h
noncomputable def Ba(K:W.Frag) (E:XK) (H Ha:Hp) (r:ak D) (Q:VK):Prop:=match r with
 |.ok (.lst es)=>∀p us H' Ha',br H Ha H' Ha'->H p=none->Ha' p=none->H' p=some (.lst us)->Reps K Ha' es us->Q (.ref p) H'
 |.exn x=>∀C ox H' Ha',br H Ha H' Ha'->qH K Ha' x C ox->E C ox H'
 |_=>False
def oY(K:W.Frag)(n:Nat)(m:ac->ak D):Sp:=λvs H Q E=>vs.length=n/\∃Ha ds,az Ha H/\Reps K Ha ds vs/\Ba K E H Ha (m ds) Q
def yI{K:W.Frag}{n:Nat}{m:ac->ak D}(hm:∀ds d,m ds=.ok d->∃es,d=.lst es):∀vs H Q E,spD K n m vs H Q E->oY K n m vs H Q E:=λvs H Q E ⟨h1,Ha,ds,h2,h3,q⟩=>⟨h1,Ha,ds,h2,h3,by
 cases e:m ds with
 |stuck|exn x=>rw[e]at q;exact q
 |ok d=>
  obtain⟨es,rfl⟩:=hm ds d e;rw[e]at q;intro p us H' Ha' g hp h0 hv r;have z:az Ha' (upd Ha' p (.lst us)):=λb o eb=>by rw[aD (by intro z;subst z;rw[h0]at eb;cases eb)];exact eb
  refine q (.ref p) H' (upd Ha' p (.lst us)) ⟨g.s,g.z.trans z,λb o eb=>?_,λb h1 h2=>?_⟩ (ay.mpr ⟨p,us,rfl,dF.of aJ,r.mono z⟩)
  .by_cases hb:b=p
   .subst hb;rw[aJ]at eb;cases eb;exact hv
   .rw[aD hb]at eb;exact g.sub _ _ eb
  .by_cases hb:b=p
   .subst hb;exact hp
   .rw[aD hb]at h1;exact g.nw b h1 h2⟩
def rJ{P:Program}{w:World}{K:W.Frag}{mg:Str->Option Value}{base:Heap}{x qual:Str}{st:Stmt}{f:Addr}{fd:FuncData}{N ps:List Str}{k:Nat}{s:db}(F:ym K x qual st f fd)(S:eA N ps (defScope st))
  (hbody:∀(cdv:Value) (A:Around) (outer:List PySem.Env) (s0:Shared) (H Ha:Hp) (E:XK),cn k (A.deeper (envOfC qual (defScope st) s0.heap.objs.size f cdv)) ->
   kR (dU CX0 P w K mg base N qual (defScope st) f cdv A outer s0 H E).nox E H Ha (defBody st) s):FnOk P w K mg base CX0 (k+1) f fd ps (oY K ps.length (gR N.length s)):=by
 have hpl:ps.length<=N.length:=by have:=congrArg List.length S.pre;rw[List.length_take]at this;omega
 refine F.ok S (λvs H Q E h=>h.1) λcdv A outer s0 H vs Q E hr h=>?_;obtain⟨hn,Ha,ds,hs,hv,q⟩:=h;refine⟨_,(hbody cdv A outer s0 H Ha E hr).o,Ha,ds.map Sl.sh++List.replicate (N.length-ds.length) .no,?_,?_⟩
 .refine⟨br.refl hs,fi hv,λi d e=>?_,λi j d d' hij e=>?_,?_,OX.none iD gp⟩
  .by_cases hi:i<ds.length
   .rw[List.getElem?_append_left (by simpa using hi),List.getElem?_map]at e
    cases q:ds[i]? with|none|some d'=>rw[q]at e;cases e
   .rw[List.getElem?_append_right (by simpa using hi),List.getElem?_replicate]at e
    split at e<;>cases e
  .by_cases hi:i<ds.length
   .rw[List.getElem?_append_left (by simpa using hi),List.getElem?_map]at e
    cases q:ds[i]? with|none|some d'=>rw[q]at e;cases e
   .rw[List.getElem?_append_right (by simpa using hi),List.getElem?_replicate]at e
    split at e<;>cases e
  .unfold L2.start
   have:=hv.length;simp only[List.length_append,List.length_map,List.length_replicate];omega
 .unfold gR at q
  cases e1:s (ds.map Sl.sh++List.replicate (N.length-ds.length) .no) with
  |stuck|exn x=>rw[e1]at q;exact q
  |ok r=>
   rw[e1]at q;cases r with
   |rt d=>
    cases d with|lst es=>exact λp us H' Ha' g hp h0 hv' rr=>q p us H' Ha' g hp h0 hv' rr| _=>exact q.elim
   |_=>exact q.elim
section
variable {X:Cx}{E:XK}{He H0e:Hp}{e:Expr}{es:List Expr}{f:cr}{fa:Ev->ak (ac)}{pos:Pos}
def AB{CX:ke}{k n:Nat}{fn:Addr}{fd:FuncData}{ps:List Str}{m:ac->ak D}{x:Str}{p:Pos}(F:FnOk X.prog X.w X.K X.mg X.base CX k fn fd ps (oY X.K n m))(hr:cn k X.A)(hg:Gl X x)(hm:X.mg x=some (.ref fn))
  (hk:W.keepIn X.K (.ref fn)=true)(hb:iA X.K fd ps [])(hx:eY CX X E)(ha:DA X E (e::es) fa)(hn:(e::es).length=n:=by rfl)(hl:∀ρ ds,fa ρ=.ok ds->ds.length=(e::es).length)
  (hdb:(x==("__debug__":Str))=false:=by decide)(he:starEach (e::es) X.env=(false,eval e X.env)::starEach es X.env:=by exact aC rfl)(hpl:(backTo pos (starEach es X.env)).any (·.1)=false:=by exact bg rfl) :
  DF X E (.Call (.Name x p) (e::es) [] pos) (aj fa m):=by
 refine⟨?_⟩;refine aQ (nW F hr hg hm hk hb .nil hx ha.o hdb he hpl) λσ H Q h=>?_;obtain⟨Ha,ρ,hs,hr,q⟩:=h;refine⟨Ha,ρ,hs,hr,?_⟩;unfold aj at q;cases e1:fa ρ with
 |stuck|exn x=>rw[e1]at q;exact q
 |ok ds=>
  rw[e1]at q;intro v H1 H01 g1 r1;refine⟨?_,H01,ds,g1.sub,by simpa using r1,?_⟩
  .have:=r1.length
   have:=hl ρ ds e1;simp only[List.append_nil];omega
  .replace q:match m ds with
    |.ok (.lst ds)=>∀p vs H' Ha',br H Ha H' Ha'->H p=none->Ha' p=none->H' p=some (.lst vs)->Reps X.K Ha' ds vs->Q (.ref p) H'
    |.ok _=>False
    |.exn x=>∀C ox H' Ha',br H Ha H' Ha'->qH X.K Ha' x C ox->E C ox H'
    |.stuck=>False:=q
   cases e2:m ds with
   |stuck=>rw[e2]at q;exact q|exn x=>rw[e2]at q;exact λC ox H' Ha' g ex=>q C ox H' Ha' (g1.trans g) ex
   |ok d=>
    rw[e2]at q;cases d with|lst es=>exact λp us H' Ha' g hp h0 hv rr=>q p us H' Ha' (g1.trans g) (g1.s.free hp) h0 hv rr| _=>exact q.elim
end
section
variable {X:Cx}{E:XK}{He H0e:Hp}{e a b:Expr}{es:List Expr}{f g:cr}{fa:Ev->ak (ac)}{pos:Pos}
def uU(x y:D):ak D:=match x,y with
 |.int i,.int j=>.ok (.int (if j<i then j else i))
 |_,_=>.stuck
def xW:iz X E (λxs H Q=>∃i j,xs=[.int i,.int j]/\Q (.int (if j<i then j else i)) H) (m2 uU):=Bp λx y v u H Ha Q hs r r' q=>by
 cases x with
 |int i=>
  cases y with|int j=>exact⟨i,j,by rw[aw.mp r,aw.mp r'],bJ hs q (ri _)⟩| _=>exact q.elim
 |_=>exact q.elim
end
end DL
namespace Cod
open PySem L2 DL Com
noncomputable def jK:db :=
 (ar (gr 2 (aj ax bU))
 (ar (aR 3 (aj (aa (ae 0) ax) (m1 qo)))
 (ar (aR 4 (ah (ah (ah (ae 0) (dC (.int 2147483647)) df) (dC (.int 48271)) dP) (dC (.int 2147483647)) df))
 (ar (sN (aj (aa (ae 1) ax) (m1 ic)) (eJ 5)
 (ar (dR (ah (aj (aa (ae 0) ax) (m1 qo)) (ah (dC (.int 10)) (dC (.int 18)) dS) Dr)
 (ar (bE 2 (ah (ae 3) (ah (ae 1) (ae 5) bq) df))
 (ar (aR 3 (ah (ae 3) (ah (ae 1) (ae 5) bq) kO))
 aq))
 (ar (aR 4 (ah (ah (ah (ah (ah (ae 4) (ae 4) dP) (ah (dC (.int 69621)) (ae 4) dP) bu) (ah (dC (.int 7919)) (ae 5) dP) bu) (dC (.int 1000003)) bu) (dC (.int 2147483647)) df))
 (ar (bE 2 (ah (ah (ah (ae 4) (dC (.int 39373)) dP) (dC (.int 2147483629)) df) (ah (ae 1) (ae 5) bq) df))
 aq)))
 aq))
 (ar (bS (ae 2))
 aq)))))
def cA:ac->ak D:=cy 6 jK
def AY:su<B9:=by rw[yq];exact Nat.lt_of_lt_of_le (show su<2 ^ 200 by decide) (Nat.pow_le_pow_right (by decide) (by decide))
def oH{c:Int}:qo (.int c)=.ok (.int (c.natAbs:Int)):=by
 show ak.ok (D.int (if c<0 then -c else c))=_
 congr 2
 split<;>omega
def xJ(c:Int)(sz:List Int)(hp:∀s∈sz,0<s/\s<=(su:Int))(hn:sz.length<=900):∃vs,cA [.int c,.lst (sz.map D.int)]=.ok (.lst (vs.map D.int))/\Drawn sz vs:=by
 have hmix0:=nj (a:=c.fmod 2147483647*48271) (b:=2147483647) (by decide);have hcm:=nj (a:=c) (b:=2147483647) (by decide);obtain⟨ρ',hl,vs,hv,hb,lf,mx,x5,rfl,_⟩:=tm (i:=5) (n:=sz.length)
  (ρ:=[.sh (.int c),.sh (.lst (sz.map D.int)),.ow (.lst []),.sh (.int (c.natAbs:Int)),.sh (.int ((c.fmod 2147483647*48271).fmod 2147483647)),.no])
  (body:=(ar (dR (ah (aj (aa (ae 0) ax) (m1 qo)) (ah (dC (.int 10)) (dC (.int 18)) dS) Dr)
 (ar (bE 2 (ah (ae 3) (ah (ae 1) (ae 5) bq) df))
 (ar (aR 3 (ah (ae 3) (ah (ae 1) (ae 5) bq) kO))
 aq))
 (ar (aR 4 (ah (ah (ah (ah (ah (ae 4) (ae 4) dP) (ah (dC (.int 69621)) (ae 4) dP) bu) (ah (dC (.int 7919)) (ae 5) dP) bu) (dC (.int 1000003)) bu) (dC (.int 2147483647)) df))
 (ar (bE 2 (ah (ah (ah (ae 4) (dC (.int 39373)) dP) (dC (.int 2147483629)) df) (ah (ae 1) (ae 5) bq) df))
 aq)))
 aq))
  (λk ρ=>∃vs:List Int,vs.length=k/\(∀(i:Nat) (v s:Int),vs[i]?=some v->sz[i]?=some s->0<=v/\v<s)/\∃(lf mx:Int) (x5:Sl),ρ=[.sh (.int c),.sh (.lst (sz.map D.int)),.ow (.lst (vs.map D.int)),.sh (.int lf),.sh (.int mx),x5]/\0<=mx/\mx<2147483647) (by
   rintro k hk ρ ⟨vs,rfl,hb,lf,mx,x5,rfl,m0,m1_⟩;have hs:=hp sz[vs.length] (List.getElem_mem hk);have hix:bq (.lst (sz.map D.int)) (.int (vs.length:Int))=.ok (.int sz[vs.length]):=n9 (by rw[List.getElem?_map,List.getElem?_eq_getElem hk];rfl);have hsz0:(sz[vs.length]==0)=false:=beq_eq_false_iff_ne.mpr (by omega);have hap:decide ((vs.map D.int).length<=999)=true:=decide_eq_true (by rw[List.length_map];omega);have hbn:∀v:Int,0<=v->v<sz[vs.length]->∀(i:Nat) (u s:Int),(vs++[v])[i]?=some u->sz[i]?=some s->0<=u/\u<s:=λv v0 v1 i u s e1 e2=>by
    by_cases hi:i<vs.length
    .rw[List.getElem?_append_left hi]at e1;exact hb i u s e1 e2
    .have:i=vs.length:=by
      have:=(List.getElem?_eq_some_iff.mp e1).1;simp at this;omega
     subst this;rw[List.getElem?_append_right (Nat.le_refl _),Nat.sub_self]at e1;cases e1;rw[List.getElem?_eq_getElem hk]at e2;cases e2;exact⟨v0,v1⟩
   by_cases hc:(1000000000000000000:Int)<=(c.natAbs:Int)
   .have f:=nj (a:=lf) (b:=sz[vs.length]) hs.1
    have hdiv:eE lf sz[vs.length]=true:=Bl (by omega) (Nat.lt_of_le_of_lt (show sz[vs.length].natAbs<=su by omega) AY);refine⟨[.sh (.int c),.sh (.lst (sz.map D.int)),.ow (.lst ((vs++[lf.fmod sz[vs.length]]).map D.int)),.sh (.int (lf.fdiv sz[vs.length])),.sh (.int mx),.sh (.int (vs.length:Int))],?_,vs++[lf.fmod sz[vs.length]],by simp,hbn _ f.1 f.2,_,_,_,rfl,m0,m1_⟩;open_line with[oH,rM,decide_eq_true hc,decide_eq_true (show(c.natAbs:Int)≥1000000000000000000 from hc),hix,hsz0,cO hap,l3 hdiv,List.map_append]
   .have f1:=nj (a:=mx*mx+69621*mx+7919*(vs.length:Int)+1000003) (b:=2147483647) (by decide)
    generalize hmx:(mx*mx+69621*mx+7919*(vs.length:Int)+1000003).fmod 2147483647=my at f1;have f:=nj (a:=(my*39373).fmod 2147483629) (b:=sz[vs.length]) hs.1;have o1:dJ mx mx=true:=fZ (by omega) (by omega);have o2:dJ 69621 mx=true:=fZ (by decide) (by omega);have o3:dJ 7919 (vs.length:Int)=true:=fZ (by decide) (by omega);have o4:dJ my 39373=true:=fZ (by omega) (by decide);refine⟨[.sh (.int c),.sh (.lst (sz.map D.int)),.ow (.lst ((vs++[((my*39373).fmod 2147483629).fmod sz[vs.length]]).map D.int)),.sh (.int lf),.sh (.int my),.sh (.int (vs.length:Int))],?_,vs++[((my*39373).fmod 2147483629).fmod sz[vs.length]],by simp,hbn _ f.1 f.2,_,_,_,rfl,f1.1,f1.2⟩;open_line with[oH,rM,decide_eq_false hc,decide_eq_false (show ¬(c.natAbs:Int)≥1000000000000000000 from hc),gD o1,gD o2,gD o3,hmx,gD o4,hix,hsz0,cO hap,List.map_append]) ⟨[],rfl,λi v s e=>(by simp at e),_,_,_,rfl,hmix0.1,hmix0.2⟩
 refine⟨vs,?_,hv,hb⟩;have o0:dJ (c.fmod 2147483647) 48271=true:=fZ (by omega) (by decide);open_line with[cA,jK,oH,gD o0,List.length_map,lp,p6 (show sz.length<=1000000 by omega),hl]
noncomputable def mz:db :=
 (ar (aR 2 (aj (aa (ae 0) ax) (m1 qo)))
 (ar (aR 3 (ae 1))
 (ar (lG (k9 3) (ah (ae 3) (dC (.int 0)) l8)
 (ar (vQ 2 3 (aa (ae 3) (aa (ah (ae 2) (ae 3) df) ax)))
 aq))
 (ar (bS (aj (aa (ah (ae 0) (ae 2) kO) (aa (ah (ae 1) (ae 2) kO) ax)) cb))
 aq))))
def bB:ac->ak D:=cy 4 mz
theorem pK{A B:Sl}:∀(n:Nat) (a b:Int),0<=a->0<=b->b.natAbs<n->cu (ah (ae 3) (dC (.int 0)) l8) (ar (vQ 2 3 (aa (ae 3) (aa (ah (ae 2) (ae 3) df) ax))) aq) n [A,B,.sh (.int a),.sh (.int b)]=.ok (.nx [A,B,.sh (.int (Int.gcd a b:Int)),.sh (.int 0)])
 |0,a,b,_,_,h=>absurd h (Nat.not_lt_zero _)
 |n+1,a,b,ha,hb,h=>by
  by_cases h0:b=0
  .subst h0
   have hc:(ah (ae 3) (dC (.int 0)) l8) (fB [A,B,.sh (.int a),.sh (.int 0)])=.ok (.bl false):=by
    cases A<;>cases B<;>rfl
   rw[ug hc];have:((Int.gcd a 0:Nat):Int)=a:=by rw[Int.gcd_zero_right];omega
   rw[this]
  .have hc:(ah (ae 3) (dC (.int 0)) l8) (fB [A,B,.sh (.int a),.sh (.int b)])=.ok (.bl true):=by
    have:(b==0)=false:=beq_eq_false_iff_ne.mpr h0;cases A<;>cases B<;>open_line with[this]
   have f:=nj (a:=a) (b:=b) (by omega);have hb0:(b==0)=false:=beq_eq_false_iff_ne.mpr h0;rw[vv (ρ2:=[A,B,.sh (.int b),.sh (.int (a.fmod b))]) hc ?_,pK n b (a.fmod b) (by omega) f.1 (by omega)]
   .rw[pY]
   .cases A<;>cases B<;>open_line with[hb0]
def rm{a b:Int}(hb:0<b)(h1:a.natAbs<kE)(h2:b.natAbs<kE):bB [.int a,.int b]=.ok (fr (cj a b)):=by
 have hg:0<(Int.gcd a b:Int):=k8 (by omega);have hgn:(Int.gcd (a.natAbs:Int) b:Int)=(Int.gcd a b:Int):=by
  congr 1
 have hl:=pK (A:=.sh (.int a)) (B:=.sh (.int b)) (b.natAbs+1) (a.natAbs:Int) b (by omega) (by omega) (Nat.lt_succ_self _);rw[hgn]at hl;have hwh:∀(c:cr) (s:db),lG (k9 3) c s [.sh (.int a),.sh (.int b),.sh (.int (a.natAbs:Int)),.sh (.int b)]=cu c s (b.natAbs+1) [.sh (.int a),.sh (.int b),.sh (.int (a.natAbs:Int)),.sh (.int b)]:=λ_ _=>rfl;have d1:(Int.gcd a b:Int)∣a:=Int.gcd_dvd_left ..;have d2:(Int.gcd a b:Int)∣b:=Int.gcd_dvd_right ..;have q1:eE a (Int.gcd a b:Int)=true:=l5 (by omega) h1;have q2:eE b (Int.gcd a b:Int)=true:=l5 (by omega) h2;have e1:a.fdiv (Int.gcd a b:Int)=a / (Int.gcd a b:Int):=gf hg;have e2:b.fdiv (Int.gcd a b:Int)=b / (Int.gcd a b:Int):=gf hg;open_line with[bB,mz,oH,hwh,hl,l3 q1,l3 q2,e1,e2]
 rfl
def first(es:List Int)(m:Nat):dl:=(List.range m).map λj=>97+((es[2+j]?).getD 0).toNat
end Cod
namespace DL
open PySem PySem.Spec PyProof.Rows L2
def PT.nox{X:Cx}{e:Expr}{t:TT}(h:PT X.nox e t):PT X e t:=λpins s σ H Q I hw=>
 wpAny_mono (h pins s σ H Q (I.wish _) hw) (λ_ _ ⟨H',I',q⟩=>⟨H',I'.unwish,q⟩) λ_ _ z=>False.elim z
section
variable {X:Cx}{c e:Expr}{es:List Expr}{fc:cr}{fa:Ev->ak (ac)}{ga gb:db}{sa sb:Stmt}{pos:Pos}
def i5(fc:cr)(ga gb:db):db:=λρ=>match fc (fB ρ) with
 |.ok (.bl b)=>if b=true then ga ρ else gb ρ
 |_=>.stuck
def DJ(hc:DT X.nox E0 c fc)(ha:TB X sa ga)(hb:TB X sb gb):TB X (.If c [sa] [sb] pos) (i5 fc ga gb):=by
 refine⟨λpins s σ H He H0e Ha ρ D XE I h q hx=>?_⟩;have hc':=PT.nox (X:=X.wish XE) hc.o;cases e1:fc (fB ρ) with
 |stuck=>
  have e2:i5 fc ga gb ρ=.stuck:=by unfold i5;rw[e1]
  rw[e2]at q;exact q.elim
 |exn x=>
  have e2:i5 fc ga gb ρ=.stuck:=by unfold i5;rw[e1]
  rw[e2]at q;exact q.elim
 |ok d=>
  cases d with
  |bl b=>
   have e2:i5 fc ga gb ρ=if b=true then ga ρ else gb ρ:=by unfold i5;rw[e1]
   rw[e2]at q hx;refine wpAny_If (cG (hc' pins s σ H (λb' H1=>b'=b/\az H H1) (I.wish XE) ⟨frz He Ha H,fB ρ,h.frz_le,h.looks,?_⟩) λd s1 ⟨H1,I1,eb,hs⟩=>?_)
   .rw[e1];exact λH' J g=>⟨rfl,g.s⟩
   .subst eb
    cases d with
    |true=>
     rw[if_pos rfl]at q hx;refine wpAny_execs_cons (cG (ha.o pins s1 σ H1 He H0e Ha ρ D XE I1.unwish (h.same hs) q hx) λf s2 hf=>?_);cases f with|next=>exact wpAny_execs_nil hf|brk|cont|ret u=>exact hf
    |false=>
     rw[if_neg Bool.false_ne_true]at q hx;refine wpAny_execs_cons (cG (hb.o pins s1 σ H1 He H0e Ha ρ D XE I1.unwish (h.same hs) q hx) λf s2 hf=>?_);cases f with|next=>exact wpAny_execs_nil hf|brk|cont|ret u=>exact hf
  |_=>
   have e2:i5 fc ga gb ρ=.stuck:=by unfold i5;rw[e1]
   rw[e2]at q;exact q.elim
end
theorem p8{α β:Type}{f g:α->Option β}:∀{l:List α},(∀x∈l,f x=g x)->l.filterMap f=l.filterMap g
 |[],_=>rfl
 |a::l,h=>by
  rw[List.filterMap_cons,List.filterMap_cons,h a List.mem_cons_self,p8 λx hx=>h x (List.mem_cons_of_mem _ hx)]
theorem Reps.rev{K:W.Frag}{H:Hp}:∀{ds:ac}{vs:bv},Reps K H ds vs->Reps K H ds.reverse vs.reverse
 |[],vs,h=>by rw[Reps.nil_iff.mp h];exact Reps.nil
 |d::ds,vs,h=>by
  obtain⟨v,r,rfl,h1,h2⟩:=aA.mp h;rw[List.reverse_cons,List.reverse_cons];exact(Reps.rev h2).app (Reps.cons h1 Reps.nil)
theorem aY.rev:∀{vs:bv}{us:List Value},aY vs us->aY vs.reverse us.reverse
 |_,_,.nil=>.nil
 |_,_,.cons h t=>by rw[List.reverse_cons,List.reverse_cons];exact(aY.rev t).append (.cons h .nil)
def GG{α:Type}{us:List α}(h:us.length=1):∃a,us=[a]:=List.length_eq_one_iff.mp h
def GF{α:Type}{us:List α}(h:us.length=2):∃a b,us=[a,b]:=by
 cases us with|nil=>cases h|cons a us=>obtain⟨b,rfl⟩:=GG (Nat.succ.inj h);exact⟨a,b,rfl⟩
def GD{α:Type}{us:List α}(h:us.length=3):∃a b c,us=[a,b,c]:=by
 cases us with|nil=>cases h|cons a us=>obtain⟨b,c,rfl⟩:=GF (Nat.succ.inj h);exact⟨a,b,c,rfl⟩
def GW{α:Type}{us:List α}(h:us.length=4):∃a b c d,us=[a,b,c,d]:=by
 cases us with|nil=>cases h|cons a us=>obtain⟨b,c,d,rfl⟩:=GD (Nat.succ.inj h);exact⟨a,b,c,d,rfl⟩
structure FT (K:W.Frag) (mg:Str->Option Value) (x:Str) (st:Stmt) (ps:List Str) (a:Addr) (d:FuncData):Prop where
 F:ym K x x st a d
 b:iA K d ps []
 g:mg x=some (.ref a)
noncomputable def QA(K:W.Frag) (x:Str) (st:Stmt) (a:Addr):Prop:=W.nsIn K mainGlobals x=some (some (.ref a))/\W.keepIn K (.ref a)=true/\∃oc kV dc pm cd ct od an sl,K.lookup a=some ⟨oc,od,.func (W.fnOf x x (defArgs st) (defBody st) (defScope st) .none kV dc pm an cd ct),sl⟩/\W.codeIn K cd x=true
def EO{K:W.Frag}{h:Heap}{mg:Str->Option Value}{x:Str}{st:Stmt}{ps:List Str}{a:Addr}(X:K.In h)(G:h.Ns mainGlobals mg)(q:QA K x st a)
  (hb:∀(kV doc pm:Value) (an:Option Addr) (cdv ct:Value) (us:List Value),us.length=ps.length->bindArgs (W.fnOf x x (defArgs st) (defBody st) (defScope st) .none kV doc pm an cdv ct) ⟨us,[]⟩=pure (ps.zip us)) :
  ∃d,FT K mg x st ps a d/\∃kV doc pm an cdv ct,d=W.fnOf x x (defArgs st) (defBody st) (defScope st) .none kV doc pm an cdv ct:=by
 obtain⟨e1,e4,oc,kV,dc,pm,cd,ct,od,an,sl,e2,e3⟩:=q;exact⟨_,⟨xl e2 e3 e4,(xl (st:=st) e2 e3 e4).binds hb,W.mg_of X G e1⟩,_,_,_,_,_,_,rfl⟩
section
variable {X:Cx}{E:XK}{e:Expr}{es:List Expr}{fa:Ev->ak (ac)}{f g h i j:cr}{pos:Pos}{CX:ke}{k n:Nat}{fn:Addr}{fd:FuncData}{ps:List Str}{m:ac->ak D}{x:Str}{p:Pos}{st:Stmt}
def Dt(ρ:Ev)(ds:ac)(h:aa f ax ρ=.ok ds):ds.length=1:=iO (λ_ h=>yg h) h
def Dg(ρ:Ev)(ds:ac)(q:aa f (aa g ax) ρ=.ok ds):ds.length=2:=iO (Dt ρ) q
def Ds(ρ:Ev)(ds:ac)(q:aa f (aa g (aa h ax)) ρ=.ok ds):ds.length=3:=iO (Dg ρ) q
def Gk(ρ:Ev)(ds:ac)(q:aa f (aa g (aa h (aa i ax))) ρ=.ok ds):ds.length=4:=iO (Ds ρ) q
end
section
variable {X:Cx}{E:XK}{He H0e:Hp}{a:Addr}{e:Expr}{es:List Expr}{pos:Pos}{f g:cr}{fm gm hm im jm:Ev->ac->ak (D×ac)}{fa:Ev->ac->ak (ac×ac)}{s:Ev->ac->ak MFl}{st:Stmt}
def iV(f:cr):db:=λρ=>(f ρ).bind λd=>.ok (.rt d)
def j9(h:DF X E e f):kR X E He H0e [.Return (some e) pos] (iV f):=by
 refine⟨fX (jt (qV h.o) nS) λD' σ H z9=>?_⟩;obtain⟨Ha,ρ,h,q⟩:=z9;refine⟨Ha,ρ,h.g.sub,h.rd,?_⟩;unfold iV at q;cases e1:f ρ with
 |stuck=>rw[e1]at q;exact q|exn x=>rw[e1]at q;exact λC ox H' Ha' g r=>q C ox H' Ha' (h.g.trans g) r
 |ok d=>
  rw[e1]at q;cases d with|lst ds=>exact λp vs H' Ha' g hp h0 hv rp=>q p vs H' Ha' (h.g.trans g) (h.g.s.free hp) h0 hv rp| _=>exact q.elim
variable {CX:ke}{k n:Nat}{fn:Addr}{fd:FuncData}{ps:List Str}{x:Str}{p:Pos}{ft:Stmt}
end
def dX(fa:Ev->ak (ac))(m:ac->ak D):db:=λρ=>match fa ρ with
 |.ok ds=>(m ds).bind λ_=>.ok (.nx ρ)
 |_=>.stuck
section
variable {X:Cx}{e:Expr}{es:List Expr}{fa:Ev->ak (ac)}{pos:Pos}{k n:Nat}{fn:Addr}{fd:FuncData}{ps:List Str}{m:ac->ak D}{x:Str}{p:Pos}{st:Stmt}
def yD{cpos:Pos}(F:FnOk X.prog X.w X.K X.mg X.base (gQ X.prog X.w) k fn fd ps (spD X.K n m))(hr:cn k X.A)(hg:Gl X x)(hm:X.mg x=some (.ref fn))
  (hk:W.keepIn X.K (.ref fn)=true)(hb:iA X.K fd ps [])(ha:DA X.nox E0 (e::es) fa)(hn:(e::es).length=n:=by rfl)(hl:∀ρ ds,fa ρ=.ok ds->ds.length=(e::es).length)
  (hdb:(x==("__debug__":Str))=false:=by decide)(he:starEach (e::es) X.env=(false,eval e X.env)::starEach es X.env:=by exact aC rfl)(hpl:(backTo cpos (starEach es X.env)).any (·.1)=false:=by exact bg rfl)
  (hs:swapsWith (.Call (.Name x p) (e::es) [] cpos) none pos.line X.env=pure false:=by rfl):TB X (.Expr (.Call (.Name x p) (e::es) [] cpos) pos) (dX fa m):=by
 refine⟨λpins s σ H He H0e Ha ρ D XE I h q hx=>?_⟩;refine wpAny_Expr_any (cG (AN (Q:=λv H1=>D.nx σ H1) F hr hg hm hk hb ha.o I ?_ hx hdb he hpl) λv s1 ⟨y,H1,I1,r1,q1⟩=>⟨σ,H1,I1,q1⟩) I.quiet hs;refine⟨Ha,ρ,h.g.sub,h.rd,?_⟩;unfold dX at q ⊢;cases e1:fa ρ with
 |stuck=>rw[e1]at q;exact q|exn x=>rw[e1]at q;exact q.elim
 |ok ds=>
  rw[e1]at q;intro vs H1 H01 g1 r1;refine⟨?_,H01,ds,g1.sub,r1,?_⟩
  .have:=r1.length
   have:=hl ρ ds e1;omega
  .show post _ _ _ _ (m ds) _
   cases e2:m ds with
   |stuck=>simp only[e2]at q;exact q
   |exn x=>exact λC ox H' Ha' g ex=>⟨x,Ha',by simp only[e2];rfl,g1.z.trans g.z,h.grow (g1.trans g),ex⟩
   |ok d=>
    simp only[e2]at q;exact λv H' Ha' g rp=>q _ H' Ha' (g1.z.trans g.z) (h.grow (g1.trans g))
end
def p7{P:Program}{w:World}{K:W.Frag}{mg:Str->Option Value}{base:Heap}{x qual:Str}{st:Stmt}{f:Addr}{fd:FuncData}{N ps:List Str}{k:Nat}{s:db}(F:ym K x qual st f fd)(S:eA N ps (defScope st))
  (hbody:∀(cdv:Value) (A:Around) (outer:List PySem.Env) (s0:Shared) (H Ha:Hp) (E:XK),cn k (A.deeper (envOfC qual (defScope st) s0.heap.objs.size f cdv)) ->
   kR (dU (gQ P w) P w K mg base N qual (defScope st) f cdv A outer s0 H E) E H Ha (defBody st) s):FnOk P w K mg base (gQ P w) (k+1) f fd ps (oY K ps.length (gR N.length s)):=by
 have hpl:ps.length<=N.length:=by have:=congrArg List.length S.pre;rw[List.length_take]at this;omega
 obtain⟨oc,od,kV,doc,pm,an,cdv,ct,osl,rfl,lk,hcd⟩:=F.ex;refine tu lk hcd S (λvs H Q E h=>h.1) λA outer s0 H vs Q E hr h=>?_;obtain⟨hn,Ha,ds,hs,hv,q⟩:=h;refine⟨_,(hbody cdv A outer s0 H Ha E hr).o,Ha,ds.map Sl.sh++List.replicate (N.length-ds.length) .no,?_,?_⟩
 .refine⟨br.refl hs,fi hv,λi d e=>?_,λi j d d' hij e=>?_,?_,OX.none iD gp⟩
  .by_cases hi:i<ds.length
   .rw[List.getElem?_append_left (by simpa using hi),List.getElem?_map]at e
    cases q:ds[i]? with|none|some d'=>rw[q]at e;cases e
   .rw[List.getElem?_append_right (by simpa using hi),List.getElem?_replicate]at e
    split at e<;>cases e
  .by_cases hi:i<ds.length
   .rw[List.getElem?_append_left (by simpa using hi),List.getElem?_map]at e
    cases q:ds[i]? with|none|some d'=>rw[q]at e;cases e
   .rw[List.getElem?_append_right (by simpa using hi),List.getElem?_replicate]at e
    split at e<;>cases e
  .unfold L2.start
   have:=hv.length;simp only[List.length_append,List.length_map,List.length_replicate];omega
 .unfold gR at q
  cases e1:s (ds.map Sl.sh++List.replicate (N.length-ds.length) .no) with
  |stuck|exn x=>rw[e1]at q;exact q
  |ok r=>
   rw[e1]at q;cases r with
   |rt d=>
    cases d with|lst es=>exact λp us H' Ha' g hp h0 hv' rr=>q p us H' Ha' g hp h0 hv' rr| _=>exact q.elim
   |_=>exact q.elim
def sL{K:W.Frag}{n:Nat}{m:ac->ak D}{vs:bv}{H:Hp}{Q:VK}{E E':XK}(h:oY K n (noX m) vs H Q E):oY K n m vs H Q E':=by
 obtain⟨hn,Ha,ds,hs,hv,q⟩:=h;refine⟨hn,Ha,ds,hs,hv,?_⟩;unfold noX at q;cases e:m ds with
 |stuck=>rw[e]at q;exact q|exn x=>rw[e]at q;exact q.elim
 |ok d=>rw[e]at q;cases d<;>first|exact q|exact q.elim
theorem FnOk.noXF{P:Program}{w:World}{K:W.Frag}{mg:Str->Option Value}{base:Heap}{k n:Nat}{f:Addr}{fd:FuncData}{ps:List Str}{m:ac->ak D}(F:FnOk P w K mg base (gQ P w) k f fd ps (oY K n m)) :
  FnOk P w K mg base CX0 k f fd ps (oY K n (DL.noX m)) :=
 ⟨λvs H Q E h=>F.len vs H Q E0 (sL h),λA outer s H args us vs Q E hr he hb hv h=>codeAny_mono (F.run A outer s H args us vs Q E0 hr he hb hv (sL h)) λr s' q=>by
  cases r with
  |ok fl=>cases fl<;>exact q
  |error e=>obtain⟨_,_,_,_,_,_,_,_,_,_,_,_,_,_,_,hE⟩:=q;exact hE.elim⟩
section
variable {X:Cx}{E:XK}{a b:Expr}{f g:cr}{pos:Pos}
abbrev El:R2:=λx y H Q=>∃p v,x=.ref p/\sC H p y (some v)/\Q v H
abbrev sQ:R2:=λy x H Q=>∃p o,x=.ref p/\sC H p y o/\Q (.bl (!o.isSome)) H
def uy(hu:X.A.units+1<cLine):iw X (compareOp .NotIn) sQ:=by
 intro pins s σ H x y v u Q I rx ry h;obtain⟨p,o,rfl,g,q⟩:=h;cases ry;exact AJ hu I g rx λs' I'=>⟨.bl (!o.isSome),H,I',rfl,q⟩
end
section
variable {K:W.Frag}{E:XK}{He H0e Ha H H1:Hp}{σ:L2.St}{ρ:Ev}
def de.putOwnG(h:de K He H0e Ha σ H ρ){i:Nat}{dn:D}{p:Addr}(hp:∀(j:Nat) (a:Addr),σ[j]?=some (some (V.ref a))->a=p->∀d:D,ρ[j]?≠some (Sl.ow d))(he:He p=none)(h0:Ha p=none)(ho:AW K Ha H p dn)(hx:∀(i j:Nat) (ds:ac) (a:Addr) (P:Nat->Addr),ρ[i]?=some (.ox j ds)->σ[i]?=some (some (.ref a))->Fj K He Ha H a j ds P->∀l,mE j l=true->p≠P l) :
  de K He H0e Ha (σ.set i (some (.ref p))) H (ρ.set i (.ow dn)):=by
 have key:∀(j:Nat) (s:Sl),(ρ.set i (.ow dn))[j]?=some s->(j=i/\s=.ow dn/\i<σ.length)∨(j≠i/\ρ[j]?=some s):=λj s e=>by
  by_cases hj:i=j
  .subst hj
   rw[List.getElem?_set_self']at e;cases q:ρ[i]? with
   |none=>rw[q]at e;cases e
   |some s'=>
    rw[q]at e;cases e;refine .inl ⟨rfl,rfl,?_⟩;rw[←h.ln];exact(List.getElem?_eq_some_iff.mp q).1
  .rw[List.getElem?_set_ne hj]at e
   exact .inr ⟨λz=>hj z.symm,e⟩
 have other:∀(k:Nat) (d2:D),k≠i->ρ[k]?=some (.ow d2)->some (some (V.ref p))≠σ[k]?:=λk d2 hk e2 z=>by
  obtain⟨a,h1,_⟩:=h.ow k d2 e2;rw[h1]at z;cases z;exact hp k p h1 rfl d2 e2
 refine⟨h.g,λj d' e=>?_,λj d' e=>?_,λj k d1 d2 hn e1 e2=>?_,by simp[h.ln],h.ex.upd (λj s e=>?_) (az.refl _) (λa vs _ e=>e) λp us _ h0 hp _=>⟨hp,h0⟩⟩
 rotate_left 3
 .rcases key j _ e with⟨rfl,e',hl⟩|⟨hj,e'⟩
  .exact .inr (.inr (.inr ⟨dn,p,e',by rw[List.getElem?_set_self hl],hx⟩))
  .exact .inl ⟨e',by rw[List.getElem?_set_ne (Ne.symm hj)]⟩
 .rcases key j _ e with⟨rfl,e',hl⟩|⟨hj,e'⟩
  .cases e'
  .obtain⟨v',h1,h2⟩:=h.rd j d' e'
   exact⟨v',by rw[List.getElem?_set_ne (Ne.symm hj)];exact h1,h2⟩
 .rcases key j _ e with⟨rfl,e',hl⟩|⟨hj,e'⟩
  .cases e'
   exact⟨p,by rw[List.getElem?_set_self hl],he,h0,ho⟩
  .obtain⟨a,h1,h2⟩:=h.ow j d' e'
   exact⟨a,by rw[List.getElem?_set_ne (Ne.symm hj)];exact h1,h2⟩
 .rcases key j _ e1 with⟨rfl,_,hl⟩|⟨hj,e1'⟩
  .rcases key k _ e2 with⟨rfl,_,_⟩|⟨hk,e2'⟩
   .exact absurd rfl hn
   .rw[List.getElem?_set_self hl,List.getElem?_set_ne (Ne.symm hk)]
    exact other k d2 hk e2'
  .rcases key k _ e2 with⟨rfl,_,hl⟩|⟨hk,e2'⟩
   .rw[List.getElem?_set_self hl,List.getElem?_set_ne (Ne.symm hj)]
    exact λz=>other j d1 hj e1' z.symm
   .rw[List.getElem?_set_ne (Ne.symm hj),List.getElem?_set_ne (Ne.symm hk)]
    exact h.ap j k d1 d2 hn e1' e2'
def de.writeG(h:de K He H0e Ha σ H ρ){i:Nat}{d:D}{p:Addr}{dn:D}{o:HO}(e:ρ[i]?=some (.ow d))(es:σ[i]?=some (some (.ref p)))(ho:AW K Ha (upd H p o) p dn) :
  de K He H0e Ha σ (upd H p o) (ρ.set i (.ow dn)):=by
 obtain⟨a,h1,h2,h3,h4⟩:=h.ow i d e;rw[h1]at es;cases es;have hil:i<ρ.length:=(List.getElem?_eq_some_iff.mp e).1;have key:∀(j:Nat) (s:Sl),(ρ.set i (.ow dn))[j]?=some s->(j=i/\s=.ow dn)∨(j≠i/\ρ[j]?=some s):=λj s e=>by
  by_cases hj:i=j
  .subst hj
   rw[List.getElem?_set_self hil]at e;cases e;exact .inl ⟨rfl,rfl⟩
  .rw[List.getElem?_set_ne hj]at e
   exact .inr ⟨λz=>hj z.symm,e⟩
 refine⟨⟨λb o' eb=>?_,h.g.z,λb o' eb=>?_,h.g.nw⟩,λj d' e'=>?_,λj d' e'=>?_,λj k d1 d2 hn e1 e2=>?_,by simp[h.ln],h.ex.upd (λj s e'=>?_) (az.refl _) (λb us _ eb=>?_) λq us _ q0 hq hd=>?_⟩
 rotate_left 5
 .rcases key j _ e' with⟨rfl,e''⟩|⟨hj,e''⟩
  .exact .inr (.inr (.inr ⟨dn,p,e'',h1,λi' j' ds' a' P' x1 x2 x3 l ol=>by
    obtain⟨a2,P2,y1,y2,y3,_⟩:=h.ex.1 i' j' ds' x1;rw[x2]at y1;cases y1;have:P2 l=P' l:=by
     obtain⟨vs1,_,z1,_,y5,_⟩:=x3;obtain⟨vs2,_,z3,_,y4,_⟩:=y2;rw[z1]at z3;cases z3;obtain⟨_,_,_,_,_,z2,_⟩:=y5 l ol;obtain⟨_,_,_,_,_,z4,_⟩:=y4 l ol;rw[z2]at z4;injection z4 with z4;injection z4 with z4;exact z4.symm
    rw[←this];intro zz;rw[zz]at h1;exact y3 j d l ol e h1⟩))
  .exact .inl ⟨e'',rfl⟩
 .rw[aD (by
   intro z;subst z;cases d with
   |lst ds'|dic ks ds'=>obtain⟨vs',h5,_⟩:=h4;rw[h5]at eb;cases eb
   |ob kk ds'=>
    cases kk with|dint ks=>obtain⟨vs',h5,_⟩:=h4;rw[h5]at eb;cases eb| _=>exact h4.elim
   |_=>exact h4)];exact eb
 .have hq':q≠p:=by
   intro z;subst z;exact hd i d e h1
  exact⟨by rw[aD hq'];exact hq,q0⟩
 .rw[aD (by intro z;subst z;rw[h2]at eb;cases eb)];exact h.g.s _ _ eb
 .rw[aD (by intro z;subst z;rw[h3]at eb;cases eb)];exact h.g.sub _ _ eb
 .rcases key j _ e' with⟨rfl,e''⟩|⟨hj,e''⟩
  .cases e''
  .exact h.rd j d' e''
 .rcases key j _ e' with⟨rfl,e''⟩|⟨hj,e''⟩
  .cases e''
   exact⟨p,h1,h2,h3,ho⟩
  .obtain⟨b,k1,k2,k3,k4⟩:=h.ow j d' e''
   refine⟨b,k1,k2,k3,?_⟩;have hb:b≠p:=by
    intro z;subst z;exact h.ap j i d' d hj e'' e (by rw[k1,h1])
   cases d' with
   |lst ds'=>
    obtain⟨vs',h5,h6⟩:=k4;exact⟨vs',by rw[aD hb];exact h5,h6⟩
   |dic ks ds'=>
    obtain⟨vs',h5,hl,h6⟩:=k4;exact⟨vs',by rw[aD hb];exact h5,hl,h6⟩
   |ob kk ds'=>
    cases kk with
    |dint ks=>
     obtain⟨vs',h5,hl,h6⟩:=k4;exact⟨vs',by rw[aD hb];exact h5,hl,h6⟩
    |_=>exact k4.elim
   |_=>exact k4.elim
 .rcases key j _ e1 with⟨rfl,e1'⟩|⟨hj,e1'⟩
  .rcases key k _ e2 with⟨rfl,_⟩|⟨hk,e2'⟩
   .exact absurd rfl hn
   .exact h.ap j k d d2 hn e e2'
  .rcases key k _ e2 with⟨rfl,_⟩|⟨hk,e2'⟩
   .exact h.ap j k d1 d hn e1' e
   .exact h.ap j k d1 d2 hn e1' e2'
end
theorem Reps.snoc{K:W.Frag}{H:Hp}{d:D}{v:V}(r:bC K H d v):∀{ds:ac}{vs:bv},Reps K H ds vs->Reps K H (ds++[d]) (vs++[v])
 |[],vs,h=>by rw[Reps.nil_iff.mp h];exact Reps.cons r Reps.nil
 |e::ds,vs,h=>by
  obtain⟨v2,vr,rfl,h1,h2⟩:=aA.mp h;exact Reps.cons h1 (Reps.snoc r h2)
section
variable {X:Cx}{E:XK}{He H0e:Hp}{e b o:Expr}{pos apos cpos:Pos}{f k g:cr}
def DD{n:Nat}(h:n+64<cLine):n+1<cLine:=Nat.lt_of_le_of_lt (by omega) h
end
section
variable {X:Cx}{E:XK}{a b:Expr}{f g:cr}{pos:Pos}
def Fd(x y:D):ak D:=match x,y with
 |.tup [],.tup es=>.ok (.tup es)
 |.tup ds,.tup es=>if ds.isEmpty=false/\ds.length+es.length<=line then .ok (.tup (ds++es)) else .stuck
 |_,_=>.stuck
end
structure Rw where
 x:Str
 st:Stmt
 N:List Str
 n:Nat
abbrev Rw.ps(r:Rw):List Str:=r.N.take r.n
instance {N P:List Str}{sc:Scope}:Decidable (eA N P sc) :=
 decidable_of_iff (sc.kind=.function/\sc.isCoroutine=false/\sc.isGenerator=false/\N.Nodup/\N.take P.length=P/\(∀x∈P,sc.names.lookup x=some .local ∨ sc.names.lookup x=some .cell)/\∀y∈sc.names,y.2≠.free)
  ⟨λ⟨a,b,c,d,e,f,g⟩=>⟨a,b,c,d,e,f,g⟩,λ⟨a,b,c,d,e,f,g⟩=>⟨a,b,c,d,e,f,g⟩⟩
def FA(rows:List Rw):Prop:=∀r∈rows,eA r.N r.ps (defScope r.st)
instance {rows:List Rw}:Decidable (FA rows):=inferInstanceAs (Decidable (∀r∈rows,_))
def TG(rows:List Rw)(K:W.Frag)(mg:Str->Option Value)(A:Nat->Addr)(Q:Nat->FuncData):Prop:=∀i r,rows[i]?=some r->FT K mg r.x r.st r.ps (A i) (Q i)
def Dy(r:Rw):Prop:=∀(kV doc pm:Value) (an:Option Addr) (cdv ct:Value) (us:List Value),us.length=r.ps.length->bindArgs (W.fnOf r.x r.x (defArgs r.st) (defBody r.st) (defScope r.st) .none kV doc pm an cdv ct) ⟨us,[]⟩=pure (r.ps.zip us)
def QAs(K:W.Frag):List Rw->List Addr->Prop
 |[],_=>True
 |r::rs,a::as=>QA K r.x r.st a/\QAs K rs as
 |_::_,[]=>False
def QAs.cons{K:W.Frag}{x:Str}{st:Stmt}{N:List Str}{n:Nat}{rs:List Rw}{a:Addr}{as:List Addr}(q:QA K x st a)(t:QAs K rs as):QAs K (⟨x,st,N,n⟩::rs) (a::as):=⟨q,t⟩
theorem A4{K:W.Frag}{h:Heap}{mg:Str->Option Value}(X:K.In h)(G:h.Ns mainGlobals mg):∀{rows:List Rw}{as:List Addr},(∀r∈rows,Dy r)->QAs K rows as ->
  ∃Q:Nat->FuncData,∀i r,rows[i]?=some r->FT K mg r.x r.st r.ps (as.getD i 0) (Q i)/\∃kV doc pm an cdv ct,Q i=W.fnOf r.x r.x (defArgs r.st) (defBody r.st) (defScope r.st) .none kV doc pm an cdv ct
 |[],as,_,_=>⟨λ_=>default,λi r e=>by simp at e⟩
 |r::rs,[],_,q=>q.elim
 |r::rs,a::as,hb,q=>by
  obtain⟨Q,h⟩:=A4 X G (λr hr=>hb r (List.mem_cons_of_mem _ hr)) q.2;obtain⟨d,h1,h2⟩:=EO X G q.1 (hb r List.mem_cons_self);refine⟨λi=>match i with|0=>d|i+1=>Q i,λi r' e=>?_⟩;cases i with|zero=>rw[List.getElem?_cons_zero]at e;cases e;exact⟨h1,h2⟩|succ i=>rw[List.getElem?_cons_succ]at e;exact h i r' e
structure eM (P:Program) (w:World) (K:W.Frag) (mg:Str->Option Value) (base:Heap) (CX:ke) (k:Nat) (fn:Addr) (fd:FuncData) (ps:List Str) (sp:Sp) (x:Str) (st:Stmt):Prop where
 F:FnOk P w K mg base CX k fn fd ps sp
 t:FT K mg x st ps fn fd
section
variable {P:Program}{w:World}{K:W.Frag}{mg:Str->Option Value}{base:Heap}{rows:List Rw}{A:Nat->Addr}{Q:Nat->FuncData}{i k n:Nat}{r:Rw}{s:db}{sM:Addr->Ev->ac->ak MFl}
variable (T:TG rows K mg A Q) (S:FA rows) (h:rows[i]?=some r)
include T S h
theorem oD(b:∀(cdv:Value) (A':Around) (outer:List PySem.Env) (s0:Shared) (H Ha:Hp) (E:XK),cn k (A'.deeper (envOfC r.x (defScope r.st) s0.heap.objs.size (A i) cdv)) ->
   vh (dU CX0 P w K mg base r.N r.x (defScope r.st) (A i) cdv A' outer s0 H E).nox E H Ha (defBody r.st) s):eM P w K mg base CX0 (k+1) (A i) (Q i) r.ps (spD K r.ps.length (cy r.N.length s)) r.x r.st :=
 ⟨uL (T i r h).F (S r (List.mem_of_getElem? h)) b,T i r h⟩
theorem oE(b:∀(cdv:Value) (A':Around) (outer:List PySem.Env) (s0:Shared) (H Ha:Hp) (E:XK),cn k (A'.deeper (envOfC r.x (defScope r.st) s0.heap.objs.size (A i) cdv)) ->
   vh (dU (gQ P w) P w K mg base r.N r.x (defScope r.st) (A i) cdv A' outer s0 H E) E H Ha (defBody r.st) s):eM P w K mg base (gQ P w) (k+1) (A i) (Q i) r.ps (spD K r.ps.length (cy r.N.length s)) r.x r.st :=
 ⟨rK (T i r h).F (S r (List.mem_of_getElem? h)) b,T i r h⟩
theorem oF(b:∀(cdv:Value) (A':Around) (outer:List PySem.Env) (s0:Shared) (H Ha:Hp) (E:XK),cn k (A'.deeper (envOfC r.x (defScope r.st) s0.heap.objs.size (A i) cdv)) ->
   kR (dU CX0 P w K mg base r.N r.x (defScope r.st) (A i) cdv A' outer s0 H E).nox E H Ha (defBody r.st) s):eM P w K mg base CX0 (k+1) (A i) (Q i) r.ps (oY K r.ps.length (gR r.N.length s)) r.x r.st :=
 ⟨rJ (T i r h).F (S r (List.mem_of_getElem? h)) b,T i r h⟩
theorem GC(b:∀(cdv:Value) (A':Around) (outer:List PySem.Env) (s0:Shared) (H Ha:Hp) (E:XK),cn k (A'.deeper (envOfC r.x (defScope r.st) s0.heap.objs.size (A i) cdv)) ->
   kR (dU (gQ P w) P w K mg base r.N r.x (defScope r.st) (A i) cdv A' outer s0 H E) E H Ha (defBody r.st) s):eM P w K mg base (gQ P w) (k+1) (A i) (Q i) r.ps (oY K r.ps.length (gR r.N.length s)) r.x r.st :=
 ⟨p7 (T i r h).F (S r (List.mem_of_getElem? h)) b,T i r h⟩
end
section
variable {P:Program}{w:World}{K:W.Frag}{mg:Str->Option Value}{base:Heap}{CX:ke}{k:Nat}{fn:Addr}{fd:FuncData}{ps:List Str}{n:Nat}{m:ac->ak D}{x:Str}{st:Stmt}
def eM.noXF(B:eM P w K mg base (gQ P w) k fn fd ps (oY K n m) x st):eM P w K mg base CX0 k fn fd ps (oY K n (DL.noX m)) x st:=⟨DL.FnOk.noXF B.F,B.t⟩
def eM.fD{nn:Nat}{s:db}(B:eM P w K mg base CX k fn fd ps (oY K n (gR nn s)) x st):eM P w K mg base CX k fn fd ps (spD K n (gR nn s)) x st:=⟨B.F.imp (yI λ_ _ h=>vT h),B.t⟩
end
section
variable {X:Cx}{E:XK}{e:Expr}{es:List Expr}{fa:Ev->ak (ac)}{pos:Pos}{CX:ke}{k k0 n:Nat}{fn:Addr}{fd:FuncData}{ps:List Str}{m:ac->ak D}{x:Str}{p:Pos}{st:Stmt}
def rC(B:eM X.prog X.w X.K X.mg X.base CX k0 fn fd ps (spD X.K n m) x st)(hr:cn k X.A)(ha:DA X E (e::es) fa)(hle:k0<=k:=by decide)(hx:eY CX X E:=by first|exact sX|exact pass0E|exact kX)(hl:∀ρ ds,fa ρ=.ok ds->ds.length=(e::es).length:=by first|exact Dt|exact Dg|exact Ds|exact Gk|exact al5)(hn:(e::es).length=n:=by rfl)
  (hg:Gl X x:=by exact rfl)(hdb:(x==("__debug__":Str))=false:=by decide)(he:starEach (e::es) X.env=(false,eval e X.env)::starEach es X.env:=by exact aC rfl)(hpl:(backTo pos (starEach es X.env)).any (·.1)=false:=by exact bg rfl) :
  DE X E (.Call (.Name x p) (e::es) [] pos) (aj fa m):=AI (B.F.mono hle) hr hg B.t.g B.t.F.kp B.t.b hx ha hn hl hdb he hpl
def rF(B:eM X.prog X.w X.K X.mg X.base CX k0 fn fd ps (oY X.K n m) x st)(hr:cn k X.A)(ha:DA X E (e::es) fa)(hle:k0<=k:=by decide)(hx:eY CX X E:=by first|exact sX|exact pass0E|exact kX)(hl:∀ρ ds,fa ρ=.ok ds->ds.length=(e::es).length:=by first|exact Dt|exact Dg|exact Ds|exact Gk|exact al5)(hn:(e::es).length=n:=by rfl)
  (hg:Gl X x:=by exact rfl)(hdb:(x==("__debug__":Str))=false:=by decide)(he:starEach (e::es) X.env=(false,eval e X.env)::starEach es X.env:=by exact aC rfl)(hpl:(backTo pos (starEach es X.env)).any (·.1)=false:=by exact bg rfl) :
  DF X E (.Call (.Name x p) (e::es) [] pos) (aj fa m):=AB (B.F.mono hle) hr hg B.t.g B.t.F.kp B.t.b hx ha hn hl hdb he hpl
def rD{cpos:Pos}(B:eM X.prog X.w X.K X.mg X.base (gQ X.prog X.w) k0 fn fd ps (spD X.K n m) x st)(hr:cn k X.A)(ha:DA X.nox E0 (e::es) fa)(hle:k0<=k:=by decide)(hl:∀ρ ds,fa ρ=.ok ds->ds.length=(e::es).length:=by first|exact Dt|exact Dg|exact Ds|exact Gk|exact al5)(hn:(e::es).length=n:=by rfl)
  (hg:Gl X x:=by exact rfl)(hdb:(x==("__debug__":Str))=false:=by decide)(he:starEach (e::es) X.env=(false,eval e X.env)::starEach es X.env:=by exact aC rfl)(hpl:(backTo cpos (starEach es X.env)).any (·.1)=false:=by exact bg rfl)
  (hs:swapsWith (.Call (.Name x p) (e::es) [] cpos) none pos.line X.env=pure false:=by rfl):TB X (.Expr (.Call (.Name x p) (e::es) [] cpos) pos) (dX fa m):=yD (B.F.mono hle) hr hg B.t.g B.t.F.kp B.t.b ha hn hl hdb he hpl hs
end
def G1{r:Rw}(hn:r.ps.length=1:=by rfl)(hb:∀(kV doc pm:Value) (an:Option Addr) (cdv ct b:Value),bindArgs (W.fnOf r.x r.x (defArgs r.st) (defBody r.st) (defScope r.st) .none kV doc pm an cdv ct) ⟨[b],[]⟩=pure (r.ps.zip [b]):=by intros;rfl):Dy r:=λ_ _ _ _ _ _ us hl=>by
 obtain⟨b,rfl⟩:=GG (hl.trans hn);exact hb ..
def G0{r:Rw}(hn:r.ps.length=2:=by rfl)(hb:∀(kV doc pm:Value) (an:Option Addr) (cdv ct b c:Value),bindArgs (W.fnOf r.x r.x (defArgs r.st) (defBody r.st) (defScope r.st) .none kV doc pm an cdv ct) ⟨[b,c],[]⟩=pure (r.ps.zip [b,c]):=by intros;rfl):Dy r:=λ_ _ _ _ _ _ us hl=>by
 obtain⟨b,c,rfl⟩:=GF (hl.trans hn);exact hb ..
def GZ{r:Rw}(hn:r.ps.length=3:=by rfl)(hb:∀(kV doc pm:Value) (an:Option Addr) (cdv ct b c d:Value),bindArgs (W.fnOf r.x r.x (defArgs r.st) (defBody r.st) (defScope r.st) .none kV doc pm an cdv ct) ⟨[b,c,d],[]⟩=pure (r.ps.zip [b,c,d]):=by intros;rfl):Dy r:=λ_ _ _ _ _ _ us hl=>by
 obtain⟨b,c,d,rfl⟩:=GD (hl.trans hn);exact hb ..
def GY{r:Rw}(hn:r.ps.length=4:=by rfl)(hb:∀(kV doc pm:Value) (an:Option Addr) (cdv ct b c d e:Value),bindArgs (W.fnOf r.x r.x (defArgs r.st) (defBody r.st) (defScope r.st) .none kV doc pm an cdv ct) ⟨[b,c,d,e],[]⟩=pure (r.ps.zip [b,c,d,e]):=by intros;rfl):Dy r:=λ_ _ _ _ _ _ us hl=>by
 obtain⟨b,c,d,e,rfl⟩:=GW (hl.trans hn);exact hb ..
def xo{P:Program}{w:World}{K:W.Frag}{mg:Str->Option Value}{base:Heap}{CX:ke}{k n:Nat}{f:Addr}{fd:FuncData}{ps:List Str}:FnOk P w K mg base CX k f fd ps (spD K n λ_=>.stuck) :=
 ⟨λ_ _ _ _ ⟨_,_,_,_,_,q⟩=>q.elim,λ_ _ _ _ _ _ _ _ _ _ _ _ _ ⟨_,_,_,_,_,q⟩=>q.elim⟩
def oS{P:Program}{w:World}{K:W.Frag}{mg:Str->Option Value}{base:Heap}{CX:ke}{k n:Nat}{rows:List Rw}{A:Nat->Addr}{Q:Nat->FuncData}{i:Nat}{r:Rw}(T:TG rows K mg A Q)(h:rows[i]?=some r):eM P w K mg base CX k (A i) (Q i) r.ps (spD K n λ_=>.stuck) r.x r.st:=⟨xo,T i r h⟩
def yC(Ts:List String)(x:D):Bool:=Ts.any λT=>oN x==T||(oN x=="bool"&&T=="int")
def qX:D->Bool
 |.exc _=>false
 |.ob _ _=>false
 |_=>true
def qm(Ts:List String)(x:D):ak D:=if qX x=true then .ok (.bl (yC Ts x)) else .stuck
theorem bX{K:W.Frag}{S:String}(hS:S∈["NoneType","bool","int","str","tuple","list","dict"]):∀{Ts:List String},(∀T∈Ts,iy K T)->W.kitAny K (.type S) (Ts.map Value.type)=some (Ts.any λT=>S==T||(S=="bool"&&T=="int"))
 |[],_=>rfl
 |T::Ts,h=>by
  have h1:=h T List.mem_cons_self S hS;have ih:=bX hS (Ts:=Ts) λU hU=>h U (List.mem_cons_of_mem _ hU);rw[List.map_cons,W.kitAny,h1,List.any_cons];cases (S==T||(S=="bool"&&T=="int")) with
  |true=>rfl
  |false=>rw[Bool.false_or];exact ih
theorem lB:∀{Ts:List String}{us:List Value},aY (Ts.map V.ty) us->us=Ts.map Value.type
 |[],_,.nil=>rfl
 |T::Ts,_,.cons r t=>by rw[lB t];obtain rfl:_=Value.type T:=r;rfl
section
variable {X:Cx}{E:XK}{e a:Expr}{es:List Expr}{f:cr}{pos:Pos}
def zF{Ts:List String}(hk:∀T∈Ts,iy X.K T):fA X (.builtin "isinstance") (λvs H Q=>∃x v p,vs=[v,.ref p]/\H p=some (.tup (Ts.map V.ty))/\bC X.K H x v/\qX x=true/\Q (.bl (yC Ts x)) H):=by
 intro pins s σ H xs us Q I r h;obtain⟨x,v,p,rfl,hp,h1,h2,q⟩:=h;cases r with
 |cons r1 r2=>
  cases r2 with
  |cons r3 r4=>
   cases r4;rename_i u1 u2;obtain rfl:u2=Value.ref p:=r3;obtain⟨_,its,rv,ob,k1,k2,n,k3⟩:=I.hok p _ hp;obtain rfl:=lB rv;obtain⟨oc,od,odt,osl⟩:=ob;cases k2;cases k3;have fin:∀tk,∃w' H',L2.Inv X pins σ H' { s with toks:=tk }/\bh w' (.bool (yC Ts x))/\Q w' H':=λtk=>⟨.bl (yC Ts x),H,I.tok _,rfl,q⟩
   cases x with
   |non=>rw[aK.mp h1]at r1;cases (show u1=Value.none from r1);exact W.kia_tup W.kitx_none I.kIn True.intro k1 (bX (by simp) hk) (λz=>nomatch z) fin|bl b=>rw[aE.mp h1]at r1;cases (show u1=Value.bool b from r1);exact W.kia_tup W.kitx_bool I.kIn True.intro k1 (bX (by simp) hk) (λz=>nomatch z) fin|int b=>rw[aw.mp h1]at r1;obtain⟨t,q⟩:=(show ∃t,u1=Value.int b t from r1);cases q;exact W.kia_tup W.kitx_int I.kIn True.intro k1 (bX (by simp) hk) (λz=>nomatch z) fin|str b=>rw[aF.mp h1]at r1;obtain⟨t,q⟩:=(show ∃t,u1=Value.str b t from r1);cases q;exact W.kia_tup W.kitx_str I.kIn True.intro k1 (bX (by simp) hk) (λz=>nomatch z) fin
   |tup ds=>
    obtain⟨a,vs,its,rfl,rfl,h1,h2,h3,h4,_⟩:=aZ I h1 r1;obtain⟨o,k1',k2',_⟩:=h4;exact W.kia_tup W.kitx_tuple I.kIn ⟨o,k1',k2'⟩ k1 (bX (by simp) hk) (λz=>nomatch z) fin
   |lst ds=>
    obtain⟨a,vs,its,rfl,rfl,h1,h2,h3,h4,_⟩:=aX I h1 r1;obtain⟨o,k1',k2',_⟩:=h4;exact W.kia_tup W.kitx_list I.kIn ⟨o,k1',k2'⟩ k1 (bX (by simp) hk) (λz=>nomatch z) fin
   |dic ks ds=>
    rw[bC]at h1;obtain⟨a,kvs,vs,rfl,h1,h2,_⟩:=h1;cases (show u1=Value.ref a from r1);obtain⟨_,_,vs',_,p'⟩:=h1.ok I.hok;obtain⟨o,es,ep,k1',k2',_⟩:=p';exact W.kia_tup W.kitx_dict I.kIn ⟨o,k1',k2'.1⟩ k1 (bX (by simp) hk) (λz=>nomatch z) fin
   |exc _|ob _ _=>cases h2
structure TN (X:Cx) (es:List Expr) (Ts:List String):Prop where
 o:PA X es (λσ H Q=>Q (Ts.map V.ty) H)
 k:∀T∈Ts,iy X.K T
def Bw:TN X [] []:=⟨dG,λ_ h=>nomatch h⟩
def sH{x:Str}{p:Pos}{T:String}{Ts:List String}(hk:iy X.K T)(hg:Gl X x)(hm:X.mg x=none)(hv:bootBuiltins x=some (.type T))(h:TN X es Ts)(hn:x≠"__name__":=by decide)(hdb:(x==("__debug__":Str))=false:=by decide):TN X (.Name x p::es) (T::Ts) :=
 ⟨bK (nX (v:=.ty T) hg hm hv rfl hn hdb) h.o (aC rfl),λU hU=>by
  rcases List.mem_cons.mp hU with rfl|hU
  .exact hk
  .exact h.k U hU⟩
def AG{p1 p2:Pos}{k2}{Ts:List String}(hc:TN X es Ts)(hgi:Gl X "isinstance")(hmi:X.mg "isinstance"=none)(ha:DE X E a f)(hl:Ts.length<=30:=by decide)
  (he:starEach [a,.Tuple es k2 p2] X.env=(false,eval a X.env)::starEach [.Tuple es k2 p2] X.env:=by exact aC rfl)(he2:starEach [.Tuple es k2 p2] X.env=(false,eval (.Tuple es k2 p2) X.env)::starEach [] X.env:=by exact aC rfl)(hpl:(backTo pos (starEach [.Tuple es k2 p2] X.env)).any (·.1)=false:=by exact bg rfl) :
  DE X E (.Call (.Name "isinstance" p1) [a,.Tuple es k2 p2] [] pos) (aL f (qm Ts)):=by
 refine⟨?_⟩;refine aQ (g6 (zF hc.k) hgi hmi PyProof.Rows.Boot.«isinstance» (bK ha.o (bK (nU hc.o) dG he2) he) (by decide) (by decide) he hpl) λσ H Q z9=>?_;obtain⟨Ha,ρ,hs,hr,q⟩:=z9;refine⟨Ha,ρ,hs,hr,?_⟩
 unfold aL at q;cases e1:f ρ with
 |stuck|exn x=>rw[e1]at q;exact q
 |ok d=>
  rw[e1]at q;intro v H1 H01 g1 r1;have q:post X.K E H Ha (qm Ts d) Q:=q;unfold qm at q
  by_cases hp:qX d=true
  .rw[if_pos hp]at q
   refine⟨?_,λp hp'=>?_⟩
   .rw[List.length_map];exact Nat.le_trans hl (by decide)
   .have ga:=aI (o:=.tup (Ts.map V.ty)) g1.sub hp'
    exact⟨d,v,p,rfl,aJ,(r1.mono g1.sub).mono ga.s,hp,q _ _ _ (g1.trans ga) (rb _)⟩
  .rw[if_neg hp]at q;exact q.elim
end
end DL
namespace Zt
open PySem PySem.Spec PyProof.Rows
def nn{a b c d:Addr}(h:c=a∨c=b)(h1:a≠d)(h2:b≠d):c≠d:=by
 rcases h with h|h<;>rw[h]<;>assumption
structure iS (P:Program) (w:World) (i l:Addr) (xs:Array Value) (St:Nat->Heap->Prop):Prop where
 stay:∀{k:Nat}{h h':Heap},St k h->(∀c o,c=i∨c=l->h.get? c=some o->h'.get? c=some o)->St k h'
 there:∀{k:Nat}{h:Heap},St k h->∃o,h.get? i=some o/\∀v,o.data≠.cell v
 draw:∀{A:Around}{E:Value->Shared->Prop}{s:Shared}{k:Nat}{x:Value}{Q:Value->Shared->Prop},St k s.heap->xs[k]?=some x->(∀h',St (k+1) h'->Heap.SameBut i s.heap h'->Q x { s with heap:=h' }) ->
  wpAny (model P w) A (Builtin.SmallTypes.nextOf (.ref i)) Q E s
 over:∀{A:Around}{E:Value->Shared->Prop}{s:Shared}{k:Nat}{Q:Value->Shared->Prop},A.handled=none->St k s.heap->xs[k]?=none ->
  (∀h' e,Heap.ExtBut i s.heap h'->(∃o,h'.get? e=some o/\o.cls=.type "StopIteration")->E (.ref e) { s with heap:=h' })->wpAny (model P w) A (Builtin.SmallTypes.nextOf (.ref i)) Q E s
section
variable {P:Program}{w:World}{A:Around}{E:Value->Shared->Prop}{s:Shared}
def vA{i t:Addr}{k:Nat}{xs:Array Value}{x:Value}{Q:Value->Shared->Prop}(hi:s.heap.IsTupleIter i t k)(ht:s.heap.IsTuple t xs)(hx:xs[k]?=some x)
  (hq:∀h',h'.IsTupleIter i t (k+1)->Heap.SameBut i s.heap h'->Q x { s with heap:=h' }):wpAny (model P w) A (Builtin.SmallTypes.nextOf (.ref i)) Q E s:=by
 obtain⟨oi,gi,ci,di⟩:=id hi;obtain⟨ot,gt,_,nt,dt⟩:=ht;unfold Builtin.SmallTypes.nextOf;refine wpAny_bind (wpAny_callSpecial?_slot (name:=Str.ofString "__next__") hi.typeIs F.slot_tuple_iterator_next (wpAny_call_entry F.slot_tuple_iterator_next hi.typeIs F.entry_tuple_iterator_next ?_ (F.args_tuple_iterator_next_1 _)));show wpAny _ _ (field (.ref i) 0 >>= _) _ _ s;refine wpAny_bind (wpAny_field gi di (x:=.ref t) rfl ?_);show wpAny _ _ (if(Value.ref t==Value.none)=true then _ else _) _ _ s;rw[if_neg (show ¬((Value.ref t==Value.none)=true) from λz=>nomatch z)];show wpAny _ _ (field (.ref i) 1 >>= _) _ _ s;refine wpAny_bind (wpAny_field gi di (x:=.int k 0) rfl ?_);show wpAny _ _ (seqItems? (.ref t) >>= _) _ _ s;refine wpAny_bind (wpAny_seqItems gt dt ?_);simp only[Int.toNat_natCast,hx];refine wpAny_bind (wpAny_setField gi di (by simp) (wpAny_pure ⟨x,rfl,wpAny_pure (hq _ ⟨_,Heap.get?_update_self _ gi (Obj.isFreed_of_fields (Obj.data_mapFields di _)),(Obj.cls_mapFields ..).trans ci,?_⟩ (Heap.SameBut.update ..))⟩));rw[Obj.data_mapFields di];simp[rawInt]
def vz{i t:Addr}{k:Nat}{xs:Array Value}{Q:Value->Shared->Prop}(hA:A.handled=none)(hi:s.heap.IsTupleIter i t k)(ht:s.heap.IsTuple t xs)(hx:xs[k]?=none)
  (he:∀h' e,Heap.ExtBut i s.heap h'->(∃o,h'.get? e=some o/\o.cls=.type "StopIteration")->E (.ref e) { s with heap:=h' }):wpAny (model P w) A (Builtin.SmallTypes.nextOf (.ref i)) Q E s:=by
 obtain⟨oi,gi,ci,di⟩:=id hi;obtain⟨ot,gt,_,nt,dt⟩:=ht;unfold Builtin.SmallTypes.nextOf;refine wpAny_bind (wpAny_callSpecial?_slot (name:=Str.ofString "__next__") hi.typeIs F.slot_tuple_iterator_next (wpAny_call_entry F.slot_tuple_iterator_next hi.typeIs F.entry_tuple_iterator_next ?_ (F.args_tuple_iterator_next_1 _)));show wpAny _ _ (field (.ref i) 0 >>= _) _ _ s;refine wpAny_bind (wpAny_field gi di (x:=.ref t) rfl ?_);show wpAny _ _ (if(Value.ref t==Value.none)=true then _ else _) _ _ s;rw[if_neg (show ¬((Value.ref t==Value.none)=true) from λz=>nomatch z)];show wpAny _ _ (field (.ref i) 1 >>= _) _ _ s;refine wpAny_bind (wpAny_field gi di (x:=.int k 0) rfl ?_);show wpAny _ _ (seqItems? (.ref t) >>= _) _ _ s;refine wpAny_bind (wpAny_seqItems gt dt ?_);simp only[Int.toNat_natCast,hx];refine wpAny_bind (wpAny_rule (wpAny_bind (wpAny_setField gi di (by simp) ?_)));show wpAny _ _ (newExc (.type "StopIteration") [] >>= _) _ _ _;refine wpAny_bind ?_;simp only[newExc,newTuple];refine wpAny_bind (wpAny_newObj_type ?_ (by size_fits));refine wpAny_bind (m:=firstArgMember _ _) (wpAny_of_eq (a:=Value.none) (by first|rfl|(simp only[firstArgMember];rfl)) (wpAny_newObj_type ?_ (by size_fits)));simp only[raiseNew];refine wpAny_bind (wpAny_handled ?_)
 first|rw[show A.in1.handled=none from hA]|rw[hA]
 refine wpAny_bind (wpAny_pure (wpAny_throw (he _ _ (((Heap.SameBut.update ..).extBut.push _).push _) ⟨_,Heap.get?_push_size _ rfl,rfl⟩)))
def kZ(i t:Addr)(xs:Array Value):iS P w i t xs λk h=>h.IsTupleIter i t k/\h.IsTuple t xs where
 stay:=λ⟨⟨o,e,r⟩,⟨o2,e2,r2⟩⟩ kp=>⟨⟨o,kp _ _ (.inl rfl) e,r⟩,⟨o2,kp _ _ (.inr rfl) e2,r2⟩⟩
 there:=λ⟨⟨o,e,_,d⟩,_⟩=>⟨o,e,λv z=>by rw[d]at z;cases z⟩
 draw:=λ{A E s k x Q} ⟨h1,h2⟩ hx hq=>by
  by_cases c:t=i
  .exfalso
   obtain⟨o,e,q,_⟩:=h1;obtain⟨o2,e2,q2,_⟩:=h2;subst c;rw[e]at e2;cases e2;rw[q]at q2;simp at q2
  .exact vA h1 h2 hx λh' a b=>hq h' ⟨a,h2.extBut b.extBut c⟩ b
 over:=λhA ⟨h1,h2⟩ hx he=>vz hA h1 h2 hx he
variable {z ti tO i j l m:Addr}{k:Nat}{xs ys:Array Value}{S S':Nat->Heap->Prop}{a b x y:Value}
def vo(D:ZipApart z ti tO i j l m)(I:iS P w i l xs S)(J:iS P w j m ys S'){Q:Value->Shared->Prop}
  (hz:IsZip s.heap z ti tO .none)(hti:IsPair s.heap ti (.ref i) (.ref j))(hto:IsPair s.heap tO a b)(h1:S k s.heap)(h2:S' k s.heap)(hx:xs[k]?=some x)(hy:ys[k]?=some y)
  (hq:∀h',IsZip h' z ti tO (rawInt s.heap.objs.size)->IsPair h' tO x y->S (k+1) h'->S' (k+1) h'->IsPair h' s.heap.objs.size x y->h'.objs.size=s.heap.objs.size+1 ->
   (∀c o,c≠z->c≠tO->c≠i->c≠j->s.heap.get? c=some o->h'.get? c=some o)->Q (.ref s.heap.objs.size) { s with heap:=h' }) :
  wpAny (model P w) A (Builtin.«zip.__next__» ⟨[.ref z],[]⟩) (λfin s'=>∃v,fin=.done (.ret v)/\Q v s') E s:=by
 have off:∀{k:Nat}{u u':Heap}{c:Addr},S k u->Heap.ExtBut c u u'->i≠c->l≠c->S k u':=λst e n1 n2=>I.stay st λd o hd g=>e d o (nn hd n1 n2) g;have off':∀{k:Nat}{u u':Heap}{c:Addr},S' k u->Heap.ExtBut c u u'->j≠c->m≠c->S' k u':=λst e n1 n2=>J.stay st λd o hd g=>e d o (nn hd n1 n2) g;show wpAny _ _ (field (.ref z) 2 >>= _) _ _ _;refine wpAny_bind (wpAny_field hz rfl (x:=.bool false) rfl ?_);show wpAny _ _ (field (.ref z) 3 >>= _) _ _ _;refine wpAny_bind (wpAny_field hz rfl (x:=.ref ti) rfl (wpAny_bind (wpAny_seqItems hti rfl ?_)));show wpAny _ _ (Builtin.SmallTypes.ownedTupleIsFree (.ref z) >>= _) _ _ _;refine wpAny_bind ?_;unfold Builtin.SmallTypes.ownedTupleIsFree;refine wpAny_bind (wpAny_field hz rfl (x:=.none) rfl (wpAny_pure ?_));simp only[if_true];refine wpAny_bind (wpAny_rule (wpAny_bind (wpAny_field hz rfl (x:=.ref tO) rfl (wpAny_bind (wpAny_setField_rec hz (by simp) λu1 z1 e1=>wpAny_bind ?_)))));replace z1:IsZip u1 z ti tO .ellipsis:=z1;simp only[List.zipIdx_cons,List.zipIdx_nil,List.forIn_cons,List.forIn_nil];refine wpAny_bind (wpAny_bind (wpAny_onRaise ?_));show wpAny _ _ (Builtin.SmallTypes.nextOf (.ref i) >>= _) _ _ _;refine wpAny_bind (I.draw (off h1 e1.extBut D.i1z D.l1z) hx λu2 n2 e2=>wpAny_pure ?_);have p2:IsPair u2 tO a b:=e2.extBut _ _ D.TOi1 (e1.extBut _ _ D.TOz hto);refine wpAny_bind (wpAny_seqItems p2 rfl (wpAny_bind (wpAny_updateSeq_pair p2 λu3 p3 e3=>?_)));replace p3:IsPair u3 tO x b:=p3;refine wpAny_bind (wpAny_letGo (wpAny_pure (wpAny_bind (wpAny_bind (wpAny_onRaise ?_)))));show wpAny _ _ (Builtin.SmallTypes.nextOf (.ref j) >>= _) _ _ _;refine wpAny_bind (J.draw (off' (off' (off' h2 e1.extBut D.i2z D.l2z) e2.extBut D.i12.symm D.l2i1) e3.extBut D.TOi2.symm D.l2TO) hy λu4 n4 e4=>wpAny_pure ?_);have p4:IsPair u4 tO x b:=e4.extBut _ _ D.TOi2 p3;refine wpAny_bind (wpAny_seqItems p4 rfl (wpAny_bind (wpAny_updateSeq_pair p4 λu5 p5 e5=>?_)));replace p5:IsPair u5 tO x y:=p5;refine wpAny_bind (wpAny_letGo (wpAny_pure (wpAny_pure (wpAny_bind (wpAny_seqItems p5 rfl (wpAny_bind (wpAny_newTuple ?_)))))));have sz:u5.objs.size=s.heap.objs.size:=by rw[e5.1,e4.1,e3.1,e2.1,e1.1]
 have z5:IsZip u5 z ti tO .ellipsis:=e5.extBut _ _ D.TOz.symm (e4.extBut _ _ D.i2z.symm (e3.extBut _ _ D.TOz.symm (e2.extBut _ _ D.i1z.symm z1)));have kp:∀c o,c≠z->c≠tO->c≠i->c≠j->s.heap.get? c=some o->u5.get? c=some o:=λc o c1 c2 c3 c4 g=>e5.extBut _ _ c2 (e4.extBut _ _ c4 (e3.extBut _ _ c2 (e2.extBut _ _ c3 (e1.extBut _ _ c1 g))));have s5:S (k+1) u5:=off (off (off n2 e3.extBut D.TOi1.symm D.l1TO) e4.extBut D.i12 D.l1i2) e5.extBut D.TOi1.symm D.l1TO;have t5:S' (k+1) u5:=off' n4 e5.extBut D.TOi2.symm D.l2TO;have zl:z<u5.objs.size:=Heap.lt_size z5;show wpAny _ _ (Builtin.SmallTypes.ownedTupleHandOut (.ref z) (.ref u5.objs.size) >>= _) _ _ _;refine wpAny_bind ?_;unfold Builtin.SmallTypes.ownedTupleHandOut;have z6:IsZip (u5.push { cls:=.type "tuple",data:=.seq #[x,y] }) z ti tO .ellipsis:=Heap.get?_push_of_some _ z5;refine wpAny_bind (wpAny_setField_rec z6 (by simp) λu7 z7 e7=>?_);replace z7:IsZip u7 z ti tO (rawInt u5.objs.size):=z7;refine wpAny_setField_rec z7 (by simp) λu8 z8 e8=>?_;replace z8:IsZip u8 z ti tO (rawInt u5.objs.size):=z8;have up:∀c o,c≠z->u5.get? c=some o->u8.get? c=some o:=λc o c1 g=>e8.extBut _ _ c1 (e7.extBut _ _ c1 (Heap.get?_push_of_some _ g));have t8:IsPair u8 u5.objs.size x y:=e8.extBut _ _ (Nat.ne_of_gt zl) (e7.extBut _ _ (Nat.ne_of_gt zl) (Heap.get?_push_size _ rfl));have s8:u8.objs.size=u5.objs.size+1:=by rw[e8.1,e7.1,Heap.size_push]
 rw[sz]at z8 t8 s8;refine wpAny_pure ⟨_,rfl,?_⟩;show Q (.ref u5.objs.size) _;rw[sz];exact hq u8 z8 (up _ _ D.TOz p5) (I.stay s5 λc o hc g=>up c o (nn hc D.i1z D.l1z) g) (J.stay t5 λc o hc g=>up c o (nn hc D.i2z D.l2z) g) t8 s8 λc o c1 c2 c3 c4 g=>up c o c1 (kp c o c1 c2 c3 c4 g)
def vn(D:ZipApart z ti tO i j l m)(I:iS P w i l xs S)(J:iS P w j m ys S'){Q:Fin->Shared->Prop}(hA:A.handled=none)
  (hz:IsZip s.heap z ti tO .none)(hti:IsPair s.heap ti (.ref i) (.ref j))(hto:IsPair s.heap tO a b)(h1:S k s.heap)(h2:S' k s.heap)(hend:xs[k]?=none∨ys[k]?=none)
  (hE:∀h' e,(∀c o,c≠z->c≠tO->c≠i->c≠j->s.heap.get? c=some o->h'.get? c=some o)->(∃o,h'.get? e=some o/\o.cls=.type "StopIteration")->E (.ref e) { s with heap:=h' }) :
  wpAny (model P w) A (Builtin.«zip.__next__» ⟨[.ref z],[]⟩) Q E s:=by
 have off:∀{k:Nat}{u u':Heap}{c:Addr},S k u->Heap.ExtBut c u u'->i≠c->l≠c->S k u':=λst e n1 n2=>I.stay st λd o hd g=>e d o (nn hd n1 n2) g;have off':∀{k:Nat}{u u':Heap}{c:Addr},S' k u->Heap.ExtBut c u u'->j≠c->m≠c->S' k u':=λst e n1 n2=>J.stay st λd o hd g=>e d o (nn hd n1 n2) g;show wpAny _ _ (field (.ref z) 2 >>= _) _ _ _;refine wpAny_bind (wpAny_field hz rfl (x:=.bool false) rfl ?_);show wpAny _ _ (field (.ref z) 3 >>= _) _ _ _;refine wpAny_bind (wpAny_field hz rfl (x:=.ref ti) rfl (wpAny_bind (wpAny_seqItems hti rfl ?_)));show wpAny _ _ (Builtin.SmallTypes.ownedTupleIsFree (.ref z) >>= _) _ _ _;refine wpAny_bind ?_;unfold Builtin.SmallTypes.ownedTupleIsFree;refine wpAny_bind (wpAny_field hz rfl (x:=.none) rfl (wpAny_pure ?_));simp only[if_true];refine wpAny_bind (wpAny_rule (wpAny_bind (wpAny_field hz rfl (x:=.ref tO) rfl (wpAny_bind (wpAny_setField_rec hz (by simp) λu1 z1 e1=>wpAny_bind ?_)))));replace z1:IsZip u1 z ti tO .ellipsis:=z1;simp only[List.zipIdx_cons,List.zipIdx_nil,List.forIn_cons,List.forIn_nil];refine wpAny_bind (wpAny_bind (wpAny_onRaise ?_));show wpAny _ _ (Builtin.SmallTypes.nextOf (.ref i) >>= _) _ _ _;cases hx:xs[k]? with
 |none=>
  refine wpAny_bind (I.over hA (off h1 e1.extBut D.i1z D.l1z) hx λu2 e e2 z9=>?_);obtain⟨oe,ge,ce⟩:=z9;have z2:IsZip u2 z ti tO .ellipsis:=e2 _ _ D.i1z.symm z1;have ne:e≠z:=λq=>by subst q;rw[z2]at ge;cases ge;simp at ce
  exact wpAny_setField_rec z2 (by simp) λu3 _ e3=>hE u3 e (λc o c1 _ c3 _ g=>e3.extBut _ _ c1 (e2 _ _ c3 (e1.extBut _ _ c1 g))) ⟨oe,e3.extBut _ _ ne ge,ce⟩
 |some x=>
  have hy:ys[k]?=none:=by rcases hend with q|q;rw[hx]at q;cases q;exact q
  refine wpAny_bind (I.draw (off h1 e1.extBut D.i1z D.l1z) hx λu2 n2 e2=>wpAny_pure ?_);have p2:IsPair u2 tO a b:=e2.extBut _ _ D.TOi1 (e1.extBut _ _ D.TOz hto);refine wpAny_bind (wpAny_seqItems p2 rfl (wpAny_bind (wpAny_updateSeq_pair p2 λu3 p3 e3=>?_)));refine wpAny_bind (wpAny_letGo (wpAny_pure (wpAny_bind (wpAny_bind (wpAny_onRaise ?_)))));show wpAny _ _ (Builtin.SmallTypes.nextOf (.ref j) >>= _) _ _ _;refine wpAny_bind (J.over hA (off' (off' (off' h2 e1.extBut D.i2z D.l2z) e2.extBut D.i12.symm D.l2i1) e3.extBut D.TOi2.symm D.l2TO) hy λu4 e e4 z9=>?_);obtain⟨oe,ge,ce⟩:=z9;have z4:IsZip u4 z ti tO .ellipsis:=e4 _ _ D.i2z.symm (e3.extBut _ _ D.TOz.symm (e2.extBut _ _ D.i1z.symm z1));have ne:e≠z:=λq=>by subst q;rw[z4]at ge;cases ge;simp at ce
  exact wpAny_setField_rec z4 (by simp) λu5 _ e5=>hE u5 e (λc o c1 c2 c3 c4 g=>e5.extBut _ _ c1 (e4 _ _ c4 (e3.extBut _ _ c2 (e2.extBut _ _ c3 (e1.extBut _ _ c1 g))))) ⟨oe,e5.extBut _ _ ne ge,ce⟩
def mZ(D:ZipApart z ti tO i j l m)(I:iS P w i l xs S)(J:iS P w j m ys S'){Q:Option Value->Shared->Prop}
  (hz:IsZip s.heap z ti tO .none)(hti:IsPair s.heap ti (.ref i) (.ref j))(hto:IsPair s.heap tO a b)(h1:S k s.heap)(h2:S' k s.heap)(hx:xs[k]?=some x)(hy:ys[k]?=some y)
  (hq:∀h',IsZip h' z ti tO (rawInt s.heap.objs.size)->IsPair h' tO x y->S (k+1) h'->S' (k+1) h'->IsPair h' s.heap.objs.size x y->h'.objs.size=s.heap.objs.size+1 ->
   (∀c o,c≠z->c≠tO->c≠i->c≠j->s.heap.get? c=some o->h'.get? c=some o)->Q (some (.ref s.heap.objs.size)) { s with heap:=h' }):wpAny (model P w) A (pyNext (.ref z)) Q E s:=by
 have ty:s.TypeIs (.ref z) "zip":=⟨_,hz,rfl⟩
 unfold pyNext;exact wpAny_bind (wpAny_attempt (wpAny_callSpecial?_slot (name:=Str.ofString "__next__") ty F.slot_zip_next (wpAny_call_entry F.slot_zip_next ty F.entry_zip_next
  (vo D I J hz hti hto h1 h2 hx hy λh' b1 b2 b3 b4 b5 b6 b7=>wpAny_pure (hq h' b1 b2 b3 b4 b5 b6 b7)) (F.args_zip_next_1 _))))
def mY(D:ZipApart z ti tO i j l m)(I:iS P w i l xs S)(J:iS P w j m ys S'){Q:Option Value->Shared->Prop}(hA:A.handled=none)
  (hz:IsZip s.heap z ti tO .none)(hti:IsPair s.heap ti (.ref i) (.ref j))(hto:IsPair s.heap tO a b)(h1:S k s.heap)(h2:S' k s.heap)(hend:xs[k]?=none∨ys[k]?=none)
  (hq:∀h',(∀c o,c≠z->c≠tO->c≠i->c≠j->s.heap.get? c=some o->h'.get? c=some o)->Q none { s with heap:=h' }):wpAny (model P w) A (pyNext (.ref z)) Q E s:=by
 have ty:s.TypeIs (.ref z) "zip":=⟨_,hz,rfl⟩
 unfold pyNext;refine wpAny_bind (wpAny_attempt (wpAny_callSpecial?_slot (name:=Str.ofString "__next__") ty F.slot_zip_next (wpAny_call_entry F.slot_zip_next ty F.entry_zip_next (vn D I J hA hz hti hto h1 h2 hend λh' e kp ⟨o,go,co⟩=>?_) (F.args_zip_next_1 _))));exact wpAny_bind (wpAny_isInstance (T:="StopIteration") (b:=true) ⟨o,go,co⟩ isSubtype_stop (wpAny_pure (hq _ kp)))
abbrev n1(h:Heap)(l:Addr):Heap:=h.push { cls:=.type "tuple_iterator",data:=.fields #[.ref l,.int 0 0] }
abbrev n2(h:Heap)(l m:Addr):Heap:=n1 (n1 h l) m
abbrev n3(h:Heap)(l m:Addr):Heap:=(n2 h l m).push { cls:=.type "tuple",data:=.seq #[.ref h.objs.size,.ref (n1 h l).objs.size] }
abbrev n4(h:Heap)(l m:Addr):Heap:=(n3 h l m).push { cls:=.type "tuple",data:=.seq #[.none,.none] }
abbrev n5(h:Heap)(l m:Addr):Heap:=(n4 h l m).push { cls:=.type "zip",data:=.fields #[.none,.bool false,.bool false,.ref (n2 h l m).objs.size,.ref (n3 h l m).objs.size] }
def F9(l m:Addr)(xs ys:Array Value) :
  Meets (Builtin.«zip.__new__» ⟨[.type "zip",.ref l,.ref m],[]⟩) (λ_ R s=>s.heap.IsTuple l xs/\s.heap.IsTuple m ys/\R (.ok (.ret (.ref (n4 s.heap l m).objs.size))) { s with heap:=n5 s.heap l m }) :=
 .of_wp λprog w A R s h=>by
  obtain⟨hp,g,d,tk,os⟩:=s;obtain⟨t1,t2,h⟩:=h;have hsub:=sub_zip;have u1:Heap.IsTuple (Shared.heap ⟨hp,g,d,tk,os⟩) l xs:=t1;have u2:Heap.IsTuple (Shared.heap ⟨hp.push { cls:=.type "tuple_iterator",data:=.fields #[.ref l,.int 0 0] },g,d,tk,os⟩) m ys:=Heap.IsTuple.push t2 _
  wp_walk using wpAny_pyIter_tuple u1,wpAny_pyIter_tuple u2
  exact⟨_,rfl,h⟩
end
end Zt
namespace Zt
open PySem PySem.Spec PyProof.Rows L2 DL
section
variable {P:Program}{w:World}{A:Around}{E:Value->Shared->Prop}{s:Shared}
def call_tups{l m:Addr}{xs ys:Array Value}{Q:Value->Shared->Prop}(t1:s.heap.IsTuple l xs)(t2:s.heap.IsTuple m ys)
  (h:∀h',IsZip h' (s.heap.objs.size+4) (s.heap.objs.size+2) (s.heap.objs.size+3) .none->IsPair h' (s.heap.objs.size+2) (.ref s.heap.objs.size) (.ref (s.heap.objs.size+1)) ->
   IsPair h' (s.heap.objs.size+3) .none .none->h'.IsTupleIter s.heap.objs.size l 0->h'.IsTupleIter (s.heap.objs.size+1) m 0->(∀c o,s.heap.get? c=some o->h'.get? c=some o)->Q (.ref (s.heap.objs.size+4)) { s with heap:=h' }) :
  wpAny (model P w) A (call (.type "zip") [.ref l,.ref m]) Q E s:=by
 refine callType_new F.called_zip (by decide) (F.typeCall_zip_2 _ _) (F.newCall_zip_2 _ _) (λobj=>F.args_object_init_3 obj _ _) F.entry_zip_new (F9 l m xs ys) ⟨t1,t2,?_⟩;have y1:(n1 s.heap l).objs.size=s.heap.objs.size+1:=Heap.size_push ..;have y2:(n2 s.heap l m).objs.size=s.heap.objs.size+2:=by rw[Heap.size_push,y1]
 have y3:(n3 s.heap l m).objs.size=s.heap.objs.size+3:=by rw[Heap.size_push,y2]
 have y4:(n4 s.heap l m).objs.size=s.heap.objs.size+4:=by rw[Heap.size_push,y3]
 have b5:(n5 s.heap l m).get? (n4 s.heap l m).objs.size=some _:=Heap.get?_push_size _ rfl;have b4:(n5 s.heap l m).get? (n3 s.heap l m).objs.size=some _:=Heap.get?_push_of_some _ (Heap.get?_push_size _ rfl);have b3:(n5 s.heap l m).get? (n2 s.heap l m).objs.size=some _:=Heap.get?_push_of_some _ (Heap.get?_push_of_some _ (Heap.get?_push_size _ rfl));have b2:(n5 s.heap l m).get? (n1 s.heap l).objs.size=some _:=Heap.get?_push_of_some _ (Heap.get?_push_of_some _ (Heap.get?_push_of_some _ (Heap.get?_push_size _ rfl)));have b1:(n5 s.heap l m).get? s.heap.objs.size=some _:=Heap.get?_push_of_some _ (Heap.get?_push_of_some _ (Heap.get?_push_of_some _ (Heap.get?_push_of_some _ (Heap.get?_push_size _ rfl))));show _/\_;rw[y2,y3,y4]at b5;rw[y1,y2]at b3;rw[y3]at b4;rw[y1]at b2;rw[y4];exact⟨⟨_,b5,rfl⟩,h _ b5 b3 b4 ⟨_,b1,rfl,rfl⟩ ⟨_,b2,rfl,rfl⟩ λc o g=>Heap.get?_push_of_some _ (Heap.get?_push_of_some _ (Heap.get?_push_of_some _ (Heap.get?_push_of_some _ (Heap.get?_push_of_some _ g))))⟩
end
noncomputable def ItzT(K:W.Frag) (a b:Addr):It :=
 ⟨λi H=>∃xs ys x y,gk K H a xs/\gk K H b ys/\xs[i]?=some x/\ys[i]?=some y,λi H x H'=>∃p y z,H p=none/\x=.ref p/\(∀xs,gk K H a xs->xs[i]?=some y)/\(∀xs,gk K H b xs->xs[i]?=some z)/\H'=upd H p (.tup [y,z]),
  λi H=>∃xs ys,gk K H a xs/\gk K H b ys/\min xs.length ys.length<=i⟩
def sJ{X:Cx}{pins:List (Addr×Obj)}{σ:L2.St}{H:Hp}{s:Shared}{a:Addr}{xs ys:bv}(I:Inv X pins σ H s)(h:gk X.K H a xs)(h':gk X.K H a ys):xs=ys:=by
 obtain⟨its,r,p,_⟩:=I.tuple h;obtain⟨jts,r',p',_⟩:=I.tuple h';obtain⟨o,g,_,n,d⟩:=p;obtain⟨o',g',_,n',d'⟩:=p';rw[g]at g';cases g';rw[d]at d';cases d';exact r.inj r'
def turn_zipT{P:Program}{w:World}{K:W.Frag}{elts:List Expr}{k:Nat}{pos:Pos}(z TI TO i1 i2 a b:Addr)(D:ZipApart z TI TO i1 i2 a b) :
  yh P w K (.Tuple elts k pos) (ItzT K a b) [z,TI,TO,i1,i2] z (λi h=>IsZip h z TI TO .none/\IsPair h TI (.ref i1) (.ref i2)/\(∃a b,IsPair h TO a b)/\h.IsTupleIter i1 a i/\h.IsTupleIter i2 b i) where
 mem:=by simp
 obj:=λi h st b hb=>by
  obtain⟨hz,hTI,⟨a',b',hTO⟩,⟨o1,e1,c1,d1⟩,⟨o2,e2,c2,d2⟩⟩:=st;simp only[List.mem_cons,List.not_mem_nil,or_false]at hb;rcases hb with rfl|rfl|rfl|rfl|rfl
  .exact⟨_,hz,λv z=>by cases z⟩
  .exact⟨_,hTI,λv z=>by cases z⟩
  .exact⟨_,hTO,λv z=>by cases z⟩
  .exact⟨_,e1,λv z=>by rw[d1]at z;cases z⟩
  .exact⟨_,e2,λv z=>by rw[d2]at z;cases z⟩
 keep:=λi h h' st k=>by
  obtain⟨hz,hTI,⟨a',b',hTO⟩,h1,h2⟩:=st;exact⟨k z (by simp) _ hz,k TI (by simp) _ hTI,⟨a',b',k TO (by simp) _ hTO⟩,h1.at λo y=>k i1 (by simp) o y,h2.at λo y=>k i2 (by simp) o y⟩
 item:=by
  intro X hP hw hK hc i pins s σ H E I hf st hg;subst hP hw hK;obtain⟨xs,ys,x,y,hqx,hqy,hx,hy⟩:=hg;obtain⟨its,rv,p,hz⟩:=I.tuple hqx;obtain⟨jts,rw_,p',hz'⟩:=I.tuple hqy;obtain⟨u,hu,ru⟩:=rv.get hx;obtain⟨u',hu',ru'⟩:=rw_.get hy;have st0:=st;obtain⟨hZ,hTI,⟨a',b',hTO⟩,h1,h2⟩:=st;refine mZ D (kZ i1 a its.toArray) (kZ i2 b jts.toArray) hZ hTI hTO (k:=i) (x:=u) (y:=u') ⟨h1,p⟩ ⟨h2,p'⟩ (by simpa using hu) (by simpa using hu') λh' q1 q2 q3 q4 q5 q6 q7=>?_;refine⟨_,rfl,wpAny_letOwnedTupleGo_zip q1 λh'' r1 r2=>?_⟩;have lt:s.heap.objs.size≠z:=Nat.ne_of_gt (Heap.lt_size hZ);have kp:∀c o,c∉[z,TI,TO,i1,i2]->s.heap.get? c=some o->h''.get? c=some o:=λc o hc g=>r2.extBut _ _ (λq=>hc (by simp[q])) (q7 c o (λq=>hc (by simp[q])) (λq=>hc (by simp[q])) (λq=>hc (by simp[q])) (λq=>hc (by simp[q])) g);have hT:IsPair h'' s.heap.objs.size u u':=r2.extBut _ _ lt q5;have fr:H s.heap.objs.size=none:=I.hok.fresh (Nat.le_refl _);refine⟨.ref s.heap.objs.size,upd H s.heap.objs.size (.tup [x,y]),mT (s:=s) (h':=h'') (t':=s.toks) I kp hf (Nat.le_refl _) ⟨by show 2<=sizeLine;decide,[u,u'],.cons ru (.cons ru' .nil),_,hT,rfl,_,rfl⟩,rfl,⟨_,x,y,fr,rfl,λws hw=>?_,λws hw=>?_,rfl⟩,⟨r1,?_,?_,?_,?_⟩,λc hc=>?_⟩
  .rw[sJ I hw hqx];exact hx
  .rw[sJ I hw hqy];exact hy
  .exact r2.extBut _ _ D.TIz (q7 _ _ D.TIz D.TITO D.TIi1 D.TIi2 hTI)
  .exact⟨_,_,r2.extBut _ _ D.TOz q2⟩
  .exact q3.1.extBut r2.extBut D.i1z
  .exact q4.1.extBut r2.extBut D.i2z
  .have c0:=(hf c hc).1
   obtain⟨ob,hob⟩:∃o,s.heap.get? c=some o:=by
    obtain⟨hz,hTI,⟨a',b',hTO⟩,⟨o1,e1,c1,d1⟩,⟨o2,e2,c2,d2⟩⟩:=st0;simp only[List.mem_cons,List.not_mem_nil,or_false]at hc;rcases hc with rfl|rfl|rfl|rfl|rfl
    .exact⟨_,hz⟩
    .exact⟨_,hTI⟩
    .exact⟨_,hTO⟩
    .exact⟨_,e1⟩
    .exact⟨_,e2⟩
   rw[aD (Nat.ne_of_lt (Heap.lt_size hob))];exact c0
 done:=by
  intro X hP hw hK hc i pins s σ H E I hf st hg;subst hP hw hK;obtain⟨xs,ys,hqx,hqy,hx⟩:=hg;obtain⟨its,rv,p,hz⟩:=I.tuple hqx;obtain⟨jts,rw_,p',hz'⟩:=I.tuple hqy;have hl:=rv.length;have hl':=rw_.length;obtain⟨hZ,hTI,⟨a',b',hTO⟩,h1,h2⟩:=st;refine mY D (kZ i1 a its.toArray) (kZ i2 b jts.toArray) (I.ok.hd hc) hZ hTI hTO (k:=i) ⟨h1,p⟩ ⟨h2,p'⟩ ?_ λh' hk=>⟨rfl,sF (t':=s.toks) I (λc o hb e=>hk c o (λx=>hb (by simp[x])) (λx=>hb (by simp[x])) (λx=>hb (by simp[x])) (λx=>hb (by simp[x])) e) hf⟩
  by_cases hle:xs.length<=ys.length
  .left;simp;omega
  .right;simp;omega
 self:=λ_ _ _ _ _ st h=>by
  obtain⟨hz,_⟩:=st;exact wpAny_pyIter_zip hz h
end Zt
namespace DL
open PySem PySem.Spec PyProof.Rows L2
section
variable {X:Cx}{E:XK}{elts:List Expr}{k:Nat}{tp:Pos}{e a b:Expr}{f g:cr}
def EK(K:W.Frag)(ta:TA):TI:=λσ H R=>ta σ H λvs H1=>∃a b,vs=[.ref a,.ref b]/\(((∃xs,dF K H1 a xs)/\(∃xs,dF K H1 b xs)/\R (GJ K a b) H1)∨((∃xs,gk K H1 a xs)/\(∃xs,gk K H1 b xs)/\R (Zt.ItzT K a b) H1))
def yZ{ta:TA}{p pos:Pos}(hg:Gl X "zip")(hm:X.mg "zip"=none)(ha:PA X [a,b] ta)(hs:starEach [a,b] X.env=[(false,eval a X.env),(false,eval b X.env)]:=by rfl)(hs2:starEach [b] X.env=[(false,eval b X.env)]:=by rfl) :
  PI X (.Tuple elts k tp) (.Call (.Name "zip" p) [a,b] [] pos) (EK X.K ta):=by
 intro pins s σ H R I h;refine Call_ (je I hg hm PyProof.Rows.Boot.«zip» (PyProof.Rows.callWith_type1 (cG (ha pos pins s σ H _ I h) λus s1 ⟨vs,H1,I1,r1,q1⟩=>?_) (by rw[hs,hs2]) (by rw[hs2];rfl)));obtain⟨l,l',e,q⟩:=q1;subst e;cases r1 with
 |cons r rr=>
  cases rr with
  |cons r' rr=>
   cases rr;cases r;cases r';rcases q with⟨⟨xs,hq⟩,⟨ys,hq'⟩,q⟩|⟨⟨xs,hq⟩,⟨ys,hq'⟩,q⟩
   .obtain⟨its,rv,p,hz⟩:=I1.list hq
    obtain⟨jts,rv',p',hz'⟩:=I1.list hq';have hlt:l<s1.heap.objs.size:=by obtain⟨o,n,e,_⟩:=p;exact Heap.lt_size e
    have hlt':l' < s1.heap.objs.size:=by obtain⟨o,n,e,_⟩:=p';exact Heap.lt_size e
    refine call_zip_2 p.isList p'.isList λh' hz hTI hTO hi1 hi2 hsz hk=>?_;refine wpAny_pyIter_zip hz ?_;refine⟨s1.heap.objs.size+4,[s1.heap.objs.size+4,s1.heap.objs.size+2,s1.heap.objs.size+3,s1.heap.objs.size,s1.heap.objs.size+1],_,_,H1,rfl,I1.kept (t':=s1.toks) hk,vy _ _ _ _ _ l l' (zipApart_new hlt hlt'),⟨hz,hTI,⟨_,_,hTO⟩,hi1,hi2⟩,λb hb=>?_,q⟩;have hb':s1.heap.objs.size<=b:=by
     simp only[List.mem_cons,List.not_mem_nil,or_false]at hb;rcases hb with rfl|rfl|rfl|rfl|rfl<;>omega
    exact I1.fpOk hb' (I1.hok.fresh hb')
   .obtain⟨its,rv,p,hz⟩:=I1.tuple hq
    obtain⟨jts,rv',p',hz'⟩:=I1.tuple hq';refine Zt.call_tups p p' λh' hz hTI hTO hi1 hi2 hk=>?_;refine wpAny_pyIter_zip hz ?_;refine⟨s1.heap.objs.size+4,[s1.heap.objs.size+4,s1.heap.objs.size+2,s1.heap.objs.size+3,s1.heap.objs.size,s1.heap.objs.size+1],_,_,H1,rfl,I1.kept (t':=s1.toks) hk,Zt.turn_zipT _ _ _ _ _ l l' (zipApart_new p.lt p'.lt),⟨hz,hTI,⟨_,_,hTO⟩,hi1,hi2⟩,λb hb=>?_,q⟩;have hb':s1.heap.objs.size<=b:=by
     simp only[List.mem_cons,List.not_mem_nil,or_false]at hb;rcases hb with rfl|rfl|rfl|rfl|rfl<;>omega
    exact I1.fpOk hb' (I1.hok.fresh hb')
def kh(f g:cr):Ev->ak (ac):=λρ=>(f ρ).bind λd=>(g ρ).bind λe=>match d,e with
 |.lst ds,.lst es=>.ok (cz ds es)
 |.tup ds,.tup es=>.ok (cz ds es)
 |_,_=>.stuck
def AA{p pos:Pos}(hg:Gl X "zip")(hm:X.mg "zip"=none)(h:DE X E a f)(h':DE X E b g)(hn:Dq a=true:=by exact rfl)(hn':Dq b=true:=by exact rfl):DI X E (.Tuple elts k tp) (.Call (.Name "zip" p) [a,b] [] pos) (kh f g):=by
 refine⟨sU (yZ hg hm (bK h.o (bK h'.o dG (gW hn')) (aC hn)) (by rw[aC hn,gW hn']) (gW hn')) λσ H R z9=>?_⟩;obtain⟨Ha,ρ,hs,hr,q⟩:=z9;refine⟨Ha,ρ,hs,hr,?_⟩;unfold kh at q;cases e1:f ρ with
 |stuck|exn x=>rw[e1]at q;exact q
 |ok d=>
  rw[e1]at q;intro v H1 H01 g1 r1;refine⟨H01,ρ,g1.sub,hr.mono g1.z,?_⟩;replace q:match ((g ρ).bind λe=>match d,e with
   |.lst ds,.lst es=>ak.ok (cz ds es)
   |.tup ds,.tup es=>ak.ok (cz ds es)
   |_,_=>.stuck) with
    |.ok ds=>∀J H' Ha',br H Ha H' Ha'->Gq X.K ds J Ha'->R J H'
    |.exn x=>∀C ox H' Ha',br H Ha H' Ha'->qH X.K Ha' x C ox->E C ox H'
    |.stuck=>False:=q
  cases e2:g ρ with
  |stuck=>rw[e2]at q;exact q|exn x=>rw[e2]at q;exact λC ox H' Ha' g2=>q C ox H' Ha' (g1.trans g2)
  |ok d2=>
   rw[e2]at q;intro v2 H2 H02 g2 r2;cases d with
   |lst ds=>
    cases d2 with
    |lst es=>
     obtain⟨l,vs,rfl,hv,hrv⟩:=ay.mp (r1.mono g2.z);obtain⟨l',vs',rfl,hv',hrv'⟩:=ay.mp r2;refine⟨l,l',rfl,.inl ⟨⟨vs,az.sqL g2.sub hv⟩,⟨vs',az.sqL g2.sub hv'⟩,q _ H2 H02 (g1.trans g2) ⟨λi H' Ha' s1 s2 hi=>?_,λi H' Ha' x H2 d s1 s2 hd hy=>?_,λi H' Ha' s1 s2 hi=>?_⟩⟩⟩
     .rw[eU]at hi
      have h1:=hrv.length;have h2:=hrv'.length;exact⟨vs,vs',vs[i]'(by omega),vs'[i]'(by omega),az.sqL (s1.trans s2) hv,az.sqL (s1.trans s2) hv',by simp,by simp⟩
     .obtain⟨p,y,z,hp,rfl,hy,hz,rfl⟩:=hy
      obtain⟨d1,d2,k1,k2,rfl⟩:=i7 _ _ _ _ hd;obtain⟨u,m1,m2⟩:=hrv.get k1;obtain⟨u',m1',m2'⟩:=hrv'.get k2;have:=hy vs (az.sqL (s1.trans s2) hv);rw[m1]at this;cases this;have:=hz vs' (az.sqL (s1.trans s2) hv');rw[m1']at this;cases this;exact sG s2 hp (Reps.cons (m2.mono s1) (Reps.cons (m2'.mono s1) Reps.nil))
     .rw[eU]at hi
      have h1:=hrv.length;have h2:=hrv'.length;exact⟨vs,vs',az.sqL (s1.trans s2) hv,az.sqL (s1.trans s2) hv',by omega⟩
    |_=>exact q.elim
   |tup ds=>
    cases d2 with
    |tup es=>
     obtain⟨l,vs,rfl,hv,hrv⟩:=aG.mp (r1.mono g2.z);obtain⟨l',vs',rfl,hv',hrv'⟩:=aG.mp r2;refine⟨l,l',rfl,.inr ⟨⟨vs,az.sqT g2.sub hv⟩,⟨vs',az.sqT g2.sub hv'⟩,q _ H2 H02 (g1.trans g2) ⟨λi H' Ha' s1 s2 hi=>?_,λi H' Ha' x H2 d s1 s2 hd hy=>?_,λi H' Ha' s1 s2 hi=>?_⟩⟩⟩
     .rw[eU]at hi
      have h1:=hrv.length;have h2:=hrv'.length;exact⟨vs,vs',vs[i]'(by omega),vs'[i]'(by omega),az.sqT (s1.trans s2) hv,az.sqT (s1.trans s2) hv',by simp,by simp⟩
     .obtain⟨p,y,z,hp,rfl,hy,hz,rfl⟩:=hy
      obtain⟨d1,d2,k1,k2,rfl⟩:=i7 _ _ _ _ hd;obtain⟨u,m1,m2⟩:=hrv.get k1;obtain⟨u',m1',m2'⟩:=hrv'.get k2;have:=hy vs (az.sqT (s1.trans s2) hv);rw[m1]at this;cases this;have:=hz vs' (az.sqT (s1.trans s2) hv');rw[m1']at this;cases this;exact sG s2 hp (Reps.cons (m2.mono s1) (Reps.cons (m2'.mono s1) Reps.nil))
     .rw[eU]at hi
      have h1:=hrv.length;have h2:=hrv'.length;exact⟨vs,vs',az.sqT (s1.trans s2) hv,az.sqT (s1.trans s2) hv',by omega⟩
    |_=>exact q.elim
   |_=>exact q.elim
end
def yH(n:Nat)(a:Addr)(ds:ac):Ev:=ds.map Sl.sh++(Sl.pt a::List.replicate (n-ds.length-1) .no)
def lI(n:Nat)(s:db)(a:Addr)(ds:ac):ak D:=(s (yH n a ds)).bind wC
def vH(K:W.Frag)(n:Nat)(a:Addr)(m:ac->ak D):Sp:=λvs H Q E=>vs.length=n+1/\∃Ha ds us,vs=us++[.ref a]/\az Ha H/\Reps K Ha ds us/\Ba K E H Ha (m ds) Q
def lE{n:Nat}{a:Addr}{ds:ac}{i:Nat}{s:Sl}(e:(yH n a ds)[i]?=some s):(∃d,ds[i]?=some d/\s=.sh d)∨(i=ds.length/\s=.pt a)∨s=.no:=by
 unfold yH at e
 by_cases hi:i<ds.length
 .rw[List.getElem?_append_left (by simpa using hi),List.getElem?_map]at e
  cases q:ds[i]? with|none=>rw[q]at e;cases e|some d=>rw[q]at e;cases e;exact .inl ⟨d,rfl,rfl⟩
 .rw[List.getElem?_append_right (by simpa using hi),List.length_map]at e
  cases h:i-ds.length with
  |zero=>rw[h]at e;cases e;exact .inr (.inl ⟨by omega,rfl⟩)
  |succ k=>
   rw[h,List.getElem?_cons_succ]at e;exact .inr (.inr (List.eq_of_mem_replicate (List.mem_of_getElem? e)))
def oh{P:Program}{w:World}{K:W.Frag}{mg:Str->Option Value}{base:Heap}{x qual:Str}{st:Stmt}{f a:Addr}{fd:FuncData}{N ps:List Str}{k n:Nat}{s:db}(F:ym K x qual st f fd)(S:eA N ps (defScope st))(hn1:ps.length=n+1)
  (hbody:∀(cdv:Value) (A:Around) (outer:List PySem.Env) (s0:Shared) (H Ha:Hp) (E:XK),cn k (A.deeper (envOfC qual (defScope st) s0.heap.objs.size f cdv)) ->
   kR (dU (gQ P w) P w K mg base N qual (defScope st) f cdv A outer s0 H E) E H Ha (defBody st) s):FnOk P w K mg base (gQ P w) (k+1) f fd ps (vH K n a (lI N.length s a)):=by
 have hpl:ps.length<=N.length:=by have:=congrArg List.length S.pre;rw[List.length_take]at this;omega
 obtain⟨oc,od,kV,doc,pm,an,cdv,ct,osl,rfl,lk,hcd⟩:=F.ex;refine tu lk hcd S (λvs H Q E h=>by rw[h.1,hn1]) λA outer s0 H vs Q E hr h=>?_;obtain⟨hn,Ha,ds,us,rfl,hs,hv,q⟩:=h;have hl:=hv.length;rw[List.length_append,List.length_singleton]at hn;have at_us:∀(i:Nat) (v:V),us[i]?=some v->(start N (us++[.ref a]))[i]?=some (some v):=λi v e=>by
  unfold L2.start;have hi:=(List.getElem?_eq_some_iff.mp e).1;rw[List.getElem?_append_left (by simp;omega),List.getElem?_map,List.getElem?_append_left hi,e];rfl
 have at_a:(start N (us++[.ref a]))[us.length]?=some (some (.ref a)):=by
  unfold L2.start;rw[List.getElem?_append_left (by simp),List.getElem?_map,List.getElem?_append_right (by omega)];simp
 refine⟨_,(hbody cdv A outer s0 H Ha E hr).o,Ha,yH N.length a ds,?_,?_⟩
 .refine⟨br.refl hs,λi d e=>?_,λi d e=>?_,λi j d d' hij e=>?_,?_,OX.none (λi j es e=>?_) λi b e=>?_⟩
  .rcases lE e with⟨d',e1,e2⟩|⟨_,e2⟩|e2
   .cases e2
    obtain⟨v,h1,h2⟩:=hv.get e1;exact⟨v,at_us i v h1,h2⟩
   .cases e2
   .cases e2
  .rcases lE e with⟨d',e1,e2⟩|⟨_,e2⟩|e2<;>cases e2
  .rcases lE e with⟨d',e1,e2⟩|⟨_,e2⟩|e2<;>cases e2
  .unfold L2.start yH
   simp only[List.length_append,List.length_map,List.length_replicate,List.length_cons,List.length_nil];omega
  .rcases lE e with⟨d',e1,e2⟩|⟨_,e2⟩|e2<;>cases e2
  .rcases lE e with⟨d',e1,e2⟩|⟨e1,e2⟩|e2
   .cases e2
   .cases e2;rw[e1,hl];exact at_a
   .cases e2
 .unfold lI at q
  cases e1:s (yH N.length a ds) with
  |stuck|exn x=>rw[e1]at q;exact q
  |ok r=>
   rw[e1]at q;cases r with
   |rt d=>
    cases d with|lst es=>exact λp us H' Ha' g hp h0 hv' rr=>q p us H' Ha' g hp h0 hv' rr| _=>exact q.elim
   |_=>exact q.elim
def F8{P:Program}{w:World}{K:W.Frag}{mg:Str->Option Value}{base:Heap}{rows:List Rw}{A:Nat->Addr}{Q:Nat->FuncData}{i k n:Nat}{a:Addr}{r:Rw}{s:db}(T:TG rows K mg A Q)(S:FA rows)(h:rows[i]?=some r)(hn:r.ps.length=n+1)
  (b:∀(cdv:Value) (A':Around) (outer:List PySem.Env) (s0:Shared) (H Ha:Hp) (E:XK),cn k (A'.deeper (envOfC r.x (defScope r.st) s0.heap.objs.size (A i) cdv)) ->
   kR (dU (gQ P w) P w K mg base r.N r.x (defScope r.st) (A i) cdv A' outer s0 H E) E H Ha (defBody r.st) s):eM P w K mg base (gQ P w) (k+1) (A i) (Q i) r.ps (vH K n a (lI r.N.length s a)) r.x r.st :=
 ⟨oh (T i r h).F (S r (List.mem_of_getElem? h)) hn b,T i r h⟩
def xG{X:Cx}{E:XK}{He H0e:Hp}{st:List Stmt}{s:db}(i:Nat)(h:kR X E He H0e st s):kR X E He H0e st (BG i s):=⟨fX h.o λD' σ H z9=>by
 obtain⟨Ha,ρ,hr,q⟩:=z9;obtain⟨Ha',z,hr'⟩:=hr.unown i;exact⟨Ha',DL.unown i ρ,hr',q⟩⟩
section
variable {X:Cx}{E:XK}{He H0e:Hp}{e:Expr}{es:List Expr}{f:cr}{fa:Ev->ak (ac)}{pos:Pos}{a:Addr}{j:Nat}
structure Fu (X:Cx) (E:XK) (a:Addr) (es:List Expr) (fa:Ev->ak (ac)):Prop where
 o:PA X es λσ H Q=>∃Ha ρ,az Ha H/\dA X.K Ha σ ρ/\iW X.K E H Ha (fa ρ) λvs H'=>Q (vs++[.ref a]) H'
def tN{g:Str}{p:Pos}(hg:Gl X g)(hm:X.mg g=some (.ref a))(hdb:(g==("__debug__":Str))=false:=by decide):Fu X E a [.Name g p] ax :=
 ⟨iF (bK (nV (v:=.ref a) hg hm rfl hdb) dG (aC rfl)) λσ H Q ⟨Ha,ρ,hs,hr,q⟩=>q [] H Ha (br.refl hs) Reps.nil⟩
def gh(ha:DE X E e f)(hr:Fu X E a es fa)(hs:starEach (e::es) X.env=(false,eval e X.env)::starEach es X.env:=by exact aC rfl):Fu X E a (e::es) (aa f fa):=by
 refine⟨?_⟩;refine iF (bK ha.o hr.o hs) λσ H Q z9=>?_;obtain⟨Ha,ρ,hs,hr,q⟩:=z9;refine⟨Ha,ρ,hs,hr,?_⟩
 unfold aa at q;cases e1:f ρ with
 |stuck|exn x=>rw[e1]at q;exact q
 |ok x=>
  rw[e1]at q;intro v H1 H01 g1 r1;refine⟨H01,ρ,g1.sub,hr.mono g1.z,?_⟩;replace q:iW X.K E H Ha ((fa ρ).bind λxs=>.ok (x::xs)) λvs H'=>Q (vs++[.ref a]) H':=q;replace q:=q.grow g1;cases e2:fa ρ with
  |stuck|exn x=>rw[e2]at q;exact q
  |ok xs=>
   rw[e2]at q;intro us H2 H02 g2 r2;exact q (v::us) H2 H02 g2 (Reps.cons (r1.mono g2.z) r2)
def xN{CX:ke}{k n:Nat}{fn:Addr}{fd:FuncData}{ps:List Str}{m:ac->ak D}{x:Str}{p:Pos}(F:FnOk X.prog X.w X.K X.mg X.base CX k fn fd ps (vH X.K n a m))(hr:cn k X.A)(hg:Gl X x)(hm:X.mg x=some (.ref fn))
  (hk:W.keepIn X.K (.ref fn)=true)(hb:iA X.K fd ps [])(hx:eY CX X E)(ha:Fu X E a (e::es) fa)(hl:∀ρ ds,fa ρ=.ok ds->ds.length=n)
  (hdb:(x==("__debug__":Str))=false:=by decide)(he:starEach (e::es) X.env=(false,eval e X.env)::starEach es X.env:=by exact aC rfl)(hpl:(backTo pos (starEach es X.env)).any (·.1)=false:=by exact bg rfl) :
  DF X E (.Call (.Name x p) (e::es) [] pos) (aj fa m):=by
 refine⟨?_⟩;refine aQ (nW F hr hg hm hk hb .nil hx ha.o hdb he hpl) λσ H Q h=>?_;obtain⟨Ha,ρ,hs,hr,q⟩:=h;refine⟨Ha,ρ,hs,hr,?_⟩;unfold aj at q;cases e1:fa ρ with
 |stuck|exn x=>rw[e1]at q;exact q
 |ok ds=>
  rw[e1]at q;intro v H1 H01 g1 r1;refine⟨?_,H01,ds,v,by simp,g1.sub,r1,?_⟩
  .have:=r1.length
   have:=hl ρ ds e1;simp;omega
  .replace q:match m ds with
    |.ok (.lst es)=>∀p vs H' Ha',br H Ha H' Ha'->H p=none->Ha' p=none->H' p=some (.lst vs)->Reps X.K Ha' es vs->Q (.ref p) H'
    |.ok _=>False
    |.exn x=>∀C ox H' Ha',br H Ha H' Ha'->qH X.K Ha' x C ox->E C ox H'
    |.stuck=>False:=q
   cases e2:m ds with
   |stuck=>rw[e2]at q;exact q|exn y=>rw[e2]at q;exact λC ox H' Ha' g=>q C ox H' Ha' (g1.trans g)
   |ok d=>
    rw[e2]at q;cases d with|lst es=>exact λp us H' Ha' g hp=>q p us H' Ha' (g1.trans g) (g1.s.free hp)| _=>exact q.elim
def GA{CX:ke}{k k0 n:Nat}{fn:Addr}{fd:FuncData}{ps:List Str}{m:ac->ak D}{x:Str}{st:Stmt}{p:Pos}(B:eM X.prog X.w X.K X.mg X.base CX k0 fn fd ps (vH X.K n a m) x st)(hr:cn k X.A)(ha:Fu X E a (e::es) fa)(hl:∀ρ ds,fa ρ=.ok ds->ds.length=n)(hle:k0<=k:=by decide)(hx:eY CX X E:=by first|exact sX|exact pass0E|exact kX)
  (hg:Gl X x:=by exact rfl)(hdb:(x==("__debug__":Str))=false:=by decide)(he:starEach (e::es) X.env=(false,eval e X.env)::starEach es X.env:=by exact aC rfl)(hpl:(backTo pos (starEach es X.env)).any (·.1)=false:=by exact bg rfl) :
  DF X E (.Call (.Name x p) (e::es) [] pos) (aj fa m):=xN (B.F.mono hle) hr hg B.t.g B.t.F.kp B.t.b hx ha hl hdb he hpl
open Classical in
noncomputable def vc(m:Addr->ac->ak D) (ds:ac):ak D:=if h:∃r,∀a,m a ds=r then h.choose else .stuck
def jL{m:Addr->ac->ak D}{ds:ac}{r:ak D}(h:∀a,m a ds=r):vc m ds=r:=by
 unfold vc;have e:∃r,∀a,m a ds=r:=⟨r,h⟩
 rw[dif_pos e,←e.choose_spec 0];exact h 0
def xO{m:Addr->ac->ak D}(h:DF X E e (aj fa (m a))):DF X E e (aj fa (vc m)):=⟨aQ h.o λσ H Q ⟨Ha,ρ,hs,hr,q⟩=>⟨Ha,ρ,hs,hr,by
 unfold aj at q ⊢;cases e1:fa ρ with
 |stuck|exn x=>rw[e1]at q;exact q
 |ok ds=>
  rw[e1]at q
  by_cases c:∃r,∀a,m a ds=r
  .obtain⟨r,hr⟩:=c
   have q1:=q;simp only[ak.bind]at q1 ⊢;rw[jL hr]at q1;rw[hr a];exact q1
  .simp only[ak.bind]at q
   unfold vc at q;rw[dif_neg c]at q;exact q.elim⟩⟩
structure Fs (X:Cx) (E:XK) (j:Nat) (a:Addr) (e:Expr) (f:cr):Prop where
 o:PE X e λσ H Q=>∃Ha ρ,az Ha H/\dA X.K Ha σ ρ/\σ[j]?=some (some (.ref a))/\post X.K E H Ha (f ρ) Q
structure Ft (X:Cx) (E:XK) (j:Nat) (a:Addr) (es:List Expr) (fa:Ev->ak (ac)):Prop where
 o:PA X es λσ H Q=>∃Ha ρ,az Ha H/\dA X.K Ha σ ρ/\σ[j]?=some (some (.ref a))/\iW X.K E H Ha (fa ρ) Q
def rS(h:DE X E e f):Fs X E j a e f:=⟨aQ h.o λσ H Q ⟨Ha,ρ,hs,hr,_,q⟩=>⟨Ha,ρ,hs,hr,q⟩⟩
def tM:Ft X E j a [] ax:=⟨iF dG λσ H Q ⟨Ha,ρ,hs,hr,_,q⟩=>q [] H Ha (br.refl hs) Reps.nil⟩
def jG(ha:Fs X E j a e f)(hr:Ft X E j a es fa)(hs:starEach (e::es) X.env=(false,eval e X.env)::starEach es X.env:=by exact aC rfl):Ft X E j a (e::es) (aa f fa):=by
 refine⟨?_⟩;refine iF (bK ha.o hr.o hs) λσ H Q z9=>?_;obtain⟨Ha,ρ,hs,hr,hj,q⟩:=z9;refine⟨Ha,ρ,hs,hr,hj,?_⟩
 unfold aa at q;cases e1:f ρ with
 |stuck|exn x=>rw[e1]at q;exact q
 |ok x=>
  rw[e1]at q;intro v H1 H01 g1 r1;refine⟨H01,ρ,g1.sub,hr.mono g1.z,hj,?_⟩;replace q:iW X.K E H Ha ((fa ρ).bind λxs=>.ok (x::xs)) Q:=q;replace q:=q.grow g1;cases e2:fa ρ with
  |stuck|exn x=>rw[e2]at q;exact q
  |ok xs=>
   rw[e2]at q;intro us H2 H02 g2 r2;exact q (v::us) H2 H02 g2 (Reps.cons (r1.mono g2.z) r2)
def AD{x1}(h:Ft X E j a es fa):Fs X E j a (.Tuple es x1 pos) (aj fa cb):=by
 refine⟨aQ (nU h.o) λσ H Q z9=>?_⟩;obtain⟨Ha,ρ,hs,hr,hj,q⟩:=z9;refine⟨Ha,ρ,hs,hr,hj,?_⟩;unfold aj at q;cases e1:fa ρ with
 |stuck|exn x=>rw[e1]at q;exact q
 |ok ds=>
  rw[e1]at q;intro vs H1 H01 g1 r1;replace q:post X.K E H Ha (cb ds) Q:=q;unfold cb at q
  by_cases hl:ds.length<=line
  .rw[if_pos hl]at q
   exact⟨by rw[←r1.length];exact cX hl,λp hp=>q _ _ _ (g1.trans (aI g1.sub hp)) (aG.mpr ⟨p,vs,rfl,gk.of aJ,r1.mono (aI g1.sub hp).z⟩)⟩
  .rw[if_neg hl]at q;exact q.elim
def xP{CX:ke}{k k0 n:Nat}{fd:FuncData}{ps:List Str}{m:ac->ak D}{x y:Str}{st:Stmt}{p:Pos}(B:eM X.prog X.w X.K X.mg X.base CX k0 a fd ps (spD X.K n m) x st)(hr:cn k X.A)(hN:X.N[j]?=some y)(hv:vj X.env.scope y)(ha:Ft X E j a (e::es) fa)(hl:∀ρ ds,fa ρ=.ok ds->ds.length=n)(hle:k0<=k:=by decide)(hx:eY CX X E:=by first|exact sX|exact pass0E|exact kX)
  (hd:(y==("__debug__":Str))=false:=by decide)(hcd:(y==("__classdict__":Str))=false:=by decide)(he:starEach (e::es) X.env=(false,eval e X.env)::starEach es X.env:=by exact aC rfl)(hpl:(backTo pos (starEach es X.env)).any (·.1)=false:=by exact bg rfl) :
  Fs X E j a (.Call (.Name y p) (e::es) [] pos) (aj fa m):=by
 refine⟨λpins s σ H Q I h=>?_⟩;obtain⟨Ha,ρ,hs,hr',hj,q⟩:=h;refine wpAny_Call_Name_kw (cG (g0 hN hv hd hcd pins s σ H (λv H1=>v=.ref a/\H1=H) I ⟨.ref a,hj,rfl,rfl⟩) λu s1 ⟨v,H1,I1,r,ev,eh⟩=>?_);subst ev eh;obtain rfl:u=Value.ref a:=r;refine W.callWith_K (h₀:=X.base) I.ok.mod.kin B.t.F.kp (cG (ha.o pos pins s1 σ H1 (λvs H2=>spD X.K n m (vs++[]) H2 Q E) I1 ⟨Ha,ρ,hs,hr',hj,?_⟩) λus s2 ⟨vs,H2,I2,r,q⟩=>⟨I2.kIn,vS (dvs:=[]) (B.F.mono hle) hr B.t.b .nil hx I2 r q⟩) he hpl;unfold aj at q;cases e1:fa ρ with
 |stuck|exn x=>rw[e1]at q;exact q
 |ok ds=>
  rw[e1]at q;intro vs H1 H01 g1 r1;refine⟨?_,H01,ds,g1.sub,by simpa using r1,post.grow (r:=m ds) q g1⟩;have:=r1.length;have:=hl ρ ds e1;simp only[List.append_nil];omega
def fW(i j:Nat)(a:Addr)(f:cr):db:=λρ=>match ρ[j]? with
 |some (.pt b)=>if b=a then bE i f ρ else .stuck
 |_=>.stuck
def rR{i:Nat}{x:Str}{p1 p2 p3:Pos}(hN:X.N[i]?=some x)(hv:vj X.env.scope x)(he:Fs X E j a e f)
  (hd:(x==("__debug__":Str))=false:=by decide)(hcd:(x==("__classdict__":Str))=false:=by decide)
  (hbase:attributeBase (.Name x p1) "append" X.env (eval (.Name x p1) X.env)=eval (.Name x p1) X.env:=by rfl)
  (hfew:((backTo p3 (starEach [e] X.env)).all (λx=>!x.1)&&(backToKw p3 (keywordEach [] X.env)).all (λx=>x.1.isSome)
  &&decide ([e].length+([]:List Keyword).length+(if([]:List Keyword).isEmpty then 0 else 1)<30))=true:=by exact qc rfl)
  (hline:(p2.endLine==p3.line)=true:=by rfl) (hs:starEach [e] X.env=(false,eval e X.env)::starEach [] X.env:=by exact aC rfl) (hplain:(backTo p3 (starEach [] X.env)).any (·.1)=false:=by exact bg rfl)
  (hw:swapsWith (.Call (.Attribute (.Name x p1) "append" p2) [e] [] p3) none pos.line X.env=pure false:=by rfl) :
  DS X E He H0e (.Expr (.Call (.Attribute (.Name x p1) "append" p2) [e] [] p3) pos) (fW i j a f):=by
 refine⟨?_⟩;refine cf (kW (Bd PySem.F.plainAttrs_list PySem.F.slot_list_append PySem.F.type_list_append jX (g0 hN hv hd hcd) (bK he.o dG hs) hbase hfew hline hs hplain) hw) λD σ H ⟨Ha,ρ,h,q⟩=>?_;unfold fW at q;cases ej:ρ[j]? with
 |none=>rw[ej]at q;exact q.elim
 |some s=>
  rw[ej]at q;cases s with
  |pt b=>
   replace q:b9 X.K E He H0e Ha (if b=a then bE i f ρ else .stuck) D:=q
   by_cases hb:b=a
   .subst hb
    rw[if_pos rfl]at q;obtain⟨ds,p,vs,e1,e2,e3,e4,e5,e6,q⟩:=jv h q;refine⟨.ref p,e2,.inl ⟨rfl,vs,dF.of e5⟩,?_⟩;refine⟨Ha,ρ,h.g.sub,h.rd,h.ex.2 j b ej,plain h q λd v H' Ha' _ g rp q'=>?_⟩
    by_cases hl:ds.length<line
    .rw[if_pos hl]at q'
     have e5':H' p=some (.lst vs):=g.s _ _ e5;refine⟨p,vs,v,rfl,rfl,e5',by rw[←e6.length];exact Nat.lt_of_lt_of_le hl (by decide),?_⟩;exact q' σ _ Ha' (az.refl _) ((h.grow g).write e1 e2 ((e6.mono g.z).app (Reps.cons rp Reps.nil)))
    .rw[if_neg hl]at q';exact q'.elim
   .rw[if_neg hb]at q;exact q.elim
  |_=>exact q.elim
end
end DL
namespace Zt
open PySem PySem.Spec PyProof.Rows
abbrev fJ(h:Heap)(z ti tO T:Addr)(f:Bool):Prop:=h.get? z=some { cls:=.type "zip",dict:=none,data:=.fields #[rawInt T,.bool f,.bool false,.ref ti,.ref tO],slots:=#[] }
section
variable {P:Program}{w:World}{A:Around}{E:Value->Shared->Prop}{s:Shared}{z ti tO i j l m T:Addr}{k:Nat}{xs ys:Array Value}{S S':Nat->Heap->Prop}{x y a b:Value}{f:Bool}{oT:Obj}
def p0{Q:Bool->Shared->Prop}(hz:fJ s.heap z ti tO T f)(hT:s.heap.get? T=some oT)(hq:∀h',fJ h' z ti tO T true->Heap.SameBut z s.heap h'->Q false { s with heap:=h' }) :
  wpAny (model P w) A (Builtin.SmallTypes.ownedTupleIsFree (.ref z)) Q E s:=by
 unfold Builtin.SmallTypes.ownedTupleIsFree;refine wpAny_bind (wpAny_field hz rfl (x:=rawInt T) rfl ?_);show wpAny _ _ (loadIfAlive ((T:Int).toNat) >>= _) _ _ _;rw[Int.toNat_natCast];refine wpAny_bind (W.kdx_alive hT ?_);simp only[Option.isNone_some,Bool.false_eq_true,if_false];refine wpAny_bind (wpAny_field hz rfl (x:=.bool f) rfl ?_);cases f with|true=>rw[if_neg (show ¬((Value.bool true != Value.bool true)=true) from Bool.false_ne_true)];exact wpAny_pure (hq _ hz (Heap.SameBut.refl _ _))|false=>rw[if_pos (show(Value.bool false != Value.bool true)=true from rfl)];exact wpAny_bind (wpAny_setField_rec hz (by simp) λh₅ he₅ hs₅=>wpAny_pure (hq h₅ he₅ hs₅))
def uf(D:ZipApart z ti tO i j l m)(I:iS P w i l xs S)(J:iS P w j m ys S'){Q:Value->Shared->Prop}
  (hz:fJ s.heap z ti tO T f)(hT:s.heap.get? T=some oT)(hti:IsPair s.heap ti (.ref i) (.ref j))(h1:S k s.heap)(h2:S' k s.heap)(hx:xs[k]?=some x)(hy:ys[k]?=some y)
  (hq:∀h',fJ h' z ti tO T true->S (k+1) h'->S' (k+1) h'->IsPair h' s.heap.objs.size x y->h'.objs.size=s.heap.objs.size+1 ->
   (∀c o,c≠z->c≠i->c≠j->s.heap.get? c=some o->h'.get? c=some o)->Q (.ref s.heap.objs.size) { s with heap:=h' }) :
  wpAny (model P w) A (Builtin.«zip.__next__» ⟨[.ref z],[]⟩) (λfin s'=>∃v,fin=.done (.ret v)/\Q v s') E s:=by
 have off:∀{k:Nat}{u u':Heap}{c:Addr},S k u->Heap.ExtBut c u u'->i≠c->l≠c->S k u':=λst e n1 n2=>I.stay st λd o hd g=>e d o (nn hd n1 n2) g;have off':∀{k:Nat}{u u':Heap}{c:Addr},S' k u->Heap.ExtBut c u u'->j≠c->m≠c->S' k u':=λst e n1 n2=>J.stay st λd o hd g=>e d o (nn hd n1 n2) g;show wpAny _ _ (field (.ref z) 2 >>= _) _ _ _;refine wpAny_bind (wpAny_field hz rfl (x:=.bool false) rfl ?_);show wpAny _ _ (field (.ref z) 3 >>= _) _ _ _;refine wpAny_bind (wpAny_field hz rfl (x:=.ref ti) rfl (wpAny_bind (wpAny_seqItems hti rfl ?_)));show wpAny _ _ (Builtin.SmallTypes.ownedTupleIsFree (.ref z) >>= _) _ _ _;refine wpAny_bind (p0 hz hT λu1 z1 e1=>?_);simp only[Bool.false_eq_true,if_false];refine wpAny_bind ?_;rw[←Array.forIn_toList];simp only[List.forIn_cons,List.forIn_nil];refine wpAny_bind (wpAny_bind (wpAny_holding ?_));show wpAny _ _ (Builtin.SmallTypes.nextOf (.ref i) >>= _) _ _ _;refine wpAny_bind (I.draw (off h1 e1.extBut D.i1z D.l1z) hx λu2 n2 e2=>wpAny_pure (wpAny_pure ?_));refine wpAny_bind (wpAny_bind (wpAny_holding ?_));show wpAny _ _ (Builtin.SmallTypes.nextOf (.ref j) >>= _) _ _ _;refine wpAny_bind (J.draw (off' (off' h2 e1.extBut D.i2z D.l2z) e2.extBut D.i12.symm D.l2i1) hy λu3 n3 e3=>wpAny_pure (wpAny_pure (wpAny_pure ?_)));refine wpAny_bind (wpAny_newTuple (hsz:=show 2<=sizeLine by decide) (wpAny_pure ⟨_,rfl,?_⟩));have sz:u3.objs.size=s.heap.objs.size:=by rw[e3.1,e2.1,e1.1]
 have z3:fJ u3 z ti tO T true:=e3.extBut _ _ D.i2z.symm (e2.extBut _ _ D.i1z.symm z1);have s3:S (k+1) u3:=off n2 e3.extBut D.i12 D.l1i2;show Q (.ref u3.objs.size) _;have tt:(u3.push { cls:=.type "tuple",data:=.seq #[x,y] }).get? s.heap.objs.size=some { cls:=.type "tuple",data:=.seq #[x,y] }:=by rw[←sz];exact Heap.get?_push_size _ rfl
 rw[sz];exact hq _ (Heap.get?_push_of_some _ z3) (I.stay s3 λc o _ g=>Heap.get?_push_of_some _ g) (J.stay n3 λc o _ g=>Heap.get?_push_of_some _ g) tt (by rw[Heap.size_push,sz])
  λc o c1 c2 c3 g=>Heap.get?_push_of_some _ (e3.extBut _ _ c3 (e2.extBut _ _ c2 (e1.extBut _ _ c1 g)))
def ud(D:ZipApart z ti tO i j l m)(I:iS P w i l xs S)(J:iS P w j m ys S'){Q:Fin->Shared->Prop}(hA:A.handled=none)
  (hz:fJ s.heap z ti tO T f)(hT:s.heap.get? T=some oT)(hti:IsPair s.heap ti (.ref i) (.ref j))(h1:S k s.heap)(h2:S' k s.heap)(hend:xs[k]?=none∨ys[k]?=none)
  (hE:∀h' e,(∀c o,c≠z->c≠i->c≠j->s.heap.get? c=some o->h'.get? c=some o)->(∃o,h'.get? e=some o/\o.cls=.type "StopIteration")->E (.ref e) { s with heap:=h' }) :
  wpAny (model P w) A (Builtin.«zip.__next__» ⟨[.ref z],[]⟩) Q E s:=by
 have off:∀{k:Nat}{u u':Heap}{c:Addr},S k u->Heap.ExtBut c u u'->i≠c->l≠c->S k u':=λst e n1 n2=>I.stay st λd o hd g=>e d o (nn hd n1 n2) g;have off':∀{k:Nat}{u u':Heap}{c:Addr},S' k u->Heap.ExtBut c u u'->j≠c->m≠c->S' k u':=λst e n1 n2=>J.stay st λd o hd g=>e d o (nn hd n1 n2) g;show wpAny _ _ (field (.ref z) 2 >>= _) _ _ _;refine wpAny_bind (wpAny_field hz rfl (x:=.bool false) rfl ?_);show wpAny _ _ (field (.ref z) 3 >>= _) _ _ _;refine wpAny_bind (wpAny_field hz rfl (x:=.ref ti) rfl (wpAny_bind (wpAny_seqItems hti rfl ?_)));show wpAny _ _ (Builtin.SmallTypes.ownedTupleIsFree (.ref z) >>= _) _ _ _;refine wpAny_bind (p0 hz hT λu1 z1 e1=>?_);simp only[Bool.false_eq_true,if_false];refine wpAny_bind ?_;rw[←Array.forIn_toList];simp only[List.forIn_cons,List.forIn_nil];refine wpAny_bind (wpAny_bind (wpAny_holding ?_));show wpAny _ _ (Builtin.SmallTypes.nextOf (.ref i) >>= _) _ _ _;cases hx:xs[k]? with
 |none=>exact wpAny_bind (I.over hA (off h1 e1.extBut D.i1z D.l1z) hx λu2 e e2 he=>hE u2 e (λc o c1 c3 _ g=>e2 _ _ c3 (e1.extBut _ _ c1 g)) he)
 |some x=>
  have hy:ys[k]?=none:=by rcases hend with q|q;rw[hx]at q;cases q;exact q
  refine wpAny_bind (I.draw (off h1 e1.extBut D.i1z D.l1z) hx λu2 n2 e2=>wpAny_pure (wpAny_pure ?_));refine wpAny_bind (wpAny_bind (wpAny_holding ?_));show wpAny _ _ (Builtin.SmallTypes.nextOf (.ref j) >>= _) _ _ _;exact wpAny_bind (J.over hA (off' (off' h2 e1.extBut D.i2z D.l2z) e2.extBut D.i12.symm D.l2i1) hy λu3 e e3 he=>hE u3 e (λc o c1 c2 c3 g=>e3 _ _ c3 (e2.extBut _ _ c2 (e1.extBut _ _ c1 g))) he)
def rh(D:ZipApart z ti tO i j l m)(I:iS P w i l xs S)(J:iS P w j m ys S'){Q:Option Value->Shared->Prop}
  (hz:fJ s.heap z ti tO T f)(hT:s.heap.get? T=some oT)(hti:IsPair s.heap ti (.ref i) (.ref j))(h1:S k s.heap)(h2:S' k s.heap)(hx:xs[k]?=some x)(hy:ys[k]?=some y)
  (hq:∀h',fJ h' z ti tO T true->S (k+1) h'->S' (k+1) h'->IsPair h' s.heap.objs.size x y->h'.objs.size=s.heap.objs.size+1 ->
   (∀c o,c≠z->c≠i->c≠j->s.heap.get? c=some o->h'.get? c=some o)->Q (some (.ref s.heap.objs.size)) { s with heap:=h' }):wpAny (model P w) A (pyNext (.ref z)) Q E s:=by
 have ty:s.TypeIs (.ref z) "zip":=⟨_,hz,rfl⟩
 unfold pyNext;exact wpAny_bind (wpAny_attempt (wpAny_callSpecial?_slot (name:=Str.ofString "__next__") ty F.slot_zip_next (wpAny_call_entry F.slot_zip_next ty F.entry_zip_next
  (uf D I J hz hT hti h1 h2 hx hy λh' b1 b2 b3 b4 b5 b6=>wpAny_pure (hq h' b1 b2 b3 b4 b5 b6)) (F.args_zip_next_1 _))))
def rg(D:ZipApart z ti tO i j l m)(I:iS P w i l xs S)(J:iS P w j m ys S'){Q:Option Value->Shared->Prop}(hA:A.handled=none)
  (hz:fJ s.heap z ti tO T f)(hT:s.heap.get? T=some oT)(hti:IsPair s.heap ti (.ref i) (.ref j))(h1:S k s.heap)(h2:S' k s.heap)(hend:xs[k]?=none∨ys[k]?=none)
  (hq:∀h',(∀c o,c≠z->c≠i->c≠j->s.heap.get? c=some o->h'.get? c=some o)->Q none { s with heap:=h' }):wpAny (model P w) A (pyNext (.ref z)) Q E s:=by
 have ty:s.TypeIs (.ref z) "zip":=⟨_,hz,rfl⟩
 unfold pyNext;refine wpAny_bind (wpAny_attempt (wpAny_callSpecial?_slot (name:=Str.ofString "__next__") ty F.slot_zip_next (wpAny_call_entry F.slot_zip_next ty F.entry_zip_next (ud D I J hA hz hT hti h1 h2 hend λh' e kp ⟨o,go,co⟩=>?_) (F.args_zip_next_1 _))));exact wpAny_bind (wpAny_isInstance (T:="StopIteration") (b:=true) ⟨o,go,co⟩ isSubtype_stop (wpAny_pure (hq _ kp)))
def Told(B:Addr)(h:Heap)(xs ys:Array Value)(acc:Array Value):Prop:=∀(c:Nat) (v:Value),acc[c]?=some v->∃x y,v=.ref (B+c)/\xs[c]?=some x/\ys[c]?=some y/\IsPair h (B+c) x y
def At(B:Addr)(h:Heap)(z ti tO:Addr):Prop:=(IsZip h z ti tO .none/\∃a b,IsPair h tO a b)∨∃T f o,fJ h z ti tO T f/\h.get? T=some o/\B<=T
def Told.to{B:Addr}{h h':Heap}{acc:Array Value}(t:Told B h xs ys acc)(kp:∀c o,B<=c->h.get? c=some o->h'.get? c=some o):Told B h' xs ys acc:=λc v e=>by
 obtain⟨x,y,h1,h3,h4,h5⟩:=t c v e;exact⟨x,y,h1,h3,h4,kp _ _ (Nat.le_add_right _ _) h5⟩
def wJ{a b B:Addr}(h1:a<B)(h2:B<=b):b≠a:=Nat.ne_of_gt (Nat.lt_of_lt_of_le h1 h2)
def wL{B:Addr}(D:ZipApart z ti tO i j l m)(I:iS P w i l xs S)(J:iS P w j m ys S')(bz:z<B)(bi:i<B)(bj:j<B){Q:Option Value->Shared->Prop}(hB:B<=s.heap.objs.size)
  (hz:At B s.heap z ti tO)(hti:IsPair s.heap ti (.ref i) (.ref j))(h1:S k s.heap)(h2:S' k s.heap)(hx:xs[k]?=some x)(hy:ys[k]?=some y)
  (hq:∀h',At B h' z ti tO->S (k+1) h'->S' (k+1) h'->IsPair h' s.heap.objs.size x y->h'.objs.size=s.heap.objs.size+1 ->
   (∀c o,c≠z->c≠tO->c≠i->c≠j->s.heap.get? c=some o->h'.get? c=some o)->Q (some (.ref s.heap.objs.size)) { s with heap:=h' }):wpAny (model P w) A (pyNext (.ref z)) Q E s:=by
 rcases hz with⟨hz,a,b,ho⟩|⟨T,f,o,hz,hT,bT⟩
 .exact mZ D I J hz hti ho h1 h2 hx hy λh' b1 b2 b3 b4 b5 b6 b7=>hq h' (.inr ⟨s.heap.objs.size,false,_,b1,b5,hB⟩) b3 b4 b5 b6 b7
 .refine rh D I J hz hT hti h1 h2 hx hy λh' b1 b2 b3 b4 b5 b6=>hq h' (.inr ⟨T,true,o,b1,b6 _ _ ?_ ?_ ?_ hT,bT⟩) b2 b3 b4 b5 λc o c1 _ c3 c4 g=>b6 c o c1 c3 c4 g
  .exact Nat.ne_of_gt (Nat.lt_of_lt_of_le bz bT)
  .exact Nat.ne_of_gt (Nat.lt_of_lt_of_le bi bT)
  .exact Nat.ne_of_gt (Nat.lt_of_lt_of_le bj bT)
def wK{B:Addr}(D:ZipApart z ti tO i j l m)(I:iS P w i l xs S)(J:iS P w j m ys S'){Q:Option Value->Shared->Prop}(hA:A.handled=none)
  (hz:At B s.heap z ti tO)(hti:IsPair s.heap ti (.ref i) (.ref j))(h1:S k s.heap)(h2:S' k s.heap)(hend:xs[k]?=none∨ys[k]?=none)
  (hq:∀h',(∀c o,c≠z->c≠tO->c≠i->c≠j->s.heap.get? c=some o->h'.get? c=some o)->Q none { s with heap:=h' }):wpAny (model P w) A (pyNext (.ref z)) Q E s:=by
 rcases hz with⟨hz,a,b,ho⟩|⟨T,f,o,hz,hT,bT⟩
 .exact mY D I J hA hz hti ho h1 h2 hend hq
 .exact rg D I J hA hz hT hti h1 h2 hend λh' b6=>hq h' λc o c1 _ c3 c4 g=>b6 c o c1 c3 c4 g
abbrev lst(acc:Array Value)(c:Nat):Obj:={ cls:=.type "list",dict:=none,data:=.seq acc c,slots:=#[] }
theorem loop{R:Result->Shared->Prop}{B L:Addr}{res:Value}(hA:A.handled=none)(D:ZipApart z ti tO i j l m)(I:iS P w i l xs S)(J:iS P w j m ys S')(bz:z<B)(bi:i<B)(bj:j<B)(bO:tO<B)(bt:ti<B)(bL:L<B)
  (Lz:L≠z)(Li:L≠i)(Lj:L≠j)(LO:L≠tO)(Lt:L≠ti)(Ll:L≠l)(Lm:L≠m)(hn:min xs.size ys.size<=sizeLine) :
  ∀(d k:Nat) (s:Shared) (acc:Array Value) (c:Nat),min xs.size ys.size-k=d->k<=min xs.size ys.size->s.heap.objs.size=B+k->At B s.heap z ti tO->IsPair s.heap ti (.ref i) (.ref j)->S k s.heap->S' k s.heap ->
   s.heap.get? L=some (lst acc c)->acc.size=k->Told B s.heap xs ys acc ->
   (∀h' acc' c',(∀b o,b<B->b≠L->b≠z->b≠tO->b≠i->b≠j->s.heap.get? b=some o->h'.get? b=some o)->h'.get? L=some (lst acc' c')->acc'.size=min xs.size ys.size->Told B h' xs ys acc'->R (.ok (.ret res)) { s with heap:=h' }) ->
   codeAny (model P w) A (.builtin "list.extend.loop" ⟨[.ref L,.ref z,res],[]⟩) R s:=by
 intro d
 induction d with
 |zero=>
  intro k s acc c hk hi hB hz hti h1 h2 hL hs ht hR;refine codeAny_builtin F.entry_extend_loop ?_;rw[Around.under_plainId F.plain_extend_loop _];show wpAny _ A.in1 (pyNext (.ref z) >>= _) _ _ s;have hend:xs[k]?=none∨ys[k]?=none:=by
   by_cases q:xs.size<=k
   .exact .inl (Array.getElem?_eq_none q)
   .exact .inr (Array.getElem?_eq_none (by omega))
  refine wpAny_bind (wK D I J hA hz hti h1 h2 hend λh' kp=>wpAny_pure (hR h' acc c (λb o _ _ c1 c2 c3 c4 g=>kp b o c1 c2 c3 c4 g) (kp _ _ Lz LO Li Lj hL) (by omega) (ht.to λc o bc g=>kp c o (wJ bz bc) (wJ bO bc) (wJ bi bc) (wJ bj bc) g)))
 |succ d ih=>
  intro k s acc c hk hi hB hz hti h1 h2 hL hs ht hR;refine codeAny_builtin F.entry_extend_loop ?_;rw[Around.under_plainId F.plain_extend_loop _];show wpAny _ A.in1 (pyNext (.ref z) >>= _) _ _ s;obtain⟨x,hx⟩:∃x,xs[k]?=some x:=⟨_,Array.getElem?_eq_getElem (by omega)⟩
  obtain⟨y,hy⟩:∃y,ys[k]?=some y:=⟨_,Array.getElem?_eq_getElem (by omega)⟩
  refine wpAny_bind (wL D I J bz bi bj (by rw[hB];exact Nat.le_add_right _ _) hz hti h1 h2 hx hy λh' n1 n2 n3 n4 n5 kp=>?_);have hL':=kp _ _ Lz LO Li Lj hL;show wpAny _ A.in1 (updateSeq L (·.push (.ref s.heap.objs.size)) >>= _) _ _ _;refine wpAny_bind ?_;have up:∀b o,b≠L->h'.get? b=some o->(h'.update L (Obj.mapSeq (·.push (.ref s.heap.objs.size)))).get? b=some o:=λb o hb e=>(Heap.get?_update_other _ _ (Ne.symm hb)).trans e;refine wpAny_updateSeq hL' rfl (wpAny_pure ⟨plainId_quiet F.plain_extend_loop _,ih (k+1) _ (acc.push (.ref s.heap.objs.size)) _ (by omega) (by omega) ?_ ?_ ?_ ?_ ?_ (Heap.get?_update_self _ hL' rfl) (by rw[Array.size_push,hs]) ?_ λh'' acc' c' kp' hL'' hs' ht'=>?_⟩)
   (by rw[hs];omega) (by show(acc.push (.ref s.heap.objs.size)).size<=sizeLine+1;rw[Array.size_push,hs];omega)
  .show(h'.update L _).objs.size=B+(k+1)
   rw[Heap.size_update,n5,hB];rfl
  .rcases n1 with⟨q1,a,b,q2⟩|⟨T,f,o,q1,q2,q3⟩
   .exact .inl ⟨up _ _ Lz.symm q1,a,b,up _ _ LO.symm q2⟩
   .exact .inr ⟨T,f,o,up _ _ Lz.symm q1,up _ _ (wJ bL q3) q2,q3⟩
  .exact up _ _ Lt.symm (kp _ _ D.TIz D.TITO D.TIi1 D.TIi2 hti)
  .exact I.stay n2 λc o hc g=>up c o (λz=>by subst z;rcases hc with hc|hc;exact Li hc;exact Ll hc) g
  .exact J.stay n3 λc o hc g=>up c o (λz=>by subst z;rcases hc with hc|hc;exact Lj hc;exact Lm hc) g
  .intro c v e
   rw[Array.getElem?_push]at e
   by_cases hc:c=acc.size
   .rw[if_pos hc]at e;cases e
    rw[hs]at hc;rw[hB]at n4 up ⊢;rw[hc];exact⟨x,y,rfl,hx,hy,up _ _ (wJ bL (Nat.le_add_right _ _)) n4⟩
   .rw[if_neg hc]at e
    exact(ht.to λc o bc g=>up c o (wJ bL bc) (kp c o (wJ bz bc) (wJ bO bc) (wJ bi bc) (wJ bj bc) g)) c v e
  .exact hR h'' acc' c' (λb o b1 b2 b3 b4 b5 b6 g=>kp' b o b1 b2 b3 b4 b5 b6 (up _ _ b2 (kp _ _ b3 b4 b5 b6 g))) hL'' hs' ht'
def qI:typeLookup (.type "zip") "__len__"=pure none:=by rw[typeLookup_type,builtinLookup_eq_fast];kernel_rfl
def oP:typeLookup (.type "zip") "__length_hint__"=pure none:=by rw[typeLookup_type,builtinLookup_eq_fast];kernel_rfl
def call_list_zip{Q:Value->Shared->Prop}(hA:A.handled=none)(D:ZipApart z ti tO i j l m)(I:iS P w i l xs S)(J:iS P w j m ys S')(hz:IsZip s.heap z ti tO .none)(ho:IsPair s.heap tO a b)(hti:IsPair s.heap ti (.ref i) (.ref j))(h1:S 0 s.heap)(h2:S' 0 s.heap)(hl:l<s.heap.objs.size)(hm:m<s.heap.objs.size)(hi:i<s.heap.objs.size)(hj:j<s.heap.objs.size)(hn:min xs.size ys.size<=sizeLine)
  (hQ:∀h' acc' c',(∀b o,b≠z->b≠tO->b≠i->b≠j->s.heap.get? b=some o->h'.get? b=some o)->h'.get? s.heap.objs.size=some (lst acc' c')->acc'.size=min xs.size ys.size->Told (s.heap.objs.size+1) h' xs ys acc'->Q (.ref s.heap.objs.size) { s with heap:=h' }) :
  wpAny (model P w) A (call (.type "list") [.ref z]) Q E s:=by
 refine callType_codes (Q₁:=λobj se=>obj=.ref s.heap.objs.size/\se={ s with heap:=s.heap.push { cls:=.type "list",data:=.seq #[] } }) PySem.F.called_list (PySem.F.typeCall_list_1 _) PySem.F.entry_list_init
  (code_list_new _ ⟨rfl,rfl⟩) λobj se h₁=>?_
 obtain⟨rfl,rfl⟩:=h₁;generalize hB:s.heap.objs.size=L at *;have hS:(s.heap.push { cls:=.type "list",data:=.seq #[] }).get? L=some { cls:=.type "list",data:=.seq #[] }:=by rw[←hB];exact Heap.get?_push_size _ rfl
 have lz:z<L:=by rw[←hB];exact Heap.lt_size hz
 have lO:tO<L:=by rw[←hB];exact Heap.lt_size ho
 have lt:ti<L:=by rw[←hB];exact Heap.lt_size hti
 refine⟨⟨_,hS,rfl⟩,PySem.F.args_list_init_2 _ _,?_⟩;show wpAny _ _ (do let old ←Builtin.List.listItems (.ref L);Builtin.List.listUpdate (.ref L) (λ_=>#[]);letGo old.toList.reverse;Builtin.List.listExtendWith (.ref L) (.ref z) .none) _ _ _;refine wpAny_bind ?_;unfold Builtin.List.listItems;refine wpAny_bind (wpAny_seqItems hS rfl (wpAny_pure ?_));show wpAny _ _ (updateSeq L (λ_=>#[]) >>= λ_=>letGo (#[]:Array Value).toList.reverse >>= λ_=>Builtin.List.listExtendWith (.ref L) (.ref z) .none) _ _ _;refine wpAny_bind (wpAny_updateSeq hS rfl ?_);have hS₂:=Heap.get?_update_self (Obj.mapSeq (λ_=>(#[]:Array Value))) hS rfl;refine wpAny_bind (wpAny_letGo ?_);unfold Builtin.List.listExtendWith;generalize hh1:(s.heap.push { cls:=.type "list",data:=.seq #[] }).update L (Obj.mapSeq (λ_=>(#[]:Array Value)))=u1 at *;have k1:∀c o,s.heap.get? c=some o->u1.get? c=some o:=λc o g=>by
  rw[←hh1];exact(Heap.get?_update_other _ _ (Nat.ne_of_gt (by rw[←hB];exact Heap.lt_size g))).trans (Heap.get?_push_of_some _ g)
 have z1:IsZip u1 z ti tO .none:=k1 _ _ hz;have ty:({ s with heap:=u1 }:Shared).TypeIs (.ref z) "zip":=⟨_,z1,rfl⟩
 refine wpAny_bind (wpAny_typeOf ty ?_);have q1:Builtin.List.listSameRef (.ref L) (.ref z)=false:=by simp[Builtin.List.listSameRef,Nat.ne_of_gt lz]
 have q2:(Value.type "zip"==Value.type "list")=false:=by decide
 have q3:(Value.type "zip"==Value.type "tuple")=false:=by decide
 simp only[q1,q2,q3,Bool.or_false,Bool.false_eq_true,if_false];refine wpAny_bind (wpAny_pyIter_zip z1 ?_);refine wpAny_bind (wpAny_holding ?_);unfold Builtin.List.listLengthHint;refine wpAny_bind (wpAny_specialOf ty qI ?_);show wpAny _ _ (specialOf (Value.ref z) (Str.ofString "__length_hint__") >>= _) _ _ _;refine wpAny_bind (wpAny_specialOf ty oP ?_);refine wpAny_pure ?_;show wpAny _ _ (rule "list.extend.makes-room" >>= λ_=>Builtin.List.listTouch (.ref L) >>= λ_=>again (.builtin "list.extend.loop" ⟨[.ref L,.ref z,.none],[]⟩)) _ _ _;refine wpAny_bind (wpAny_rule ?_);refine wpAny_bind ?_;show wpAny _ _ (updateSeq L (·.push .none) >>= λ_=>updateSeq L (·.pop)) _ _ _;refine wpAny_bind (wpAny_updateSeq hS₂ rfl ?_);have hS₃:=Heap.get?_update_self (Obj.mapSeq (·.push Value.none)) hS₂ rfl;refine wpAny_updateSeq (hz:=by seq_fits) hS₃ rfl ?_;have hS₄:=Heap.get?_update_self (Obj.mapSeq (·.pop)) hS₃ rfl;generalize hh2:(u1.update L (Obj.mapSeq (·.push Value.none))).update L (Obj.mapSeq (·.pop))=u2 at *;have k2:∀c o,c<L->s.heap.get? c=some o->u2.get? c=some o:=λc o cl g=>by
  rw[←hh2];exact(Heap.get?_update_other _ _ (Nat.ne_of_gt cl)).trans ((Heap.get?_update_other _ _ (Nat.ne_of_gt cl)).trans (k1 _ _ g))
 have sz:u2.objs.size=L+1:=by rw[←hh2,Heap.size_update,Heap.size_update,←hh1,Heap.size_update,Heap.size_push,hB]
 refine wpAny_pure ⟨plainId_quiet F.plain_extend_loop _,loop (A:=A.in1) (B:=L+1) hA D I J (Nat.lt_succ_of_lt lz) (Nat.lt_succ_of_lt hi) (Nat.lt_succ_of_lt hj) (Nat.lt_succ_of_lt lO) (Nat.lt_succ_of_lt lt) (Nat.lt_succ_self _) (Nat.ne_of_gt lz) (Nat.ne_of_gt hi) (Nat.ne_of_gt hj) (Nat.ne_of_gt lO) (Nat.ne_of_gt lt) (Nat.ne_of_gt hl) (Nat.ne_of_gt hm) hn
  _ 0 _ #[] _ rfl (Nat.zero_le _) sz (.inl ⟨k2 _ _ lz hz,a,b,k2 _ _ lO ho⟩) (k2 _ _ lt hti) (I.stay h1 λc o hc g=>k2 c o (by rcases hc with rfl|rfl;exact hi;exact hl) g) (J.stay h2 λc o hc g=>k2 c o (by rcases hc with rfl|rfl;exact hj;exact hm) g)
  hS₄ rfl (λc v e=>by simp at e) λh' acc' c' kp hL hs ht=>?_⟩
 refine⟨rfl,hQ h' acc' c' (λb o c1 c2 c3 c4 g=>?_) hL hs ht⟩
 .have bl:b<L:=by rw[←hB];exact Heap.lt_size g
  exact kp b o (Nat.lt_succ_of_lt bl) (Nat.ne_of_lt bl) c1 c2 c3 c4 (k2 _ _ bl g)
def itr_lst(i t:Addr)(xs:Array Value):iS P w i t xs λk h=>h.IsListIter i t k/\h.IsList t xs where
 stay:=λ⟨⟨o,e,r⟩,⟨o2,e2,r2⟩⟩ kp=>⟨⟨o,kp _ _ (.inl rfl) e,r⟩,⟨o2,kp _ _ (.inr rfl) e2,r2⟩⟩
 there:=λ⟨⟨o,e,_,d⟩,_⟩=>⟨o,e,λv z=>by rw[d]at z;cases z⟩
 draw:=λ{A E s k x Q} ⟨h1,h2⟩ hx hq=>by
  by_cases c:t=i
  .exfalso
   obtain⟨o,e,q,_⟩:=h1;obtain⟨o2,e2,q2,_⟩:=h2;subst c;rw[e]at e2;cases e2;rw[q]at q2;simp at q2
  .exact wpAny_nextOf_list_item h1 h2 hx λh' a b=>hq h' ⟨a,h2.extBut b.extBut c⟩ b
 over:=λhA ⟨h1,h2⟩ hx he=>wpAny_nextOf_list_end hA h1 h2 hx he
end
end Zt
namespace DL
open PySem PySem.Spec PyProof.Rows L2
def vg{X:Cx}{pins:List (Addr×Obj)}{σ:List (Option V)}{H Hn:Hp}{s:Shared}{h':Heap}{t':Nat}(I:Inv X pins σ H s)(k:∀b u,s.heap.get? b=some u->h'.get? b=some u)(hs:az H Hn)(hp:∀a,H a=none->Hn a≠none->s.heap.objs.size<=a)(new:∀a o,H a=none->Hn a=some o->bR X.prog X.w Hn h' a o) :
  Inv X pins σ Hn { s with heap:=h',toks:=t' }:=by
 refine I.un (h':=h') ⟨λb u q _ _ _=>k b u q,λb u q _ _ _=>⟨u.slots,k b u q⟩,λb u q n _=>?_,λb u q _=>⟨u,k b u q⟩,λb xs q=>hs _ _ q,λb u xs q=>hs _ _ q,λb ps q=>⟨#[],by rw[hs _ _ q];simp⟩⟩ λa o e=>?_
 .cases z:Hn b with
  |none=>rfl
  |some o=>exact absurd (Heap.lt_size q) (Nat.not_lt_of_le (hp b n (by rw[z];simp)))
 .cases z:H a with
  |none=>exact new a o z e
  |some u=>
   have:=hs _ _ z;rw[e]at this;cases this;exact(I.hok a o z).stay (λc v _ q=>k c v q) (λc q=>hs _ _ q) λc xs q=>hs _ _ q
def jn(H:Hp)(L:Addr)(ps:List (V×V)):Hp:=λa=>if a=L then some (.lst ((List.range ps.length).map λc=>V.ref (L+1+c))) else if L<a then(match ps[a-(L+1)]? with|some p=>some (.tup [p.1,p.2])|none=>H a) else H a
def lA:ac->ac->ac
 |x::xs,y::ys=>.tup [x,y]::lA xs ys
 |_,_=>[]
theorem lu:∀(xs ys:ac),(lA xs ys).length=min xs.length ys.length
 |[],_=>by simp[lA]
 |x::xs,[]=>by simp[lA]
 |x::xs,y::ys=>by simp[lA,lu xs ys]
theorem oQ:∀{xs ys:ac}{c:Nat}{x y:D},xs[c]?=some x->ys[c]?=some y->(lA xs ys)[c]?=some (.tup [x,y])
 |[],_,_,_,_,h,_=>by simp at h
 |x::xs,[],_,_,_,_,h=>by simp at h
 |x::xs,y::ys,0,_,_,h,h'=>by simp at h h';subst h h';simp[lA]
 |x::xs,y::ys,c+1,_,_,h,h'=>by simp at h h';simp[lA];exact oQ h h'
def l7(x y:D):ak D:=match x,y with
 |.lst xs,.lst ys=>if min xs.length ys.length<=line then .ok (.lst (lA xs ys)) else .stuck
 |_,_=>.stuck
section
variable {X:Cx}{E:XK}{a b e:Expr}{f g:cr}
def GQ(K:W.Frag)(ta:TA):TE:=λσ H Q=>ta σ H λvs H1=>∃p q xs ys,vs=[.ref p,.ref q]/\dF K H1 p xs/\dF K H1 q ys/\∀L,(∀c,L<=c->H1 c=none)->Q (.ref L) (jn H1 L (xs.zip ys))
def lN{ta:TA}{p p2 pos pos2:Pos}(hc:X.calm=true)(hg:Gl X "list")(hm:X.mg "list"=none)(hg2:Gl X "zip")(hm2:X.mg "zip"=none)(ha:PA X [a,b] ta)(hs:starEach [a,b] X.env=(false,eval a X.env)::starEach [b] X.env:=by exact aC rfl)(hs2:(backTo pos2 (starEach [b] X.env)).any (·.1)=false:=by exact bg rfl)
  (he:starEach [.Call (.Name "zip" p2) [a,b] [] pos2] X.env=(false,eval (.Call (.Name "zip" p2) [a,b] [] pos2) X.env)::starEach [] X.env:=by exact aC rfl)(hpl:(backTo pos (starEach [] X.env)).any (·.1)=false:=by exact bg rfl) :
  PE X (.Call (.Name "list" p) [.Call (.Name "zip" p2) [a,b] [] pos2] [] pos) (GQ X.K ta):=by
 intro pins s σ H Q I hq;refine wpAny_Call_Name_kw (je I hg hm PyProof.Rows.Boot.«list» ?_ (by decide) (by decide));refine PyProof.Rows.callWith_type1 ?_ he hpl;rw[he];show wpAny _ _ (spliced ((false,eval (.Call (.Name "zip" p2) [a,b] [] pos2) X.env)::backTo pos (starEach [] X.env))) _ _ s;refine Calls.spliced_cons ?_;refine Call_ (je I hg2 hm2 PyProof.Rows.Boot.«zip» (PyProof.Rows.callWith_type1 (cG (ha pos2 pins s σ H _ I hq) λus s1 z9=>?_) hs hs2));obtain⟨vs,H1,I1,r1,q1⟩:=z9;obtain⟨p,q,xs,ys,e,hx,hy,q1⟩:=q1;subst e;cases r1 with
 |cons r rr=>
  cases rr with
  |cons r' rr=>
   cases rr;cases r;cases r';obtain⟨its,v1,l1,z1⟩:=I1.list hx;obtain⟨jts,v2,l2,z2⟩:=I1.list hy;have hp:=Heap.lt_size (h:=s1.heap) (a:=p) (l1.isList.choose_spec.1);have hq:=Heap.lt_size (h:=s1.heap) (a:=q) (l2.isList.choose_spec.1);refine call_zip_2 l1.isList l2.isList λh1 k1 k2 k3 k4 k5 k6 k7=>?_;refine Calls.spliced_nil ?_;have I2:Inv X pins σ H1 { s1 with heap:=h1 }:=I1.kept (t':=s1.toks) k7;have n1:=v1.length;have n2:=v2.length;refine Zt.call_list_zip (s:={ s1 with heap:=h1 }) (I2.ok.hd hc) (zipApart_new hp hq) (Zt.itr_lst _ _ its.toArray) (Zt.itr_lst _ _ jts.toArray) k1 k3 k2 ⟨k4,?_⟩ ⟨k5,?_⟩ ?_ ?_ ?_ ?_ (by simp;omega) λh2 acc c kp hL hsz ht=>?_
   .obtain⟨o,ho,r⟩:=l1.isList;exact⟨o,k7 _ _ ho,r⟩
   .obtain⟨o,ho,r⟩:=l2.isList;exact⟨o,k7 _ _ ho,r⟩
   .show p<h1.objs.size;rw[k6];exact Nat.lt_of_lt_of_le hp (Nat.le_add_right _ _)
   .show q<h1.objs.size;rw[k6];exact Nat.lt_of_lt_of_le hq (Nat.le_add_right _ _)
   .show s1.heap.objs.size<h1.objs.size;rw[k6];exact Nat.lt_add_of_pos_right (by decide)
   .show s1.heap.objs.size+1<h1.objs.size;rw[k6];exact Nat.add_lt_add_left (by decide) _
   have hL:h2.get? h1.objs.size=some (Zt.lst acc c):=hL;have ht:Zt.Told (h1.objs.size+1) h2 its.toArray jts.toArray acc:=ht;have hsz:acc.size=min its.toArray.size jts.toArray.size:=hsz;have free:∀c,h1.objs.size<=c->H1 c=none:=λc hc=>I2.hok.fresh hc;have small:∀c,s1.heap.objs.size<=c->H1 c=none:=λc hc=>I1.hok.fresh hc;have zl:(xs.zip ys).length=min its.length jts.length:=by rw[List.length_zip,n1,n2]
   have al:acc.toList.length=(xs.zip ys).length:=by rw[Array.length_toList,hsz,zl];simp
   refine⟨.ref h1.objs.size,jn H1 h1.objs.size (xs.zip ys),vg (t':=s1.toks) (s:=s1) I1 (λb u g=>?_) (λb o g=>?_) (λa n1' n2'=>?_) (λa o n1' e=>?_),rfl,q1 _ free⟩
   .have bl:=Heap.lt_size g
    have nb:∀n,b≠s1.heap.objs.size+n:=λn z=>by rw[z]at bl;exact absurd bl (Nat.not_lt_of_le (Nat.le_add_right _ _))
    exact kp b u (nb 4) (nb 3) (nb 0) (nb 1) (k7 _ _ g)
   .have n1':b<h1.objs.size:=by
     refine Nat.lt_of_not_le λz=>?_;rw[free b z]at g;cases g
    unfold jn;rw[if_neg (Nat.ne_of_lt n1'),if_neg (Nat.not_lt_of_lt n1')];exact g
   .unfold jn at n2'
    by_cases c1:a=h1.objs.size
    .rw[c1,k6];exact Nat.le_add_right _ _
    .rw[if_neg c1]at n2'
     by_cases c2:h1.objs.size<a
     .rw[k6]at c2;exact Nat.le_of_lt (Nat.lt_of_le_of_lt (Nat.le_add_right _ _) c2)
     .rw[if_neg c2]at n2';exact absurd n1' n2'
   .unfold jn at e
    by_cases c1:a=h1.objs.size
    .rw[if_pos c1]at e;cases e
     subst c1;refine⟨by rw[List.length_map,List.length_range,zl];omega,acc.toList,c,?_,hL⟩;refine vals_at (by simp[al]) λi v u e1 e2=>?_;rw[List.getElem?_map]at e1;have ei:i<(xs.zip ys).length:=by rw[←al];exact(List.getElem?_eq_some_iff.mp e2).1
     rw[List.getElem?_range ei]at e1;cases e1;obtain⟨x,y,ev,_⟩:=ht i u (by rw[←Array.getElem?_toList];exact e2);rw[ev];rfl
    .rw[if_neg c1]at e
     by_cases c2:h1.objs.size<a
     .rw[if_pos c2]at e
      cases e3:(xs.zip ys)[a-(h1.objs.size+1)]? with
      |none=>rw[e3,n1']at e;cases e
      |some pr=>
       rw[e3]at e;cases e;have ei:=(List.getElem?_eq_some_iff.mp e3).1;obtain⟨v,ev⟩:∃v,acc[a-(h1.objs.size+1)]?=some v:=⟨_,Array.getElem?_eq_getElem (by rw[show acc.size=(xs.zip ys).length from by rw[←al,Array.length_toList]];exact ei)⟩
       obtain⟨x,y,_,ex,ey,pr'⟩:=ht _ v ev;rw[show h1.objs.size+1+(a-(h1.objs.size+1))=a from Nat.add_sub_cancel' c2]at pr';have e4:=List.getElem?_zip_eq_some.mp e3;obtain⟨u1,g1,r1⟩:=v1.get e4.1;obtain⟨u2,g2,r2⟩:=v2.get e4.2;have ex:its[a-(h1.objs.size+1)]?=some x:=by simpa using ex
       have ey:jts[a-(h1.objs.size+1)]?=some y:=by simpa using ey
       rw[Option.some.inj (g1.symm.trans ex)]at r1;rw[Option.some.inj (g2.symm.trans ey)]at r2;exact⟨by show 2<=sizeLine;decide,[x,y],.cons r1 (.cons r2 .nil),_,pr',rfl,_,rfl⟩
     .rw[if_neg c2,n1']at e;cases e
where
 vals_at:∀{vs:bv}{us:List Value},vs.length=us.length->(∀i v u,vs[i]?=some v->us[i]?=some u->bh v u)->aY vs us
  |[],[],_,_=>.nil
  |v::vs,u::us,hl,h=>.cons (h 0 v u rfl rfl) (vals_at (by simpa using hl) λi v' u' e1 e2=>h (i+1) v' u' e1 e2)
def mQ{H:Hp}{L:Addr}{ps:List (V×V)}(free:∀c,L<=c->H c=none):az H (jn H L ps):=λb o g=>by
 have n1:b<L:=Nat.lt_of_not_le λz=>by rw[free b z]at g;cases g
 unfold jn;rw[if_neg (Nat.ne_of_lt n1),if_neg (Nat.not_lt_of_lt n1)];exact g
def yy{H:Hp}{L:Addr}{ps:List (V×V)}{c:Nat}{p:V×V}(e:ps[c]?=some p):jn H L ps (L+1+c)=some (.tup [p.1,p.2]):=by
 unfold jn;have:L<L+1+c:=Nat.lt_of_lt_of_le (Nat.lt_succ_self _) (Nat.le_add_right _ _);rw[if_neg (Nat.ne_of_gt this),if_pos this,Nat.add_sub_cancel_left,e]
def uc{H Ha:Hp}{L:Addr}{ps:List (V×V)}(hs:az Ha H)(free:∀c,L<=c->H c=none):br H Ha (jn H L ps) (jn Ha L ps):=by
 have f0:∀c,L<=c->Ha c=none:=λc hc=>hs.free (free c hc);refine⟨mQ free,mQ f0,λb o e=>?_,λb n1 n2=>?_⟩
 .unfold jn at e ⊢
  by_cases c1:b=L
  .rw[if_pos c1]at e ⊢;exact e
  .rw[if_neg c1]at e ⊢
   by_cases c2:L<b
   .rw[if_pos c2]at e ⊢
    cases q:ps[b-(L+1)]? with|none=>rw[q]at e;exact hs _ _ e|some p=>rw[q]at e;exact e
   .rw[if_neg c2]at e ⊢;exact hs _ _ e
 .refine free b (Nat.le_of_not_lt λz=>n1 ?_)
  unfold jn;rw[if_neg (Nat.ne_of_lt z),if_neg (Nat.not_lt_of_lt z)];exact n2
def rT{p p2 pos pos2:Pos}(hc:X.calm=true)(hg:Gl X "list")(hm:X.mg "list"=none)(hg2:Gl X "zip")(hm2:X.mg "zip"=none)(ha:DE X E a f)(hb:DE X E b g)(hs:starEach [a,b] X.env=(false,eval a X.env)::starEach [b] X.env:=by exact aC rfl)(hs1:starEach [b] X.env=(false,eval b X.env)::starEach [] X.env:=by exact aC rfl)(hs2:(backTo pos2 (starEach [b] X.env)).any (·.1)=false:=by exact bg rfl)
  (he:starEach [.Call (.Name "zip" p2) [a,b] [] pos2] X.env=(false,eval (.Call (.Name "zip" p2) [a,b] [] pos2) X.env)::starEach [] X.env:=by exact aC rfl)(hpl:(backTo pos (starEach [] X.env)).any (·.1)=false:=by exact bg rfl) :
  DE X E (.Call (.Name "list" p) [.Call (.Name "zip" p2) [a,b] [] pos2] [] pos) (ah f g l7):=by
 refine⟨aQ (lN hc hg hm hg2 hm2 (bK ha.o (bK hb.o dG hs1) hs) hs hs2 he hpl) λσ H Q z9=>?_⟩;obtain⟨Ha,ρ,hs,hr,q⟩:=z9;refine⟨Ha,ρ,hs,hr,?_⟩;unfold ah at q;cases e1:f ρ with
 |stuck|exn x=>rw[e1]at q;exact q
 |ok x=>
  rw[e1]at q;intro v H1 H01 g1 r1;refine⟨H01,ρ,g1.sub,hr.mono g1.z,?_⟩;replace q:post X.K E H Ha ((g ρ).bind λy=>l7 x y) Q:=q;replace q:=q.grow g1;cases e2:g ρ with
  |stuck|exn x=>rw[e2]at q;exact q
  |ok y=>
   rw[e2]at q;intro u H2 H02 g2 r2;replace q:post X.K E H1 H01 (l7 x y) Q:=q;replace q:=q.grow g2;unfold l7 at q;cases x with
   |lst xs=>
    cases y with
    |lst ys=>
     by_cases hl:min xs.length ys.length<=line
     .simp only[if_pos hl]at q
      obtain⟨pa,vs,rfl,sa,ra⟩:=ay.mp (r1.mono g2.z);obtain⟨pb,us,rfl,sb,rb⟩:=ay.mp r2;refine⟨pa,pb,vs,us,rfl,az.sqL g2.sub sa,az.sqL g2.sub sb,λL free=>?_⟩;have G:=uc (ps:=vs.zip us) g2.sub free;have la:=ra.length;have lb:=rb.length;refine q _ _ _ G (ay.mpr ⟨L,(List.range (vs.zip us).length).map λc=>V.ref (L+1+c),rfl,dF.of (by unfold jn;rw[if_pos rfl]),kU (by rw[lu,List.length_map,List.length_range,List.length_zip];omega) λc d v ed ev=>?_⟩);have cl:c<min xs.length ys.length:=by rw[←lu];exact(List.getElem?_eq_some_iff.mp ed).1
      obtain⟨dx,ex⟩:∃d,xs[c]?=some d:=⟨_,List.getElem?_eq_getElem (by omega)⟩
      obtain⟨dy,ey⟩:∃d,ys[c]?=some d:=⟨_,List.getElem?_eq_getElem (by omega)⟩
      rw[oQ ex ey]at ed;cases ed;obtain⟨v1,k1,k2⟩:=ra.get ex;obtain⟨v2,k3,k4⟩:=rb.get ey;rw[List.getElem?_map,List.getElem?_range (by rw[List.length_zip];omega)]at ev;cases ev;have ez:(vs.zip us)[c]?=some (v1,v2):=List.getElem?_zip_eq_some.mpr ⟨k1,k3⟩;exact aG.mpr ⟨_,[v1,v2],rfl,gk.of (yy ez),Reps.cons (k2.mono G.z) (Reps.cons (k4.mono G.z) Reps.nil)⟩
     .simp only[if_neg hl]at q;exact q.elim
    |_=>exact q.elim
   |_=>exact q.elim
theorem ki{α β:Type}{F:α->β->Prop}:∀{lc:List α}{lg:List β}{i:Nat}{a:α}{b:β},Paired F lc lg->lc[i]?=some a->lg[i]?=some b->F a b
 |_,_,_,_,_,.nil,h,_=>by simp at h
 |_,_,0,_,_,.cons r _,h,h'=>by simp at h h';subst h h';exact r
 |_,_,i+1,_,_,.cons _ t,h,h'=>ki t (by simpa using h) (by simpa using h')
def l9(x:D):ak D:=match x with
 |.dic ks ds=>.ok (.lst (ks.map D.str))
 |.ob (.dint ks) ds=>.ok (.lst (ks.map D.int))
 |_=>.stuck
def mq(hc:X.calm=true):fA X (.type "list") (λxs H Q=>∃p kvs,xs=[.ref p]/\Rd H p (.dK kvs)/\∀l,H l=none->Q (.ref l) (upd H l (.lst (kvs.map λkv=>kV kv.1)))):=by
 intro pins s σ H xs us Q I r h;obtain⟨p,kvs,rfl,hq,q⟩:=h;obtain⟨u,rfl,rx⟩:=sE r;cases rx;obtain⟨hz,ns,vs,kv,dd⟩:=hq.ok I.hok;obtain⟨o,es,ep,d1,d2,d3,d4⟩:=dd;have da:s.heap.DictAt (cM X.prog X.w) p vs ep:=⟨o,es,d1,d2,d3,d4⟩
 have hl:vs.length=kvs.length:=(Paired.length kv).symm;refine W.kdl_call (W.kdl_dict ns) (I.ok.hd hc) da (by rw[hl];exact hz) λh' tk acc c kp e it=>?_;refine⟨.ref s.heap.objs.size,_,I.laid (t':=tk) kp (Nat.le_refl _) (show bR X.prog X.w _ h' _ (.lst (kvs.map λkv=>kV kv.1)) from⟨by rw[List.length_map];exact hz,acc.toList,c,?_,e⟩),rfl,q _ (I.hok.fresh (Nat.le_refl _))⟩;refine lN.vals_at (by rw[List.length_map,show acc.toList.length=vs.length from by rw[Array.length_toList];exact it.1,hl]) λi v u e1 e2=>?_;obtain⟨k,x,ek,isk⟩:=it.2 i u (by rw[←Array.getElem?_toList];exact e2);rw[List.getElem?_map]at e1;cases e3:kvs[i]? with
 |none=>rw[e3]at e1;cases e1
 |some kw=>
  rw[e3]at e1;cases e1;have:=(ki kv e3 ek).1;simp only at this;show bh (kV kw.1) u;rw[this];rcases bQ isk with⟨j,t,rfl,rfl⟩|⟨y,t,rfl,rfl⟩
  .exact⟨t,rfl⟩
  .exact⟨t,rfl⟩
def xX:iz X E (λxs H Q=>∃p kvs,xs=[.ref p]/\Rd H p (.dK kvs)/\∀l,H l=none->Q (.ref l) (upd H l (.lst (kvs.map λkv=>kV kv.1)))) (m1 l9):=by
 intro ds vs H Ha Q hs rp q;cases ds with
 |nil=>exact q.elim
 |cons d ds=>
  cases ds with
  |cons _ _=>exact q.elim
  |nil=>
   obtain⟨v,r,rfl,r1,r2⟩:=aA.mp rp;rw[Reps.nil_iff.mp r2];have q:post X.K E H Ha (l9 d) Q:=q;unfold l9 at q;cases d with
   |dic ks es=>
    rw[bC]at r1;obtain⟨p,kvs,vs,rfl,h1,rfl,hl,h4⟩:=r1;refine⟨p,_,rfl,az.rd hs h1,λl hl'=>q _ _ _ (aI hs hl') (ay.mpr ⟨l,_,rfl,dF.of aJ,?_⟩)⟩;rw[show(((ks.map Sum.inr).zip vs).map λkv:dQ×V=>kV kv.1)=ks.map V.str from by
     rw[show(λkv:dQ×V=>kV kv.1)=kV∘Prod.fst from rfl,←List.map_map,List.map_fst_zip (by simp;omega),List.map_map];rfl]
    exact kU (by simp) λi d v e1 e2=>by
     rw[List.getElem?_map]at e1 e2;cases e3:ks[i]? with|none=>rw[e3]at e1;cases e1|some k=>rw[e3]at e1 e2;cases e1;cases e2;exact aF.mpr rfl
   |ob k es=>
    cases k with
    |dint ks=>
     obtain⟨p,vs,rfl,⟨kvs,h1,rfl,hl⟩,h4⟩:=cF.mp r1;refine⟨p,_,rfl,az.rd hs h1,λl hl'=>q _ _ _ (aI hs hl') (ay.mpr ⟨l,_,rfl,dF.of aJ,?_⟩)⟩;rw[show(((ks.map Sum.inl).zip vs).map λkv:dQ×V=>kV kv.1)=ks.map V.int from by
      rw[show(λkv:dQ×V=>kV kv.1)=kV∘Prod.fst from rfl,←List.map_map,List.map_fst_zip (by simp;omega),List.map_map];rfl]
     exact iQ ks
    |_=>exact q.elim
   |_=>exact q.elim
end
def atI:List Int->ac->Int->Option D
 |k::ks,d::ds,x=>if k=x then some d else atI ks ds x
 |_,_,_=>none
def ie(x y:D):ak D:=match x,y with
 |.ob (.dint ks) ds,.int k=>match atI ks ds k with
  |some d=>.ok d
  |none=>.stuck
 |_,_=>.stuck
def iJ(x y:D):ak D:=match x,y with
 |.int k,.ob (.dint ks) ds=>.ok (.bl (!(atI ks ds k).isSome))
 |_,_=>.stuck
theorem lr{K:W.Frag}{H:Hp}{k:Int}:∀{ks:List Int}{ds:ac}{vs:bv},ks.length=vs.length->Reps K H ds vs ->
  (∀d,atI ks ds k=some d->∃v,kF ((ks.map Sum.inl).zip vs) (Sum.inl k:dQ)=some v/\bC K H d v)/\(atI ks ds k=none->kF ((ks.map Sum.inl).zip vs) (Sum.inl k:dQ)=none)
 |[],ds,vs,hl,r=>⟨λd e=>(nomatch e),λ_=>rfl⟩
 |x::ks,ds,[],hl,r=>nomatch hl
 |x::ks,[],v::vs,hl,r=>by have:=Reps.nil_iff.mp r;cases this
 |x::ks,d::ds,v::vs,hl,r=>by
  obtain⟨v',vr,e0,h1,h2⟩:=aA.mp r;cases e0;obtain⟨i1,i2⟩:=lr (k:=k) (ks:=ks) (ds:=ds) (vs:=vs) (by simpa using hl) h2;rw[List.map_cons,List.zip_cons_cons]
  by_cases hx:x=k
  .subst hx
   exact⟨λd' e=>by rw[atI,if_pos rfl]at e;cases e;exact⟨v,jo rfl,h1⟩,λe=>by rw[atI,if_pos rfl]at e;cases e⟩
  .have hne:¬(Sum.inl x:dQ)=Sum.inl k:=λz=>hx (Sum.inl.inj z)
   exact⟨λd' e=>by rw[atI,if_neg hx]at e;rw[gU hne];exact i1 d' e,λe=>by rw[atI,if_neg hx]at e;rw[gU hne];exact i2 e⟩
section
variable {X:Cx}{E:XK}{He H0e:Hp}{a b e:Expr}{f g k:cr}{pos:Pos}
def zw:t9 X.K E El ie:=by
 intro x y v u H Ha Q hs r1 r2 q;unfold ie at q;split at q
 .next ks ds k=>
  obtain⟨p,vs,rfl,⟨kvs,h1,rfl,hl⟩,h4⟩:=cF.mp r1;rw[aw.mp r2];cases e:atI ks ds k with
  |none=>simp only[e]at q;exact q.elim
  |some d=>
   simp only[e]at q;obtain⟨v,hv,rv⟩:=(lr hl h4).1 d e;exact⟨p,v,rfl,.inl ⟨_,.inl k,az.rd hs h1,rfl,hv.symm⟩,bJ hs q rv⟩
 .exact q.elim
def w6{k:Int}{ks:List Int}{ds:ac}{v u:V}{H Ha:Hp}{K:W.Frag}(hs:az Ha H)(r1:bC K Ha (.int k) v)(r2:bC K Ha (.ob (.dint ks) ds) u):∃p o,u=.ref p/\sC H p v o/\o.isSome=(atI ks ds k).isSome:=by
 obtain⟨p,vs,rfl,⟨kvs,h1,rfl,hl⟩,h4⟩:=cF.mp r2;rw[aw.mp r1];refine⟨p,_,rfl,.inl ⟨_,.inl k,az.rd hs h1,rfl,rfl⟩,?_⟩;cases e:atI ks ds k with|none=>rw[(lr hl h4).2 e];rfl|some d=>obtain⟨v,hv,_⟩:=(lr hl h4).1 d e;rw[hv];rfl
def uA:t9 X.K E sQ iJ:=by
 intro x y v u H Ha Q hs r1 r2 q;unfold iJ at q;split at q
 .obtain⟨p,o,e1,e2,e3⟩:=w6 hs r1 r2
  exact⟨p,o,e1,e2,by rw[e3];exact bJ hs q (rb _)⟩
 .exact q.elim
def oy(hu:X.A.units+1<cLine)(ha:DE X E a f)(hb:DE X E b g)(hs:Dj b:=by intro _ _;rfl):DE X E (.Subscript a b pos) (ah f g ie) :=
 ⟨aQ (zc hu ha.o hb.o hs) (fU zw)⟩
def vR(i:Nat):db:=λρ=>.ok (.nx (ρ.set i (.ow (.ob (.dint []) []))))
def Ax{i:Nat}{x:Str}{pos' dpos:Pos}(hN:X.N.Nodup)(hi:X.N[i]?=some x)(hx:A0 X.env.scope x)(hs:swapsWith (.Dict [] [] dpos) (some (.Name x pos')) pos.line X.env=pure false:=by rfl)
  (hf:X.fn x=true∨X.env.scope.names.lookup x=some .local := by first|exact .inl rfl|exact .inr rfl|assumption):DS X E He H0e (.Assign [.Name x pos'] (.Dict [] [] dpos) pos) (vR i):=by
 refine⟨?_⟩;refine cf (qU hN hi hx pB hs hf) λD σ H ⟨Ha,ρ,h,q⟩=>λp hp=>?_;have h0:Ha p=none:=h.g.sub.free hp;have g:br H Ha (upd H p (.dK [])) Ha:=⟨λb o q=>by rw[aD (aS q hp)];exact q,az.refl _,λb o q=>by
  rw[aD (by intro z;subst z;rw[h0]at q;cases q)];exact h.g.sub _ _ q,λa h1 h2=>absurd h2 h1⟩
 have q:∀σ H Ha',az Ha Ha'->de X.K He H0e Ha' σ H (ρ.set i (.ow (.ob (.dint []) [])))->D.nx σ H:=q;refine q _ _ Ha (az.refl _) ((h.grow g).putOwnG (dn:=.ob (.dint []) []) (λj a ej ea d ed=>?_) (h.g.s.free hp) h0 ⟨[],aJ,rfl,Reps.nil⟩ (h.fresh_x g.s hp));subst ea;obtain⟨a',k1,_,_,k4⟩:=h.ow j d ed;rw[ej]at k1;cases k1;cases d with
 |lst ds'|dic ks ds'=>obtain⟨vs',h5,_⟩:=k4;rw[hp]at h5;cases h5
 |ob kk ds'=>
  cases kk with|dint ks=>obtain⟨vs',h5,_⟩:=k4;rw[hp]at h5;cases h5| _=>exact k4.elim
 |_=>exact k4.elim
def qP:List Int->ac->Int->D->ac
 |k::ks,e::ds,x,d=>(if k=x then d else e)::qP ks ds x d
 |_,ds,_,_=>ds
def wc(ks:List Int)(ds:ac)(k:Int)(d:D):D:=if k∈ks then .ob (.dint ks) (qP ks ds k d) else .ob (.dint (ks++[k])) (ds++[d])
theorem qB{k:Int}:∀{ks:List Int}{vs:bv},ks.length=vs.length->(((ks.map Sum.inl).zip vs).any λkv=>decide (kv.1=(Sum.inl k:dQ)))=decide (k∈ks)
 |[],_,_=>rfl
 |x::ks,[],h=>nomatch h
 |x::ks,v::vs,h=>by
  rw[List.map_cons,List.zip_cons_cons,List.any_cons,qB (by simpa using h)]
  by_cases hx:x=k
  .subst hx;simp
  .have:¬k=x:=λz=>hx z.symm
   simp[hx,this]
theorem pj{K:W.Frag}{H:Hp}{k:Int}{d:D}{v:V}(r:bC K H d v):∀{ks:List Int}{ds:ac}{vs:bv},ks.length=vs.length->Reps K H ds vs ->
  ∃vs',(((ks.map Sum.inl).zip vs).map λkv=>if kv.1=(Sum.inl k:dQ) then(kv.1,v) else kv)=(ks.map Sum.inl).zip vs'/\ks.length=vs'.length/\Reps K H (qP ks ds k d) vs'
 |[],ds,vs,hl,h=>⟨vs,rfl,hl,by cases ds<;>exact h⟩
 |x::ks,ds,[],hl,h=>nomatch hl
 |x::ks,[],v'::vs,hl,h=>by have:=Reps.nil_iff.mp h;cases this
 |x::ks,e::ds,v'::vs,hl,h=>by
  obtain⟨v2,vr,e0,h1,h2⟩:=aA.mp h;cases e0;obtain⟨vs',i1,i2,i3⟩:=pj r (ks:=ks) (ds:=ds) (vs:=vs) (by simpa using hl) h2;rw[List.map_cons,List.zip_cons_cons,List.map_cons,i1]
  by_cases hx:x=k
  .subst hx
   exact⟨v::vs',by rw[if_pos rfl];rfl,by simp[i2],by rw[qP,if_pos rfl];exact Reps.cons r i3⟩
  .have hne:¬(Sum.inl x:dQ)=Sum.inl k:=λz=>hx (Sum.inl.inj z)
   exact⟨v'::vs',by rw[if_neg hne];rfl,by simp[i2],by rw[qP,if_neg hx];exact Reps.cons h1 i3⟩
def v8{K:W.Frag}{Ha H:Hp}{k:Int}{d:D}{v:V}{ks:List Int}{ds:ac}{vs:bv}{p:Addr}(hl:ks.length=vs.length)(h:Reps K Ha ds vs)(r:bC K Ha d v):AW K Ha (upd H p (.dK (jR ((ks.map Sum.inl).zip vs) (Sum.inl k) v))) p (wc ks ds k d):=by
 unfold wc;rw[show ∀(kvs:List (dQ×V)) (u:V),jR kvs (Sum.inl k:dQ) u=if(kvs.any λkv=>decide (kv.1=(Sum.inl k:dQ)))=true then kvs.map (λkv=>if kv.1=(Sum.inl k:dQ) then(kv.1,u) else kv) else kvs++[((Sum.inl k:dQ),u)] from λ_ _=>rfl];rw[qB hl]
 by_cases hk:k∈ks
 .rw[if_pos hk,if_pos (decide_eq_true hk)]
  obtain⟨vs',i1,i2,i3⟩:=pj (k:=k) r hl h;exact⟨vs',by rw[aJ,i1],i2,i3⟩
 .rw[if_neg hk,if_neg (by rw[decide_eq_false hk];decide)]
  exact⟨vs++[v],by rw[aJ,List.map_append,List.zip_append (by rw[List.length_map];exact hl)];rfl,by simp[hl],Reps.snoc r h⟩
def sS(i:Nat)(ρ:Ev)(ks:List Int)(ds:ac)(d j:D):ak Fl:=match j with
 |.int x=>if ks.length<line then .ok (.nx (ρ.set i (.ow (wc ks ds x d)))) else .stuck
 |_=>.stuck
def wB(ρ:Ev)(i:Nat)(k:List Int->ac->ak Fl):ak Fl:=match ρ[i]? with
 |some (.ow (.ob (.dint ks) ds))=>k ks ds
 |_=>.stuck
def o8(i:Nat)(f k:cr):db:=λρ=>wB ρ i λks ds=>(f ρ).bind λd=>(k ρ).bind (sS i ρ ks ds d)
def Aw{i:Nat}{x:Str}{p1 p2:Pos}(hu:X.A.units+1<cLine)(hN:X.N[i]?=some x)(hv:vj X.env.scope x)(he:DE X E e f)(hk:DE X E b k)
  (hd:(x==("__debug__":Str))=false:=by decide)(hcd:(x==("__classdict__":Str))=false:=by decide)
  (hs:swapsWith e (some (.Subscript (.Name x p1) b p2)) pos.line X.env=pure false:=by rfl):DS X E He H0e (.Assign [.Subscript (.Name x p1) b p2] e pos) (o8 i f k):=by
 refine⟨?_⟩;refine cf (yT hu (g0 hN hv hd hcd) hk.o he.o hs) λD σ H z9=>?_;obtain⟨Ha,ρ,h,q⟩:=z9;refine⟨Ha,ρ,h.g.sub,h.rd,?_⟩
 unfold o8 wB at q;split at q
 .next ks ds e1=>
  obtain⟨p,e2,h2,h3,vs,e5,el,e6⟩:=h.ow i _ e1;refine plain (k:=λd=>(k ρ).bind (sS i ρ ks ds d)) h q λd v H1 H01 _ g1 r1 q1=>⟨.ref p,e2,?_⟩
  have h1':=h.grow g1;refine⟨H01,ρ,h1'.g.sub,h1'.rd,plain (k:=sS i ρ ks ds d) h1' q1 λj u H2 H02 _ g2 r2 q2=>?_⟩;unfold sS at q2;split at q2
  .rename_i y _
   by_cases hl:ks.length<line
   .simp only[if_pos hl]at q2
    rw[aw.mp r2];refine⟨p,_,rfl,yp.k (k:=.inl y) (g2.s _ _ (g1.s _ _ e5)) ?_,?_⟩
    .rw[List.length_zip,List.length_map,←el,Nat.min_self]
     have:line<=sizeLine:=cX (Nat.le_refl _);omega
    .exact q2 σ _ H02 (az.refl _) ((h1'.grow g2).writeG e1 e2 (v8 el ((e6.mono g1.z).mono g2.z) (r1.mono g2.z)))
   .simp only[if_neg hl]at q2;exact q2.elim
  .exact q2.elim
 .exact q.elim
end
section
variable {prog:Program}{w:World}{A:Around}{E:Value->Shared->Prop}{s:Shared}
def qA{sl:Addr}{t:Tok}{n:Nat}{Q:Int×Int×Nat->Shared->Prop}(hs:s.heap.IsSliceOf sl .none .none (.int (-1) t))(h:Q ((n:Int)-1,-1,n) s):wpAny (model prog w) A (Builtin.Slice.sliceApplied (.ref sl) (pure (n:Int))) Q E s:=by
 obtain⟨os,hos,hcs,hds⟩:=id hs;unfold Builtin.Slice.sliceApplied Builtin.Slice.sliceFields;refine wpAny_bind (wpAny_bind (wpAny_field hos hds (x:=.none) rfl (wpAny_bind (wpAny_field hos hds (x:=.none) rfl (wpAny_bind (wpAny_field hos hds (x:=.int (-1) t) rfl (wpAny_pure ?_)))))));refine wpAny_bind (HT.slicePart_ (.int (-1) t) ?_);show wpAny _ _ (if((-1:Int)==0)=true then _ else _) _ _ s;rw[if_neg (by decide)];refine wpAny_bind (HT.slicePart_ .none (wpAny_bind (HT.slicePart_ .none (wpAny_bind (wpAny_pure ?_)))));show wpAny _ _ (match Builtin.Slice.sliceAdjust none none (-1) (n:Int) with|(lo,hi)=>pure (lo,(-1:Int),Builtin.Slice.slicePlaces lo hi (-1))) _ _ s;have e1:Builtin.Slice.sliceAdjust none none (-1) (n:Int)=((n:Int)-1,-1):=by
  unfold Builtin.Slice.sliceAdjust;simp
 rw[e1];show wpAny _ _ (pure ((n:Int)-1,(-1:Int),Builtin.Slice.slicePlaces ((n:Int)-1) (-1) (-1))) _ _ s;have e2:Builtin.Slice.slicePlaces ((n:Int)-1) (-1) (-1)=n:=by
  unfold Builtin.Slice.slicePlaces;simp only[show ¬((-1:Int) > 0) by decide,if_false];rw[show(- -1:Int)=1 from rfl,Int.ediv_one];split<;>omega
 rw[e2];exact wpAny_pure h
def uv(its:List Value):((List.range its.length).filterMap λ(k:Nat)=>its.toArray[((its.length:Int)-1+(k:Int)*(-1)).toNat]?).toArray=its.reverse.toArray:=by
 congr 1
 have hall:∀k∈List.range its.length,its.toArray[((its.length:Int)-1+(k:Int)*(-1)).toNat]?=its.reverse[k]?:=λk hk=>by
  have hk:=List.mem_range.mp hk;rw[List.getElem?_reverse hk,show((its.length:Int)-1+(k:Int)*(-1)).toNat=its.length-1-k by omega];simp
 rw[p8 hall];have hh:=List.length_reverse (as:=its);generalize its.reverse=r at hh ⊢;rw[←hh];clear hh hall
 induction r with
 |nil=>rfl
 |cons a r ih=>
  rw[List.length_cons,List.range_succ_eq_map,List.filterMap_cons];simp only[List.getElem?_cons_zero,List.filterMap_map]
  congr 1
def mK{a sl:Addr}{its:List Value}{t:Tok}{Q:Value->Shared->Prop}(ht:IsTup s.heap a its.toArray)(hs:s.heap.IsSliceOf sl .none .none (.int (-1) t))(hsz:its.length<=sizeLine)
  (h:Q (.ref s.heap.objs.size) { s with heap:=s.heap.push { cls:=.type "tuple",data:=.seq its.reverse.toArray } }):wpAny (model prog w) A (getItem (.ref a) (.ref sl)) Q E s:=by
 obtain⟨os,hos,hcs,hds⟩:=id hs;have hTs:s.TypeIs (.ref sl) "slice":=⟨os,hos,hcs⟩
 have htake:sizeOk (.seq its.reverse.toArray):=by
  show its.reverse.toArray.size<=sizeLine;rw[List.size_toArray,List.length_reverse];exact hsz
 unfold getItem
 try with_reducible refine wpAny_holding ?_
 first|refine wpAny_bind (wpAny_pure ?_)|skip
 refine wpAny_bind (wpAny_sequenceKey ht.typeIs (by decide) ?_);refine wpAny_bind (wpAny_callSpecial?_slot (name:=Str.ofString "__getitem__") ht.typeIs PyProof.Rows.slot_tuple_getitem
  (wpAny_call_entry PyProof.Rows.slot_tuple_getitem ht.typeIs entry_tuple_getitem ?_ (args_tuple_getitem _ _)))
 show wpAny _ _ (Builtin.Tuple.tupleItemsOf (.ref a) >>= _) _ _ s;refine wpAny_bind (tupleItemsOf_ ht ?_);refine wpAny_bind (wpAny_typeOf hTs ?_);rw[if_pos (by decide)];refine wpAny_bind (qA (n:=its.toArray.size) hs ?_);have hno:¬((((its.toArray.size:Int)-1)==0&&(-1:Int)==1&&its.toArray.size==its.toArray.size)=true):=by
  intro q;rw[Bool.and_eq_true,Bool.and_eq_true]at q;exact absurd q.1.2 (by decide)
 show wpAny _ _ (if((((its.toArray.size:Int)-1)==0&&(-1:Int)==1&&its.toArray.size==its.toArray.size)=true) then _ else _) _ _ s;rw[if_neg hno,List.size_toArray,uv]
 first
  |exact wpAny_bind (m:=Builtin.Tuple.tupleExact _) (wpAny_newObj_type (wpAny_pure ⟨_,rfl,wpAny_pure h⟩) htake)
  |exact wpAny_bind (m:=Builtin.Tuple.tupleExact _) (wpAny_newObj_type (wpAny_bind (wpAny_pure (wpAny_pure ⟨_,rfl,wpAny_pure h⟩))) htake)
  |exact wpAny_bind (wpAny_bind (m:=Builtin.Tuple.tupleExact _) (wpAny_newObj_type (wpAny_pure (wpAny_pure ⟨_,rfl,wpAny_pure h⟩)) htake))
  |exact wpAny_bind (wpAny_bind (m:=Builtin.Tuple.tupleExact _) (wpAny_newObj_type (wpAny_pure ⟨_,rfl,wpAny_pure h⟩) htake))
end
def tQ(x:D):ak D:=match x with
 |.tup ds=>.ok (.tup ds.reverse)
 |_=>.stuck
section
variable {X:Cx}{E:XK}{e a st:Expr}{f:cr}{te:TE}{pos p2:Pos}
def DN(K:W.Frag)(te:TE):TE:=λσ H Q=>te σ H λx H1=>∃a xs,x=.ref a/\gk K H1 a xs/\∀p,H1 p=none->Q (.ref p) (upd H1 p (.tup xs.reverse))
def zb(he:PE X e te)(hst:∀(pins:List (Addr×Obj)) (s:Shared) (σ:L2.St) (H:Hp) (Q:VK),Inv X pins σ H s->Q (.int (-1)) H->wpAny (model X.prog X.w) X.A (eval st X.env) (EP X pins σ Q) X.xe s):PE X (.Subscript e (.Slice none none (some st) p2) pos) (DN X.K te):=by
 intro pins s σ H Q I h;refine Subscript_ (cG (he pins s σ H _ I h) λv s1 ⟨x,H1,I1,r1,a,xs,ex,hx,q⟩=>?_);subst ex;cases r1;refine wpAny_Slice (wpAny_evalPart_none (wpAny_evalPart_none ?_));show wpAny _ _ (eval st X.env) _ _ _;refine cG (hst pins s1 σ H1 (λv H2=>v=.int (-1)/\H2=H1) I1 ⟨rfl,rfl⟩) λvs s3 ⟨u,H3,I3,pu,eu,eh⟩=>?_;subst eu eh;obtain⟨t,rfl⟩:=pu;have I4:Inv X pins σ H3 { s3 with heap:=s3.heap.push { cls:=.type "slice",data:=.fields #[.none,.none,.int (-1) t] } }:=I3.kept (t':=s3.toks) λb ob q=>Heap.get?_push_of_some _ q;obtain⟨its,r,ht,hz⟩:=I4.tuple hx;have hg:wpAny (model X.prog X.w) X.A (getItem (.ref a) (.ref s3.heap.objs.size)) (EP X pins σ Q) X.xe { s3 with heap:=s3.heap.push { cls:=.type "slice",data:=.fields #[.none,.none,.int (-1) t] } }:=by
  refine mK ht (Heap.IsSliceOf.new ..) (by rw[←r.length];exact hz) ?_;refine⟨.ref _,_,I4.laid (t':=s3.toks) (o:=.tup xs.reverse) (λb ob q=>Heap.get?_push_of_some _ q) (Nat.le_refl _) ?_,rfl,q _ (I4.hok.fresh (Nat.le_refl _))⟩;exact⟨by rw[List.length_reverse];exact hz,_,aY.rev r,IsTup.new _ _⟩
 exact tail_any (ops:=[.ref a,.ref s3.heap.objs.size]) ht.typeIs slot_tuple_getitem.lookup hg (by with_unfolding_all rfl)
def AE{p3 p4:Pos}{k:Nat}(ha:DE X E a f):DE X E (.Subscript a (.Slice none none (some (.UnaryOp .USub (.Constant (.int 1) k p3) p4)) p2) pos) (aL f tQ):=by
 refine⟨aQ (zb ha.o λpins s σ H Q I q=>Bb (pos:=p4) vw (wz (i:=1) (j:=k) (pos:=p3)) pins s σ H Q I ⟨1,rfl,q⟩) λσ H Q z9=>?_⟩;obtain⟨Ha,ρ,hs,hr,q⟩:=z9;refine⟨Ha,ρ,hs,hr,?_⟩;unfold aL at q;cases e1:f ρ with
 |stuck|exn x=>rw[e1]at q;exact q
 |ok d=>
  rw[e1]at q;intro v H1 H01 g1 r1;cases d with
  |tup ds=>
   obtain⟨b,xs,rfl,h1,h2⟩:=aG.mp r1;refine⟨b,xs,rfl,az.sqT g1.sub h1,λp hp=>?_⟩;have G:=aI (o:=.tup xs.reverse) g1.sub hp;exact q _ _ _ (g1.trans G) (aG.mpr ⟨p,_,rfl,gk.of aJ,(Reps.rev h2).mono G.z⟩)
  |_=>exact q.elim
end
end DL
namespace DL
open PySem L2
section
variable {α β:Type}
def Rf(a b:ak α):Prop:=a=.stuck∨a=b
def cc{a b:ak α}{f g:α->ak β}(h:Rf a b)(k:∀x,Rf (f x) (g x)):Rf (a.bind f) (b.bind g):=by
 rcases h with rfl|rfl
 .exact .inl rfl
 .cases a with
  |ok x=>exact k x
  |exn x=>exact .inr rfl
  |stuck=>exact .inl rfl
structure iP (f g:Ev->ak α):Prop where
 o:∀ρ,Rf (f ρ) (g ρ)
end
structure Dw (f g:ac->ak D):Prop where
 o:∀ds,Rf (f ds) (g ds)
def Dw.ok{f g:ac->ak D}(h:Dw f g){ds:ac}{d:D}(e:f ds=.ok d):g ds=.ok d:=by
 rcases h.o ds with q|q
 .rw[q]at e;cases e
 .rw[←q];exact e
def rfm_refl{f:ac->ak D}:Dw f f:=⟨λ_=>.inr rfl⟩
def rf_refl{α:Type}{f:Ev->ak α}:iP f f:=⟨λ_=>.inr rfl⟩
section
variable {s s' t t':db}{c c' f f':cr}{fa fa':Ev->ak (ac)}{m m':ac->ak D}
def rf_stuck:iP lH s:=⟨λ_=>.inl rfl⟩
def rf_seq(h1:iP s s')(h2:iP t t'):iP (ar s t) (ar s' t'):=⟨λρ=>cc (h1.o ρ) λr=>by
 cases r with
 |nx ρ'=>exact h2.o ρ'
 |_=>exact .inr rfl⟩
def rf_if(hc:iP c c')(h1:iP s s')(h2:iP t t'):iP (dR c s t) (dR c' s' t'):=⟨λρ=>cc (hc.o _) λr=>by
 cases r with
 |bl b=>cases b with
  |true=>exact h1.o ρ
  |false=>exact h2.o ρ
 |_=>exact .inr rfl⟩
theorem kT{tg:Ev->D->ak Ev}(h:iP s s'):∀(ds:ac) (ρ:Ev),Rf (c8 tg s ds ρ) (c8 tg s' ds ρ)
 |[],ρ=>.inr rfl
 |d::r,ρ=>by
  unfold c8;refine cc (.inr rfl) λρ1=>cc (h.o ρ1) λx=>?_;cases x with|nx ρ2|ct ρ2=>exact kT h r ρ2|bk ρ2|rt d=>exact .inr rfl
def rf_for{tg:Ev->D->ak Ev}(hf:iP f f')(h:iP s s'):iP (fb f tg s) (fb f' tg s'):=⟨λρ=>cc (hf.o ρ) λd=>by
 cases d with
 |lst ds=>exact kT h ds ρ
 |_=>exact .inr rfl⟩
def rf_forI{tg:Ev->D->ak Ev}{src:Ev->ak (ac)}(h:iP s s'):iP (A6 src tg s) (A6 src tg s'):=⟨λρ=>cc (.inr rfl) λds=>kT h ds ρ⟩
def rf_drop(h:iP f f'):iP (o9 f) (o9 f'):=⟨λρ=>cc (h.o _) λ_=>.inr rfl⟩
def rf_ret(h:iP f f'):iP (bS f) (bS f'):=⟨λρ=>cc (h.o _) λ_=>.inr rfl⟩
def rf_set{i:Nat}(h:iP f f'):iP (aR i f) (aR i f'):=⟨λρ=>cc (h.o _) λ_=>.inr rfl⟩
def rf_b1{op:D->ak D}(h:iP f f'):iP (aL f op) (aL f' op):=⟨λρ=>cc (h.o _) λ_=>.inr rfl⟩
def rf_not(h:iP f f'):iP (c9 f) (c9 f'):=rf_b1 h
def rf_b2{op:D->D->ak D}(h:iP f f')(h2:iP c c'):iP (ah f c op) (ah f' c' op):=⟨λρ=>cc (h.o _) λ_=>cc (h2.o _) λ_=>.inr rfl⟩
def rf_bA(h:iP fa fa')(hm:Dw m m'):iP (aj fa m) (aj fa' m'):=⟨λρ=>cc (h.o _) λds=>hm.o ds⟩
def rf_cons(h:iP f f')(h2:iP fa fa'):iP (aa f fa) (aa f' fa'):=⟨λρ=>cc (h.o _) λ_=>cc (h2.o _) λ_=>.inr rfl⟩
def BI{n:Nat}(h:iP s s'):Dw (cy n s) (cy n s'):=⟨λds=>cc (h.o _) λr=>.inr rfl⟩
end
end DL
local macro_rules|`(tactic|open_line with[rf_go])=>`(tactic|repeat (first|with_reducible exact DL.rf_refl|with_reducible exact DL.rf_stuck|with_reducible assumption|with_reducible exact DL.rfm_refl|with_reducible refine DL.rf_seq ?_ ?_|with_reducible refine DL.rf_if ?_ ?_ ?_|with_reducible refine DL.rf_for ?_ ?_|with_reducible refine DL.rf_forI ?_|with_reducible refine DL.rf_drop ?_|with_reducible refine DL.rf_ret ?_|with_reducible refine DL.rf_set ?_|with_reducible refine DL.rf_not ?_|with_reducible refine DL.rf_bA ?_ ?_|with_reducible refine DL.rf_cons ?_ ?_|with_reducible refine DL.rf_b1 ?_|with_reducible refine DL.rf_b2 ?_ ?_))
namespace Wex
open PySem L2 DL Com
def b_look_at_purse:db :=
 (ar (dR (kN (c9 (aj (aa (ae 0) ax) m_is_ratio)) (ah (ah (ae 0) (dC (.int 0)) bq) (dC (.int 0)) Gj))
 (ar (qO "NoPurse" (aa (dC (.str "a purse is a fraction from 0 on")) ax))
 aq)
 aq)
 aq)
def m_look_at_purse:ac->ak D:=cy 1 b_look_at_purse
def vW:Dw Com.m_look_at_purse m_look_at_purse:=BI (by unfold Com.b_look_at_purse b_look_at_purse;open_line with[rf_go])
def purseX{x:jO}(h:Dm x)(h0:0<=x.1):m_look_at_purse [fr x]=.ok .non:=vW.ok (wg h h0)
end Wex
namespace Com
open PySem L2 DL
section
variable {s t:Ev->ac->ak MFl}{S:db}{f g h:Ev->ac->ak (D×ac)}{F:cr}{fa:Ev->ac->ak (ac×ac)}{src:Ev->ak (ac)}{srm:Ev->ac->ak (ac×ac)}{tg:Ev->D->ak Ev}{ρ r:Ev}{i j n:Nat}{d x y:D}{st ds xs:ac}{op:D->D->ak D}{a:Addr}
def C1:uk (.pt a)=.pt a:=aO rfl
end
end Com
def Gr:=@C1
local macro_rules|`(tactic|open_line with[$xs,*])=>`(tactic|simp only[Dn,Fq,Gr,List.map_cons,List.map_nil,List.length_cons,List.length_nil,List.replicate_succ,List.replicate_zero,List.nil_append,List.cons_append,List.getElem?_cons_zero,List.getElem?_cons_succ,List.set_cons_zero,List.set_cons_succ,Nat.sub_zero,Nat.reduceSub,Nat.reduceAdd,Nat.add_zero,Nat.zero_add,Bool.not_true,Bool.not_false,decide_true,decide_false,Nat.reduceLeDiff,Nat.reduceBEq,Int.reduceBEq,beq_self_eq_true,DL.dOne,DL.mYes,Int.reduceLT,Int.reduceLE,Int.reduceSub,Int.reduceAdd,Int.reduceMul,Int.reduceNeg,Int.reduceToNat,Bool.and_self,$[$xs:term],*])
namespace K64
open PySem L2 DL
noncomputable def bN(mR:ac->ak D):db :=
 (ar (dR (aL (ae 1) (qm ["tuple","list"]))
 (ar (dR (ah (aL (ae 0) (dE "tuple")) (aL (ae 1) (dE "tuple")) l8)
 (ar (bS (dC (.bl false)))
 aq)
 aq)
 (ar (dR (kN (ah (aL (ae 0) (dE "list")) (aL (ae 1) (dE "list")) l8) (ah (aj (aa (ae 0) ax) (m1 ic)) (aj (aa (ae 1) ax) (m1 ic)) l8))
 (ar (bS (dC (.bl false)))
 aq)
 aq)
 (ar (bS (aj (aa (eG 2 [] (kh (ae 0) (ae 1)) (bY [0,1]) mYes (aj (aa (ae 0) (aa (ae 1) ax)) mR)) ax) (m1 uV)))
 aq)))
 aq)
 (ar (dR (kN (ah (ae 1) (dC (.non)) jk) (aL (ae 1) (dE "str")))
 (ar (bS (fg (ah (ae 0) (ae 1) iK) (ah (aL (ae 0) (dE "str")) (aL (ae 1) (dE "str")) iK)))
 aq)
 aq)
 (ar (bS (fg (aL (ae 0) (dE "int")) (fg (c9 (aL (ae 0) (dE "bool"))) (ah (ae 0) (ae 1) iK))))
 aq)))
def aH:Nat->ac->ak D
 |0=>λ_=>.stuck
 |n+1=>cy 2 (bN (aH n))
end K64
namespace K66
open PySem L2 DL
def dY:List (Str×Bool):=[("NoPurse",true)]
def oX:Str->Option Bool:=lC [("NoPurse",false)]
def oW:Str->Option Bool:=lC [("NoPurse",true)]
def oV:Str->Option Bool:=lC [("NoPurse",true)]
abbrev cA:ac->ak D:=Cod.cA
noncomputable def fI:db :=
 (ar (gr 2 (aj ax bU))
 (ar (aR 3 (dC (.int 0)))
 (ar (aR 4 (ah (ah (ae 0) (dC (.int 0)) bq) (ah (aj (aa (dC (.int 10)) (aa (ah (dC (.int 10)) (dC (.int 15)) dS) ax)) bU) (ah (ae 0) (dC (.int 1)) bq) bq) df))
 (ar (sN (ah (dC (.int 1)) (ah (ae 0) (dC (.int 2)) bq) bu) (eJ 5)
 (ar (dR (ah (ae 3) (ae 1) tT)
 (ar (bE 2 (aj (aa (ae 3) (aa (ae 4) ax)) cb))
 aq)
 aq)
 (ar (aR 3 (ah (ah (ae 3) (dC (.int 1)) bu) (ah (ah (ae 0) (ah (dC (.int 3)) (ah (dC (.int 2)) (ae 5) dP) bu) bq) (ah (aj (aa (dC (.int 6)) (aa (ah (dC (.int 10)) (dC (.int 15)) dS) ax)) bU) (ah (ae 0) (dC (.int 11)) bq) bq) df) bu))
 (ar (aR 4 (ah (ah (ae 4) (dC (.int 1)) bu) (ah (ah (ae 0) (ah (dC (.int 4)) (ah (dC (.int 2)) (ae 5) dP) bu) bq) (ah (aj (aa (dC (.int 6)) (aa (ah (dC (.int 10)) (dC (.int 15)) dS) ax)) bU) (ah (ae 0) (dC (.int 11)) bq) bq) df) bu))
 aq))))
 (ar (dR (ah (ah (ae 0) (dC (.int 12)) bq) (dC (.int 0)) iK)
 (ar (vP 2 (aj (aa (ah (ah (ae 2) (aL (dC (.int 1)) fG) bq) (dC (.int 0)) bq) (aa (ah (dC (.int 10)) (dC (.int 40)) dS) ax)) cb) (aL (dC (.int 1)) fG))
 aq)
 aq)
 (ar (bS (ae 2))
 aq))))))
def aV:ac->ak D:=cy 6 fI
abbrev bB:ac->ak D:=Cod.bB
noncomputable def jI:db :=
 (ar (gr 2 (aj ax bU))
 (ar (fb (ae 0) (bY [3,4])
 (ar (dR (ah (ae 4) (ah (dC (.int 10)) (dC (.int 40)) dS) Dr)
 (ar (bE 2 (aj (aa (aj (aa (ae 3) (aa (ae 1) ax)) bB) (aa (dC (.non)) ax)) cb))
 aq)
 (ar (bE 2 (aj (aa (aj (aa (ae 3) (aa (ae 1) ax)) bB) (aa (aj (aa (ae 4) (aa (ae 1) ax)) bB) ax)) cb))
 aq))
 aq))
 (ar (bS (ae 2))
 aq)))
def aT:ac->ak D:=cy 5 jI
noncomputable def kD:db :=
 (ar (aR 4 (aL (dC (.int 1)) fG))
 (ar (fb (ae 0) (bY [5,6])
 (ar (fb (ae 1) (bY [7,8])
 (ar (dR (fg (ah (ah (ae 5) (ae 7) bu) (ae 2) tT) (ae 3))
 (ar (aR 4 (aj (aa (ae 4) (aa (aj (aa (ah (dC (.int 10)) (dC (.int 40)) dS) (aa (ah (ae 6) (ae 8) bu) ax)) (m2 uU)) ax)) (m2 oz)))
 aq)
 aq)
 (ar (dR (fg (ah (ah (ae 5) (ae 7) bu) (ae 2) tT) (c9 (ae 3)))
 (ar (aR 4 (aj (aa (ae 4) (aa (aj (aa (ae 6) (aa (ae 8) ax)) (m2 uU)) ax)) (m2 oz)))
 aq)
 aq)
 aq)))
 aq))
 (ar (bS (ae 4))
 aq)))
def eC:ac->ak D:=cy 9 kD
noncomputable def iZ:db :=
 (ar (gr 4 (aj ax bU))
 (ar (aR 5 (aj ax bU))
 (ar (fb (ae 0) (bY [6,7])
 (ar (aR 5 (ah (ae 5) (eG 2 [6] (nL (ae 1)) (bY [0,1]) mYes (ah (ae 2) (ae 0) bu)) bu))
 aq))
 (ar (fb (aj (aa (ae 5) ax) (m1 kz)) (eJ 8)
 (ar (aR 9 (aj (aa (ae 0) (aa (ae 1) (aa (ae 8) (aa (ae 3) ax)))) eC))
 (ar (dR (fg (ah (ae 8) (ae 2) tT) (kN (ah (ae 4) (aj ax bU) iK) (ah (ae 9) (ah (ah (ae 4) (aL (dC (.int 1)) fG) bq) (dC (.int 1)) bq) Bn)))
 (ar (bE 4 (aj (aa (ae 8) (aa (ae 9) ax)) cb))
 aq)
 aq)
 aq)))
 (ar (bS (ae 4))
 aq)))))
def cI:ac->ak D:=cy 10 iZ
abbrev m_is_whole:ac->ak D:=Com.m_is_whole
abbrev m_common_divisor:ac->ak D:=Com.m_common_divisor
abbrev m_ratio:ac->ak D:=Com.m_ratio
def fz:db :=
 (ar (dR (ah (ae 1) (dC (.non)) jk)
 (ar (bS (dC (.bl false)))
 aq)
 aq)
 (ar (bS (kN (ah (ae 0) (dC (.non)) jk) (ah (ae 0) (ae 1) Bn)))
 aq))
def bP:ac->ak D:=cy 2 fz
noncomputable def il:db :=
 (ar (gr 1 (aj ax bU))
 (ar (fb (aj (aa (aj (aa (ae 0) ax) (m1 l9)) ax) (m1 kz)) (eJ 2)
 (ar (dR (kN (ah (ae 1) (aj ax bU) iK) (aj (aa (ah (ae 0) (ae 2) ie) (aa (ah (ah (ae 1) (aL (dC (.int 1)) fG) bq) (dC (.int 1)) bq) ax)) bP))
 (ar (bE 1 (aj (aa (ae 2) (aa (ah (ae 0) (ae 2) ie) ax)) cb))
 aq)
 aq)
 aq))
 (ar (bS (ae 1))
 aq)))
def dM:ac->ak D:=cy 3 il
noncomputable def fy:db :=
 (ar (vR 1)
 (ar (fb (ae 0) (bY [2,3])
 (ar (dR (kN (ah (ae 2) (ae 1) iJ) (aj (aa (ae 3) (aa (ah (ae 1) (ae 2) ie) ax)) bP))
 (ar (o8 1 (ae 3) (ae 2))
 aq)
 aq)
 aq))
 (ar (bS (ae 1))
 aq)))
def cN:ac->ak D:=cy 4 fy
noncomputable def iY:db :=
 (gZ (gr 3 (aj ax bU))
 (gZ (fb (aj (aa (aj (aa (ae 0) ax) cN) ax) dM) (bY [4,5])
 (ar (bE 3 (aj (aa (aj (aa (ae 4) (aa (ae 1) ax)) m_ratio) (aa (AL (ah (ae 5) (dC (.non)) jk) (dC (.non)) (aj (aa (ae 5) (aa (ae 2) ax)) m_ratio)) ax)) cb))
 aq))
 (vO 3)))
def ef:ac->ak D:=gR 6 iY
abbrev m_shared_bottom:ac->ak D:=Com.m_shared_bottom
abbrev m_as_whole:ac->ak D:=Com.m_as_whole
abbrev m_on_one_scale:ac->ak D:=Com.m_on_one_scale
abbrev m_is_ratio:ac->ak D:=Com.m_is_ratio
abbrev m_look_at_purse:ac->ak D:=Wex.m_look_at_purse
noncomputable def dk(a:Addr) (mF:ac->ak D):db :=
 (gZ (o9 (aj (aa (ae 2) ax) m_look_at_purse))
 (gZ (aR 4 (aj (aa (ah (eG 2 [] (nL (ah (ae 0) (ae 1) bu)) (bY [0,1]) mYes (ae 0)) (aj (aa (ae 2) ax) bU) bu) ax) m_on_one_scale))
 (gZ (aR 5 (aj (aa (eG 2 [] (nL (ah (ae 0) (ae 1) bu)) (bY [0,1]) mYes (ae 1)) ax) m_on_one_scale))
 (gZ (aR 6 (ah (kM (ah (ae 4) (dC (.int 0)) bq) gN (fY (aL (dC (.int 1)) fG))) (ah (ae 5) (dC (.int 0)) bq) l7))
 (gZ (gr 7 (aj ax bU))
 (gZ (fb (kM (ae 6) gN (fY (aj (aa (ae 0) ax) (m1 ic)))) (bY [8,9])
 (ar (fb (kM (ae 6) (fY (aj (aa (ae 0) ax) (m1 ic))) gN) (bY [10,11])
 (ar (dR (ah (ah (ae 8) (ae 10) bu) (ah (ah (ae 4) (dC (.int 0)) bq) (aL (dC (.int 1)) fG) bq) tT)
 (ar (fW 7 3 a (aj (aa (ah (ae 8) (ae 10) bu) (aa (aj (aa (ae 9) (aa (ae 11) ax)) mF) ax)) cb))
 aq)
 aq)
 aq))
 aq))
 (BG 7 (iV (aj (aa (ae 7) (aa (ah (ae 4) (dC (.int 1)) bq) (aa (ah (ae 5) (dC (.int 1)) bq) ax))) ef)))))))))
def aU(mF:ac->ak D)(a:Addr):ac->ak D:=lI 12 (dk a mF) a
def et:db :=
 (ar (bS (AL (kN (ah (ae 0) (dC (.non)) jk) (ah (ae 1) (dC (.non)) jk)) (dC (.non)) (ah (ae 0) (ae 1) bu)))
 aq)
def bM:ac->ak D:=cy 2 et
noncomputable def eL:db :=
 (iV (aj (aa (ae 0) (aa (ae 1) (aa (ae 2) ax))) (vc (aU bM))))
noncomputable def aN:ac->ak D:=gR 3 eL
def d9:db :=
 (ar (bS (AL (aj (aa (ae 0) (aa (ae 1) ax)) bP) (ae 1) (ae 0)))
 aq)
def bD:ac->ak D:=cy 2 d9
noncomputable def eK:db :=
 (iV (aj (aa (ae 0) (aa (ae 1) (aa (ae 2) ax))) (vc (aU bD))))
noncomputable def aM:ac->ak D:=gR 3 eK
noncomputable def bN(mR:ac->ak D):db :=
 (ar (dR (aL (ae 1) (qm ["tuple","list"]))
 (ar (dR (ah (aL (ae 0) (dE "tuple")) (aL (ae 1) (dE "tuple")) l8)
 (ar (bS (dC (.bl false)))
 aq)
 aq)
 (ar (dR (kN (ah (aL (ae 0) (dE "list")) (aL (ae 1) (dE "list")) l8) (ah (aj (aa (ae 0) ax) (m1 ic)) (aj (aa (ae 1) ax) (m1 ic)) l8))
 (ar (bS (dC (.bl false)))
 aq)
 aq)
 (ar (bS (aj (aa (eG 2 [] (kh (ae 0) (ae 1)) (bY [0,1]) mYes (aj (aa (ae 0) (aa (ae 1) ax)) mR)) ax) (m1 uV)))
 aq)))
 aq)
 (ar (dR (kN (ah (ae 1) (dC (.non)) jk) (aL (ae 1) (dE "str")))
 (ar (bS (fg (ah (ae 0) (ae 1) iK) (ah (aL (ae 0) (dE "str")) (aL (ae 1) (dE "str")) iK)))
 aq)
 aq)
 (ar (bS (fg (aL (ae 0) (dE "int")) (fg (c9 (aL (ae 0) (dE "bool"))) (ah (ae 0) (ae 1) iK))))
 aq)))
def aH:Nat->ac->ak D
 |0=>λ_=>.stuck
 |n+1=>cy 2 (bN (aH n))
abbrev cB:ac->ak D:=aH 5
noncomputable def jJ:db :=
 (ar (aR 4 (aj (aa (aj (aa (ae 0) (aa (ae 3) ax)) aT) (aa (aj (aa (ae 1) (aa (ae 3) ax)) aT) (aa (aj (aa (ae 2) (aa (ae 3) ax)) bB) ax))) cb))
 (ar (fb (aj (aa (dC (.bl true)) (aa (dC (.bl false)) ax)) bU) (eJ 5)
 (ar (aR 6 (aj (aa (aj (aa (ae 0) (aa (ae 1) (aa (ae 2) (aa (ae 5) ax)))) cI) (aa (ae 3) ax)) aT))
 (ar (aR 7 (aj (aa (ah (ae 4) (dC (.int 0)) bq) (aa (ah (ae 4) (dC (.int 1)) bq) ax)) cb))
 (ar (fb (aj (aa (ae 7) (aa (aL (ae 7) tQ) (aa (ae 7) ax))) bU) (bY [8,9])
 (ar (dR (ae 5)
 (ar (gr 10 (aj (aa (ae 8) (aa (ae 9) (aa (ah (ae 4) (dC (.int 2)) bq) ax))) (noX aN)))
 aq)
 (ar (gr 10 (aj (aa (ae 8) (aa (ae 9) (aa (ah (ae 4) (dC (.int 2)) bq) ax))) (noX aM)))
 aq))
 (ar (dR (c9 (aj (aa (ae 10) (aa (ae 6) ax)) cB))
 (ar (bS (dC (.bl false)))
 aq)
 aq)
 (ar (i6 10)
 aq))))
 aq))))
 (ar (bS (ah (kM (ae 4) gN (fY (dC (.int 2)))) (aj (aa (aj (aa (ae 0) (aa (ae 3) ax)) aT) (aa (aj (aa (ae 1) (aa (ae 3) ax)) aT) ax)) cb) iK))
 aq)))
noncomputable def cW:ac->ak D:=cy 11 jJ
noncomputable def iq:db :=
 (ar (gr 3 (aj ax bU))
 (ar (fb (aj (aa (dC (.bl true)) (aa (dC (.bl false)) ax)) bU) (eJ 4)
 (ar (o7 (i5 (ae 4)
 (dX (aa (ae 0) (aa (ae 1) (aa (ae 2) ax))) aN)
 (dX (aa (ae 0) (aa (ae 1) (aa (ae 2) ax))) aM)) (lX dY) 5
 (ar (aR 6 (kN (aL (ae 5) (ff oX)) (c9 (aL (ae 5) (ff oW)))))
 (ar (bE 3 (fg (aL (ae 5) (ff oV)) (c9 (ae 6))))
 aq)))
 aq))
 (ar (bS (ah (ae 3) (aj (aa (dC (.bl true)) (aa (dC (.bl true)) ax)) bU) iK))
 aq)))
noncomputable def cg:ac->ak D:=cy 7 iq
noncomputable def Bq:db :=
 (ar (fb (kM (ah (ae 0) (aj (aa (dC (.int 0)) ax) bU) bu) gN (fY (dC (.int 63)))) (eJ 1)
 (ar (aR 2 (ah (ah (aj (aa (ah (dC (.int 10)) (dC (.int 15)) dS) (aa (dC (.int 2)) (aa (dC (.int 4)) ax))) bU) (vY (aj (aa (ah (dC (.int 10)) (dC (.int 15)) dS) ax) bU) (dC (.int 8))) bu) (aj (aa (dC (.int 2)) (aa (dC (.int 3)) ax)) bU) bu))
 (ar (aR 3 (aj (aa (ae 1) (aa (ah (ah (ae 2) (ae 2) bu) (aj (aa (dC (.int 60)) (aa (dC (.int 5)) (aa (dC (.int 4)) (aa (dC (.int 4)) (aa (ah (dC (.int 10)) (dC (.int 16)) dS) (aa (dC (.int 3)) (aa (dC (.int 12)) ax))))))) bU) bu) ax)) cA))
 (ar (aR 4 (ah (dC (.int 10)) (dC (.int 30)) dS))
 (ar (aR 5 (aj (aa (aj (aa (ae 3) (aa (ae 4) ax)) aV) (aa (aj (aa (kM (ae 3) (fY (dC (.int 13))) gN) (aa (ae 4) ax)) aV) ax)) bU))
 (ar (aR 6 (ah (ah (ae 3) (dC (.int 30)) bq) (dC (.int 40)) df))
 (ar (dR (ah (ah (ae 3) (dC (.int 27)) bq) (dC (.int 1)) Bn)
 (ar (aR 7 (ah (ah (ae 5) (dC (.int 0)) bq) (ah (ah (ae 3) (dC (.int 28)) bq) (aj (aa (ah (ae 5) (dC (.int 0)) bq) ax) (m1 ic)) df) bq))
 (ar (aR 8 (ah (ah (ae 5) (dC (.int 1)) bq) (ah (ah (ae 3) (dC (.int 29)) bq) (aj (aa (ah (ae 5) (dC (.int 1)) bq) ax) (m1 ic)) df) bq))
 (ar (aR 6 (aj (aa (dC (.int 0)) (aa (ah (ah (ah (ah (ae 7) (dC (.int 0)) bq) (ah (ae 8) (dC (.int 0)) bq) bu) (ah (ae 3) (dC (.int 31)) bq) bu) (dC (.int 1)) AK) ax)) (m2 oz)))
 aq)))
 aq)
 (ar (dR (ah (ah (ae 3) (dC (.int 27)) bq) (dC (.int 1)) iK)
 (ar (aR 6 (ah (ae 3) (dC (.int 30)) bq))
 aq)
 aq)
 (ar (aR 9 (aj (aa (ae 3) (aa (ae 6) ax)) aV))
 (ar (aR 10 (aj (aa (kM (ae 3) (fY (dC (.int 13))) gN) (aa (ae 6) ax)) aV))
 (ar (dR (c9 (aj (aa (ae 9) (aa (ae 10) (aa (ae 6) (aa (ah (dC (.int 1)) (ah (ae 3) (dC (.int 26)) bq) bu) ax)))) cW))
 (ar (bS (dC (.bl false)))
 aq)
 aq)
 (ar (aR 11 (aj (aa (dC (.non)) (aa (aj (aa (aL (dC (.int 1)) fG) (aa (dC (.int 2)) ax)) cb) (aa (aj (aa (dC (.int 2)) (aa (dC (.int 2)) ax)) cb) (aa (dC (.int 1)) (aa (dC (.bl true)) (aa (aj (aa (dC (.int 1)) (aa (dC (.int 0)) ax)) cb) (aa (aj (aa (dC (.int 1)) (aa (dC (.int 1)) ax)) bU) (aa (dC (.str "1")) ax)))))))) bU))
 (ar (aR 12 (ah (ah (ae 11) (aj (aa (aj (aa (dC (.int 1)) ax) cb) (aa (aj (aa (dC (.int 0)) (aa (dC (.int 2)) ax)) cb) (aa (aj (aa (dC (.bl true)) (aa (dC (.int 1)) ax)) cb) (aa (dC (.dic [] [])) ax)))) bU) bu) (ah (ae 3) (dC (.int 32)) bq) bq))
 (ar (dR (c9 (aj (aa (aj (aa (ae 9) (aa (dC (.int 1)) ax)) aT) (aa (aj (aa (ae 10) (aa (dC (.int 1)) ax)) aT) (aa (ae 12) ax))) cg))
 (ar (bS (dC (.bl false)))
 aq)
 aq)
 aq))))))))))))))
 (ar (bS (dC (.bl true)))
 aq))
noncomputable def m_law:ac->ak D:=cy 13 Bq
def top(i:Nat):Stmt:=PySem.Challenge.pw_farthestcut_k66_treads_joined.main.body.getD i (.Pass ⟨0,0,0,0⟩)
noncomputable def rows:List Rw:=[
 ⟨"_law_draws",top 30,["_law_cell","_law_tops","_law_found","_law_left","_law_mixed","_law_k"],2⟩,
 ⟨"_law_treads",top 33,["_law_d","_law_purse","_law_found","_law_worth","_law_length","_law_k"],2⟩,
 ⟨"_law_low",top 31,["_law_top","_law_bottom","_law_one","_law_other"],2⟩,
 ⟨"_law_shown",top 34,["_law_treads_here","_law_bottom","_law_found","_law_worth","_law_length"],2⟩,
 ⟨"_law_best",top 35,["_law_one","_law_other","_law_purse","_law_summed","_law_best_here","_law_worth","_law_length","_law_cost","_law_more"],4⟩,
 ⟨"_law_joined",top 36,["_law_one","_law_other","_law_purse","_law_summed","_law_found","_law_sums","_law_worth","_law_length","_law_spent","_law_best_here"],4⟩,
 ⟨"is_whole",top 8,["thing"],1⟩,
 ⟨"common_divisor",top 6,["one","other","larger","smaller","rest"],2⟩,
 ⟨"ratio",top 11,["top","bottom","divisor"],2⟩,
 ⟨"is_longer",top 22,["one","other"],2⟩,
 ⟨"rising_alone",top 21,["found","told","cost"],1⟩,
 ⟨"longest_by_cost",top 20,["sizes_left","found","cost","size"],1⟩,
 ⟨"treads_from",top 19,["sizes_left","costs_bottom","sizes_bottom","treads","cost","size"],3⟩,
 ⟨"shared_bottom",top 14,["some","bottom","one"],1⟩,
 ⟨"as_whole",top 15,["one","bottom"],2⟩,
 ⟨"on_one_scale",top 13,["some","bottom"],1⟩,
 ⟨"is_ratio",top 9,["thing"],1⟩,
 ⟨"look_at_purse",top 17,["thing"],1⟩,
 ⟨"treads_joined",top 26,["one","other","purse","size_of_both","worths","lengths","scaled","both","cost","size","other_cost","other_size"],4⟩,
 ⟨"sum_of_both",top 27,["size","other_size"],2⟩,
 ⟨"treads_behind",top 24,["one","other","purse"],3⟩,
 ⟨"lesser_of_both",top 28,["size","other_size"],2⟩,
 ⟨"treads_beside",top 25,["one","other","purse"],3⟩,
 ⟨"_law_alike",top 32,["_law_found","_law_due"],2⟩,
 ⟨"_law_right",top 38,["_law_one","_law_other","_law_purse","_law_bottom","_law_handed","_law_summed","_law_due","_law_pair","_law_first","_law_second","_law_found"],4⟩,
 ⟨"_law_refused",top 37,["_law_one","_law_other","_law_purse","_law_kinds","_law_summed","e","_law_wrong"],3⟩,
 ⟨"law",top 39,["_law_script","_law_cell","_law_tops","_law_d","_law_free","_law_whole","_law_purse","_law_first","_law_second","_law_one","_law_other","_law_some","_law_odd"],1⟩]
def sc:FA rows:=by decide +kernel
theorem nd(i:Nat){r:Rw}(h:rows[i]?=some r:=by rfl):r.N.Nodup:=(sc r (List.mem_of_getElem? h)).nd
def bn:∀r∈rows,Dy r:=by
 unfold rows
 repeat refine List.forall_mem_cons.mpr ⟨by first|exact G1|exact G0|exact GZ|exact GY|exact bd5,?_⟩
 exact λ_ h=>nomatch h
def Du(K:W.Frag)(r:Addr):List (Addr×Bool)->Prop
 |[]=>True
 |x::l=>W.subIn K (.ref r) (.ref x.1)=some x.2/\Du K r l
def sbc{K:W.Frag}{r c:Addr}{b:Bool}{l:List (Addr×Bool)}(h:W.subIn K (.ref r) (.ref c)=some b)(h':Du K r l):Du K r ((c,b)::l):=⟨h,h'⟩
theorem Ea{K:W.Frag}{r c:Addr}{b:Bool}:∀{l:List (Addr×Bool)},Du K r l->∀n:Nat,l[n]?=some (c,b)->W.subIn K (.ref r) (.ref c)=some b
 |_::_,h,0,e=>by cases e;exact h.1
 |_::_,h,n+1,e=>Ea h.2 n e
set_option genInjectivity false in
set_option genSizeOfSpec false in
structure Adr where
 cR:Addr
 dN:Addr
 cC:Addr
 bI:Addr
 A:Nat->Addr
 Q:Nat->FuncData
set_option genInjectivity false in
set_option genSizeOfSpec false in
structure Txt (K:W.Frag) (mg:Str->Option Value) (t:Adr):Prop where
 g:TG rows K mg t.A t.Q
 n_ValueError:mg "ValueError"=none
 n_abs:mg "abs"=none
 n_all:mg "all"=none
 n_bool:mg "bool"=none
 n_int:mg "int"=none
 n_isinstance:mg "isinstance"=none
 n_len:mg "len"=none
 n_list:mg "list"=none
 n_max:mg "max"=none
 n_min:mg "min"=none
 n_range:mg "range"=none
 n_sorted:mg "sorted"=none
 n_str:mg "str"=none
 n_tuple:mg "tuple"=none
 n_zip:mg "zip"=none
 rH:mg "CutError"=some (.ref t.cR)
 rE:iU K "CutError" t.cR
 xj:mg "NoJoin"=some (.ref t.dN)
 xg:iU K "NoJoin" t.dN
 rG:mg "NoNumber"=some (.ref t.cC)
 rB:iU K "NoNumber" t.cC
 nc:mg "NoPurse"=some (.ref t.bI)
 uI:iU K "NoPurse" t.bI
 cT:tX K "NoPurse" t.bI
 eS:Du K t.bI [(t.cR,true),(t.dN,false),(t.cC,false),(t.bI,true)]
section
variable {P:Program}{w:World}{K:W.Frag}{mg:Str->Option Value}{base:Heap}{t:Adr}
def kK(T:Txt K mg t):∀x C,lX dY x=true->XC K x C->W.exmOne K (.ref C) (.ref t.cR)=some true :=
 xh λq hq=>by
  unfold dY at hq;simp only[List.mem_cons,List.not_mem_nil,or_false]at hq;rcases hq with rfl
  .exact⟨t.bI,T.cT.xcls.xc,T.rE.exm (Ea T.eS 0 rfl)⟩
def vE(T:Txt K mg t):sr K oX [t.dN,t.cC] :=
 fV (p:=λ_ C b=>W.kitAny K (.ref C) ([t.dN,t.cC].map Value.ref)=some b) λq hq=>by
  simp only[List.mem_cons,List.not_mem_nil,or_false]at hq;rcases hq with rfl
  .exact⟨t.bI,T.cT.xcls.xc,(pQ (T.xg.kit T.cT.self (Ea T.eS 1 rfl)) (pQ (T.rB.kit T.cT.self (Ea T.eS 2 rfl)) rz))⟩
def vD(T:Txt K mg t):nJ K oW (.type "ValueError") :=
 fV (p:=λ_ C b=>W.kitOne K (.ref C) (.type "ValueError")=some b) λq hq=>by
  simp only[List.mem_cons,List.not_mem_nil,or_false]at hq;rcases hq with rfl
  .exact⟨t.bI,T.cT.xcls.xc,wW rq T.cT.ve⟩
def vC(T:Txt K mg t):nJ K oV (.ref t.bI) :=
 fV (p:=λ_ C b=>W.kitOne K (.ref C) (.ref t.bI)=some b) λq hq=>by
  simp only[List.mem_cons,List.not_mem_nil,or_false]at hq;rcases hq with rfl
  .exact⟨t.bI,T.cT.xcls.xc,T.uI.kit T.cT.self (Ea T.eS 3 rfl)⟩
def mH(T:Txt K mg t):eM P w K mg base CX0 1 (t.A 0) (t.Q 0) ["_law_cell","_law_tops"] (spD K 2 cA) "_law_draws" (top 30) :=
 oD T.g sc (i:=0) rfl λ_ _ _ _ _ _ _ _=>(
 (ai (fF (i:=2) (nd 0) rfl (Or.inl rfl) (gG av))
 (ai (aP (i:=3) (nd 0) rfl (Or.inl rfl) (bA ik ml rfl T.n_abs PyProof.Rows.Boot.«abs» (ag (dv 0) av)))
 (ai (aP (i:=4) (nd 0) rfl (Or.inl rfl) (dO (gI (dO (dv 0) ao) ao) ao))
 (ai (tK PassesOwn.never rfl rfl T.n_range (bA eI ij rfl T.n_len PyProof.Rows.Boot.«len» (ag (dv 1) av)) (er (i:=5) (nd 0) rfl (Or.inl rfl)) dq
 (ai (ck (bF wF (cL λ_ _ _ _=>rb _) (bA ik ml rfl T.n_abs PyProof.Rows.Boot.«abs» (ag (dv 0) av)) (eW ao ao) nm)
 (ai (cY (i:=2) rfl (Or.inl rfl) (dO (dv 3) (aB (dv 1) (dv 5))))
 (ai (aP (i:=3) (nd 0) rfl (Or.inl rfl) (jj (dv 3) (aB (dv 1) (dv 5))))
 au))
 (ai (aP (i:=4) (nd 0) rfl (Or.inl rfl) (dO (bG (bG (bG (gI (dv 4) (dv 4)) (gI ao (dv 4))) (gI ao (dv 5))) ao) ao))
 (ai (cY (i:=2) rfl (Or.inl rfl) (dO (dO (gI (dv 4) ao) ao) (aB (dv 1) (dv 5))))
 au)))
 au))
 (ai (bx (dv 2))
 au))))))
def dI(T:Txt K mg t):eM P w K mg base CX0 1 (t.A 1) (t.Q 1) ["_law_d","_law_purse"] (spD K 2 aV) "_law_treads" (top 33) :=
 oD T.g sc (i:=1) rfl λ_ _ _ _ _ _ _ hr=>(
 (ai (fF (i:=2) (nd 1) rfl (Or.inl rfl) (gG av))
 (ai (aP (i:=3) (nd 1) rfl (Or.inl rfl) ao)
 (ai (aP (i:=4) (nd 1) rfl (Or.inl rfl) (dO (aB (dv 0) ao) (aB (cE (ag ao (ag (eW ao ao) av))) (aB (dv 0) ao))))
 (ai (tK PassesOwn.never rfl rfl T.n_range (bG ao (aB (dv 0) ao)) (er (i:=5) (nd 1) rfl (Or.inl rfl)) dq
 (ai (ck (bF pD (cL λ_ _ _ _=>rb _) (dv 3) (dv 1) nm)
 (ai (cY (i:=2) rfl (Or.inl rfl) (cD (ag (dv 3) (ag (dv 4) av))))
 au)
 au)
 (ai (aP (i:=3) (nd 1) rfl (Or.inl rfl) (bG (bG (dv 3) ao) (dO (aB (dv 0) (bG ao (gI ao (dv 5)))) (aB (cE (ag ao (ag (eW ao ao) av))) (aB (dv 0) ao)))))
 (ai (aP (i:=4) (nd 1) rfl (Or.inl rfl) (bG (bG (dv 4) ao) (dO (aB (dv 0) (bG ao (gI ao (dv 5)))) (aB (cE (ag ao (ag (eW ao ao) av))) (aB (dv 0) ao)))))
 au))))
 (ai (ck (bF (eV hr.units) g8 (aB (dv 0) ao) ao nm)
 (ai (Av (i:=2) rfl (Or.inl rfl) (cD (ag (aB (aB (dv 2) (gH ao)) ao) (ag (eW ao ao) av))) (gH ao))
 au)
 au)
 (ai (bx (dv 2))
 au)))))))
def fk(T:Txt K mg t):eM P w K mg base CX0 1 (t.A 2) (t.Q 2) ["_law_top","_law_bottom"] (spD K 2 bB) "_law_low" (top 31) :=
 oD T.g sc (i:=2) rfl λ_ _ _ _ _ _ _ hr=>(
 (ai (aP (i:=2) (nd 2) rfl (Or.inl rfl) (bA ik ml rfl T.n_abs PyProof.Rows.Boot.«abs» (ag (dv 0) av)))
 (ai (aP (i:=3) (nd 2) rfl (Or.inl rfl) (dv 1))
 (ai (qi _ PassesOwn.never (bF (jS hr.units) mX (dv 3) ao nm)
 (ai (C3 (i:=2) (j:=3) rfl (nd 2) rfl rfl (by decide) rfl rfl (ag (dv 3) (ag (dO (dv 2) (dv 3)) av)) rfl)
 au))
 (ai (bx (cD (ag (jj (dv 0) (dv 2)) (ag (jj (dv 1) (dv 2)) av))))
 au)))))
def b8(T:Txt K mg t):eM P w K mg base CX0 2 (t.A 3) (t.Q 3) ["_law_treads_here","_law_bottom"] (spD K 2 aT) "_law_shown" (top 34) :=
 oD T.g sc (i:=3) rfl λ_ _ _ _ _ _ _ hr=>(
 (ai (fF (i:=2) (nd 3) rfl (Or.inl rfl) (gG av))
 (ai (dm PassesOwn.never rfl (dv 0) (dZ rfl (aW (i:=3) (nd 3) rfl (Or.inl rfl) (aW (i:=4) (nd 3) rfl (Or.inl rfl) cZ))) cU
 (ai (ck (bF wF (cL λ_ _ _ _=>rb _) (dv 4) (eW ao ao) nm)
 (ai (cY (i:=2) rfl (Or.inl rfl) (cD (ag (rC (fk T) hr (ag (dv 3) (ag (dv 1) av))) (ag d8 av))))
 au)
 (ai (cY (i:=2) rfl (Or.inl rfl) (cD (ag (rC (fk T) hr (ag (dv 3) (ag (dv 1) av))) (ag (rC (fk T) hr (ag (dv 4) (ag (dv 1) av))) av))))
 au))
 au))
 (ai (bx (dv 2))
 au))))
def nY(T:Txt K mg t):eM P w K mg base CX0 1 (t.A 4) (t.Q 4) ["_law_one","_law_other","_law_purse","_law_summed"] (spD K 4 eC) "_law_best" (top 35) :=
 oD T.g sc (i:=4) rfl λ_ _ _ _ _ _ _ _=>(
 (ai (aP (i:=4) (nd 4) rfl (Or.inl rfl) (gH ao))
 (ai (dm PassesOwn.never rfl (dv 0) (dZ rfl (aW (i:=5) (nd 4) rfl (Or.inl rfl) (aW (i:=6) (nd 4) rfl (Or.inl rfl) cZ))) cU
 (ai (dm PassesOwn.never rfl (dv 1) (dZ rfl (aW (i:=7) (nd 4) rfl (Or.inl rfl) (aW (i:=8) (nd 4) rfl (Or.inl rfl) cZ))) cU
 (ai (ck (DW.dt (rQ (bF pD (cL λ_ _ _ _=>rb _) (bG (dv 5) (dv 7)) (dv 2) nm) (jh (cK (dv 3)))))
 (ai (aP (i:=4) (nd 4) rfl (Or.inl rfl) (bA (kd rfl) rY rfl T.n_max PyProof.Rows.Boot.«max» (ag (dv 4) (ag (bA (nA rfl) xW rfl T.n_min PyProof.Rows.Boot.«min» (ag (eW ao ao) (ag (bG (dv 6) (dv 8)) av))) av))))
 au)
 au)
 (ai (ck (DW.dt (rQ (bF pD (cL λ_ _ _ _=>rb _) (bG (dv 5) (dv 7)) (dv 2) nm) (jh (fE (cK (dv 3))))))
 (ai (aP (i:=4) (nd 4) rfl (Or.inl rfl) (bA (kd rfl) rY rfl T.n_max PyProof.Rows.Boot.«max» (ag (dv 4) (ag (bA (nA rfl) xW rfl T.n_min PyProof.Rows.Boot.«min» (ag (dv 6) (ag (dv 8) av))) av))))
 au)
 au)
 au)))
 au))
 (ai (bx (dv 4))
 au))))
def lQ(T:Txt K mg t):eM P w K mg base CX0 2 (t.A 5) (t.Q 5) ["_law_one","_law_other","_law_purse","_law_summed"] (spD K 4 cI) "_law_joined" (top 36) :=
 oD T.g sc (i:=5) rfl λ_ _ _ _ H _ _ hr=>(
 (ai (fF (i:=4) (nd 5) rfl (Or.inl rfl) (gG av))
 (ai (aP (i:=5) (nd 5) rfl (Or.inl rfl) (cE av))
 (ai (dm PassesOwn.never rfl (dv 0) (dZ rfl (aW (i:=6) (nd 5) rfl (Or.inr rfl) (aW (i:=7) (nd 5) rfl (Or.inl rfl) cZ))) cU
 (ai (aP (i:=5) (nd 5) rfl (Or.inl rfl) (bG (dv 5) (nu (uR ["_law_cost","_law_more","_law_worth"] 2 [6] rfl (jE (dv 1)) (jq (by decide)) (λs H C fp pn=>⟨λHe H0e=>(dZ rfl (aW (i:=0) (show List.Nodup (["_law_cost","_law_more","_law_worth"]:List Str) from by decide) rfl (Or.inl rfl) (aW (i:=1) (show List.Nodup (["_law_cost","_law_more","_law_worth"]:List Str) from by decide) rfl (Or.inl rfl) cZ))),jD,(bG (dv 2) (dv 0))⟩) ⟨rfl,rfl⟩ rfl rfl rfl rfl))))
 au))
 (ai (dm PassesOwn.never rfl (bA mn tV rfl T.n_sorted PyProof.Rows.Boot.«sorted» (ag (dv 5) av)) (er (i:=8) (nd 5) rfl (Or.inl rfl)) dq
 (ai (aP (i:=9) (nd 5) rfl (Or.inl rfl) (rC (nY T) hr (ag (dv 0) (ag (dv 1) (ag (dv 8) (ag (dv 3) av))))))
 (ai (ck (DW.dt (rQ (bF pD (cL λ_ _ _ _=>rb _) (dv 8) (dv 2) nm) (jh (DW.dt (iX (bF (eV hr.units) g8 (dv 4) (cE av) nm) (cJ (bF wD (cL λ_ _ _ _=>rb _) (dv 9) (aB (aB (dv 4) (gH ao)) ao) nm)))))))
 (ai (cY (i:=4) rfl (Or.inl rfl) (cD (ag (dv 8) (ag (dv 9) av))))
 au)
 au)
 au)))
 (ai (bx (dv 4))
 au))))))
def fj(T:Txt K mg t):eM P w K mg base CX0 1 (t.A 6) (t.Q 6) ["thing"] (spD K 1 m_is_whole) "is_whole" (top 8) :=
 oD T.g sc (i:=6) rfl λ_ _ _ _ _ _ _ _=>(
 (ai (bx (ka (bW lU rfl T.n_isinstance rfl T.n_int PyProof.Rows.Boot.«int» (dv 0)) (ji (oq (bW kn rfl T.n_isinstance rfl T.n_bool PyProof.Rows.Boot.«bool» (dv 0))))))
 au))
def dH(T:Txt K mg t):eM P w K mg base CX0 1 (t.A 7) (t.Q 7) ["one","other"] (spD K 2 m_common_divisor) "common_divisor" (top 6) :=
 oD T.g sc (i:=7) rfl λ_ _ _ _ _ _ _ hr=>(
 (ai (aP (i:=2) (nd 7) rfl (Or.inl rfl) (bA ik ml rfl T.n_abs PyProof.Rows.Boot.«abs» (ag (dv 0) av)))
 (ai (aP (i:=3) (nd 7) rfl (Or.inl rfl) (bA ik ml rfl T.n_abs PyProof.Rows.Boot.«abs» (ag (dv 1) av)))
 (ai (qi _ PassesOwn.never (bF (jS hr.units) mX (dv 3) ao nm)
 (ai (aP (i:=4) (nd 7) rfl (Or.inl rfl) (dO (dv 2) (dv 3)))
 (ai (aP (i:=2) (nd 7) rfl (Or.inl rfl) (dv 3))
 (ai (aP (i:=3) (nd 7) rfl (Or.inl rfl) (dv 4))
 au))))
 (ai (bx (dv 2))
 au)))))
def pE(T:Txt K mg t):eM P w K mg base CX0 2 (t.A 8) (t.Q 8) ["top","bottom"] (spD K 2 m_ratio) "ratio" (top 11) :=
 oD T.g sc (i:=8) rfl λ_ _ _ _ _ _ _ hr=>(
 (ai (ck (DW.dt (iX (fE (cK (rC (fj T) hr (ag (dv 0) av)))) (cJ (fE (cK (rC (fj T) hr (ag (dv 1) av)))))))
 (ai qj
 au)
 au)
 (ai (ck (bF (eV hr.units) g8 (dv 1) ao nm)
 (ai qj
 au)
 au)
 (ai (aP (i:=2) (nd 8) rfl (Or.inl rfl) (rC (dH T) hr (ag (dv 0) (ag (dv 1) av))))
 (ai (ck (bF Be (cL λ_ _ _ _=>rb _) (dv 1) ao nm)
 (ai (aP (i:=2) (nd 8) rfl (Or.inl rfl) (gH (dv 2)))
 au)
 au)
 (ai (bx (cD (ag (jj (dv 0) (dv 2)) (ag (jj (dv 1) (dv 2)) av))))
 au))))))
def gu(T:Txt K mg t):eM P w K mg base CX0 1 (t.A 9) (t.Q 9) ["one","other"] (spD K 2 bP) "is_longer" (top 22) :=
 oD T.g sc (i:=9) rfl λ_ _ _ _ _ _ _ _=>(
 (ai (ck (bF i8 jc (dv 1) d8 nm)
 (ai (bx eF)
 au)
 au)
 (ai (bx (Bm (gJ i8 jc (dv 0) d8 nm) (ji (gJ wD (cL λ_ _ _ _=>rb _) (dv 0) (dv 1) nm))))
 au)))
def kG(T:Txt K mg t):eM P w K mg base CX0 2 (t.A 10) (t.Q 10) ["found"] (spD K 1 dM) "rising_alone" (top 21) :=
 oD T.g sc (i:=10) rfl λ_ _ _ _ _ _ _ hr=>(
 (ai (fF (i:=1) (nd 10) rfl (Or.inl rfl) (gG av))
 (ai (dm PassesOwn.never rfl (bA mn tV rfl T.n_sorted PyProof.Rows.Boot.«sorted» (ag (xT (mq rfl) xX rfl T.n_list PyProof.Rows.Boot.«list» (ag (dv 0) av)) av)) (er (i:=2) (nd 10) rfl (Or.inl rfl)) dq
 (ai (ck (DW.dt (iX (bF (eV hr.units) g8 (dv 1) (cE av) nm) (cJ (cK (rC (gu T) hr (ag (oy (DD hr.units) (dv 0) (dv 2)) (ag (aB (aB (dv 1) (gH ao)) ao) av)))))))
 (ai (cY (i:=1) rfl (Or.inl rfl) (cD (ag (dv 2) (ag (oy (DD hr.units) (dv 0) (dv 2)) av))))
 au)
 au)
 au))
 (ai (bx (dv 1))
 au))))
def i9(T:Txt K mg t):eM P w K mg base CX0 2 (t.A 11) (t.Q 11) ["sizes_left"] (spD K 1 cN) "longest_by_cost" (top 20) :=
 oD T.g sc (i:=11) rfl λ_ _ _ _ _ _ _ hr=>(
 (ai (Ax (i:=1) (nd 11) rfl (Or.inl rfl))
 (ai (dm PassesOwn.never rfl (dv 0) (dZ rfl (aW (i:=2) (nd 11) rfl (Or.inl rfl) (aW (i:=3) (nd 11) rfl (Or.inl rfl) cZ))) cU
 (ai (ck (DW.dt (iX (bF (uy (DD hr.units)) uA (dv 2) (dv 1) rfl) (cJ (cK (rC (gu T) hr (ag (dv 3) (ag (oy (DD hr.units) (dv 1) (dv 2)) av)))))))
 (ai (Aw (i:=1) (DD hr.units) rfl (Or.inl rfl) (dv 3) (dv 2))
 au)
 au)
 au))
 (ai (bx (dv 1))
 au))))
def kI(T:Txt K mg t):eM P w K mg base CX0 3 (t.A 12) (t.Q 12) ["sizes_left","costs_bottom","sizes_bottom"] (oY K 3 ef) "treads_from" (top 19) :=
 oF T.g sc (i:=12) rfl λ_ _ _ _ _ _ _ hr=>(
 (dr (fF (i:=3) (nd 12) rfl (Or.inl rfl) (gG av))
 (dr (dm PassesOwn.never rfl (rC (kG T) hr (ag (rC (i9 T) hr (ag (dv 0) av)) av)) (dZ rfl (aW (i:=4) (nd 12) rfl (Or.inl rfl) (aW (i:=5) (nd 12) rfl (Or.inl rfl) cZ))) cU
 (ai (cY (i:=3) rfl (Or.inl rfl) (cD (ag (rC (pE T) hr (ag (dv 4) (ag (dv 1) av))) (ag (jF (bF i8 jc (dv 5) d8 nm) d8 (rC (pE T) hr (ag (dv 5) (ag (dv 2) av)))) av))))
 au))
 (xF rfl (Or.inl rfl)))))
def jV(T:Txt K mg t):eM P w K mg base CX0 2 (t.A 13) (t.Q 13) ["some"] (spD K 1 m_shared_bottom) "shared_bottom" (top 14) :=
 oD T.g sc (i:=13) rfl λ_ _ _ _ _ _ _ hr=>(
 (ai (aP (i:=1) (nd 13) rfl (Or.inl rfl) ao)
 (ai (dm PassesOwn.never rfl (dv 0) (er (i:=2) (nd 13) rfl (Or.inl rfl)) dq
 (ai (aP (i:=1) (nd 13) rfl (Or.inl rfl) (gI (jj (dv 1) (rC (dH T) hr (ag (dv 1) (ag (aB (dv 2) ao) av)))) (aB (dv 2) ao)))
 au))
 (ai (bx (dv 1))
 au))))
def pG(T:Txt K mg t):eM P w K mg base CX0 1 (t.A 14) (t.Q 14) ["one","bottom"] (spD K 2 m_as_whole) "as_whole" (top 15) :=
 oD T.g sc (i:=14) rfl λ_ _ _ _ _ _ _ _=>(
 (ai (bx (gI (aB (dv 0) ao) (jj (dv 1) (aB (dv 0) ao))))
 au))
def gM(T:Txt K mg t):eM P w K mg base CX0 3 (t.A 15) (t.Q 15) ["some"] (spD K 1 m_on_one_scale) "on_one_scale" (top 13) :=
 oD T.g sc (i:=15) rfl λ_ _ _ _ H _ _ hr=>(
 (ai (aP (i:=1) (nd 15) rfl (Or.inr rfl) (rC (jV T) hr (ag (nu (uR ["one"] 1 [] rfl (jE (dv 0)) (oU (by decide)) (λs H C fp pn=>⟨λHe H0e=>(er (i:=0) (show List.Nodup (["one"]:List Str) from by decide) rfl (Or.inl rfl)),(Az (bF zh zu (dv 0) d8 nm)),(dv 0)⟩) ⟨rfl,rfl⟩ rfl rfl rfl rfl)) av)))
 (ai (bx (cD (ag (nu (uR ["one","bottom"] 1 [1] rfl (jE (dv 0)) (oU (by decide)) (λs H C fp pn=>⟨λHe H0e=>(er (i:=0) (show List.Nodup (["one","bottom"]:List Str) from by decide) rfl (Or.inl rfl)),jD,(jF (bF i8 jc (dv 0) d8 nm) d8 (rC (pG T) hr (ag (dv 0) (ag (dv 1) av))))⟩) ⟨rfl,rfl⟩ rfl rfl rfl rfl)) (ag (dv 1) av))))
 au)))
def pF(T:Txt K mg t):eM P w K mg base CX0 2 (t.A 16) (t.Q 16) ["thing"] (spD K 1 m_is_ratio) "is_ratio" (top 9) :=
 oD T.g sc (i:=16) rfl λ_ _ _ _ _ _ _ hr=>(
 (ai (ck (DW.dt (iX (fE (cK (bW eP rfl T.n_isinstance rfl T.n_tuple PyProof.Rows.Boot.«tuple» (dv 0)))) (cJ (bF (jS hr.units) mX (bA eI ij rfl T.n_len PyProof.Rows.Boot.«len» (ag (dv 0) av)) ao nm))))
 (ai (bx eF)
 au)
 au)
 (ai (ck (DW.dt (iX (fE (cK (rC (fj T) hr (ag (aB (dv 0) ao) av)))) (cJ (fE (cK (rC (fj T) hr (ag (aB (dv 0) ao) av)))))))
 (ai (bx eF)
 au)
 au)
 (ai (bx (ka (gJ wF (cL λ_ _ _ _=>rb _) (aB (dv 0) ao) ao nm) (ji (gJ (eV hr.units) g8 (rC (dH T) hr (ag (aB (dv 0) ao) (ag (aB (dv 0) ao) av))) ao nm))))
 au))))
def jW(T:Txt K mg t):eM P w K mg base (gQ P w) 3 (t.A 17) (t.Q 17) ["thing"] (spD K 1 m_look_at_purse) "look_at_purse" (top 17) :=
 oE T.g sc (i:=17) rfl λ_ _ _ _ _ _ _ hr=>(
 (ai (ck (DW.dt (iX (fE (cK (rC (pF T) hr (ag (dv 0) av)))) (cJ (bF Be (cL λ_ _ _ _=>rb _) (aB (dv 0) ao) ao nm))))
 (ai (xH T.cT.xcls T.nc hr.hd rfl (ag xQ av))
 au)
 au)
 au))
def fq(T:Txt K mg t){kf:Nat}{af:Addr}{Qf:FuncData}{pf:List Str}{xf:Str}{sf:Stmt}{mF:ac->ak D}(B:eM P w K mg base CX0 kf af Qf pf (spD K 2 mF) xf sf)(hk:kf<=3):eM P w K mg base (gQ P w) 4 (t.A 18) (t.Q 18) ["one","other","purse","size_of_both"] (vH K 3 af (aU mF af)) "treads_joined" (top 26) :=
 F8 T.g sc (i:=18) rfl rfl λ_ _ _ _ H _ _ hr=>(
 (dr (Ay (rC (jW T) hr (ag (dv 2) av)))
 (dr (aP (i:=4) (nd 18) rfl (Or.inl rfl) (rC (gM T) hr (ag (bG (nu (uR ["worth","length"] 2 [] rfl (jE (bG (dv 0) (dv 1))) (jq (by decide)) (λs H C fp pn=>⟨λHe H0e=>(dZ rfl (aW (i:=0) (show List.Nodup (["worth","length"]:List Str) from by decide) rfl (Or.inl rfl) (aW (i:=1) (show List.Nodup (["worth","length"]:List Str) from by decide) rfl (Or.inl rfl) cZ))),jD,(dv 0)⟩) ⟨rfl,rfl⟩ rfl rfl rfl rfl)) (cE (ag (dv 2) av))) av)))
 (dr (aP (i:=5) (nd 18) rfl (Or.inl rfl) (rC (gM T) hr (ag (nu (uR ["worth","length"] 2 [] rfl (jE (bG (dv 0) (dv 1))) (jq (by decide)) (λs H C fp pn=>⟨λHe H0e=>(dZ rfl (aW (i:=0) (show List.Nodup (["worth","length"]:List Str) from by decide) rfl (Or.inl rfl) (aW (i:=1) (show List.Nodup (["worth","length"]:List Str) from by decide) rfl (Or.inl rfl) cZ))),jD,(dv 1)⟩) ⟨rfl,rfl⟩ rfl rfl rfl rfl)) av)))
 (dr (aP (i:=6) (nd 18) rfl (Or.inl rfl) (rT rfl rfl T.n_list rfl T.n_zip (d7 (aB (dv 4) ao) gF (gE (gH ao))) (aB (dv 5) ao)))
 (dr (fF (i:=7) (nd 18) rfl (Or.inl rfl) (gG av))
 (dr (dm PassesOwn.leaving rfl (d7 (dv 6) gF (gE (bA eI ij rfl T.n_len PyProof.Rows.Boot.«len» (ag (dv 0) av)))) (dZ rfl (aW (i:=8) (nd 18) rfl (Or.inl rfl) (aW (i:=9) (nd 18) rfl (Or.inl rfl) cZ))) cU
 (ai (dm PassesOwn.leaving rfl (d7 (dv 6) (gE (bA eI ij rfl T.n_len PyProof.Rows.Boot.«len» (ag (dv 0) av))) gF) (dZ rfl (aW (i:=10) (nd 18) rfl (Or.inl rfl) (aW (i:=11) (nd 18) rfl (Or.inl rfl) cZ))) cU
 (ai (ck (bF pD (cL λ_ _ _ _=>rb _) (bG (dv 8) (dv 10)) (aB (aB (dv 4) ao) (gH ao)) nm)
 (ai (rR (i:=7) (j:=3) rfl (Or.inl rfl) (AD (jG (rS (bG (dv 8) (dv 10))) (jG (xP B hr rfl (Or.inl rfl) (jG (rS (dv 9)) (jG (rS (dv 11)) tM)) Dg hk) tM))))
 au)
 au)
 au))
 au))
 (xG 7 (j9 (rF (kI T) hr (ag (dv 7) (ag (aB (dv 4) ao) (ag (aB (dv 5) ao) av)))))))))))))
def lP(T:Txt K mg t):eM P w K mg base CX0 1 (t.A 19) (t.Q 19) ["size","other_size"] (spD K 2 bM) "sum_of_both" (top 27) :=
 oD T.g sc (i:=19) rfl λ_ _ _ _ _ _ _ _=>(
 (ai (bx (jF (DW.dt (iX (bF i8 jc (dv 0) d8 nm) (cJ (bF i8 jc (dv 1) d8 nm)))) d8 (bG (dv 0) (dv 1))))
 au))
def fv(T:Txt K mg t):eM P w K mg base (gQ P w) 5 (t.A 20) (t.Q 20) ["one","other","purse"] (oY K 3 aN) "treads_behind" (top 24) :=
 GC T.g sc (i:=20) rfl λ_ _ _ _ _ _ _ hr=>(
 (j9 (xO (m:=aU bM) (GA (fq T (lP T) (by decide)) hr (gh (dv 0) (gh (dv 1) (gh (dv 2) (tN rfl (T.g 19 _ rfl).g)))) (Ds)))))
def jU(T:Txt K mg t):eM P w K mg base (gQ P w) 5 (t.A 20) (t.Q 20) ["one","other","purse"] (spD K 3 aN) "treads_behind" (top 24) :=
 (fv T).fD
def jw(T:Txt K mg t):eM P w K mg base CX0 2 (t.A 21) (t.Q 21) ["size","other_size"] (spD K 2 bD) "lesser_of_both" (top 28) :=
 oD T.g sc (i:=21) rfl λ_ _ _ _ _ _ _ hr=>(
 (ai (bx (jF (cK (rC (gu T) hr (ag (dv 0) (ag (dv 1) av)))) (dv 1) (dv 0)))
 au))
def fu(T:Txt K mg t):eM P w K mg base (gQ P w) 5 (t.A 22) (t.Q 22) ["one","other","purse"] (oY K 3 aM) "treads_beside" (top 25) :=
 GC T.g sc (i:=22) rfl λ_ _ _ _ _ _ _ hr=>(
 (j9 (xO (m:=aU bD) (GA (fq T (jw T) (by decide)) hr (gh (dv 0) (gh (dv 1) (gh (dv 2) (tN rfl (T.g 21 _ rfl).g)))) (Ds)))))
def jT(T:Txt K mg t):eM P w K mg base (gQ P w) 5 (t.A 22) (t.Q 22) ["one","other","purse"] (spD K 3 aM) "treads_beside" (top 25) :=
 (fu T).fD
def cQ(T:Txt K mg t){k:Nat}{mR:ac->ak D}(hk:0<=k)(B:eM P w K mg base CX0 k (t.A 23) (t.Q 23) ["_law_found","_law_due"] (spD K 2 mR) "_law_alike" (top 32)):eM P w K mg base CX0 (k+1) (t.A 23) (t.Q 23) ["_law_found","_law_due"] (spD K 2 (cy 2 (bN mR))) "_law_alike" (top 32) :=
 oD T.g sc (i:=23) rfl λ_ _ _ _ H _ _ hr=>(
 (ai (ck (cK (AG (sH eP rfl T.n_tuple PyProof.Rows.Boot.«tuple» (sH g9 rfl T.n_list PyProof.Rows.Boot.«list» Bw)) rfl T.n_isinstance (dv 1)))
 (ai (ck (bF (jS hr.units) mX (bW eP rfl T.n_isinstance rfl T.n_tuple PyProof.Rows.Boot.«tuple» (dv 0)) (bW eP rfl T.n_isinstance rfl T.n_tuple PyProof.Rows.Boot.«tuple» (dv 1)) nm)
 (ai (bx eF)
 au)
 au)
 (ai (ck (DW.dt (iX (bF (jS hr.units) mX (bW g9 rfl T.n_isinstance rfl T.n_list PyProof.Rows.Boot.«list» (dv 0)) (bW g9 rfl T.n_isinstance rfl T.n_list PyProof.Rows.Boot.«list» (dv 1)) nm) (cJ (bF (jS hr.units) mX (bA eI ij rfl T.n_len PyProof.Rows.Boot.«len» (ag (dv 0) av)) (bA eI ij rfl T.n_len PyProof.Rows.Boot.«len» (ag (dv 1) av)) nm))))
 (ai (bx eF)
 au)
 au)
 (ai (bx (bA (xY rfl) Dc rfl T.n_all PyProof.Rows.Boot.«all» (ag (nu (uR ["_law_one","_law_other"] 2 [] rfl (AA rfl T.n_zip (dv 0) (dv 1)) (jq (by decide)) (λs H C fp pn=>⟨λHe H0e=>(dZ rfl (aW (i:=0) (show List.Nodup (["_law_one","_law_other"]:List Str) from by decide) rfl (Or.inl rfl) (aW (i:=1) (show List.Nodup (["_law_one","_law_other"]:List Str) from by decide) rfl (Or.inl rfl) cZ))),jD,(rC B hr (ag (dv 0) (ag (dv 1) av)) (Nat.le_refl _))⟩) ⟨rfl,rfl⟩ rfl rfl rfl rfl)) av)))
 au)))
 au)
 (ai (ck (DW.dt (iX (bF i8 jc (dv 1) d8 nm) (cJ (cK (bW jf rfl T.n_isinstance rfl T.n_str PyProof.Rows.Boot.«str» (dv 1))))))
 (ai (bx (ka (gJ (eV hr.units) g8 (dv 0) (dv 1) nm) (ji (gJ (eV hr.units) g8 (bW jf rfl T.n_isinstance rfl T.n_str PyProof.Rows.Boot.«str» (dv 0)) (bW jf rfl T.n_isinstance rfl T.n_str PyProof.Rows.Boot.«str» (dv 1)) nm))))
 au)
 au)
 (ai (bx (ka (bW lU rfl T.n_isinstance rfl T.n_int PyProof.Rows.Boot.«int» (dv 0)) (ka (oq (bW kn rfl T.n_isinstance rfl T.n_bool PyProof.Rows.Boot.«bool» (dv 0))) (ji (gJ (eV hr.units) g8 (dv 0) (dv 1) nm)))))
 au))))
def mI(T:Txt K mg t):eM P w K mg base CX0 6 (t.A 23) (t.Q 23) ["_law_found","_law_due"] (spD K 2 cB) "_law_alike" (top 32) :=
 (cQ T (by decide) (cQ T (by decide) (cQ T (by decide) (cQ T (by decide) (cQ T (by decide) (oS (k:=1) T.g (i:=23) rfl))))))
def mG(T:Txt K mg t):eM P w K mg base CX0 7 (t.A 24) (t.Q 24) ["_law_one","_law_other","_law_purse","_law_bottom"] (spD K 4 cW) "_law_right" (top 38) :=
 oD T.g sc (i:=24) rfl λ_ _ _ _ _ _ _ hr=>(
 (ai (aP (i:=4) (nd 24) rfl (Or.inl rfl) (cD (ag (rC (b8 T) hr (ag (dv 0) (ag (dv 3) av))) (ag (rC (b8 T) hr (ag (dv 1) (ag (dv 3) av))) (ag (rC (fk T) hr (ag (dv 2) (ag (dv 3) av))) av)))))
 (ai (dm PassesOwn.never rfl (cE (ag eF (ag eF av))) (er (i:=5) (nd 24) rfl (Or.inl rfl)) dq
 (ai (aP (i:=6) (nd 24) rfl (Or.inl rfl) (rC (b8 T) hr (ag (rC (lQ T) hr (ag (dv 0) (ag (dv 1) (ag (dv 2) (ag (dv 5) av))))) (ag (dv 3) av))))
 (ai (aP (i:=7) (nd 24) rfl (Or.inl rfl) (cD (ag (aB (dv 4) ao) (ag (aB (dv 4) ao) av))))
 (ai (dm PassesOwn.never rfl (cE (ag (dv 7) (ag (AE (dv 7)) (ag (dv 7) av)))) (dZ rfl (aW (i:=8) (nd 24) rfl (Or.inl rfl) (aW (i:=9) (nd 24) rfl (Or.inl rfl) cZ))) cU
 (ai (ck (cK (dv 5))
 (ai (fF (i:=10) (nd 24) rfl (Or.inl rfl) (rF (eM.noXF (fv T)) hr (ag (dv 8) (ag (dv 9) (ag (aB (dv 4) ao) av)))))
 au)
 (ai (fF (i:=10) (nd 24) rfl (Or.inl rfl) (rF (eM.noXF (fu T)) hr (ag (dv 8) (ag (dv 9) (ag (aB (dv 4) ao) av)))))
 au))
 (ai (ck (fE (cK (rC (mI T) hr (ag (dv 10) (ag (dv 6) av)))))
 (ai (bx eF)
 au)
 au)
 (ai (xI (i:=10) rfl (Or.inl rfl))
 au))))
 au))))
 (ai (bx (gJ (eV hr.units) g8 (d7 (dv 4) gF (gE ao)) (cD (ag (rC (b8 T) hr (ag (dv 0) (ag (dv 3) av))) (ag (rC (b8 T) hr (ag (dv 1) (ag (dv 3) av))) av))) nm))
 au))))
def kH(T:Txt K mg t):eM P w K mg base CX0 6 (t.A 25) (t.Q 25) ["_law_one","_law_other","_law_purse"] (spD K 3 cg) "_law_refused" (top 37) :=
 oD T.g sc (i:=25) rfl λ_ _ _ _ _ _ _ hr=>(
 (ai (fF (i:=3) (nd 25) rfl (Or.inl rfl) (gG av))
 (ai (dm PassesOwn.never rfl (cE (ag eF (ag eF av))) (er (i:=4) (nd 25) rfl (Or.inl rfl)) dq
 (ai (C2 ⟨rfl,rfl⟩ (DJ (cK (dv 4)) (rD (jU T) hr (ag (dv 0) (ag (dv 1) (ag (dv 2) av)))) (rD (jT T) hr (ag (dv 0) (ag (dv 1) (ag (dv 2) av))))) rfl T.rH (kK T) (nd 25) rfl rfl (λea=>(ai (aP (i:=6) (nd 25) rfl (Or.inl rfl) (Bm (AF (vE T) (tU rfl T.xj (tU rfl T.rG C9)) (by simp) rfl T.n_isinstance (dv 5)) (ji (oq (uQ rfl T.n_ValueError PyProof.Rows.Boot.«ValueError» (vD T) rfl T.n_isinstance (dv 5))))))
 (ai (cY (i:=3) rfl (Or.inl rfl) (ka (uP rfl T.nc (vC T) rfl T.n_isinstance (dv 5)) (ji (oq (dv 6)))))
 au))))
 au))
 (ai (bx (gJ (eV hr.units) g8 (dv 3) (cE (ag eF (ag eF av))) nm))
 au))))
def ok_law(T:Txt K mg t):eM P w K mg base CX0 8 (t.A 26) (t.Q 26) ["_law_script"] (spD K 1 m_law) "law" (top 39) :=
 oD T.g sc (i:=26) rfl λ_ _ _ _ _ _ _ hr=>(
 (ai (dm PassesOwn.never rfl (d7 (bG (dv 0) (cE (ag ao av))) gF (gE ao)) (er (i:=1) (nd 26) rfl (Or.inl rfl)) dq
 (ai (aP (i:=2) (nd 26) rfl (Or.inl rfl) (bG (bG (cE (ag (eW ao ao) (ag ao (ag ao av)))) (C7 (gG (ag (eW ao ao) av)) ao)) (cE (ag ao (ag ao av)))))
 (ai (aP (i:=3) (nd 26) rfl (Or.inl rfl) (rC (mH T) hr (ag (dv 1) (ag (bG (bG (dv 2) (dv 2)) (cE (ag ao (ag ao (ag ao (ag ao (ag (eW ao ao) (ag ao (ag ao av))))))))) av))))
 (ai (aP (i:=4) (nd 26) rfl (Or.inl rfl) (eW ao ao))
 (ai (aP (i:=5) (nd 26) rfl (Or.inl rfl) (cE (ag (rC (dI T) hr (ag (dv 3) (ag (dv 4) av))) (ag (rC (dI T) hr (ag (d7 (dv 3) (gE ao) gF) (ag (dv 4) av))) av))))
 (ai (aP (i:=6) (nd 26) rfl (Or.inl rfl) (dO (aB (dv 3) ao) ao))
 (ai (ck (bF wD (cL λ_ _ _ _=>rb _) (aB (dv 3) ao) ao nm)
 (ai (aP (i:=7) (nd 26) rfl (Or.inl rfl) (aB (aB (dv 5) ao) (dO (aB (dv 3) ao) (bA eI ij rfl T.n_len PyProof.Rows.Boot.«len» (ag (aB (dv 5) ao) av)))))
 (ai (aP (i:=8) (nd 26) rfl (Or.inl rfl) (aB (aB (dv 5) ao) (dO (aB (dv 3) ao) (bA eI ij rfl T.n_len PyProof.Rows.Boot.«len» (ag (aB (dv 5) ao) av)))))
 (ai (aP (i:=6) (nd 26) rfl (Or.inl rfl) (bA (kd rfl) rY rfl T.n_max PyProof.Rows.Boot.«max» (ag ao (ag (C6 (bG (bG (aB (dv 7) ao) (aB (dv 8) ao)) (aB (dv 3) ao)) ao) av))))
 au)))
 au)
 (ai (ck (bF (eV hr.units) g8 (aB (dv 3) ao) ao nm)
 (ai (aP (i:=6) (nd 26) rfl (Or.inl rfl) (aB (dv 3) ao))
 au)
 au)
 (ai (aP (i:=9) (nd 26) rfl (Or.inl rfl) (rC (dI T) hr (ag (dv 3) (ag (dv 6) av))))
 (ai (aP (i:=10) (nd 26) rfl (Or.inl rfl) (rC (dI T) hr (ag (d7 (dv 3) (gE ao) gF) (ag (dv 6) av))))
 (ai (ck (fE (cK (rC (mG T) hr (ag (dv 9) (ag (dv 10) (ag (dv 6) (ag (bG ao (aB (dv 3) ao)) av)))))))
 (ai (bx eF)
 au)
 au)
 (ai (aP (i:=11) (nd 26) rfl (Or.inl rfl) (cE (ag d8 (ag (cD (ag (gH ao) (ag ao av))) (ag (cD (ag ao (ag ao av))) (ag ao (ag eF (ag (cD (ag ao (ag ao av))) (ag (cE (ag ao (ag ao av))) (ag xQ av))))))))))
 (ai (aP (i:=12) (nd 26) rfl (Or.inl rfl) (aB (bG (dv 11) (cE (ag (cD (ag ao av)) (ag (cD (ag ao (ag ao av))) (ag (cD (ag eF (ag ao av))) (ag AH av)))))) (aB (dv 3) ao)))
 (ai (ck (fE (cK (rC (kH T) hr (ag (rC (b8 T) hr (ag (dv 9) (ag ao av))) (ag (rC (b8 T) hr (ag (dv 10) (ag ao av))) (ag (dv 12) av))))))
 (ai (bx eF)
 au)
 au)
 au))))))))))))))
 (ai (bx eF)
 au)))
end
def txt_mk{K:W.Frag}{h:Heap}{mg:Str->Option Value}(X:K.In h)(G:h.Ns mainGlobals mg){cR:Addr}{dN:Addr}{cC:Addr}{bI:Addr}{a0 a1 a2 a3 a4 a5 a6 a7 a8 a9 a10 a11 a12 a13 a14 a15 a16 a17 a18 a19 a20 a21 a22 a23 a24 a25 a26:Addr}(qs:QAs K rows [a0,a1,a2,a3,a4,a5,a6,a7,a8,a9,a10,a11,a12,a13,a14,a15,a16,a17,a18,a19,a20,a21,a22,a23,a24,a25,a26])
  (z_ValueError:W.nsIn K mainGlobals "ValueError"=some none)
  (z_abs:W.nsIn K mainGlobals "abs"=some none)
  (z_all:W.nsIn K mainGlobals "all"=some none)
  (z_bool:W.nsIn K mainGlobals "bool"=some none)
  (z_int:W.nsIn K mainGlobals "int"=some none)
  (z_isinstance:W.nsIn K mainGlobals "isinstance"=some none)
  (z_len:W.nsIn K mainGlobals "len"=some none)
  (z_list:W.nsIn K mainGlobals "list"=some none)
  (z_max:W.nsIn K mainGlobals "max"=some none)
  (z_min:W.nsIn K mainGlobals "min"=some none)
  (z_range:W.nsIn K mainGlobals "range"=some none)
  (z_sorted:W.nsIn K mainGlobals "sorted"=some none)
  (z_str:W.nsIn K mainGlobals "str"=some none)
  (z_tuple:W.nsIn K mainGlobals "tuple"=some none)
  (z_zip:W.nsIn K mainGlobals "zip"=some none)
  (kq:iU K "CutError" cR)
  (m7:iU K "NoJoin" dN)
  (ko:iU K "NoNumber" cC)
  (i4:tX K "NoPurse" bI)
  (eS:Du K bI [(cR,true),(dN,false),(cC,false),(bI,true)]) :
  ∃t:Adr,Txt K mg t/\t.A 26=a26/\∃kV doc pm an cdv ct,t.Q 26=W.fnOf "law" "law" (defArgs (top 39)) (defBody (top 39)) (defScope (top 39)) .none kV doc pm an cdv ct:=by
 obtain⟨Q,hQ⟩:=A4 X G bn qs;have D_law:=(hQ 26 _ rfl).2;refine⟨⟨cR,dN,cC,bI,λi=>[a0,a1,a2,a3,a4,a5,a6,a7,a8,a9,a10,a11,a12,a13,a14,a15,a16,a17,a18,a19,a20,a21,a22,a23,a24,a25,a26].getD i 0,Q⟩,⟨λi r h=>(hQ i r h).1,W.mg_none_of X G z_ValueError,W.mg_none_of X G z_abs,W.mg_none_of X G z_all,W.mg_none_of X G z_bool,W.mg_none_of X G z_int,W.mg_none_of X G z_isinstance,W.mg_none_of X G z_len,W.mg_none_of X G z_list,W.mg_none_of X G z_max,W.mg_none_of X G z_min,W.mg_none_of X G z_range,W.mg_none_of X G z_sorted,W.mg_none_of X G z_str,W.mg_none_of X G z_tuple,W.mg_none_of X G z_zip,W.mg_of X G kq.ns,kq,W.mg_of X G m7.ns,m7,W.mg_of X G ko.ns,ko,W.mg_of X G i4.i.ns,i4.i,i4,eS⟩,rfl,D_law⟩
def txt_wr{K:W.Frag}{mg:Str->Option Value}{a:Addr}{R:Adr->Prop}(h:∃t:Adr,Txt K mg t/\t.A 26=a/\R t):∃t:Adr,Txt K mg t/\mg "law"=some (.ref (t.A 26))/\R t:=h.elim λt ⟨T,_,r⟩=>⟨t,T,(T.g 26 _ rfl).g,r⟩
end K66
namespace K11
open PySem L2 DL Com
def Gi{x y:Str}:iK (.str x) (.str y)=.ok (.bl (decide (x=y))):=by
 have h:iK (.str x) (.str y)=.ok (.bl (x==y)):=rfl;rw[h]
 by_cases e:x=y
 .rw[decide_eq_true e,e,beq_self_eq_true]
 .rw[decide_eq_false e,beq_eq_false_iff_ne.mpr e]
def l0{α β:Type}{x:A1}{k:α->ak β}:(ak.exn x).bind k=.exn x:=aO rfl
def Fx:dS (.int 10) (.int 30)=.ok (.int 1000000000000000000000000000000):=aO rfl
end K11
namespace K51
open PySem L2 DL Com
theorem ny{α:Type}{B:Ev}{tg:Ev->D->ak Ev}{tt fe:cr}(g:α->D)(pk:α->Option D):∀(L:List α),(∀a∈L,∃ρ1,tg B (g a)=.ok ρ1/\((pk a=none/\tt ρ1=.ok (.bl false))∨(∃d,pk a=some d/\tt ρ1=.ok (.bl true)/\fe ρ1=.ok d)))->bH B tg tt fe (L.map g)=.ok (L.filterMap pk)
 |[],_=>rfl
 |a::L,h=>by
  obtain⟨ρ1,h1,h2⟩:=h a List.mem_cons_self;have ih:=ny g pk L λd hd=>h d (List.mem_cons_of_mem _ hd);rw[List.map_cons];unfold bH;rw[h1,uZ];rcases h2 with⟨e,h2⟩|⟨d,e,h2,h3⟩
  .rw[h2,uZ]
   show bH B tg tt fe (L.map g)=_;rw[ih,List.filterMap_cons_none e]
  .rw[h2,uZ]
   show(fe ρ1).bind _=_;rw[h3,uZ,ih,uZ,List.filterMap_cons_some e]
def comp_pick{α:Type}{n:Nat}{fr':dl}{ρ:Ev}{tg:Ev->D->ak Ev}{tt fe:cr}(g:α->D)(pk:α->Option D){L:List α}(hl:L.length<=1000000)(h:∀a∈L,∃ρ1,tg (cq n fr' ρ) (g a)=.ok ρ1/\((pk a=none/\tt ρ1=.ok (.bl false))∨(∃d,pk a=some d/\tt ρ1=.ok (.bl true)/\fe ρ1=.ok d))):gj n fr' tg tt fe ρ (L.map g)=.ok (.lst (L.filterMap pk)):=by
 unfold gj;rw[if_pos (show(L.map g).length<=line from by rw[List.length_map];exact hl),ny g pk L h]
end K51
namespace K54
open PySem L2 DL Com
open K51 (comp_pick)
def eg{α:Type}{tg:Ev->D->ak Ev}{body:db}(g:α->D)(P:List α->Ev->Prop){L:List α}(h:∀pre a post,L=pre++a::post->∀ρ,P pre ρ->∃ρ1 ρ2,tg ρ (g a)=.ok ρ1/\body ρ1=.ok (.nx ρ2)/\P (pre++[a]) ρ2){ρ:Ev}(h0:P [] ρ):∃ρ',c8 tg body (L.map g) ρ=.ok (.nx ρ')/\P L ρ':=by
 have key:∀(post pre:List α) (ρ:Ev),L=pre++post->P pre ρ->∃ρ',c8 tg body (post.map g) ρ=.ok (.nx ρ')/\P L ρ':=by
  intro post
  induction post with
  |nil=>intro pre ρ e hp;rw[List.append_nil]at e;subst e;exact⟨ρ,rfl,hp⟩
  |cons a post ih=>
   intro pre ρ e hp;obtain⟨ρ1,ρ2,h1,h2,h3⟩:=h pre a post e ρ hp;obtain⟨ρ',h4,h5⟩:=ih (pre++[a]) ρ2 (by rw[e];simp) h3;exact⟨ρ',by rw[List.map_cons,iH h1 h2,h4],h5⟩
 exact key L [] ρ rfl h0
end K54
namespace K66
open PySem L2 DL Com
section
variable {α:Type}(lt:α->α->Prop) [DecidableRel lt]
def eN(R:List (Int×α))(x:Int×α):List (Int×α):=match R.getLast? with
 |none=>R++[x]
 |some z=>if lt z.2 x.2 then R++[x] else R
def eB(S:List (Int×α)):List (Int×α):=S.foldl (eN lt) []
structure Dx:Prop where
 ir:∀a,¬lt a a
 tr:∀a b c,lt a b->lt b c->lt a c
 tri:∀a b,¬lt a b->¬lt b a->a=b
structure vf (S R:List (Int×α)):Prop where
 up:R.Pairwise λa b=>a.1<b.1
 mem:∀x,x∈R↔x∈S/\∀y∈S,y.1<x.1->lt y.2 x.2
 last:∀z,R.getLast?=some z->∀y∈S,¬lt z.2 y.2
 nil:R.getLast?=none->S=[]
variable {lt}
theorem vf.step(O:Dx lt){S R:List (Int×α)}(I:vf lt S R){a:Int×α}(h1:∀y∈S,y.1<=a.1)(h2:∀y∈S,y.1=a.1->y.2=a.2):vf lt (S++[a]) (eN lt R a):=by
 unfold eN;cases e:R.getLast? with
 |none=>
  have hs:=I.nil e;subst hs;have hr:R=[]:=List.getLast?_eq_none_iff.mp e;subst hr;refine⟨by simp,λx=>?_,λz hz=>?_,λz=>by simp at z⟩
  .simp only[List.nil_append,List.mem_singleton]
   refine⟨λz=>⟨z,λy hy h=>?_⟩,λz=>z.1⟩;subst hy;rw[z]at h;exact absurd h (by omega)
  .simp at hz;subst hz
   intro y hy;simp at hy;subst hy;exact O.ir _
 |some z=>
  have hz:z∈R:=List.mem_of_getLast? e;have zs:=((I.mem z).mp hz).1;have zm:=I.last z e
  by_cases c:lt z.2 a.2
  .simp only[if_pos c]
   have below:∀y∈S,lt y.2 a.2:=λy hy=>by
    by_cases q:lt y.2 z.2
    .exact O.tr _ _ _ q c
    .rw[O.tri _ _ q (zm y hy)];exact c
   refine⟨?_,λx=>?_,λw hw=>?_,λw=>by simp at w⟩
   .rw[List.pairwise_append]
    refine⟨I.up,by simp,λx hx y hy=>?_⟩;have hy:y=a:=by simpa using hy
    rw[hy];have xs:=((I.mem x).mp hx).1;have:=h1 x xs
    by_cases q:x.1=a.1
    .have:=h2 x xs q
     have b:=below x xs;rw[this]at b;exact absurd b (O.ir _)
    .omega
   .simp only[List.mem_append,List.mem_singleton]
    constructor
    .rintro(hx|rfl)
     .obtain⟨x1,x2⟩:=(I.mem x).mp hx
      refine⟨.inl x1,λy hy h=>?_⟩;rcases hy with hy|rfl
      .exact x2 y hy h
      .have:=h1 x x1;omega
     .refine⟨.inr rfl,λy hy h=>?_⟩
      rcases hy with hy|rfl
      .exact below y hy
      .omega
    .rintro⟨hx|rfl,hy⟩
     .exact .inl ((I.mem x).mpr ⟨hx,λy h=>hy y (.inl h)⟩)
     .exact .inr rfl
   .simp at hw;subst hw
    intro y hy;simp only[List.mem_append,List.mem_singleton]at hy;rcases hy with hy|rfl
    .exact λq=>O.ir _ (O.tr _ _ _ q (below y hy))
    .exact O.ir _
  .simp only[if_neg c]
   refine⟨I.up,λx=>?_,λw hw y hy=>?_,λw=>by rw[e]at w;cases w⟩
   .simp only[List.mem_append,List.mem_singleton]
    constructor
    .intro hx
     obtain⟨x1,x2⟩:=(I.mem x).mp hx;refine⟨.inl x1,λy hy h=>?_⟩;rcases hy with hy|rfl
     .exact x2 y hy h
     .have:=h1 x x1;omega
    .rintro⟨hx|rfl,hy⟩
     .exact(I.mem x).mpr ⟨hx,λy h=>hy y (.inl h)⟩
     .have:=h1 z zs
      by_cases q:z.1=x.1
      .have e2:=h2 z zs q
       have:x=z:=Prod.ext q.symm e2.symm;rw[this];exact hz
      .exact absurd (hy z (.inl zs) (by omega)) c
   .rw[e]at hw;cases hw
    simp only[List.mem_append,List.mem_singleton]at hy;rcases hy with hy|rfl
    .exact zm y hy
    .exact c
theorem ph(O:Dx lt):∀(T S R:List (Int×α)),vf lt S R->(S++T).Pairwise (λa b=>a.1<=b.1/\(a.1=b.1->a.2=b.2))->vf lt (S++T) (T.foldl (eN lt) R)
 |[],S,R,I,_=>by rw[List.append_nil];exact I
 |a::T,S,R,I,hp=>by
  rw[List.foldl_cons,show S++a::T=(S++[a])++T by simp];refine ph O T (S++[a]) _ (I.step O (λy hy=>?_) (λy hy=>?_)) (by rw[show(S++[a])++T=S++a::T by simp];exact hp)
  .exact((List.pairwise_append.mp hp).2.2 y hy a List.mem_cons_self).1
  .exact((List.pairwise_append.mp hp).2.2 y hy a List.mem_cons_self).2
theorem sO(O:Dx lt){S:List (Int×α)}(hp:S.Pairwise (λa b=>a.1<=b.1/\(a.1=b.1->a.2=b.2))):vf lt S (eB lt S):=by
 have:=ph O S [] [] ⟨.nil,by simp,by simp,by simp⟩ (by simpa using hp);unfold eB;simpa using this
end
theorem mV{α:Type}:∀{A B:List (Int×α)},A.Pairwise (λa b=>a.1<b.1)->B.Pairwise (λa b=>a.1<b.1)->(∀x,x∈A↔x∈B)->A=B
 |[],[],_,_,_=>rfl
 |[],b::B,_,_,h=>by have:=(h b).mpr List.mem_cons_self;cases this
 |a::A,[],_,_,h=>by have:=(h a).mp List.mem_cons_self;cases this
 |a::A,b::B,hA,hB,h=>by
  rw[List.pairwise_cons]at hA hB;have e:a=b:=by
   rcases List.mem_cons.mp ((h a).mp List.mem_cons_self) with q|q
   .exact q
   .rcases List.mem_cons.mp ((h b).mpr List.mem_cons_self) with r|r
    .exact r.symm
    .have:=hA.1 b r
     have:=hB.1 a q;omega
  subst e
  congr 1
  refine mV hA.2 hB.2 λx=>?_;constructor
  .intro hx
   rcases List.mem_cons.mp ((h x).mp (List.mem_cons_of_mem _ hx)) with q|q
   .subst q;have:=hA.1 x hx;omega
   .exact q
  .intro hx
   rcases List.mem_cons.mp ((h x).mpr (List.mem_cons_of_mem _ hx)) with q|q
   .subst q;have:=hB.1 x hx;omega
   .exact q
def gz:Option Int->Option Int->Prop
 |some x,some y=>x<y
 |some _,none=>True
 |none,_=>False
instance:DecidableRel gz:=λa b=>match a,b with
 |some x,some y=>inferInstanceAs (Decidable (x<y))
 |some _,none=>.isTrue trivial
 |none,some _=>.isFalse id
 |none,none=>.isFalse id
def zg:Dx gz:=by
 refine⟨λa=>?_,λa b c=>?_,λa b=>?_⟩
 .cases a<;>simp[gz]
 .cases a<;>cases b<;>cases c<;>simp[gz]
  exact λh1 h2=>by omega
 .cases a<;>cases b<;>simp[gz]
  exact λh1 h2=>by omega
def F6:Dx (λa b:Int=>a<b):=⟨λa=>by omega,λa b c=>by omega,λa b h1 h2=>by omega⟩
def Ed{α:Type}(lt:α->α->Prop)(P:Int×α->Prop)(x:Int×α):Prop:=P x/\∀y,P y->(y.1<=x.1->¬lt x.2 y.2)/\(y.1<x.1->lt y.2 x.2)
def ur{α:Type}{lt:α->α->Prop}[DecidableRel lt](O:Dx lt){P:Int×α->Prop}{S:List (Int×α)}(hs:S.Pairwise λa b=>a.1<b.1)(h1:∀x∈S,P x/\∀y,P y->y.1=x.1->¬lt x.2 y.2)(h2:∀y,P y->∃x∈S,x.1=y.1) :
  (eB lt S).Pairwise (λa b=>a.1<b.1)/\∀x,x∈eB lt S↔Ed lt P x:=by
 have I:=sO O (S:=S) (hs.imp λh=>⟨by omega,λe=>by omega⟩);refine⟨I.up,λx=>(I.mem x).trans ?_⟩;constructor
 .rintro⟨hx,hy⟩
  refine⟨(h1 x hx).1,λy py=>?_⟩;obtain⟨w,hw,ew⟩:=h2 y py;have wy:¬lt w.2 y.2:=(h1 w hw).2 y py ew.symm;refine⟨λhle=>?_,λhlt=>?_⟩
  .by_cases c:y.1=x.1
   .exact(h1 x hx).2 y py c
   .have wx:=hy w hw (by omega)
    exact λq=>wy (O.tr _ _ _ wx q)
  .have wx:=hy w hw (by omega)
   by_cases q:lt y.2 w.2
   .exact O.tr _ _ _ q wx
   .rw[O.tri _ _ q wy];exact wx
 .rintro⟨px,hx⟩
  obtain⟨w,hw,ew⟩:=h2 x px;have wp:=h1 w hw;have e2:x.2=w.2:=O.tri _ _ ((hx w wp.1).1 (by omega)) (wp.2 x px ew.symm);have e:x=w:=Prod.ext ew.symm e2;subst e;exact⟨hw,λy hy h=>(hx y (h1 y hy).1).2 h⟩
def uq{P:Int×Int->Prop}{S:List (Int×Int)}{p:Int}(hs:S.Pairwise λa b=>a.1<=b.1)(h1:∀x∈S,x.1<=p/\(∃y,P y/\y.1=x.1)/\(∃y,P y/\y.1<=x.1/\y.2=x.2)/\∀y,P y->y.1<=x.1->y.2<=x.2)(h2:∀y,P y->y.1<=p->∃x∈S,x.1=y.1) :
  (eB (λa b:Int=>a<b) S).Pairwise (λa b=>a.1<b.1)/\∀x,x∈eB (λa b:Int=>a<b) S↔Ed (λa b:Int=>a<b) (λy=>P y/\y.1<=p) x:=by
 have same:∀a∈S,∀b∈S,a.1=b.1->a.2=b.2:=λa ha b hb e=>by
  obtain⟨_,_,⟨y,py,yl,ye⟩,am⟩:=h1 a ha;obtain⟨_,_,⟨z,pz,zl,ze⟩,bm⟩:=h1 b hb;have:=am z pz (by omega);have:=bm y py (by omega);omega
 have hp:S.Pairwise λa b=>a.1<=b.1/\(a.1=b.1->a.2=b.2):=by
  rw[List.pairwise_iff_forall_sublist]at hs ⊢;intro a b h;have m:=h.subset;exact⟨hs h,λe=>same a (m (by simp)) b (m (by simp)) e⟩
 have I:=sO F6 hp;refine⟨I.up,λx=>(I.mem x).trans ?_⟩;constructor
 .rintro⟨hx,hy⟩
  obtain⟨xp,⟨w,pw,we⟩,⟨z,pz,zl,ze⟩,xm⟩:=h1 x hx;have zx:z.1=x.1:=by
   by_cases c:z.1=x.1
   .exact c
   .obtain⟨v,hv,ve⟩:=h2 z pz (by omega)
    obtain⟨_,_,_,vm⟩:=h1 v hv;have:=hy v hv (by omega);have:=vm z pz (by omega);omega
  have:z=x:=Prod.ext zx ze;subst this;refine⟨⟨pz,xp⟩,λy py=>⟨λhle=>by have:=xm y py.1 hle;show ¬z.2<y.2;omega,λhlt=>?_⟩⟩;obtain⟨v,hv,ve⟩:=h2 y py.1 py.2;obtain⟨_,_,_,vm⟩:=h1 v hv;have:=hy v hv (by omega);have:=vm y py.1 (by omega);show y.2<z.2;omega
 .rintro⟨⟨px,xp⟩,hx⟩
  obtain⟨v,hv,ve⟩:=h2 x px xp;obtain⟨_,_,⟨z,pz,zl,ze⟩,vm⟩:=h1 v hv;have a1:=vm x px (by omega);have a2:¬x.2<z.2:=(hx z ⟨pz,by omega⟩).1 (by omega);have:x=v:=Prod.ext ve.symm (by omega);subst this;refine⟨hv,λy hy h=>?_⟩;obtain⟨_,_,⟨u,pu,ul,ue⟩,_⟩:=h1 y hy;have:u.2<x.2:=(hx u ⟨pu,by omega⟩).2 (by omega);show y.2<x.2;omega
end K66
namespace K66
open PySem L2 DL Com K54
def sz:Option Int->D
 |none=>.non
 |some x=>.int x
def dD(x:Int×Option Int):D:=.tup [.int x.1,sz x.2]
def gA(s:Option Int):jk (sz s) .non=.ok (.bl s.isNone):=by cases s<;>rfl
def j6(a b:Option Int):bP [sz a,sz b]=.ok (.bl (decide (gz b a))):=by
 cases b with
 |none=>
  have n1:=gA none;have:decide (gz none a)=false:=by cases a<;>rfl
  rw[this];open_line with[bP,fz,n1,Option.isNone_none]
 |some y=>
  have n1:=gA (some y);cases a with
  |none=>
   have n2:=gA none;have:decide (gz (some y) none)=true:=rfl;rw[this];open_line with[bP,fz,n1,n2,Option.isNone_none,Option.isNone_some]
  |some x=>
   have n2:=gA (some x);have e1:Bn (sz (some x)) (sz (some y))=.ok (.bl (decide (y<x))):=rfl;have:decide (gz (some y) (some x))=decide (y<x):=by
    by_cases h:y<x
    .rw[decide_eq_true h,decide_eq_true (show gz (some y) (some x) from h)]
    .rw[decide_eq_false h,decide_eq_false (show ¬gz (some y) (some x) from h)]
   rw[this];open_line with[bP,fz,n1,n2,Option.isNone_some,e1]
abbrev Al:=List (Int×Option Int)
def du(L:Al):D:=.ob (.dint (L.map (·.1))) (L.map λx=>sz x.2)
def look:Al->Int->Option (Option Int)
 |[],_=>none
 |x::L,c=>if x.1=c then some x.2 else look L c
theorem oB:∀(L:Al) (c:Int),DL.atI (L.map (·.1)) (L.map λx=>sz x.2) c=(look L c).map sz
 |[],_=>rfl
 |x::L,c=>by
  rw[List.map_cons,List.map_cons,DL.atI,look,oB L c]
  by_cases h:x.1=c
  .rw[if_pos h,if_pos h];rfl
  .rw[if_neg h,if_neg h]
def jZ{L:Al}{c:Int}{s:Option Int}(h:look L c=some s):(c,s)∈L:=by
 induction L with
 |nil=>cases h
 |cons x L ih=>
  rw[look]at h
  by_cases e:x.1=c
  .rw[if_pos e]at h;cases h;rw[←e];exact List.mem_cons_self
  .rw[if_neg e]at h;exact List.mem_cons_of_mem _ (ih h)
def j0{L:Al}{c:Int}:look L c=none↔c∉L.map (·.1):=by
 induction L with
 |nil=>simp[look]
 |cons x L ih=>
  rw[look]
  by_cases e:x.1=c
  .simp[e]
  .have:¬c=x.1:=λz=>e z.symm
   simp[e,ih,this]
def wa(L:Al)(c:Int)(s:Option Int):Al:=if c∈L.map (·.1) then L.map (λx=>if x.1=c then(x.1,s) else x) else L++[(c,s)]
theorem sP(c:Int)(s:Option Int):∀L:Al,qP (L.map (·.1)) (L.map λx=>sz x.2) c (sz s)=(L.map λx=>if x.1=c then(x.1,s) else x).map λx=>sz x.2
 |[]=>rfl
 |x::L=>by
  simp only[List.map_cons,qP];rw[sP c s L]
  by_cases h:x.1=c
  .rw[if_pos h,if_pos h]
  .rw[if_neg h,if_neg h]
def v9{L:Al}{c:Int}{s:Option Int}:wc (L.map (·.1)) (L.map λx=>sz x.2) c (sz s)=du (wa L c s):=by
 unfold wc wa du
 by_cases h:c∈L.map (·.1)
 .rw[if_pos h,if_pos h,sP]
  congr 2
  rw[List.map_map];refine List.map_congr_left λx _=>?_;show x.1=(if x.1=c then(x.1,s) else x).1
  by_cases h:x.1=c
  .rw[if_pos h]
  .rw[if_neg h]
 .rw[if_neg h,if_neg h];simp
structure oJ (P L:Al):Prop where
 nd:(L.map (·.1)).Nodup
 dom:∀y∈P,y.1∈L.map (·.1)
 best:∀x∈L,x∈P/\∀y∈P,y.1=x.1->¬gz x.2 y.2
 len:L.length<=P.length
def oJ.skip{P L:Al}(I:oJ P L){a:Int×Option Int}{v:Option Int}(h:look L a.1=some v)(hv:¬gz v a.2):oJ (P++[a]) L:=by
 have hm:=jZ h;refine⟨I.nd,λy hy=>?_,λx hx=>⟨List.mem_append_left _ (I.best x hx).1,λy hy e=>?_⟩,by have:=I.len;simp;omega⟩
 .rcases List.mem_append.mp hy with hy|hy
  .exact I.dom y hy
  .rw[List.mem_singleton.mp hy];exact List.mem_map.mpr ⟨_,hm,rfl⟩
 .rcases List.mem_append.mp hy with hy|hy
  .exact(I.best x hx).2 y hy e
  .rw[List.mem_singleton.mp hy]at e ⊢
   have:x=(a.1,v):=nodup_fst I.nd hx hm e.symm;rw[this];exact hv
where
 nodup_fst {L:Al}(nd:(L.map (·.1)).Nodup) {x y:Int×Option Int}(hx:x∈L) (hy:y∈L) (e:x.1=y.1):x=y:=by
  induction L with
  |nil=>cases hx
  |cons z L ih=>
   rw[List.map_cons,List.nodup_cons]at nd;rcases List.mem_cons.mp hx with ex|hx'
   .rcases List.mem_cons.mp hy with ey|hy'
    .rw[ex,ey]
    .exact absurd (List.mem_map.mpr ⟨y,hy',by rw[←e,ex]⟩) nd.1
   .rcases List.mem_cons.mp hy with ey|hy'
    .exact absurd (List.mem_map.mpr ⟨x,hx',by rw[e,ey]⟩) nd.1
    .exact ih nd.2 hx' hy'
def oJ.put{P L:Al}(I:oJ P L){a:Int×Option Int}(h:∀v,look L a.1=some v->gz v a.2):oJ (P++[a]) (wa L a.1 a.2):=by
 unfold wa
 by_cases c:a.1∈L.map (·.1)
 .rw[if_pos c]
  obtain⟨v,hv⟩:∃v,look L a.1=some v:=by
   cases q:look L a.1 with|none=>exact absurd c (j0.mp q)|some v=>exact⟨v,rfl⟩
  have hm:=jZ hv;have key:(L.map λx=>if x.1=a.1 then(x.1,a.2) else x).map (·.1)=L.map (·.1):=by
   rw[List.map_map];refine List.map_congr_left λx _=>?_;show(if x.1=a.1 then(x.1,a.2) else x).1=x.1
   by_cases h:x.1=a.1
   .rw[if_pos h]
   .rw[if_neg h]
  refine⟨by rw[key];exact I.nd,λy hy=>?_,λx hx=>?_,by have:=I.len;simp;omega⟩
  .rw[key]
   rcases List.mem_append.mp hy with hy|hy
   .exact I.dom y hy
   .rw[List.mem_singleton.mp hy];exact c
  .obtain⟨z,hz,ez⟩:=List.mem_map.mp hx
   by_cases q:z.1=a.1
   .rw[if_pos q]at ez
    have:x=a:=by rw[←ez,q]
    subst this;refine⟨by simp,λy hy e=>?_⟩;rcases List.mem_append.mp hy with hy|hy
    .have zv:z=(x.1,v):=oJ.skip.nodup_fst I.nd hz hm q
     have b:=(I.best z hz).2 y hy (by rw[e,q]);rw[zv]at b;exact λw=>b (zg.tr _ _ _ (h v hv) w)
    .rw[List.mem_singleton.mp hy];exact zg.ir _
   .rw[if_neg q]at ez
    subst ez;refine⟨List.mem_append_left _ (I.best z hz).1,λy hy e=>?_⟩;rcases List.mem_append.mp hy with hy|hy
    .exact(I.best z hz).2 y hy e
    .rw[List.mem_singleton.mp hy]at e;exact absurd e.symm q
 .rw[if_neg c]
  refine⟨?_,λy hy=>?_,λx hx=>?_,by have:=I.len;simp;omega⟩
  .rw[List.map_append,List.nodup_append]
   refine⟨I.nd,by simp,λx hx y hy e=>?_⟩;simp at hy;exact c (by rw[←hy,←e];exact hx)
  .rw[List.map_append]
   rcases List.mem_append.mp hy with hy|hy
   .exact List.mem_append_left _ (I.dom y hy)
   .rw[List.mem_singleton.mp hy];simp
  .rcases List.mem_append.mp hx with hx|hx
   .refine⟨List.mem_append_left _ (I.best x hx).1,λy hy e=>?_⟩
    rcases List.mem_append.mp hy with hy|hy
    .exact(I.best x hx).2 y hy e
    .rw[List.mem_singleton.mp hy]at e
     exact absurd (List.mem_map.mpr ⟨x,hx,e.symm⟩) c
   .have:x=a:=by rw[List.mem_singleton.mp hx]
    subst this;refine⟨by simp,λy hy e=>?_⟩;rcases List.mem_append.mp hy with hy|hy
    .exact absurd (by rw[←e];exact I.dom y hy) c
    .rw[List.mem_singleton.mp hy];exact zg.ir _
def Aa{i:Nat}{ρ:Ev}:vR i ρ=.ok (.nx (ρ.set i (.ow (du [])))):=aO rfl
def rf{L:Al}{c:Int}:iJ (.int c) (du L)=.ok (.bl (look L c).isNone):=by
 unfold iJ du;simp only[oB];cases look L c<;>rfl
def pX{L:Al}{c:Int}{v:Option Int}(h:look L c=some v):ie (du L) (.int c)=.ok (sz v):=by
 unfold ie du;simp only[oB,h];rfl
def rn{P:Al}(hl:P.length<=900):∃L,cN [.lst (P.map dD)]=.ok (du L)/\oJ P L:=by
 obtain⟨ρ',hf,L,y2,y3,rfl,I⟩:=eg (tg:=bY [2,3]) (body:=(ar (dR (kN (ah (ae 2) (ae 1) iJ) (aj (aa (ae 3) (aa (ah (ae 1) (ae 2) ie) ax)) bP))
 (ar (o8 1 (ae 3) (ae 2))
 aq)
 aq)
 aq)) dD (λpre ρ=>∃L y2 y3,ρ=[.sh (.lst (P.map dD)),.ow (du L),y2,y3]/\oJ pre L) (L:=P) (by
  rintro pre a post hP ρ ⟨L,y2,y3,rfl,I⟩;have hll:L.length<=900:=by have:=I.len;rw[hP]at hl;simp at hl;omega
  have n1:=rf (L:=L) (c:=a.1);have e1:bY [2,3] [.sh (.lst (P.map dD)),.ow (du L),y2,y3] (dD a)=.ok [.sh (.lst (P.map dD)),.ow (du L),.sh (.int a.1),.sh (sz a.2)]:=rfl;have hput:o8 1 (ae 3) (ae 2) [.sh (.lst (P.map dD)),.ow (du L),.sh (.int a.1),.sh (sz a.2)]=.ok (.nx [.sh (.lst (P.map dD)),.ow (du (wa L a.1 a.2)),.sh (.int a.1),.sh (sz a.2)]):=by
   rw[←v9];exact if_pos (show(L.map (·.1)).length<line by rw[List.length_map];exact Nat.lt_of_le_of_lt hll (by decide))
  cases q:look L a.1 with
  |none=>
   rw[q]at n1;refine⟨_,_,e1,?_,_,.sh (.int a.1),.sh (sz a.2),rfl,I.put (a:=a) λv hv=>by rw[q]at hv;cases hv⟩;open_line with[n1,Option.isNone_none,hput]
  |some v=>
   rw[q]at n1;have g1:=pX q;have l1:=j6 a.2 v
   by_cases c:gz v a.2
   .rw[decide_eq_true c]at l1
    refine⟨_,_,e1,?_,_,.sh (.int a.1),.sh (sz a.2),rfl,I.put (a:=a) λu hu=>by rw[q]at hu;cases hu;exact c⟩;open_line with[n1,Option.isNone_some,g1,l1,hput]
   .rw[decide_eq_false c]at l1
    refine⟨_,_,e1,?_,_,.sh (.int a.1),.sh (sz a.2),rfl,I.skip q c⟩;open_line with[n1,Option.isNone_some,g1,l1]) (ρ:=[.sh (.lst (P.map dD)),.ow (du []),.no,.no]) ⟨[],_,_,rfl,⟨.nil,by simp,by simp,Nat.le_refl _⟩⟩
 refine⟨L,?_,I⟩;open_line with[cN,fy,Aa,hf]
 try rfl
def fT(L:Al)(c:Int):Int×Option Int:=(c,(look L c).getD none)
def tE{ds:ac}(hl:bp 40 (.lst ds)=true):iK (.lst ds) (.lst [])=.ok (.bl ds.isEmpty):=by
 cases ds with
 |nil=>rfl
 |cons d ds=>
  unfold iK;rw[if_pos ⟨hl,rfl⟩];rfl
def yM(x:Int×Option Int):bp 39 (dD x)=true:=by
 obtain⟨a,b⟩:=x;cases b<;>rfl
def vI(R:Al):bp 40 (.lst (R.map dD))=true:=by
 show(R.map dD).all (bp 39)=true;rw[List.all_eq_true];intro d hd;obtain⟨x,_,rfl⟩:=List.mem_map.mp hd;exact yM x
def uo{L:Al}(hl:L.length<64):dM [du L]=.ok (.lst ((eB gz ((cH (L.map (·.1))).map (fT L))).map dD)):=by
 have hk:∀c∈cH (L.map (·.1)),∃v,look L c=some v:=λc hc=>by
  have:=(cw (L.map (·.1))).mem_iff.mp hc;cases q:look L c with|none=>exact absurd this (j0.mp q)|some v=>exact⟨v,rfl⟩
 have l1:l9 (du L)=.ok (.lst ((L.map (·.1)).map D.int)):=rfl;have l2:kz (.lst ((L.map (·.1)).map D.int))=.ok (.lst ((cH (L.map (·.1))).map D.int)):=by
  unfold kz;simp only[lW];rw[if_pos (by rw[List.length_map];exact hl)]
 obtain⟨ρ',hf,y2,rfl⟩:=eg (tg:=eJ 2) (body:=(ar (dR (kN (ah (ae 1) (aj ax bU) iK) (aj (aa (ah (ae 0) (ae 2) ie) (aa (ah (ah (ae 1) (aL (dC (.int 1)) fG) bq) (dC (.int 1)) bq) ax)) bP))
 (ar (bE 1 (aj (aa (ae 2) (aa (ah (ae 0) (ae 2) ie) ax)) cb))
 aq)
 aq)
 aq)) D.int (λpre ρ=>∃y2,ρ=[.sh (du L),.ow (.lst ((eB gz (pre.map (fT L))).map dD)),y2]) (L:=cH (L.map (·.1))) (by
  rintro pre c post hP ρ ⟨y2,rfl⟩;obtain⟨v,hv⟩:=hk c (by rw[hP];simp);have g1:=pX hv;have ev:fT L c=(c,v):=by unfold fT;rw[hv];rfl
  have hR:eB gz ((pre++[c]).map (fT L))=eN gz (eB gz (pre.map (fT L))) (c,v):=by
   unfold eB;rw[List.map_append,List.foldl_append];simp[ev]
  rw[hR];have rl:(eB gz (pre.map (fT L))).length<=pre.length:=by
   have:∀(S R:Al),(S.foldl (eN gz) R).length<=R.length+S.length:=by
    intro S
    induction S with
    |nil=>intro R;simp
    |cons a S ih=>
     intro R;rw[List.foldl_cons];have h1:=ih (eN gz R a);have h2:(eN gz R a).length<=R.length+1:=by
      unfold eN;split
      .simp
      .split<;>simp
     rw[List.length_cons];omega
   have:=this (pre.map (fT L)) [];unfold eB;simpa using this
  have pl:pre.length<64:=by
   have:=(cw (L.map (·.1))).length_eq;rw[hP]at this;simp at this;omega
  generalize eB gz (pre.map (fT L))=R at rl;have n1:=tE (vI R);have ha:decide ((R.map dD).length<=999)=true:=decide_eq_true (by rw[List.length_map];omega);unfold eN;cases q:R.getLast? with
  |none=>
   have:R=[]:=List.getLast?_eq_none_iff.mp q;subst this;refine⟨_,_,rfl,?_,.sh (.int c),rfl⟩;have n1:iK (.lst []) (.lst [])=.ok (.bl true):=rfl;have m1:cb [.int c,sz v]=.ok (.tup [.int c,sz v]):=rfl;open_line with[List.map_nil,n1,g1,m1,cO (show decide (([]:ac).length<=999)=true from rfl)]
   rfl
  |some z=>
   have hne:R≠[]:=λh=>by rw[h]at q;cases q
   obtain⟨R',rfl⟩:∃R',R=R'++[z]:=List.getLast?_eq_some_iff.mp q;have n2:((R'++[z]).map dD).isEmpty=false:=by simp
   rw[n2]at n1;have i1:bq (.lst ((R'++[z]).map dD)) (.int (-1))=.ok (dD z):=by rw[List.map_append];exact jz
   have i2:bq (dD z) (.int 1)=.ok (sz z.2):=rfl;have ng:fG (.int 1)=.ok (.int (-1)):=rfl;have lo:=j6 v z.2
   by_cases c1:gz z.2 v
   .rw[decide_eq_true c1]at lo
    simp only[if_pos c1];refine⟨[.sh (du L),.ow (.lst ((R'++[z]).map dD)),.sh (.int c)],_,rfl,?_,.sh (.int c),rfl⟩;have m1:cb [.int c,sz v]=.ok (.tup [.int c,sz v]):=rfl;have e2:(R'++[z]++[(c,v)]).map dD=(R'++[z]).map dD++[.tup [.int c,sz v]]:=by rw[List.map_append];rfl
    rw[e2];generalize (R'++[z]).map dD=W at *;open_line with[n1,g1,ng,i1,i2,lo,m1,cO ha]
   .rw[decide_eq_false c1]at lo
    simp only[if_neg c1];refine⟨[.sh (du L),.ow (.lst ((R'++[z]).map dD)),.sh (.int c)],_,rfl,?_,.sh (.int c),rfl⟩;generalize (R'++[z]).map dD=W at *;open_line with[n1,g1,ng,i1,i2,lo]) (ρ:=[.sh (du L),.ow (.lst []),.no]) ⟨_,rfl⟩
 open_line with[dM,il,l1,l2,hf]
def gS(β γ:Int)(x:Int×Option Int):D:=.tup [fr (cj x.1 β),bZ (x.2.map λs=>cj s γ)]
def lj{s t:db}{ρ:Ev}:gZ s t ρ=(s ρ).bind (BE t):=aO rfl
def qf{t:db}{ρ:Ev}:BE t (.nx ρ)=t ρ:=aO rfl
def zI{P:Al}{β γ:Int}(hl:P.length<64)(hβ:0<β/\β.natAbs<kE)(hγ:0<γ/\γ.natAbs<kE)(hu:∀x∈P,x.1.natAbs<kE/\∀s,x.2=some s->s.natAbs<kE) :
  ∃R:Al,ef [.lst (P.map dD),.int β,.int γ]=.ok (.lst (R.map (gS β γ)))/\R.Pairwise (λa b=>a.1<b.1)/\∀x,x∈R↔Ed gz (·∈P) x:=by
 obtain⟨L,h1,I⟩:=rn (P:=P) (by omega);have h2:=uo (L:=L) (by have:=I.len;omega);have sp:=cw (L.map (·.1));have hs:((cH (L.map (·.1))).map (fT L)).Pairwise λa b=>a.1<b.1:=by
  rw[List.pairwise_map];have nd:(cH (L.map (·.1))).Nodup:=sp.nodup_iff.mpr I.nd;exact(List.Pairwise.and (eO _) nd).imp λ{a b} h=>by
   show a<b;have h1:a<=b:=h.1;have h2:a≠b:=h.2;omega
 have inL:∀c∈L.map (·.1),fT L c∈L:=λc hc=>by
  cases q:look L c with|none=>exact absurd hc (j0.mp q)|some v=>unfold fT;rw[q];exact jZ q
 obtain⟨r1,r2⟩:=ur zg (P:=(·∈P)) hs (λx hx=>by
  obtain⟨c,hc,rfl⟩:=List.mem_map.mp hx;exact I.best _ (inL c (sp.mem_iff.mp hc))) λy py=>⟨_,List.mem_map.mpr ⟨y.1,sp.mem_iff.mpr (I.dom y py),rfl⟩,rfl⟩
 generalize eB gz ((cH (L.map (·.1))).map (fT L))=R at *;refine⟨R,?_,r1,r2⟩;obtain⟨ρ',hf,y4,y5,rfl⟩:=eg (tg:=bY [4,5]) (body:=(ar (bE 3 (aj (aa (aj (aa (ae 4) (aa (ae 1) ax)) m_ratio) (aa (AL (ah (ae 5) (dC (.non)) jk) (dC (.non)) (aj (aa (ae 5) (aa (ae 2) ax)) m_ratio)) ax)) cb))
 aq)) dD (λpre ρ=>∃y4 y5,ρ=[.sh (.lst (P.map dD)),.sh (.int β),.sh (.int γ),.ow (.lst (pre.map (gS β γ))),y4,y5]) (L:=R) (by
  rintro pre x post hP ρ ⟨y4,y5,rfl⟩;have hx:=((r2 x).mp (by rw[hP];simp)).1;obtain⟨b1,b2⟩:=hu x hx;have q1:m_ratio [.int x.1,.int β]=.ok (fr (cj x.1 β)):=pv hβ.1 b1 hβ.2;have pl:pre.length<=R.length:=by rw[hP];simp
  have rl:R.length<=63:=by
   have:=nodup_le R P (r1.imp λ{a b} h e=>by rw[e]at h;omega) λx hx=>((r2 x).mp hx).1;omega
  have ha:decide ((pre.map (gS β γ)).length<=999)=true:=decide_eq_true (by rw[List.length_map];omega);have e2:(pre++[x]).map (gS β γ)=pre.map (gS β γ)++[gS β γ x]:=by simp
  rw[e2];have n1:=gA x.2;have e1:bY [4,5] [.sh (.lst (P.map dD)),.sh (.int β),.sh (.int γ),.ow (.lst (pre.map (gS β γ))),y4,y5] (dD x)=.ok [.sh (.lst (P.map dD)),.sh (.int β),.sh (.int γ),.ow (.lst (pre.map (gS β γ))),.sh (.int x.1),.sh (sz x.2)]:=rfl;refine⟨_,_,e1,?_,.sh (.int x.1),.sh (sz x.2),rfl⟩;generalize pre.map (gS β γ)=W at *;cases q:x.2 with
  |none=>
   rw[q]at n1;have ou:gS β γ x=.tup [fr (cj x.1 β),.non]:=by unfold gS;rw[q];rfl
   rw[ou];open_line with[q1,n1,Option.isNone_none,cO ha]
  |some s=>
   rw[q]at n1;have q2:m_ratio [.int s,.int γ]=.ok (fr (cj s γ)):=pv hγ.1 (b2 s q) hγ.2;have ez:sz (some s)=.int s:=rfl;rw[ez]at n1;have ou:gS β γ x=.tup [fr (cj x.1 β),fr (cj s γ)]:=by unfold gS;rw[q];rfl
   rw[ou];open_line with[ez,q1,n1,Option.isNone_some,q2,cO ha]) (ρ:=[.sh (.lst (P.map dD)),.sh (.int β),.sh (.int γ),.ow (.lst []),.no,.no]) ⟨_,_,rfl⟩
 unfold ef gR;open_line with[iY,lj,qf,h1,h2,hf]
 rfl
where
 nodup_le:∀(R P:Al),R.Pairwise (λa b=>a≠b)->(∀x∈R,x∈P)->R.length<=P.length
  |[],_,_,_=>Nat.zero_le _
  |x::R,P,hR,h=>by
   rw[List.pairwise_cons]at hR;obtain⟨A,B,e⟩:=List.append_of_mem (h x List.mem_cons_self);have:=nodup_le R (A++B) hR.2 λy hy=>by
    have:=h y (List.mem_cons_of_mem _ hy);rw[e]at this;have ne:=hR.1 y hy;simp only[List.mem_append,List.mem_cons]at this ⊢;rcases this with q|q|q
    .exact .inl q
    .exact absurd q.symm ne
    .exact .inr q
   rw[e];simp at this ⊢;omega
def eZ:Int:=10000000000000000000000000000000000000000
def HI:Int:=1000000000000000000
structure Tr (T:List (Int×Int)):Prop where
 len:T.length<=4
 el:∀x∈T,(0<=x.1/\x.1<HI)/\0<=x.2/\(x.2<HI∨x.2=eZ)
def gT(b l:Int):Option jO:=if eZ<=l then none else some (cj l b)
def cP(b:Int)(x:Int×Int):D:=.tup [fr (cj x.1 b),bZ (gT b x.2)]
def n6{a b:Int}(hb:1<=b/\b<=60)(ha:0<=a/\a<HI):e9 (cj a b):=by
 have h0:HI=1000000000000000000:=rfl;have h1:su=1000000000000000000000000000000000000000000000000000000000000:=rfl;exact EI (by omega) (by omega) (by omega)
def wh(b β w:Int):Int:=(cj w b).1*(β / (cj w b).2)
def qJ{b β w:Int}(h:(cj w b).2∣β)(hl:(cj w b).2≠0):wh b β w*b=w*β:=by
 unfold wh;obtain⟨k,rfl⟩:=h;rw[Int.mul_ediv_cancel_left _ hl];have:=kY (a:=w) (b:=b)
 grind
def nO(b γ l:Int):Option Int:=if eZ<=l then none else some (wh b γ l)
def nN(b β γ:Int)(x:Int×Int):Int×Option Int:=(wh b β x.1,nO b γ x.2)
def Bu(b γ l:Int):wI γ (gT b l)=sz (nO b γ l):=by
 unfold gT nO
 by_cases h:eZ<=l
 .rw[if_pos h,if_pos h];rfl
 .rw[if_neg h,if_neg h];rfl
theorem sD(F G:Int×Int->D):∀T:List (Int×Int),lA (T.map F) (T.map G)=T.map λx=>.tup [F x,G x]
 |[]=>rfl
 |x::T=>by simp only[List.map_cons,lA];rw[sD F G T]
def yU(b β γ p:Int)(f:Option Int->Option Int->Option Int)(A B:List (Int×Int)):Al :=
 A.flatMap λx=>(B.filter λy=>decide (wh b β x.1+wh b β y.1<=wh b β p)).map λy=>(wh b β x.1+wh b β y.1,f (nO b γ x.2) (nO b γ y.2))
def nv{α:Type}{F:α->D}{xs ys:List α}:ig ((xs++ys).map F) (some (xs.length:Int)) none=ys.map F:=by
 rw[oA];have e1:HT.sIx (xs++ys).length 0 (some (xs.length:Int))=xs.length:=by
  have h:=HT.clip_eq (xs.length:Int) (xs++ys).length 0;rw[if_neg (by omega)]at h;simp at h ⊢;omega
 have e2:HT.sIx (xs++ys).length (xs++ys).length none=(xs++ys).length:=rfl;rw[e1,e2,List.drop_left,List.take_of_length_le (by simp)]
def xU{α:Type}{F:α->D}{xs ys:List α}:ig ((xs++ys).map F) none (some (xs.length:Int))=xs.map F:=by
 rw[C8 (by simp),List.take_left]
def sY(b p:Int)(T:List (Int×Int)):List (Option jO):=T.map (λx=>some (cj x.1 b))++[some (cj p b)]
def vi(b:Int)(T:List (Int×Int)):List (Option jO):=T.map λx=>gT b x.2
structure Sc (b p:Int) (T:List (Int×Int)) (β γ:Int):Prop where
 β0:0<β/\β.natAbs<=2 ^ 2000
 γ0:0<γ/\γ.natAbs<=2 ^ 2000
 w:∀x∈T,wh b β x.1*b=x.1*β
 p:wh b β p*b=p*β
 l:∀x∈T,¬eZ<=x.2->wh b γ x.2*b=x.2*γ
def xZ{os:List (Option jO)}(hl:os.length<=9)(hx:∀x,some x∈os->e9 x):(0<rZ (c6 os)/\(rZ (c6 os)).natAbs<=2 ^ 2000)/\∀x,some x∈os->x.2∣rZ (c6 os):=by
 have hxs:∀x∈c6 os,e9 x:=λx h=>hx x (jY.mp h);have hls:(c6 os).length<=9:=Nat.le_trans (List.length_filterMap_le _ _) hl;obtain⟨B,_,h3⟩:=ya hxs 1 0 ⟨by decide,by decide⟩;exact⟨⟨B.pos,Nat.le_trans B.bd (Nat.pow_le_pow_right (by decide) (by omega))⟩,λx h=>h3 x (jY.mpr h)⟩
def Cm{l:Int}(h:l<HI):¬eZ<=l:=by
 have:HI<=eZ:=by decide
 omega
theorem D9{b p:Int}{T:List (Int×Int)}(hb:1<=b/\b<=60)(hp:0<=p/\p<HI)(hl:T.length<=8)(hT:∀x∈T,(0<=x.1/\x.1<HI)/\0<=x.2/\(x.2<HI∨x.2=eZ)) :
  (∀x,some x∈sY b p T->e9 x)/\(∀x,some x∈vi b T->e9 x)/\Sc b p T (rZ (c6 (sY b p T))) (rZ (c6 (vi b T))):=by
 have f1:∀x,some x∈sY b p T->e9 x:=λx hx=>by
  unfold sY at hx;rcases List.mem_append.mp hx with hx|hx
  .obtain⟨y,hy,e⟩:=List.mem_map.mp hx
   cases e;exact n6 hb (hT y hy).1
  .have:x=cj p b:=by simpa using hx
   rw[this];exact n6 hb hp
 have f2:∀x,some x∈vi b T->e9 x:=λx hx=>by
  obtain⟨y,hy,e⟩:=List.mem_map.mp hx;unfold gT at e;split at e
  .cases e
  .next h=>
   cases e;obtain⟨_,h0,h1|h1⟩:=hT y hy
   .exact n6 hb ⟨h0,h1⟩
   .rw[h1]at h;exact absurd (Int.le_refl _) h
 obtain⟨a1,a2⟩:=xZ (by unfold sY;simp;omega) f1;obtain⟨b1,b2⟩:=xZ (by unfold vi;simp;omega) f2;refine⟨f1,f2,a1,b1,λx hx=>?_,?_,λx hx hi=>?_⟩
 .have m:some (cj x.1 b)∈sY b p T:=List.mem_append_left _ (List.mem_map.mpr ⟨x,hx,rfl⟩)
  exact qJ (a2 _ m) (by have:=(f1 _ m).q1;omega)
 .have m:some (cj p b)∈sY b p T:=List.mem_append_right _ (by simp)
  exact qJ (a2 _ m) (by have:=(f1 _ m).q1;omega)
 .have m:some (cj x.2 b)∈vi b T:=List.mem_map.mpr ⟨x,hx,by unfold gT;rw[if_neg hi]⟩
  exact qJ (b2 _ m) (by have:=(f2 _ m).q1;omega)
def A2{b β w u:Int}(hb:1<=b)(hβ:0<β/\β.natAbs<=2 ^ 2000)(hw:0<=w/\w<HI)(h:u*b=w*β):0<=u/\u.natAbs<=2 ^ 2060:=by
 have hh:HI=1000000000000000000:=rfl;have h0:0<=u:=by
  refine Int.not_lt.mp λc=>?_;have h1:u*b<0:=Int.mul_neg_of_neg_of_pos c (by omega);have h2:0<=w*β:=Int.mul_nonneg hw.1 (by omega);omega
 refine⟨h0,?_⟩;have h1:u<=u*b:=by have:=Int.mul_le_mul_of_nonneg_left hb h0;rw[Int.mul_one]at this;exact this
 have e:(w*β).natAbs=w.natAbs*β.natAbs:=Int.natAbs_mul _ _;have h2:w.natAbs*β.natAbs<=2 ^ 60*2 ^ 2000:=Nat.mul_le_mul (by omega) hβ.2;rw[←Nat.pow_add]at h2;omega
section
variable {A B:List (Int×Int)}{b p:Int}{mF:ac->ak D}{f:Option Int->Option Int->Option Int}
noncomputable abbrev pS(a:Addr) (mF:ac->ak D):db:=(ar (dR (ah (ah (ae 8) (ae 10) bu) (ah (ah (ae 4) (dC (.int 0)) bq) (aL (dC (.int 1)) fG) bq) tT)
 (ar (fW 7 3 a (aj (aa (ah (ae 8) (ae 10) bu) (aa (aj (aa (ae 9) (aa (ae 11) ax)) mF) ax)) cb))
 aq)
 aq)
 aq)
def Ap{i j:Nat}{a:Addr}{g:cr}{ρ:Ev}(h:ρ[j]?=some (.pt a)):fW i j a g ρ=bE i g ρ:=by
 unfold fW;rw[h];exact if_pos rfl
def w4(hF:∀s t,mF [sz s,sz t]=.ok (sz (f s t))){a:Addr}{d0 d1 d2 d5 d6:D}{W:ac}{β β' u:Int}{s:Option Int}{q:Int}(B:List (Int×Option Int))(Z:Al)(hz:Z.length+B.length<=900){y10 y11:Sl} :
  ∃z10 z11,c8 (bY [10,11]) (pS a mF) (B.map dD) [.sh d0,.sh d1,.sh d2,.pt a,.sh (.tup [.lst (W++[.int q]),.int β']),.sh d5,.sh d6,.ow (.lst (Z.map dD)),.sh (.int u),.sh (sz s),y10,y11]
  =.ok (.nx [.sh d0,.sh d1,.sh d2,.pt a,.sh (.tup [.lst (W++[.int q]),.int β']),.sh d5,.sh d6,.ow (.lst ((Z++(B.filter λy=>decide (u+y.1<=q)).map λy=>(u+y.1,f s y.2)).map dD)),.sh (.int u),.sh (sz s),z10,z11]):=by
 obtain⟨ρ',hf,z10,z11,rfl⟩:=eg (tg:=bY [10,11]) (body:=pS a mF) dD (λpre ρ=>∃z10 z11,ρ=[.sh d0,.sh d1,.sh d2,.pt a,.sh (.tup [.lst (W++[.int q]),.int β']),.sh d5,.sh d6,.ow (.lst ((Z++(pre.filter λy=>decide (u+y.1<=q)).map λy=>(u+y.1,f s y.2)).map dD)),.sh (.int u),.sh (sz s),z10,z11]) (L:=B) (by
  rintro pre y post hP ρ ⟨z10,z11,rfl⟩;have e1:∀X:ac,bY [10,11] [.sh d0,.sh d1,.sh d2,.pt a,.sh (.tup [.lst (W++[.int q]),.int β']),.sh d5,.sh d6,.ow (.lst X),.sh (.int u),.sh (sz s),z10,z11] (dD y)=.ok [.sh d0,.sh d1,.sh d2,.pt a,.sh (.tup [.lst (W++[.int q]),.int β']),.sh d5,.sh d6,.ow (.lst X),.sh (.int u),.sh (sz s),.sh (.int y.1),.sh (sz y.2)]:=λ_=>rfl;have i0:bq (.tup [.lst (W++[.int q]),.int β']) (.int 0)=.ok (.lst (W++[.int q])):=rfl;have i1:bq (.lst (W++[.int q])) (.int (-1))=.ok (.int q):=jz;have ng:fG (.int 1)=.ok (.int (-1)):=rfl;have le:tT (.int (u+y.1)) (.int q)=.ok (.bl (decide (u+y.1<=q))):=rfl;have hl:((Z++(pre.filter λy=>decide (u+y.1<=q)).map λy=>(u+y.1,f s y.2)).map dD).length<=999:=by
   have:=List.length_filter_le (λy:Int×Option Int=>decide (u+y.1<=q)) pre;have:pre.length<=B.length:=by rw[hP];simp
   simp;omega
  have hF:=hF s y.2
  by_cases c:u+y.1<=q
  .have e2:(Z++((pre++[y]).filter λy=>decide (u+y.1<=q)).map λy=>(u+y.1,f s y.2)).map dD=(Z++(pre.filter λy=>decide (u+y.1<=q)).map λy=>(u+y.1,f s y.2)).map dD++[.tup [.int (u+y.1),sz (f s y.2)]]:=by
    rw[List.filter_append];simp[c,dD]
   rw[e2];rw[decide_eq_true c]at le;refine⟨_,_,e1 _,?_,.sh (.int y.1),.sh (sz y.2),rfl⟩;have ha:=decide_eq_true hl;generalize (Z++(pre.filter λy=>decide (u+y.1<=q)).map λy=>(u+y.1,f s y.2)).map dD=X at *;have ap:=λg=>Ap (i:=7) (j:=3) (a:=a) (g:=g) (ρ:=[.sh d0,.sh d1,.sh d2,.pt a,.sh (.tup [.lst (W++[.int q]),.int β']),.sh d5,.sh d6,.ow (.lst X),.sh (.int u),.sh (sz s),.sh (.int y.1),.sh (sz y.2)]) rfl;open_line with[pS,i0,ng,i1,le,ap,hF,cO ha]
  .have e2:(pre++[y]).filter (λy=>decide (u+y.1<=q))=pre.filter λy=>decide (u+y.1<=q):=by
    rw[List.filter_append];simp[c]
   rw[e2];rw[decide_eq_false c]at le;refine⟨_,_,e1 _,?_,.sh (.int y.1),.sh (sz y.2),rfl⟩;generalize (Z++(pre.filter λy=>decide (u+y.1<=q)).map λy=>(u+y.1,f s y.2)).map dD=X at *;open_line with[pS,i0,ng,i1,le]) (ρ:=[.sh d0,.sh d1,.sh d2,.pt a,.sh (.tup [.lst (W++[.int q]),.int β']),.sh d5,.sh d6,.ow (.lst (Z.map dD)),.sh (.int u),.sh (sz s),y10,y11]) ⟨y10,y11,by simp⟩
 exact⟨z10,z11,hf⟩
def pR(hF:∀s t,mF [sz s,sz t]=.ok (sz (f s t)))(hfb:∀s t:Option Int,(∀x,s=some x->x.natAbs<=2 ^ 2060)->(∀x,t=some x->x.natAbs<=2 ^ 2060)->∀r,f s t=some r->r.natAbs<=2 ^ 2062)(hb:1<=b/\b<=60)(hp:0<=p/\p<HI)(hA:Tr A)(hB:Tr B) :
  ∃β γ,Sc b p (A++B) β γ/\∃R:Al,(∀a,aU mF a [.lst (A.map (cP b)),.lst (B.map (cP b)),fr (cj p b)]=.ok (.lst (R.map (gS β γ))))/\R.Pairwise (λa b=>a.1<b.1)/\∀x,x∈R↔Ed gz (·∈yU b β γ p f A B) x:=by
 have hT:∀x∈A++B,(0<=x.1/\x.1<HI)/\0<=x.2/\(x.2<HI∨x.2=eZ):=λx hx=>(List.mem_append.mp hx).elim (hA.el x) (hB.el x);have hl:(A++B).length<=8:=by have:=hA.len;have:=hB.len;simp;omega
 obtain⟨f1,f2,S⟩:=D9 hb hp hl hT;have s1:=o5 (os:=sY b p (A++B)) (by unfold sY;simp at hl ⊢;omega) f1;have s2:=o5 (os:=vi b (A++B)) (by unfold vi;simp at hl ⊢;omega) f2;generalize rZ (c6 (sY b p (A++B)))=β at *;generalize rZ (c6 (vi b (A++B)))=γ at *;have big:2 ^ 2062<kE:=by rw[oM];exact Nat.pow_lt_pow_right (by decide) (by decide)
 have big0:2 ^ 2000<=2 ^ 2062:=Nat.pow_le_pow_right (by decide) (by decide);have big1:2 ^ 2060+2 ^ 2060<=2 ^ 2062:=by
  rw[show(2062:Nat)=2060+2 from rfl,Nat.pow_add];omega
 have wb:∀x∈A++B,0<=wh b β x.1/\(wh b β x.1).natAbs<=2 ^ 2060:=λx hx=>A2 hb.1 S.β0 (hT x hx).1 (S.w x hx);have lb:∀x∈A++B,∀s,nO b γ x.2=some s->s.natAbs<=2 ^ 2060:=λx hx s e=>by
  unfold nO at e;split at e
  .cases e
  .next h=>
   cases e;obtain⟨_,h0,h1|h1⟩:=hT x hx
   .exact(A2 hb.1 S.γ0 ⟨h0,h1⟩ (S.l x hx h)).2
   .rw[h1]at h;exact absurd (Int.le_refl _) h
 have pl16:(yU b β γ p f A B).length<64:=by
  have:∀A:List (Int×Int),(yU b β γ p f A B).length<=A.length*4:=λA=>by
   induction A with
   |nil=>simp[yU]
   |cons x A ih=>
    have h1:=List.length_filter_le (λy:Int×Int=>decide (wh b β x.1+wh b β y.1<=wh b β p)) B;have h2:=hB.len;simp only[yU,List.flatMap_cons,List.length_append,List.length_map,List.length_cons]at ih h1 ⊢;omega
  have h1:=this A;have h2:=hA.len;omega
 obtain⟨R,hR,r1,r2⟩:=zI (P:=yU b β γ p f A B) (β:=β) (γ:=γ) pl16 ⟨S.β0.1,by have:=S.β0.2;omega⟩ ⟨S.γ0.1,by have:=S.γ0.2;omega⟩ (λz hz=>by
  obtain⟨x,hx,hz⟩:=List.mem_flatMap.mp hz;obtain⟨y,hy,rfl⟩:=List.mem_map.mp hz;have hy:=(List.mem_filter.mp hy).1;have w1:=wb x (List.mem_append_left _ hx);have w2:=wb y (List.mem_append_right _ hy);refine⟨?_,λs e=>Nat.lt_of_le_of_lt (hfb _ _ (lb x (List.mem_append_left _ hx)) (lb y (List.mem_append_right _ hy)) s e) big⟩;show(wh b β x.1+wh b β y.1).natAbs<kE;omega)
 refine⟨β,γ,S,R,λa=>?_,r1,r2⟩;have e1:(sY b p (A++B)).map bZ=((A++B).map λx=>fr (cj x.1 b))++[fr (cj p b)]:=by unfold sY;rw[List.map_append,List.map_map];rfl
 have e2:(vi b (A++B)).map bZ=(A++B).map λx=>bZ (gT b x.2):=by unfold vi;rw[List.map_map];rfl
 have e3:(sY b p (A++B)).map (wI β)=((A++B).map λx=>D.int (wh b β x.1))++[.int (wh b β p)]:=by unfold sY;rw[List.map_append,List.map_map];rfl
 have e4:(vi b (A++B)).map (wI γ)=(A++B).map λx=>sz (nO b γ x.2):=by
  unfold vi;rw[List.map_map];exact List.map_congr_left λx _=>Bu b γ x.2
 rw[e1,e3]at s1;rw[e2,e4]at s2;have pu:m_look_at_purse [fr (cj p b)]=.ok .non:=Wex.purseX (iG (by omega)) (by
  have:=kY (a:=p) (b:=b);have g:0<=(cj p b).1:=Int.ediv_nonneg hp.1 (Int.natCast_nonneg _);exact g)
 have hl2:(A++B).length<=900:=by omega
 have ad:bu (.lst (A.map (cP b))) (.lst (B.map (cP b)))=.ok (.lst ((A++B).map (cP b))):=by
  rw[jC (decide_eq_true (by have:=hA.len;have:=hB.len;simp;omega)),List.map_append]
 have c1:∀ρ,gj 2 [] (bY [0,1]) mYes (ae 0) ρ ((A++B).map (cP b))=.ok (.lst ((A++B).map λx=>fr (cj x.1 b))):=λρ=>by
  rw[K51.comp_pick (cP b) (λx=>some (fr (cj x.1 b))) (by omega) λx _=>⟨[.sh (fr (cj x.1 b)),.sh (bZ (gT b x.2))],rfl,.inr ⟨_,rfl,rfl,rfl⟩⟩];rw[List.filterMap_eq_map']
 have c2:∀ρ,gj 2 [] (bY [0,1]) mYes (ae 1) ρ ((A++B).map (cP b))=.ok (.lst ((A++B).map λx=>bZ (gT b x.2))):=λρ=>by
  rw[K51.comp_pick (cP b) (λx=>some (bZ (gT b x.2))) (by omega) λx _=>⟨[.sh (fr (cj x.1 b)),.sh (bZ (gT b x.2))],rfl,.inr ⟨_,rfl,rfl,rfl⟩⟩];rw[List.filterMap_eq_map']
 have ad2:bu (.lst ((A++B).map λx=>fr (cj x.1 b))) (.lst [fr (cj p b)])=.ok (.lst (((A++B).map λx=>fr (cj x.1 b))++[fr (cj p b)])):=jC (decide_eq_true (by simp at hl ⊢;omega));have ng:fG (.int 1)=.ok (.int (-1)):=rfl;have zp:l7 (.lst ((A++B).map λx=>D.int (wh b β x.1))) (.lst ((A++B).map λx=>sz (nO b γ x.2)))=.ok (.lst ((A++B).map λx=>dD (nN b β γ x))):=by
  unfold l7;simp only;rw[if_pos (by rw[List.length_map,List.length_map,Nat.min_self];exact Nat.le_trans hl2 (by decide)),sD];rfl
 have k1:ig ((A++B).map λx=>dD (nN b β γ x)) none (some ((A.map (cP b)).length:Int))=(A.map (nN b β γ)).map dD:=by
  rw[List.length_map,xU,List.map_map];rfl
 have k2:ig ((A++B).map λx=>dD (nN b β γ x)) (some ((A.map (cP b)).length:Int)) none=(B.map (nN b β γ)).map dD:=by
  rw[List.length_map,nv,List.map_map];rfl
 have i0:∀x y:D,bq (.tup [x,y]) (.int 0)=.ok x:=λ_ _=>rfl;have i1:∀x y:D,bq (.tup [x,y]) (.int 1)=.ok y:=λ_ _=>rfl
 let Q:List (Int×Option Int)->Al:=λpre=>pre.flatMap λx=>((B.map (nN b β γ)).filter λy=>decide (x.1+y.1<=wh b β p)).map λy=>(x.1+y.1,f x.2 y.2)
 have qe:Q (A.map (nN b β γ))=yU b β γ p f A B:=by
  show(A.map (nN b β γ)).flatMap _=A.flatMap _;rw[List.flatMap_map]
  congr 1
  funext x;rw[List.filter_map,List.map_map];rfl
 have ql:∀pre,(Q pre).length<=pre.length*4:=λpre=>by
  induction pre with
  |nil=>simp[Q]
  |cons x pre ih=>
   have h1:=List.length_filter_le (λy:Int×Option Int=>decide (x.1+y.1<=wh b β p)) (B.map (nN b β γ));have h2:=hB.len;simp only[Q,List.flatMap_cons,List.length_append,List.length_map,List.length_cons]at ih h1 ⊢;omega
 obtain⟨ρ',hf,z8,z9,z10,z11,rfl⟩:=eg (tg:=bY [8,9]) (body:=(ar (fb (kM (ae 6) (fY (aj (aa (ae 0) ax) (m1 ic))) gN) (bY [10,11])
 (pS a mF))
 aq)) dD (λpre ρ=>∃z8 z9 z10 z11,ρ=[.sh (.lst (A.map (cP b))),.sh (.lst (B.map (cP b))),.sh (fr (cj p b)),.pt a,.sh (.tup [.lst (((A++B).map λx=>D.int (wh b β x.1))++[.int (wh b β p)]),.int β]),.sh (.tup [.lst ((A++B).map λx=>sz (nO b γ x.2)),.int γ]),.sh (.lst ((A++B).map λx=>dD (nN b β γ x))),.ow (.lst ((Q pre).map dD)),z8,z9,z10,z11]) (L:=A.map (nN b β γ)) (by
  rintro pre x post hP ρ ⟨z8,z9,z10,z11,rfl⟩;have pl:pre.length<=4:=by
   have:=congrArg List.length hP;have:=hA.len;simp at *;omega
  obtain⟨w10,w11,hi⟩:=w4 hF (a:=a) (d0:=.lst (A.map (cP b))) (d1:=.lst (B.map (cP b))) (d2:=fr (cj p b)) (d5:=.tup [.lst ((A++B).map λx=>sz (nO b γ x.2)),.int γ]) (d6:=.lst ((A++B).map λx=>dD (nN b β γ x))) (W:=(A++B).map λx=>D.int (wh b β x.1)) (β:=β) (β':=β) (u:=x.1) (s:=x.2) (q:=wh b β p) (B.map (nN b β γ)) (Q pre) (by
   have:=ql pre;have:=hB.len;simp;omega) (y10:=z10) (y11:=z11)
  have eq':Q (pre++[x])=Q pre++((B.map (nN b β γ)).filter λy=>decide (x.1+y.1<=wh b β p)).map λy=>(x.1+y.1,f x.2 y.2):=by simp[Q]
  rw[eq'];refine⟨[.sh (.lst (A.map (cP b))),.sh (.lst (B.map (cP b))),.sh (fr (cj p b)),.pt a,.sh (.tup [.lst (((A++B).map λx=>D.int (wh b β x.1))++[.int (wh b β p)]),.int β]),.sh (.tup [.lst ((A++B).map λx=>sz (nO b γ x.2)),.int γ]),.sh (.lst ((A++B).map λx=>dD (nN b β γ x))),.ow (.lst ((Q pre).map dD)),.sh (.int x.1),.sh (sz x.2),z10,z11],_,rfl,?_,.sh (.int x.1),.sh (sz x.2),w10,w11,rfl⟩;generalize A.map (cP b)=DA at *;generalize ((A++B).map λx=>dD (nN b β γ x))=DS at *;generalize ((A++B).map λx=>D.int (wh b β x.1))=DW at *;generalize ((A++B).map λx=>sz (nO b γ x.2))=DLn at *;generalize B.map (cP b)=DB at *;generalize (Q pre).map dD=DQ at *;open_line with[k2,hi]) (ρ:=[.sh (.lst (A.map (cP b))),.sh (.lst (B.map (cP b))),.sh (fr (cj p b)),.pt a,.sh (.tup [.lst (((A++B).map λx=>D.int (wh b β x.1))++[.int (wh b β p)]),.int β]),.sh (.tup [.lst ((A++B).map λx=>sz (nO b γ x.2)),.int γ]),.sh (.lst ((A++B).map λx=>dD (nN b β γ x))),.ow (.lst []),.no,.no,.no,.no]) ⟨.no,.no,.no,.no,rfl⟩
 rw[qe]at hf;unfold aU lI yH;have ixl:bq (.lst (((A++B).map λx=>D.int (wh b β x.1))++[.int (wh b β p)])) (.int (-1))=.ok (.int (wh b β p)):=jz;have cl:ig (((A++B).map λx=>D.int (wh b β x.1))++[.int (wh b β p)]) none (some (-1))=(A++B).map λx=>D.int (wh b β x.1):=xV;generalize A.map (cP b)=DA at *;generalize ((A++B).map λx=>dD (nN b β γ x))=DS at *;generalize ((A++B).map λx=>D.int (wh b β x.1))=DW at *;generalize ((A++B).map λx=>sz (nO b γ x.2))=DLn at *;generalize B.map (cP b)=DB at *;generalize (yU b β γ p f A B).map dD=DQ at *;open_line with[dk,lj,qf,pu,ad,jB,oj,lY,c1,c2,ad2,s1,s2,i0,i1,ng,cl,zp,k1,hf,iV,wC,hR]
end
def bw(x:Int×Int):D:=.tup [.int x.1,.int x.2]
def Ez:dS (.int 10) (.int 40)=.ok (.int eZ):=by
 show dS (.int 10) (.int 40)=.ok (.int 10000000000000000000000000000000000000000);rfl
def gX{T:List (Int×Int)}{b:Int}(hb:1<=b/\b<=60)(hl:T.length<=900)(hT:∀x∈T,(0<=x.1/\x.1<10*HI)/\0<=x.2/\(x.2<10*HI∨x.2=eZ)):aT [.lst (T.map bw),.int b]=.ok (.lst (T.map (cP b))):=by
 have hh:HI=1000000000000000000:=rfl;have hi:eZ=10000000000000000000000000000000000000000:=rfl;have b13:2 ^ 200<kE:=by have:=ju (k:=1) (by decide);simpa using this
 have bb:b.natAbs<kE:=Nat.lt_of_le_of_lt (show b.natAbs<=2 ^ 200 from Nat.le_trans (show b.natAbs<=60 by omega) (by decide)) b13;have sm:∀a:Int,0<=a->a<10*HI->a.natAbs<kE:=λa h0 h1=>Nat.lt_of_le_of_lt (show a.natAbs<=2 ^ 200 from Nat.le_trans (show a.natAbs<=10000000000000000000 by omega) (by decide)) b13;obtain⟨ρ',hf,y3,y4,rfl⟩:=eg (tg:=bY [3,4]) (body:=(ar (dR (ah (ae 4) (ah (dC (.int 10)) (dC (.int 40)) dS) Dr)
 (ar (bE 2 (aj (aa (aj (aa (ae 3) (aa (ae 1) ax)) bB) (aa (dC (.non)) ax)) cb))
 aq)
 (ar (bE 2 (aj (aa (aj (aa (ae 3) (aa (ae 1) ax)) bB) (aa (aj (aa (ae 4) (aa (ae 1) ax)) bB) ax)) cb))
 aq))
 aq)) bw (λpre ρ=>∃y3 y4,ρ=[.sh (.lst (T.map bw)),.sh (.int b),.ow (.lst (pre.map (cP b))),y3,y4]) (L:=T) (by
  rintro pre x post hP ρ ⟨y3,y4,rfl⟩;obtain⟨⟨a1,a2⟩,a3,a4⟩:=hT x (by rw[hP];simp);have l1:bB [.int x.1,.int b]=.ok (fr (cj x.1 b)):=Cod.rm (by omega) (sm _ a1 a2) bb;have pl:pre.length<=900:=by have:=congrArg List.length hP;simp at this;omega
  have ha:decide ((pre.map (cP b)).length<=999)=true:=decide_eq_true (by rw[List.length_map];omega);have e1:∀X:ac,bY [3,4] [.sh (.lst (T.map bw)),.sh (.int b),.ow (.lst X),y3,y4] (bw x)=.ok [.sh (.lst (T.map bw)),.sh (.int b),.ow (.lst X),.sh (.int x.1),.sh (.int x.2)]:=λ_=>rfl;have e2:(pre++[x]).map (cP b)=pre.map (cP b)++[cP b x]:=by simp
  rw[e2];refine⟨_,_,e1 _,?_,.sh (.int x.1),.sh (.int x.2),rfl⟩;have ge:Dr (.int x.2) (.int eZ)=.ok (.bl (decide (eZ<=x.2))):=rfl;generalize pre.map (cP b)=W at *
  by_cases c:eZ<=x.2
  .rw[decide_eq_true c]at ge
   have ou:cP b x=.tup [fr (cj x.1 b),.non]:=by unfold cP gT;rw[if_pos c];rfl
   rw[ou];open_line with[Ez,ge,l1,cO ha]
  .rw[decide_eq_false c]at ge
   have l2:bB [.int x.2,.int b]=.ok (fr (cj x.2 b)):=Cod.rm (by omega) (sm _ a3 (by rcases a4 with a4|a4;exact a4;omega)) bb;have ou:cP b x=.tup [fr (cj x.1 b),fr (cj x.2 b)]:=by unfold cP gT;rw[if_neg c];rfl
   rw[ou];open_line with[Ez,ge,l1,l2,cO ha]) (ρ:=[.sh (.lst (T.map bw)),.sh (.int b),.ow (.lst []),.no,.no]) ⟨_,_,rfl⟩
 open_line with[aT,jI,hf]
def oO(a c:Int):Int:=if c<a then c else a
def yr(a c:Int):Int:=if c > a then c else a
def fL(sm:Bool)(l m:Int):Int:=if sm then oO eZ (l+m) else oO l m
def mJ(sm:Bool)(s:Int)(x:Int×Int)(z:Int)(B:List (Int×Int)):Int:=B.foldl (λz y=>if x.1+y.1<=s then yr z (fL sm x.2 y.2) else z) z
def dj(sm:Bool)(s:Int)(A B:List (Int×Int)):Int:=A.foldl (λz x=>mJ sm s x z B) (-1)
noncomputable abbrev iB:db:=(ar (dR (fg (ah (ah (ae 5) (ae 7) bu) (ae 2) tT) (ae 3))
 (ar (aR 4 (aj (aa (ae 4) (aa (aj (aa (ah (dC (.int 10)) (dC (.int 40)) dS) (aa (ah (ae 6) (ae 8) bu) ax)) (m2 uU)) ax)) (m2 oz)))
 aq)
 aq)
 (ar (dR (fg (ah (ah (ae 5) (ae 7) bu) (ae 2) tT) (c9 (ae 3)))
 (ar (aR 4 (aj (aa (ae 4) (aa (aj (aa (ae 6) (aa (ae 8) ax)) (m2 uU)) ax)) (m2 oz)))
 aq)
 aq)
 aq))
def ev_mx{a c:Int}:oz (.int a) (.int c)=.ok (.int (yr a c)):=aO rfl
def Bj{a c:Int}:uU (.int a) (.int c)=.ok (.int (oO a c)):=aO rfl
def AQ{d0 d1:D}{s z:Int}{sm:Bool}{x:Int×Int}(B:List (Int×Int)){y7 y8:Sl}:∃z7 z8,c8 (bY [7,8]) iB (B.map bw) [.sh d0,.sh d1,.sh (.int s),.sh (.bl sm),.sh (.int z),.sh (.int x.1),.sh (.int x.2),y7,y8]=.ok (.nx [.sh d0,.sh d1,.sh (.int s),.sh (.bl sm),.sh (.int (mJ sm s x z B)),.sh (.int x.1),.sh (.int x.2),z7,z8]):=by
 obtain⟨ρ',hf,z7,z8,rfl⟩:=eg (tg:=bY [7,8]) (body:=iB) bw (λpre ρ=>∃z7 z8,ρ=[.sh d0,.sh d1,.sh (.int s),.sh (.bl sm),.sh (.int (mJ sm s x z pre)),.sh (.int x.1),.sh (.int x.2),z7,z8]) (L:=B) (by
  rintro pre y post hP ρ ⟨z7,z8,rfl⟩;have e2:mJ sm s x z (pre++[y])=if x.1+y.1<=s then yr (mJ sm s x z pre) (fL sm x.2 y.2) else mJ sm s x z pre:=by unfold mJ;rw[List.foldl_append];rfl
  rw[e2];have le:tT (.int (x.1+y.1)) (.int s)=.ok (.bl (decide (x.1+y.1<=s))):=rfl;generalize mJ sm s x z pre=r;refine⟨[.sh d0,.sh d1,.sh (.int s),.sh (.bl sm),.sh (.int r),.sh (.int x.1),.sh (.int x.2),.sh (.int y.1),.sh (.int y.2)],_,rfl,?_,.sh (.int y.1),.sh (.int y.2),rfl⟩
  by_cases c:x.1+y.1<=s
  .rw[decide_eq_true c]at le
   rw[if_pos c];cases sm with
   |true=>
    have e3:fL true x.2 y.2=oO eZ (x.2+y.2):=rfl;rw[e3];open_line with[iB,le,Ez,Bj,ev_mx,Bool.not_true]
    rfl
   |false=>
    have e3:fL false x.2 y.2=oO x.2 y.2:=rfl;rw[e3];open_line with[iB,le,Ez,Bj,ev_mx,Bool.not_false]
    rfl
  .rw[decide_eq_false c]at le
   rw[if_neg c];open_line with[iB,le]) (ρ:=[.sh d0,.sh d1,.sh (.int s),.sh (.bl sm),.sh (.int z),.sh (.int x.1),.sh (.int x.2),y7,y8]) ⟨_,_,rfl⟩
 exact⟨z7,z8,hf⟩
def AO{A B:List (Int×Int)}{s:Int}{sm:Bool}:eC [.lst (A.map bw),.lst (B.map bw),.int s,.bl sm]=.ok (.int (dj sm s A B)):=by
 have ng:fG (.int 1)=.ok (.int (-1)):=rfl;obtain⟨ρ',hf,y5,y6,y7,y8,rfl⟩:=eg (tg:=bY [5,6]) (body:=(ar (fb (ae 1) (bY [7,8]) iB) aq)) bw (λpre ρ=>∃y5 y6 y7 y8,ρ=[.sh (.lst (A.map bw)),.sh (.lst (B.map bw)),.sh (.int s),.sh (.bl sm),.sh (.int (dj sm s pre B)),y5,y6,y7,y8]) (L:=A) (by
  rintro pre x post hP ρ ⟨y5,y6,y7,y8,rfl⟩;have e2:dj sm s (pre++[x]) B=mJ sm s x (dj sm s pre B) B:=by unfold dj;rw[List.foldl_append];rfl
  rw[e2];obtain⟨z7,z8,hi⟩:=AQ (d0:=.lst (A.map bw)) (d1:=.lst (B.map bw)) (s:=s) (z:=dj sm s pre B) (sm:=sm) (x:=x) B (y7:=y7) (y8:=y8);refine⟨[.sh (.lst (A.map bw)),.sh (.lst (B.map bw)),.sh (.int s),.sh (.bl sm),.sh (.int (dj sm s pre B)),.sh (.int x.1),.sh (.int x.2),y7,y8],_,rfl,?_,.sh (.int x.1),.sh (.int x.2),z7,z8,rfl⟩;generalize B.map bw=DB at *;generalize A.map bw=DA at *;open_line with[hi]) (ρ:=[.sh (.lst (A.map bw)),.sh (.lst (B.map bw)),.sh (.int s),.sh (.bl sm),.sh (.int (-1)),.no,.no,.no,.no]) ⟨_,_,_,_,rfl⟩
 generalize B.map bw=DB at *;generalize A.map bw=DA at *;open_line with[eC,kD,ng,hf]
def Ca{a c:Int}:a<=yr a c/\c<=yr a c/\(yr a c=a∨yr a c=c):=by unfold yr;split<;>omega
theorem w8{sm:Bool}{s:Int}{x:Int×Int}:∀(B:List (Int×Int)) (z:Int),z<=mJ sm s x z B/\(∀y∈B,x.1+y.1<=s->fL sm x.2 y.2<=mJ sm s x z B)/\(mJ sm s x z B=z∨∃y∈B,x.1+y.1<=s/\mJ sm s x z B=fL sm x.2 y.2)
 |[],z=>⟨Int.le_refl _,λy hy=>(nomatch hy),.inl rfl⟩
 |y::B,z=>by
  have e:mJ sm s x z (y::B)=mJ sm s x (if x.1+y.1<=s then yr z (fL sm x.2 y.2) else z) B:=rfl;rw[e];obtain⟨h1,h2,h3⟩:=w8 B (if x.1+y.1<=s then yr z (fL sm x.2 y.2) else z) (sm:=sm) (s:=s) (x:=x);have m:=Ca (a:=z) (c:=fL sm x.2 y.2)
  by_cases c:x.1+y.1<=s
  .rw[if_pos c]at h1 h2 h3 ⊢
   refine⟨by omega,λw hw hc=>?_,?_⟩
   .rcases List.mem_cons.mp hw with rfl|hw
    .omega
    .exact h2 w hw hc
   .rcases h3 with h3|⟨w,hw,h4⟩
    .rcases m.2.2 with q|q
     .exact .inl (h3.trans q)
     .exact .inr ⟨y,List.mem_cons_self,c,h3.trans q⟩
    .exact .inr ⟨w,List.mem_cons_of_mem _ hw,h4⟩
  .rw[if_neg c]at h1 h2 h3 ⊢
   refine⟨h1,λw hw hc=>?_,?_⟩
   .rcases List.mem_cons.mp hw with rfl|hw
    .exact absurd hc c
    .exact h2 w hw hc
   .rcases h3 with h3|⟨w,hw,h4⟩
    .exact .inl h3
    .exact .inr ⟨w,List.mem_cons_of_mem _ hw,h4⟩
theorem qw{sm:Bool}{s:Int}{B:List (Int×Int)}:∀(A:List (Int×Int)) (z:Int),z<=A.foldl (λz x=>mJ sm s x z B) z/\(∀x∈A,∀y∈B,x.1+y.1<=s->fL sm x.2 y.2<=A.foldl (λz x=>mJ sm s x z B) z)/\(A.foldl (λz x=>mJ sm s x z B) z=z∨∃x∈A,∃y∈B,x.1+y.1<=s/\A.foldl (λz x=>mJ sm s x z B) z=fL sm x.2 y.2)
 |[],z=>⟨Int.le_refl _,λy hy=>(nomatch hy),.inl rfl⟩
 |x::A,z=>by
  rw[List.foldl_cons];obtain⟨i1,i2,i3⟩:=w8 B z (sm:=sm) (s:=s) (x:=x);obtain⟨h1,h2,h3⟩:=qw A (mJ sm s x z B) (sm:=sm) (s:=s) (B:=B);refine⟨by omega,λw hw y hy hc=>?_,?_⟩
  .rcases List.mem_cons.mp hw with rfl|hw
   .have:=i2 y hy hc;omega
   .exact h2 w hw y hy hc
  .rcases h3 with h3|⟨w,hw,h4⟩
   .rcases i3 with i3|⟨y,hy,c,i3⟩
    .exact .inl (h3.trans i3)
    .exact .inr ⟨x,List.mem_cons_self,y,hy,c,h3.trans i3⟩
   .exact .inr ⟨w,List.mem_cons_of_mem _ hw,h4⟩
def dB(A B:List (Int×Int)):List Int:=A.flatMap λx=>B.map λy=>x.1+y.1
def dW(sm:Bool)(p:Int)(A B:List (Int×Int)):List (Int×Int):=eB (λa b:Int=>a<b) (((cH (dB A B)).filter λs=>decide (s<=p)).map λs=>(s,dj sm s A B))
def yN(R:List (Int×Int)):bp 40 (.lst (R.map bw))=true:=by
 show(R.map bw).all (bp 39)=true;rw[List.all_eq_true];intro d hd;obtain⟨x,_,rfl⟩:=List.mem_map.mp hd;rfl
def pd{α:Type}{lt:α->α->Prop}[DecidableRel lt](S:List (Int×α)):(eB lt S).length<=S.length:=by
 have:∀(S R:List (Int×α)),(S.foldl (eN lt) R).length<=R.length+S.length:=by
  intro S
  induction S with
  |nil=>intro R;simp
  |cons a S ih=>
   intro R;rw[List.foldl_cons];have h1:=ih (eN lt R a);have h2:(eN lt R a).length<=R.length+1:=by
    unfold eN;split
    .simp
    .split<;>simp
   rw[List.length_cons];omega
 have:=this S [];unfold eB;simpa using this
def lD{A B:List (Int×Int)}(hA:A.length<=4)(hB:B.length<=4):(dB A B).length<=16:=by
 have:∀A:List (Int×Int),(dB A B).length<=A.length*4:=λA=>by
  induction A with
  |nil=>simp[dB]
  |cons x A ih=>
   simp only[dB,List.flatMap_cons,List.length_append,List.length_map,List.length_cons]at ih ⊢;omega
 have:=this A;omega
def rA{A B:List (Int×Int)}{p:Int}{sm:Bool}(hA:A.length<=4)(hB:B.length<=4):cI [.lst (A.map bw),.lst (B.map bw),.int p,.bl sm]=.ok (.lst ((dW sm p A B).map bw)):=by
 have sl:=lD hA hB;obtain⟨ρ1,hf1,y6,y7,rfl⟩:=eg (tg:=bY [6,7]) (body:=(ar (aR 5 (ah (ae 5) (eG 2 [6] (nL (ae 1)) (bY [0,1]) mYes (ah (ae 2) (ae 0) bu)) bu))
 aq)) bw (λpre ρ=>∃y6 y7,ρ=[.sh (.lst (A.map bw)),.sh (.lst (B.map bw)),.sh (.int p),.sh (.bl sm),.ow (.lst []),.sh (.lst ((dB pre B).map D.int)),y6,y7,.no,.no]) (L:=A) (by
  rintro pre x post hP ρ ⟨y6,y7,rfl⟩;have pl:pre.length<=4:=by have:=congrArg List.length hP;simp at this;omega
  have s1:=lD pl hB;have e2:(dB (pre++[x]) B).map D.int=(dB pre B).map D.int++B.map λy=>D.int (x.1+y.1):=by
   unfold dB;rw[List.flatMap_append,List.map_append];simp
  have cp:∀ρ:Ev,ρ[6]?=some (.sh (.int x.1))->gj 2 [6] (bY [0,1]) mYes (ah (ae 2) (ae 0) bu) ρ (B.map bw)=.ok (.lst (B.map λy=>D.int (x.1+y.1))):=λρ h6=>by
   rw[K51.comp_pick bw (λy=>some (.int (x.1+y.1))) (by omega) λy _=>⟨[.sh (.int y.1),.sh (.int y.2),.sh (.int x.1)],by unfold cq;simp[h6];rfl,.inr ⟨_,rfl,rfl,rfl⟩⟩];rw[List.filterMap_eq_map']
  have ad:bu (.lst ((dB pre B).map D.int)) (.lst (B.map λy=>D.int (x.1+y.1)))=.ok (.lst ((dB pre B).map D.int++B.map λy=>D.int (x.1+y.1))):=jC (decide_eq_true (by simp;omega));rw[e2];refine⟨[.sh (.lst (A.map bw)),.sh (.lst (B.map bw)),.sh (.int p),.sh (.bl sm),.ow (.lst []),.sh (.lst ((dB pre B).map D.int)),.sh (.int x.1),.sh (.int x.2),.no,.no],_,rfl,?_,.sh (.int x.1),.sh (.int x.2),rfl⟩;have cp:=cp [.sh (.lst (A.map bw)),.sh (.lst (B.map bw)),.sh (.int p),.sh (.bl sm),.ow (.lst []),.sh (.lst ((dB pre B).map D.int)),.sh (.int x.1),.sh (.int x.2),.no,.no] rfl;generalize B.map (λy=>D.int (x.1+y.1))=DY at *;generalize B.map bw=DB at *;generalize A.map bw=DA at *;open_line with[jB,oj,lY,cp,ad]) (ρ:=[.sh (.lst (A.map bw)),.sh (.lst (B.map bw)),.sh (.int p),.sh (.bl sm),.ow (.lst []),.sh (.lst []),.no,.no,.no,.no]) ⟨_,_,rfl⟩
 have so:kz (.lst ((dB A B).map D.int))=.ok (.lst ((cH (dB A B)).map D.int)):=by
  unfold kz;simp only[lW];rw[if_pos (by omega)]
 have Lm:(cH (dB A B)).length<=16:=by rw[(cw (dB A B)).length_eq];exact sl
 obtain⟨ρ2,hf2,y8,y9,rfl⟩:=eg (tg:=eJ 8) (body:=(ar (aR 9 (aj (aa (ae 0) (aa (ae 1) (aa (ae 8) (aa (ae 3) ax)))) eC))
 (ar (dR (fg (ah (ae 8) (ae 2) tT) (kN (ah (ae 4) (aj ax bU) iK) (ah (ae 9) (ah (ah (ae 4) (aL (dC (.int 1)) fG) bq) (dC (.int 1)) bq) Bn)))
 (ar (bE 4 (aj (aa (ae 8) (aa (ae 9) ax)) cb))
 aq)
 aq)
 aq))) D.int (λpre ρ=>∃y8 y9,ρ=[.sh (.lst (A.map bw)),.sh (.lst (B.map bw)),.sh (.int p),.sh (.bl sm),.ow (.lst ((eB (λa b:Int=>a<b) ((pre.filter λs=>decide (s<=p)).map λs=>(s,dj sm s A B))).map bw)),.sh (.lst ((dB A B).map D.int)),y6,y7,y8,y9]) (L:=cH (dB A B)) (by
  rintro pre s post hP ρ ⟨y8,y9,rfl⟩;have bo:=AO (A:=A) (B:=B) (s:=s) (sm:=sm);have le:tT (.int s) (.int p)=.ok (.bl (decide (s<=p))):=rfl;have pl:pre.length<=16:=by have:=congrArg List.length hP;simp at this;omega
  have rl:=pd (lt:=λa b:Int=>a<b) ((pre.filter λs=>decide (s<=p)).map λs=>(s,dj sm s A B));have fl:=List.length_filter_le (λs:Int=>decide (s<=p)) pre;rw[List.length_map]at rl;have hR:s<=p->eB (λa b:Int=>a<b) (((pre++[s]).filter λs=>decide (s<=p)).map λs=>(s,dj sm s A B))=eN (λa b:Int=>a<b) (eB (λa b:Int=>a<b) ((pre.filter λs=>decide (s<=p)).map λs=>(s,dj sm s A B))) (s,dj sm s A B):=λc=>by
   unfold eB;rw[List.filter_append,List.map_append,List.foldl_append];simp[c]
  by_cases c:s<=p
  .rw[hR c]
   rw[decide_eq_true c]at le;generalize eB (λa b:Int=>a<b) ((pre.filter λs=>decide (s<=p)).map λs=>(s,dj sm s A B))=R at *;generalize dj sm s A B=v at *;have n1:=tE (yN R);have ha:decide ((R.map bw).length<=999)=true:=decide_eq_true (by rw[List.length_map];omega);unfold eN;cases q:R.getLast? with
   |none=>
    have:R=[]:=List.getLast?_eq_none_iff.mp q;subst this;refine⟨[.sh (.lst (A.map bw)),.sh (.lst (B.map bw)),.sh (.int p),.sh (.bl sm),.ow (.lst []),.sh (.lst ((dB A B).map D.int)),y6,y7,.sh (.int s),y9],_,rfl,?_,.sh (.int s),.sh (.int v),rfl⟩;have n1:iK (.lst []) (.lst [])=.ok (.bl true):=rfl;generalize B.map bw=DB at *;generalize A.map bw=DA at *;open_line with[bo,le,n1,cO (show decide (([]:ac).length<=999)=true from rfl)]
    rfl
   |some z=>
    obtain⟨R',rfl⟩:∃R',R=R'++[z]:=List.getLast?_eq_some_iff.mp q;have n2:((R'++[z]).map bw).isEmpty=false:=by simp
    rw[n2]at n1;have i1:bq (.lst ((R'++[z]).map bw)) (.int (-1))=.ok (bw z):=by rw[List.map_append];exact jz
    have i2:bq (bw z) (.int 1)=.ok (.int z.2):=rfl;have ng:fG (.int 1)=.ok (.int (-1)):=rfl;have gt:Bn (.int v) (.int z.2)=.ok (.bl (decide (z.2<v))):=rfl;refine⟨[.sh (.lst (A.map bw)),.sh (.lst (B.map bw)),.sh (.int p),.sh (.bl sm),.ow (.lst ((R'++[z]).map bw)),.sh (.lst ((dB A B).map D.int)),y6,y7,.sh (.int s),y9],_,rfl,?_,.sh (.int s),.sh (.int v),rfl⟩
    by_cases c1:z.2<v
    .rw[decide_eq_true c1]at gt
     simp only[if_pos c1];have e2:(R'++[z]++[(s,v)]).map bw=(R'++[z]).map bw++[.tup [.int s,.int v]]:=by rw[List.map_append];rfl
     rw[e2];generalize (R'++[z]).map bw=W at *;generalize B.map bw=DB at *;generalize A.map bw=DA at *;open_line with[bo,le,n1,ng,i1,i2,gt,cO ha]
    .rw[decide_eq_false c1]at gt
     simp only[if_neg c1];generalize (R'++[z]).map bw=W at *;generalize B.map bw=DB at *;generalize A.map bw=DA at *;open_line with[bo,le,n1,ng,i1,i2,gt]
  .have e2:(pre++[s]).filter (λs=>decide (s<=p))=pre.filter λs=>decide (s<=p):=by
    rw[List.filter_append];simp[c]
   rw[e2];rw[decide_eq_false c]at le;refine⟨[.sh (.lst (A.map bw)),.sh (.lst (B.map bw)),.sh (.int p),.sh (.bl sm),.ow (.lst ((eB (λa b:Int=>a<b) ((pre.filter λs=>decide (s<=p)).map λs=>(s,dj sm s A B))).map bw)),.sh (.lst ((dB A B).map D.int)),y6,y7,.sh (.int s),y9],_,rfl,?_,.sh (.int s),.sh (.int (dj sm s A B)),rfl⟩;generalize (eB (λa b:Int=>a<b) ((pre.filter λs=>decide (s<=p)).map λs=>(s,dj sm s A B))).map bw=W at *;generalize B.map bw=DB at *;generalize A.map bw=DA at *;open_line with[bo,le]) (ρ:=[.sh (.lst (A.map bw)),.sh (.lst (B.map bw)),.sh (.int p),.sh (.bl sm),.ow (.lst []),.sh (.lst ((dB A B).map D.int)),y6,y7,.no,.no]) ⟨_,_,rfl⟩
 have ej:(dW sm p A B).map bw=(eB (λa b:Int=>a<b) (((cH (dB A B)).filter λs=>decide (s<=p)).map λs=>(s,dj sm s A B))).map bw:=rfl;rw[←ej]at hf2;generalize (dW sm p A B).map bw=W at *;generalize (dB A B).map D.int=DS at *;generalize B.map bw=DB at *;generalize A.map bw=DA at *;open_line with[cI,iZ,hf1,so,hf2]
def Pq(sm:Bool)(A B:List (Int×Int))(z:Int×Int):Prop:=∃x∈A,∃y∈B,z=(x.1+y.1,fL sm x.2 y.2)
def Bi{sm:Bool}{l m:Int}(h1:0<=l)(h2:0<=m):0<=fL sm l m:=by
 have:(0:Int)<=eZ:=by decide
 unfold fL oO;cases sm<;>simp<;>split<;>omega
def eD{A B:List (Int×Int)}{p:Int}{sm:Bool}(hA:Tr A)(hB:Tr B):(dW sm p A B).Pairwise (λa b=>a.1<b.1)/\∀x,x∈dW sm p A B↔Ed (λa b:Int=>a<b) (λy=>Pq sm A B y/\y.1<=p) x:=by
 have sp:=cw (dB A B);refine uq (P:=Pq sm A B) ?_ (λx hx=>?_) λy hy hp=>?_
 .rw[List.pairwise_map]
  exact(eO (dB A B)).filter _
 .obtain⟨s,hs,rfl⟩:=List.mem_map.mp hx
  obtain⟨hs,hc⟩:=List.mem_filter.mp hs;have hs:=sp.mem_iff.mp hs;obtain⟨a,ha,hs⟩:=List.mem_flatMap.mp hs;obtain⟨b,hb,hs⟩:=List.mem_map.mp hs;obtain⟨b1,b2,b3⟩:=qw (sm:=sm) (s:=s) (B:=B) A (-1);have eb:dj sm s A B=A.foldl (λz x=>mJ sm s x z B) (-1):=rfl;rw[←eb]at b1 b2 b3;have nn:=Bi (sm:=sm) (hA.el a ha).2.1 (hB.el b hb).2.1;have:=b2 a ha b hb (by omega);refine⟨by simpa using hc,⟨(a.1+b.1,fL sm a.2 b.2),⟨a,ha,b,hb,rfl⟩,hs⟩,?_,?_⟩
  .rcases b3 with b3|⟨x,hx,y,hy,h1,h2⟩
   .omega
   .exact⟨(x.1+y.1,fL sm x.2 y.2),⟨x,hx,y,hy,rfl⟩,h1,h2.symm⟩
  .rintro y ⟨u,hu,v,hv,rfl⟩ hle
   exact b2 u hu v hv hle
 .obtain⟨u,hu,v,hv,rfl⟩:=hy
  exact⟨_,List.mem_map.mpr ⟨u.1+v.1,List.mem_filter.mpr ⟨sp.mem_iff.mpr (List.mem_flatMap.mpr ⟨u,hu,List.mem_map.mpr ⟨v,hv,rfl⟩⟩),by simpa using hp⟩,rfl⟩,rfl⟩
def Rl(b β γ:Int)(x:Int×Int)(x':Int×Option Int):Prop:=x'.1*b=x.1*β/\match x'.2 with
 |none=>x.2=eZ
 |some t=>x.2<eZ/\t*b=x.2*γ
section
variable {b β γ:Int}(hb:0<b) (hβ:0<β) (hγ:0<γ)
include hb hβ
theorem Rl.lt{x y:Int×Int}{x' y':Int×Option Int}(h:Rl b β γ x x')(k:Rl b β γ y y'):x.1<y.1↔x'.1<y'.1:=by
 have e1:=h.1;have e2:=k.1;constructor
 .intro c
  have:x.1*β<y.1*β:=Int.mul_lt_mul_of_pos_right c hβ;exact Int.lt_of_mul_lt_mul_right (by omega:x'.1*b<y'.1*b) (by omega)
 .intro c
  have:x'.1*b<y'.1*b:=Int.mul_lt_mul_of_pos_right c hb;exact Int.lt_of_mul_lt_mul_right (by omega:x.1*β<y.1*β) (by omega)
omit hβ in
include hγ in
theorem Rl.lt2{x y:Int×Int}{x' y':Int×Option Int}(h:Rl b β γ x x')(k:Rl b β γ y y'):x.2<y.2↔gz x'.2 y'.2:=by
 obtain⟨_,h⟩:=h;obtain⟨_,k⟩:=k;cases e1:x'.2 with
 |none=>
  rw[e1]at h;cases e2:y'.2 with|none=>rw[e2]at k;simp only at h k;simp[gz,h,k]|some t=>rw[e2]at k;simp only at h k;simp only[gz,iff_false];omega
 |some s=>
  rw[e1]at h;cases e2:y'.2 with
  |none=>rw[e2]at k;simp only at h k;simp only[gz,iff_true];omega
  |some t=>
   rw[e2]at k;simp only at h k;simp only[gz];constructor
   .intro c
    have:x.2*γ<y.2*γ:=Int.mul_lt_mul_of_pos_right c hγ;exact Int.lt_of_mul_lt_mul_right (by omega:s*b<t*b) (by omega)
   .intro c
    have:s*b<t*b:=Int.mul_lt_mul_of_pos_right c hb;exact Int.lt_of_mul_lt_mul_right (by omega:x.2*γ<y.2*γ) (by omega)
include hγ
theorem Rl.out{x:Int×Int}{x':Int×Option Int}(h:Rl b β γ x x'):gS β γ x'=cP b x:=by
 obtain⟨h1,h2⟩:=h;have key:∀u w β:Int,0<β->u*b=w*β->cj u β=cj w b:=λu w β hβ e=>by
  refine wR (iG hβ) (iG hb) ?_;have r1:=kY (a:=u) (b:=β);have r2:=kY (a:=w) (b:=b);have p1:=(iG (a:=u) hβ).q1;have p2:=(iG (a:=w) hb).q1;have:((cj u β).1*(cj w b).2)*(β*b)=((cj w b).1*(cj u β).2)*(β*b):=by grind
  exact Int.eq_of_mul_eq_mul_right (by have:=Int.mul_pos hβ hb;omega) this
 unfold gS cP gT;rw[key _ _ _ hβ h1];cases e:x'.2 with
 |none=>
  rw[e]at h2;simp only at h2;rw[if_pos (by omega)];rfl
 |some t=>
  rw[e]at h2;simp only at h2;rw[if_neg (by omega)];show D.tup [_,bZ (some (cj t γ))]=_;rw[key _ _ _ hγ h2.2]
theorem vN{P:Al}{Q:Int×Int->Prop}{R:Al}{L:List (Int×Int)}(h1:∀x'∈P,∃x,Q x/\Rl b β γ x x')(h2:∀x,Q x->∃x'∈P,Rl b β γ x x')(r1:R.Pairwise λa b=>a.1<b.1)(r2:∀x,x∈R↔Ed gz (·∈P) x)
  (l1:L.Pairwise λa b=>a.1<b.1)(l2:∀x,x∈L↔Ed (λa b:Int=>a<b) Q x):R.map (gS β γ)=L.map (cP b):=by
 have up:∀{x x'},Rl b β γ x x'->(Ed gz (·∈P) x'/\Q x↔Ed (λa b:Int=>a<b) Q x/\x'∈P):=λ{x x'} h=>by
  constructor
  .rintro⟨⟨p1,p2⟩,q⟩
   refine⟨⟨q,λy qy=>?_⟩,p1⟩;obtain⟨y',py,ry⟩:=h2 y qy;obtain⟨a1,a2⟩:=p2 y' py;have t1:=Rl.lt hb hβ ry h;have t1':=Rl.lt hb hβ h ry;have t2:=Rl.lt2 hb hγ ry h;have t3:=Rl.lt2 hb hγ h ry;exact⟨λc d=>a1 (by have:=mt t1'.mpr (by omega);omega) (t3.mp d),λc=>t2.mpr (a2 (t1.mp c))⟩
  .rintro⟨⟨q,p2⟩,p1⟩
   refine⟨⟨p1,λy' py=>?_⟩,q⟩;obtain⟨y,qy,ry⟩:=h1 y' py;obtain⟨a1,a2⟩:=p2 y qy;have t1:=Rl.lt hb hβ ry h;have t1':=Rl.lt hb hβ h ry;have t2:=Rl.lt2 hb hγ ry h;have t3:=Rl.lt2 hb hγ h ry;exact⟨λc d=>a1 (by have:=mt t1'.mp (by omega);omega) (t3.mpr d),λc=>t2.mp (a2 (t1.mpr c))⟩
 let G:Int×Int->Int×Option Int:=λx=>(x.1*β / b,if eZ<=x.2 then none else some (x.2*γ / b))
 have ge:∀{x x'},Rl b β γ x x'->G x=x':=λ{x x'} h=>by
  obtain⟨e1,e2⟩:=h;have d1:x.1*β / b=x'.1:=by rw[←e1];exact Int.mul_ediv_cancel _ (by omega)
  refine Prod.ext d1 ?_;show(if eZ<=x.2 then none else some (x.2*γ / b))=x'.2;cases e:x'.2 with
  |none=>rw[e]at e2;simp only at e2;rw[if_pos (by omega)]
  |some t=>
   rw[e]at e2;simp only at e2;rw[if_neg (by omega),←e2.2,Int.mul_ediv_cancel _ (by omega)]
 have eR:R=L.map G:=by
  refine mV r1 ?_ λx'=>?_
  .rw[List.pairwise_map]
   refine List.Pairwise.imp_of_mem (λ{x y} hx hy c=>?_) l1;obtain⟨x',_,rx⟩:=h2 x ((l2 x).mp hx).1;obtain⟨y',_,ry⟩:=h2 y ((l2 y).mp hy).1;rw[ge rx,ge ry];exact(Rl.lt hb hβ rx ry).mp c
  .rw[r2,List.mem_map]
   constructor
   .intro e
    obtain⟨x,qx,rx⟩:=h1 x' e.1;exact⟨x,(l2 x).mpr ((up rx).mp ⟨e,qx⟩).1,ge rx⟩
   .rintro⟨x,hx,rfl⟩
    have ex:=(l2 x).mp hx;obtain⟨x',px,rx⟩:=h2 x ex.1;rw[ge rx];exact((up rx).mpr ⟨ex,px⟩).1
 rw[eR,List.map_map];refine List.map_congr_left λx hx=>?_;obtain⟨x',_,rx⟩:=h2 x ((l2 x).mp hx).1;show gS β γ (G x)=_;rw[ge rx];exact rx.out hb hβ hγ
end
def fS:Option Int->Option Int->Option Int
 |some x,some y=>some (x+y)
 |_,_=>none
def fM(s t:Option Int):Option Int:=if gz t s then t else s
def vG(s t:Option Int):bM [sz s,sz t]=.ok (sz (fS s t)):=by
 cases s with
 |none=>
  have n1:=gA none;open_line with[bM,et,n1,Option.isNone_none]
  rfl
 |some x=>
  have n1:=gA (some x);cases t with
  |none=>
   have n2:=gA none;open_line with[bM,et,n1,n2,Option.isNone_none,Option.isNone_some]
   rfl
  |some y=>
   have n2:=gA (some y);have ad:bu (sz (some x)) (sz (some y))=.ok (sz (some (x+y))):=rfl;open_line with[bM,et,n1,n2,Option.isNone_some,ad]
   rfl
def pL(s t:Option Int):bD [sz s,sz t]=.ok (sz (fM s t)):=by
 have l1:=j6 s t;unfold fM
 by_cases c:gz t s
 .rw[decide_eq_true c]at l1
  rw[if_pos c];open_line with[bD,d9,l1]
 .rw[decide_eq_false c]at l1
  rw[if_neg c];open_line with[bD,d9,l1]
def fO(sm:Bool):Option Int->Option Int->Option Int:=if sm then fS else fM
def ES(sm:Bool):∀s t:Option Int,(∀x,s=some x->x.natAbs<=2 ^ 2060)->(∀x,t=some x->x.natAbs<=2 ^ 2060)->∀r,fO sm s t=some r->r.natAbs<=2 ^ 2062:=by
 intro s t h1 h2 r e;have big1:2 ^ 2060+2 ^ 2060<=2 ^ 2062:=by
  rw[show(2062:Nat)=2060+2 from rfl,Nat.pow_add];omega
 cases sm with
 |true=>
  cases s with
  |none=>cases e
  |some x=>
   cases t with
   |none=>cases e
   |some y=>
    have e:some (x+y)=some r:=e;cases e;have a1:=h1 x rfl;have a2:=h2 y rfl;omega
 |false=>
  have e:(if gz t s then t else s)=some r:=e;split at e
  .have:=h2 r e;omega
  .have:=h1 r e;omega
def zJ{sm:Bool}{l m:Int}:fL sm l m=fL sm m l:=by
 unfold fL oO;cases sm<;>simp<;>split<;>split<;>omega
def tZ{sm:Bool}{A B:List (Int×Int)}{z:Int×Int}(h:Pq sm A B z):Pq sm B A z:=by
 obtain⟨x,hx,y,hy,rfl⟩:=h;exact⟨y,hy,x,hx,by rw[zJ,Int.add_comm]⟩
section
variable {b p β γ:Int}{X Y:List (Int×Int)}
def nP(S:Sc b p (X++Y) β γ)(hX:∀x∈X++Y,(0<=x.1/\x.1<HI)/\0<=x.2/\(x.2<HI∨x.2=eZ)){x:Int×Int}(hx:x∈X++Y):Rl b β γ x (nN b β γ x):=by
 refine⟨S.w x hx,?_⟩;have hi:=@Cm;show match nO b γ x.2 with|none=>x.2=eZ|some t=>x.2<eZ/\t*b=x.2*γ
 unfold nO;obtain⟨_,h0,h1|h1⟩:=hX x hx
 .have:=hi h1
  rw[if_neg this];exact⟨by omega,S.l x hx this⟩
 .rw[if_pos (by omega)];exact h1
def vU(hb:0<b)(hβ:0<β)(hγ:0<γ){sm:Bool}{x y:Int×Int}{x' y':Int×Option Int}(hx:0<=x.2/\(x.2<HI∨x.2=eZ))(hy:0<=y.2/\(y.2<HI∨y.2=eZ))(h:Rl b β γ x x')(k:Rl b β γ y y') :
  Rl b β γ (x.1+y.1,fL sm x.2 y.2) (x'.1+y'.1,fO sm x'.2 y'.2):=by
 have e0:HI+HI<eZ:=by decide
 have e00:(0:Int)<=HI:=by decide
 refine⟨by show(x'.1+y'.1)*b=(x.1+y.1)*β;rw[Int.add_mul,Int.add_mul,h.1,k.1],?_⟩;cases sm with
 |true=>
  show match fS x'.2 y'.2 with|none=>oO eZ (x.2+y.2)=eZ|some t=>oO eZ (x.2+y.2)<eZ/\t*b=oO eZ (x.2+y.2)*γ
  have h2:=h.2;have k2:=k.2;cases e1:x'.2 with
  |none=>
   rw[e1]at h2;simp only at h2;simp only[fS,oO];rw[if_neg (by omega)]
  |some s=>
   rw[e1]at h2;simp only at h2;cases e2:y'.2 with
   |none=>
    rw[e2]at k2;simp only at k2;simp only[fS,oO];rw[if_neg (by omega)]
   |some t=>
    rw[e2]at k2;simp only at k2;simp only[fS,oO];rw[if_pos (by omega)];exact⟨by omega,by rw[Int.add_mul,Int.add_mul,h2.2,k2.2]⟩
 |false=>
  have t:=Rl.lt2 hb hγ k h;show match fM x'.2 y'.2 with|none=>oO x.2 y.2=eZ|some t=>oO x.2 y.2<eZ/\t*b=oO x.2 y.2*γ
  unfold fM oO
  by_cases c:y.2<x.2
  .rw[if_pos c,if_pos (t.mp c)];exact k.2
  .rw[if_neg c,if_neg (λq=>c (t.mpr q))];exact h.2
def kr{sm:Bool}{mF:ac->ak D}(hF:∀s t,mF [sz s,sz t]=.ok (sz (fO sm s t)))(hb:1<=b/\b<=60)(hp:0<=p/\p<HI)(hX:Tr X)(hY:Tr Y){L:List (Int×Int)}(l1:L.Pairwise λa b=>a.1<b.1)(l2:∀x,x∈L↔Ed (λa b:Int=>a<b) (λy=>Pq sm X Y y/\y.1<=p) x) :
  ∀a,aU mF a [.lst (X.map (cP b)),.lst (Y.map (cP b)),fr (cj p b)]=.ok (.lst (L.map (cP b))):=by
 obtain⟨β,γ,S,R,hR,r1,r2⟩:=pR hF (ES sm) hb hp hX hY;have b0:0<b:=by omega
 have hT:∀x∈X++Y,(0<=x.1/\x.1<HI)/\0<=x.2/\(x.2<HI∨x.2=eZ):=λx hx=>(List.mem_append.mp hx).elim (hX.el x) (hY.el x);have cost:∀x∈X,∀y∈Y,(wh b β x.1+wh b β y.1<=wh b β p↔x.1+y.1<=p):=λx hx y hy=>by
  have e1:=S.w x (List.mem_append_left _ hx);have e2:=S.w y (List.mem_append_right _ hy);have e3:=S.p;have e4:(wh b β x.1+wh b β y.1)*b=(x.1+y.1)*β:=by rw[Int.add_mul,Int.add_mul,e1,e2]
  constructor
  .intro c
   have:(wh b β x.1+wh b β y.1)*b<=wh b β p*b:=Int.mul_le_mul_of_nonneg_right c (by omega);exact Int.le_of_mul_le_mul_right (by omega:(x.1+y.1)*β<=p*β) S.β0.1
  .intro c
   have:(x.1+y.1)*β<=p*β:=Int.mul_le_mul_of_nonneg_right c (by have:=S.β0.1;omega);exact Int.le_of_mul_le_mul_right (by omega:(wh b β x.1+wh b β y.1)*b<=wh b β p*b) b0
 have e:=vN (b:=b) (β:=β) (γ:=γ) b0 S.β0.1 S.γ0.1 (P:=yU b β γ p (fO sm) X Y) (Q:=λy=>Pq sm X Y y/\y.1<=p) (λx' hx'=>by
  obtain⟨x,hx,hz⟩:=List.mem_flatMap.mp hx';obtain⟨y,hy,rfl⟩:=List.mem_map.mp hz;obtain⟨hy,hc⟩:=List.mem_filter.mp hy;refine⟨(x.1+y.1,fL sm x.2 y.2),⟨⟨x,hx,y,hy,rfl⟩,(cost x hx y hy).mp (by simpa using hc)⟩,?_⟩;exact vU b0 S.β0.1 S.γ0.1 (hX.el x hx).2 (hY.el y hy).2 (nP S hT (List.mem_append_left _ hx)) (nP S hT (List.mem_append_right _ hy))) (λz hz=>by
  obtain⟨⟨x,hx,y,hy,rfl⟩,hc⟩:=hz;refine⟨(wh b β x.1+wh b β y.1,fO sm (nO b γ x.2) (nO b γ y.2)),List.mem_flatMap.mpr ⟨x,hx,List.mem_map.mpr ⟨y,List.mem_filter.mpr ⟨hy,by simpa using (cost x hx y hy).mpr hc⟩,rfl⟩⟩,?_⟩;exact vU b0 S.β0.1 S.γ0.1 (hX.el x hx).2 (hY.el y hy).2 (nP S hT (List.mem_append_left _ hx)) (nP S hT (List.mem_append_right _ hy))) r1 r2 l1 l2
 intro a;rw[hR a,e]
def nH(hb:1<=b/\b<=60)(hp:0<=p/\p<HI)(hX:Tr X)(hY:Tr Y){L:List (Int×Int)}(l1:L.Pairwise λa b=>a.1<b.1)(l2:∀x,x∈L↔Ed (λa b:Int=>a<b) (λy=>Pq true X Y y/\y.1<=p) x):aN [.lst (X.map (cP b)),.lst (Y.map (cP b)),fr (cj p b)]=.ok (.lst (L.map (cP b))):=by
 have h:=jL (kr (sm:=true) (mF:=bM) vG hb hp hX hY l1 l2);generalize X.map (cP b)=DX at *;generalize Y.map (cP b)=DY at *;generalize L.map (cP b)=DLt at *;unfold aN gR;open_line with[eL,iV,h,wC]
def nG(hb:1<=b/\b<=60)(hp:0<=p/\p<HI)(hX:Tr X)(hY:Tr Y){L:List (Int×Int)}(l1:L.Pairwise λa b=>a.1<b.1)(l2:∀x,x∈L↔Ed (λa b:Int=>a<b) (λy=>Pq false X Y y/\y.1<=p) x):aM [.lst (X.map (cP b)),.lst (Y.map (cP b)),fr (cj p b)]=.ok (.lst (L.map (cP b))):=by
 have h:=jL (kr (sm:=false) (mF:=bD) pL hb hp hX hY l1 l2);generalize X.map (cP b)=DX at *;generalize Y.map (cP b)=DY at *;generalize L.map (cP b)=DLt at *;unfold aM gR;open_line with[eK,iV,h,wC]
end
end K66
namespace Nwb
open PySem L2 DL Com
def G5{es:ac}:Fd (.tup []) (.tup es)=.ok (.tup es):=rfl
end Nwb
namespace K64
open PySem L2 DL Com
theorem g7:∀ds:ac,cz ds ds=ds.map λd=>.tup [d,d]
 |[]=>rfl
 |d::ds=>by rw[List.map_cons,←g7 ds];rfl
theorem mr:∀ds:ac,fx (ds.map λ_=>.bl true)=some (ds.map λ_=>true)
 |[]=>rfl
 |d::ds=>by rw[List.map_cons,fx,mr ds];rfl
def qC{ds:ac}:uV (.lst (ds.map λ_=>.bl true))=.ok (.bl true):=by
 unfold uV;simp only[mr]
 congr 2
 rw[List.all_eq_true];intro b hb;obtain⟨_,_,rfl⟩:=List.mem_map.mp hb;rfl
def mB{n:Nat}{ds:ac}(hl:ds.length<=1000)(h:∀d∈ds,aH n [d,d]=.ok (.bl true)){ρ:Ev}:gj 2 [] (bY [0,1]) mYes (aj (aa (ae 0) (aa (ae 1) ax)) (aH n)) ρ (ds.map λd=>.tup [d,d])=.ok (.lst (ds.map λ_=>.bl true)):=by
 rw[qr (F:=λ_=>.bl true) (by rw[List.length_map];omega)]
 .rw[List.map_map];rfl
 .intro d hd
  obtain⟨e,he,rfl⟩:=List.mem_map.mp hd;refine⟨[.sh e,.sh e],rfl,rfl,?_⟩;have:=h e he;open_line with[this]
def alike_tup{n:Nat}{ds:ac}(hl:ds.length<=1000)(h:∀d∈ds,aH n [d,d]=.ok (.bl true)):aH (n+1) [.tup ds,.tup ds]=.ok (.bl true):=by
 have hc:=λρ=>mB hl h (ρ:=ρ);have hz:∀ρ:Ev,ρ[0]?=some (.sh (.tup ds))->ρ[1]?=some (.sh (.tup ds))->kh (ae 0) (ae 1) ρ=.ok (ds.map λd=>.tup [d,d]):=λρ h0 h1=>by
  unfold kh ae;rw[h0,h1,←g7];rfl
 have t1:qm ["tuple","list"] (.tup ds)=.ok (.bl true):=rfl;have t2:dE "tuple" (.tup ds)=.ok (.bl true):=rfl;have t3:dE "list" (.tup ds)=.ok (.bl false):=rfl;have n1:l8 (.bl true) (.bl true)=.ok (.bl false):=rfl;have n2:l8 (.bl false) (.bl false)=.ok (.bl false):=rfl;rw[aH];open_line with[bN,t1,t2,t3,n1,n2,jB,hz,hc,qC]
def alike_lst{n:Nat}{ds:ac}(hl:ds.length<=1000)(h:∀d∈ds,aH n [d,d]=.ok (.bl true)):aH (n+1) [.lst ds,.lst ds]=.ok (.bl true):=by
 have hc:=λρ=>mB hl h (ρ:=ρ);have hz:∀ρ:Ev,ρ[0]?=some (.sh (.lst ds))->ρ[1]?=some (.sh (.lst ds))->kh (ae 0) (ae 1) ρ=.ok (ds.map λd=>.tup [d,d]):=λρ h0 h1=>by
  unfold kh ae;rw[h0,h1,←g7];rfl
 have t1:qm ["tuple","list"] (.lst ds)=.ok (.bl true):=rfl;have t2:dE "tuple" (.lst ds)=.ok (.bl false):=rfl;have t3:dE "list" (.lst ds)=.ok (.bl true):=rfl;have n1:l8 (.bl true) (.bl true)=.ok (.bl false):=rfl;have n2:l8 (.bl false) (.bl false)=.ok (.bl false):=rfl;rw[aH];open_line with[bN,t1,t2,t3,n1,n2,jB,hz,hc,qC]
def vd{n:Nat}{i:Int}:aH (n+1) [.int i,.int i]=.ok (.bl true):=by
 have t1:qm ["tuple","list"] (.int i)=.ok (.bl false):=rfl;rw[aH];open_line with[bN,t1,beq_self_eq_true i]
def alike_non{n:Nat}:aH (n+1) [.non,.non]=.ok (.bl true):=by
 rw[aH];rfl
def alike_fr{n:Nat}{x:jO}:aH (n+2) [fr x,fr x]=.ok (.bl true):=alike_tup (ds:=[.int x.1,.int x.2]) (by simp) λd hd=>by
 simp only[List.mem_cons,List.not_mem_nil,or_false]at hd;rcases hd with rfl|rfl<;>exact vd
end K64
namespace K66
open PySem L2 DL Com K54
theorem tI:∀n,aH n=K64.aH n
 |0=>rfl
 |n+1=>by
  show cy 2 (bN (aH n))=cy 2 (K64.bN (K64.aH n));rw[tI n];rfl
def yd{n:Nat}{b:Int}{x:Int×Int}:K64.aH (n+3) [cP b x,cP b x]=.ok (.bl true):=K64.alike_tup (ds:=[fr (cj x.1 b),bZ (gT b x.2)]) (by simp) λd hd=>by
 simp only[List.mem_cons,List.not_mem_nil,or_false]at hd;rcases hd with rfl|rfl
 .exact K64.alike_fr
 .cases gT b x.2 with
  |none=>exact K64.alike_non
  |some y=>exact K64.alike_fr
def yf{b:Int}{L:List (Int×Int)}(hl:L.length<=900):cB [.lst (L.map (cP b)),.lst (L.map (cP b))]=.ok (.bl true):=by
 show aH 5 _=_;rw[tI];refine K64.alike_lst (n:=4) (by rw[List.length_map];omega) λd hd=>?_;obtain⟨x,_,rfl⟩:=List.mem_map.mp hd;exact yd (n:=1)
def yL{b:Int}(x:Int×Int):bp 38 (cP b x)=true:=by
 show([fr (cj x.1 b),bZ (gT b x.2)]).all (bp 37)=true;cases gT b x.2<;>rfl
def As{d:D}(h:bp 40 d=true):iK d d=.ok (.bl true):=by
 unfold iK;rw[if_pos ⟨h,h⟩,h9 40 d h]
def lV{A B:List (Int×Int)}{p:Int}{sm:Bool}(hp:p<HI)(hA:Tr A)(hB:Tr B):(∀x∈dW sm p A B,(0<=x.1/\x.1<10*HI)/\0<=x.2/\(x.2<10*HI∨x.2=eZ))/\(dW sm p A B).length<=900:=by
 have e0:HI=1000000000000000000:=rfl;have e1:eZ=10000000000000000000000000000000000000000:=rfl;refine⟨λx hx=>?_,?_⟩
 .obtain⟨⟨⟨u,hu,v,hv,rfl⟩,hc⟩,_⟩:=((eD hA hB).2 x).mp hx
  obtain⟨⟨a1,a2⟩,a3,a4⟩:=hA.el u hu;obtain⟨⟨b1,b2⟩,b3,b4⟩:=hB.el v hv;have n:=Bi (sm:=sm) a3 b3;refine⟨by constructor<;>simp only<;>omega,n,?_⟩;show fL sm u.2 v.2<10*HI∨fL sm u.2 v.2=eZ;unfold fL oO;cases sm<;>simp<;>split<;>omega
 .unfold dW
  have h1:=pd (lt:=λa b:Int=>a<b) (((cH (dB A B)).filter λs=>decide (s<=p)).map λs=>(s,dj sm s A B));have h2:=List.length_filter_le (λs:Int=>decide (s<=p)) (cH (dB A B));have h3:=(cw (dB A B)).length_eq;have h4:=lD hA.len hB.len;rw[List.length_map]at h1;omega
def nZ{m:ac->ak D}{ds:ac}{d:D}(h:m ds=.ok d):noX m ds=.ok d:=by unfold noX;rw[h]
def qh{i:Nat}{ρ:Ev}{ds:ac}(h:ρ[i]?=some (.ow (.lst ds))):i6 i ρ=.ok (.nx (ρ.set i (.ow (.lst [])))):=by unfold i6 mW;rw[h]
def vV{A B:List (Int×Int)}{p b:Int}(hb:1<=b/\b<=60)(hp:0<=p/\p<HI)(hA:Tr A)(hB:Tr B):cW [.lst (A.map bw),.lst (B.map bw),.int p,.int b]=.ok (.bl true):=by
 have e0:HI=1000000000000000000:=rfl;have b13:2 ^ 200<kE:=by have:=ju (k:=1) (by decide);simpa using this
 have wid:∀T:List (Int×Int),Tr T->∀x∈T,(0<=x.1/\x.1<10*HI)/\0<=x.2/\(x.2<10*HI∨x.2=eZ):=λT hT x hx=>by
  obtain⟨⟨a1,a2⟩,a3,a4⟩:=hT.el x hx;exact⟨⟨a1,by omega⟩,a3,by omega⟩
 have s1:=gX hb (by have:=hA.len;omega) (wid A hA);have s2:=gX hb (by have:=hB.len;omega) (wid B hB);have s3:bB [.int p,.int b]=.ok (fr (cj p b)):=Cod.rm (by omega) (Nat.lt_of_le_of_lt (Nat.le_trans (show p.natAbs<=1000000000000000000 by omega) (by decide)) b13) (Nat.lt_of_le_of_lt (Nat.le_trans (show b.natAbs<=60 by omega) (by decide)) b13);have sh:∀T:List (Int×Int),bp 39 (.lst (T.map (cP b)))=true:=λT=>by
  show(T.map (cP b)).all (bp 38)=true;rw[List.all_eq_true];intro d hd;obtain⟨x,_,rfl⟩:=List.mem_map.mp hd;exact yL x
 have jl:∀sm,cI [.lst (A.map bw),.lst (B.map bw),.int p,.bl sm]=.ok (.lst ((dW sm p A B).map bw)):=λsm=>rA hA.len hB.len;have jd:∀sm,aT [.lst ((dW sm p A B).map bw),.int b]=.ok (.lst ((dW sm p A B).map (cP b))):=λsm=>gX hb (lV hp.2 hA hB).2 (lV hp.2 hA hB).1;have al:∀sm,cB [.lst ((dW sm p A B).map (cP b)),.lst ((dW sm p A B).map (cP b))]=.ok (.bl true):=λsm=>yf (lV hp.2 hA hB).2;have cm:∀sm x,x∈dW sm p A B↔Ed (λa b:Int=>a<b) (λy=>Pq sm B A y/\y.1<=p) x:=λsm x=>by
  rw[(eD hA hB).2 x];have:(λy=>Pq sm A B y/\y.1<=p)=λy=>Pq sm B A y/\y.1<=p:=by
   funext y;exact propext ⟨λh=>⟨tZ h.1,h.2⟩,λh=>⟨tZ h.1,h.2⟩⟩
  rw[this]
 have b1:=nZ (nH hb hp hA hB (eD (sm:=true) hA hB).1 (eD (sm:=true) hA hB).2);have b2:=nZ (nH hb hp hB hA (eD (sm:=true) hA hB).1 (cm true));have c1:=nZ (nG hb hp hA hB (eD (sm:=false) hA hB).1 (eD (sm:=false) hA hB).2);have c2:=nZ (nG hb hp hB hA (eD (sm:=false) hA hB).1 (cm false));have eqq:iK (.tup [.lst (A.map (cP b)),.lst (B.map (cP b))]) (.tup [.lst (A.map (cP b)),.lst (B.map (cP b))])=.ok (.bl true):=As (by
  show([.lst (A.map (cP b)),.lst (B.map (cP b))]:ac).all (bp 39)=true;rw[List.all_cons,List.all_cons,sh A,sh B];rfl)
 have Dt:=al true;have Dg:=al false;have jl1:=jl true;have jl2:=jl false;have jd1:=jd true;have jd2:=jd false;clear al jl jd;generalize A.map (cP b)=SA at *;generalize B.map (cP b)=SB at *;generalize (dW true p A B).map (cP b)=J1 at *;generalize (dW false p A B).map (cP b)=J2 at *;generalize (dW true p A B).map bw=T1 at *;generalize (dW false p A B).map bw=T2 at *;generalize A.map bw=PA at *;generalize B.map bw=PB at *;have inn:∀(sm:Bool) (J:ac),(sm=true->J=J1)->(sm=false->J=J2)->∀(y8 y9 y10:Sl),∃z8 z9 z10,c8 (bY [8,9]) (ar (dR (ae 5)
 (ar (gr 10 (aj (aa (ae 8) (aa (ae 9) (aa (ah (ae 4) (dC (.int 2)) bq) ax))) (noX aN)))
 aq)
 (ar (gr 10 (aj (aa (ae 8) (aa (ae 9) (aa (ah (ae 4) (dC (.int 2)) bq) ax))) (noX aM)))
 aq))
 (ar (dR (c9 (aj (aa (ae 10) (aa (ae 6) ax)) cB))
 (ar (bS (dC (.bl false)))
 aq)
 aq)
 (ar (i6 10)
 aq))) [.tup [.lst SA,.lst SB],.tup [.lst SB,.lst SA],.tup [.lst SA,.lst SB]] [.sh (.lst PA),.sh (.lst PB),.sh (.int p),.sh (.int b),.sh (.tup [.lst SA,.lst SB,fr (cj p b)]),.sh (.bl sm),.sh (.lst J),.sh (.tup [.lst SA,.lst SB]),y8,y9,y10]
 =.ok (.nx [.sh (.lst PA),.sh (.lst PB),.sh (.int p),.sh (.int b),.sh (.tup [.lst SA,.lst SB,fr (cj p b)]),.sh (.bl sm),.sh (.lst J),.sh (.tup [.lst SA,.lst SB]),z8,z9,z10]):=by
  intro sm J j1 j2 y8 y9 y10;have i2:bq (.tup [.lst SA,.lst SB,fr (cj p b)]) (.int 2)=.ok (fr (cj p b)):=rfl;obtain⟨ρ',hf,z8,z9,z10,rfl⟩:=lh (tg:=bY [8,9]) (body:=(ar (dR (ae 5)
 (ar (gr 10 (aj (aa (ae 8) (aa (ae 9) (aa (ah (ae 4) (dC (.int 2)) bq) ax))) (noX aN)))
 aq)
 (ar (gr 10 (aj (aa (ae 8) (aa (ae 9) (aa (ah (ae 4) (dC (.int 2)) bq) ax))) (noX aM)))
 aq))
 (ar (dR (c9 (aj (aa (ae 10) (aa (ae 6) ax)) cB))
 (ar (bS (dC (.bl false)))
 aq)
 aq)
 (ar (i6 10)
 aq)))) (λρ=>∃z8 z9 z10,ρ=[.sh (.lst PA),.sh (.lst PB),.sh (.int p),.sh (.int b),.sh (.tup [.lst SA,.lst SB,fr (cj p b)]),.sh (.bl sm),.sh (.lst J),.sh (.tup [.lst SA,.lst SB]),z8,z9,z10]) (ds:=[.tup [.lst SA,.lst SB],.tup [.lst SB,.lst SA],.tup [.lst SA,.lst SB]]) (by
   rintro d hd ρ ⟨z8,z9,z10,rfl⟩;obtain⟨U,V,rfl,hU⟩:∃U V:ac,d=.tup [.lst U,.lst V]/\((U=SA/\V=SB)∨(U=SB/\V=SA)):=by
    simp only[List.mem_cons,List.not_mem_nil,or_false]at hd;rcases hd with rfl|rfl|rfl
    .exact⟨_,_,rfl,.inl ⟨rfl,rfl⟩⟩
    .exact⟨_,_,rfl,.inr ⟨rfl,rfl⟩⟩
    .exact⟨_,_,rfl,.inl ⟨rfl,rfl⟩⟩
   refine⟨[.sh (.lst PA),.sh (.lst PB),.sh (.int p),.sh (.int b),.sh (.tup [.lst SA,.lst SB,fr (cj p b)]),.sh (.bl sm),.sh (.lst J),.sh (.tup [.lst SA,.lst SB]),.sh (.lst U),.sh (.lst V),z10],[.sh (.lst PA),.sh (.lst PB),.sh (.int p),.sh (.int b),.sh (.tup [.lst SA,.lst SB,fr (cj p b)]),.sh (.bl sm),.sh (.lst J),.sh (.tup [.lst SA,.lst SB]),.sh (.lst U),.sh (.lst V),.ow (.lst [])],rfl,?_,_,_,_,rfl⟩;cases sm with
   |true=>
    have e:=j1 rfl;subst e;have f1:noX aN [.lst U,.lst V,fr (cj p b)]=.ok (.lst J):=by
     rcases hU with⟨rfl,rfl⟩|⟨rfl,rfl⟩
     .exact b1
     .exact b2
    have cl:=qh (i:=10) (ρ:=[.sh (.lst PA),.sh (.lst PB),.sh (.int p),.sh (.int b),.sh (.tup [.lst SA,.lst SB,fr (cj p b)]),.sh (.bl true),.sh (.lst J),.sh (.tup [.lst SA,.lst SB]),.sh (.lst U),.sh (.lst V),.ow (.lst J)]) rfl;open_line with[i2,f1,Dt,cl]
   |false=>
    have e:=j2 rfl;subst e;have f1:noX aM [.lst U,.lst V,fr (cj p b)]=.ok (.lst J):=by
     rcases hU with⟨rfl,rfl⟩|⟨rfl,rfl⟩
     .exact c1
     .exact c2
    have cl:=qh (i:=10) (ρ:=[.sh (.lst PA),.sh (.lst PB),.sh (.int p),.sh (.int b),.sh (.tup [.lst SA,.lst SB,fr (cj p b)]),.sh (.bl false),.sh (.lst J),.sh (.tup [.lst SA,.lst SB]),.sh (.lst U),.sh (.lst V),.ow (.lst J)]) rfl;open_line with[i2,f1,Dg,cl]) [.sh (.lst PA),.sh (.lst PB),.sh (.int p),.sh (.int b),.sh (.tup [.lst SA,.lst SB,fr (cj p b)]),.sh (.bl sm),.sh (.lst J),.sh (.tup [.lst SA,.lst SB]),y8,y9,y10] ⟨_,_,_,rfl⟩
  exact⟨z8,z9,z10,hf⟩
 have i0:bq (.tup [.lst SA,.lst SB,fr (cj p b)]) (.int 0)=.ok (.lst SA):=rfl;have i1:bq (.tup [.lst SA,.lst SB,fr (cj p b)]) (.int 1)=.ok (.lst SB):=rfl;have rv:tQ (.tup [.lst SA,.lst SB])=.ok (.tup [.lst SB,.lst SA]):=rfl;have sl:yK (.tup [.lst SA,.lst SB,fr (cj p b)]) none (some 2)=.ok (.tup [.lst SA,.lst SB]):=rfl;obtain⟨ρ',hf,y5,y6,y7,y8,y9,y10,rfl⟩:=lh (tg:=eJ 5) (body:=(ar (aR 6 (aj (aa (aj (aa (ae 0) (aa (ae 1) (aa (ae 2) (aa (ae 5) ax)))) cI) (aa (ae 3) ax)) aT))
 (ar (aR 7 (aj (aa (ah (ae 4) (dC (.int 0)) bq) (aa (ah (ae 4) (dC (.int 1)) bq) ax)) cb))
 (ar (fb (aj (aa (ae 7) (aa (aL (ae 7) tQ) (aa (ae 7) ax))) bU) (bY [8,9])
 (ar (dR (ae 5)
 (ar (gr 10 (aj (aa (ae 8) (aa (ae 9) (aa (ah (ae 4) (dC (.int 2)) bq) ax))) (noX aN)))
 aq)
 (ar (gr 10 (aj (aa (ae 8) (aa (ae 9) (aa (ah (ae 4) (dC (.int 2)) bq) ax))) (noX aM)))
 aq))
 (ar (dR (c9 (aj (aa (ae 10) (aa (ae 6) ax)) cB))
 (ar (bS (dC (.bl false)))
 aq)
 aq)
 (ar (i6 10)
 aq))))
 aq)))) (λρ=>∃y5 y6 y7 y8 y9 y10,ρ=[.sh (.lst PA),.sh (.lst PB),.sh (.int p),.sh (.int b),.sh (.tup [.lst SA,.lst SB,fr (cj p b)]),y5,y6,y7,y8,y9,y10]) (ds:=[.bl true,.bl false]) (by
  rintro d hd ρ ⟨y5,y6,y7,y8,y9,y10,rfl⟩;obtain⟨sm,rfl⟩:∃sm,d=.bl sm:=by
   simp only[List.mem_cons,List.not_mem_nil,or_false]at hd;rcases hd with rfl|rfl
   .exact⟨true,rfl⟩
   .exact⟨false,rfl⟩
  cases sm with
  |true=>
   obtain⟨z8,z9,z10,hi⟩:=inn true J1 (λ_=>rfl) (λh=>nomatch h) y8 y9 y10;refine⟨[.sh (.lst PA),.sh (.lst PB),.sh (.int p),.sh (.int b),.sh (.tup [.lst SA,.lst SB,fr (cj p b)]),.sh (.bl true),y6,y7,y8,y9,y10],_,rfl,?_,.sh (.bl true),.sh (.lst J1),.sh (.tup [.lst SA,.lst SB]),z8,z9,z10,rfl⟩;open_line with[jl1,jd1,i0,i1,rv,hi]
  |false=>
   obtain⟨z8,z9,z10,hi⟩:=inn false J2 (λh=>nomatch h) (λ_=>rfl) y8 y9 y10;refine⟨[.sh (.lst PA),.sh (.lst PB),.sh (.int p),.sh (.int b),.sh (.tup [.lst SA,.lst SB,fr (cj p b)]),.sh (.bl false),y6,y7,y8,y9,y10],_,rfl,?_,.sh (.bl false),.sh (.lst J2),.sh (.tup [.lst SA,.lst SB]),z8,z9,z10,rfl⟩;open_line with[jl2,jd2,i0,i1,rv,hi]) [.sh (.lst PA),.sh (.lst PB),.sh (.int p),.sh (.int b),.sh (.tup [.lst SA,.lst SB,fr (cj p b)]),.no,.no,.no,.no,.no,.no] ⟨_,_,_,_,_,_,rfl⟩
 open_line with[cW,jJ,s1,s2,s3,hf,sl,eqq]
def kS:List Int:=[1000000000000000,2,4,1000000000000000,1000000000000000,1000000000000000,1000000000000000,1000000000000000,1000000000000000,1000000000000000,1000000000000000,2,3]
def B1:dS (.int 10) (.int 15)=.ok (.int 1000000000000000):=rfl
def gC{a m:Int}(hm:0<m):0<=a.fmod m/\a.fmod m<m:=⟨Int.fmod_nonneg_of_pos a hm,Int.fmod_lt_of_pos a hm⟩
def Dv(vs:List Int):Prop:=∀(i:Nat) (s:Int),kS[i]?=some s->∃v,vs[i]?=some v/\0<=v/\v<s
def Dv.ix{vs:List Int}(h:Dv vs)(i:Nat){s:Int}(hs:kS[i]?=some s):∃v,(0<=v/\v<s)/\bq (.lst (vs.map D.int)) (.int (i:Int))=.ok (.int v):=by
 obtain⟨v,h1,h2⟩:=h i s hs;exact⟨v,h2,n9 (by rw[List.getElem?_map,h1];rfl)⟩
noncomputable abbrev sI:db:=(ar (dR (ah (ae 3) (ae 1) tT)
 (ar (bE 2 (aj (aa (ae 3) (aa (ae 4) ax)) cb))
 aq)
 aq)
 (ar (aR 3 (ah (ah (ae 3) (dC (.int 1)) bu) (ah (ah (ae 0) (ah (dC (.int 3)) (ah (dC (.int 2)) (ae 5) dP) bu) bq) (ah (aj (aa (dC (.int 6)) (aa (ah (dC (.int 10)) (dC (.int 15)) dS) ax)) bU) (ah (ae 0) (dC (.int 11)) bq) bq) df) bu))
 (ar (aR 4 (ah (ah (ae 4) (dC (.int 1)) bu) (ah (ah (ae 0) (ah (dC (.int 4)) (ah (dC (.int 2)) (ae 5) dP) bu) bq) (ah (aj (aa (dC (.int 6)) (aa (ah (dC (.int 10)) (dC (.int 15)) dS) ax)) bU) (ah (ae 0) (dC (.int 11)) bq) bq) df) bu))
 aq)))
def iC{vs:List Int}(h:Dv vs){p:Int}(hp:0<=p):∃T,aV [.lst (vs.map D.int),.int p]=.ok (.lst (T.map bw))/\Tr T/\T≠[]/\∀x∈T,x.1<10000000000000000:=by
 have e0:HI=1000000000000000000:=rfl;obtain⟨v0,b0,i0⟩:=h.ix 0 rfl;obtain⟨v1,b1,i1⟩:=h.ix 1 rfl;obtain⟨v2,b2,i2⟩:=h.ix 2 rfl;obtain⟨v11,b11,i11⟩:=h.ix 11 rfl;obtain⟨v12,b12,i12⟩:=h.ix 12 rfl;have i0:bq (.lst (vs.map D.int)) (.int 0)=.ok (.int v0):=i0;have i1:bq (.lst (vs.map D.int)) (.int 1)=.ok (.int v1):=i1;have i2:bq (.lst (vs.map D.int)) (.int 2)=.ok (.int v2):=i2;have i11:bq (.lst (vs.map D.int)) (.int 11)=.ok (.int v11):=i11;have i12:bq (.lst (vs.map D.int)) (.int 12)=.ok (.int v12):=i12;have pick:∀v:Int,0<=v/\v<2->∀a c:Int,bq (.lst [.int a,.int c]) (.int v)=.ok (.int (if v=0 then a else c)):=λv hv a c=>by
  have:v=0∨v=1:=by omega
  rcases this with rfl|rfl<;>rfl
 let M:Int:=if v11=0 then 6 else 1000000000000000
 have hM:0<M/\M<=1000000000000000:=by show 0<(if v11=0 then(6:Int) else 1000000000000000)/\(if v11=0 then(6:Int) else 1000000000000000)<=1000000000000000;split<;>omega
 have pM:bq (.lst [.int 6,.int 1000000000000000]) (.int v11)=.ok (.int M):=pick v11 b11 _ _
 let N:Int:=if v1=0 then 10 else 1000000000000000
 have hN:0<N/\N<=1000000000000000:=by show 0<(if v1=0 then(10:Int) else 1000000000000000)/\(if v1=0 then(10:Int) else 1000000000000000)<=1000000000000000;split<;>omega
 have pN:bq (.lst [.int 10,.int 1000000000000000]) (.int v1)=.ok (.int N):=pick v1 b1 _ _;have mN:=j8 (a:=v0) (b:=N) (by have:=hN.1;simp;omega);have fN:=gC (a:=v0) hN.1;obtain⟨ρ',hf,T,w,l,y5,rfl,t1,t2,t3,t4,t5⟩:=tm (i:=5) (body:=sI) (λk ρ=>∃T w l y5,ρ=[.sh (.lst (vs.map D.int)),.sh (.int p),.ow (.lst (T.map bw)),.sh (.int w),.sh (.int l),y5]/\(0<=w/\w<=(k:Int)*1000000000000001)/\(0<=l/\l<=1000000000000000+(k:Int)*1000000000000001)/\T.length<=k/\(∀x∈T,(0<=x.1/\x.1<10000000000000000)/\0<=x.2/\x.2<HI)/\((k=0/\w=0)∨T≠[])) (n:=(1+v2).toNat) (by
  rintro k hk ρ ⟨T,w,l,y5,rfl,t1,t2,t3,t4,t5⟩;have k4:k<4:=by omega
  obtain⟨va,ba,ia⟩:=h.ix (3+2*k) (s:=1000000000000000) (by
   have:k=0∨k=1∨k=2∨k=3:=by omega
   rcases this with rfl|rfl|rfl|rfl<;>rfl)
  obtain⟨vb,bb,ib⟩:=h.ix (4+2*k) (s:=1000000000000000) (by
   have:k=0∨k=1∨k=2∨k=3:=by omega
   rcases this with rfl|rfl|rfl|rfl<;>rfl)
  have ia:bq (.lst (vs.map D.int)) (.int (3+2*(k:Int)))=.ok (.int va):=by rw[←ia];congr 2
  have ib:bq (.lst (vs.map D.int)) (.int (4+2*(k:Int)))=.ok (.int vb):=by rw[←ib];congr 2
  have o1:dJ 2 (k:Int)=true:=fZ (by decide) (by omega);have m1:=j8 (a:=va) (b:=M) (by have:=hM.1;simp;omega);have m2:=j8 (a:=vb) (b:=M) (by have:=hM.1;simp;omega);have f1:=gC (a:=va) hM.1;have f2:=gC (a:=vb) hM.1;have le:tT (.int w) (.int p)=.ok (.bl (decide (w<=p))):=rfl;have ha:decide ((T.map bw).length<=999)=true:=decide_eq_true (by rw[List.length_map];omega)
  by_cases c:w<=p
  .rw[decide_eq_true c]at le
   refine⟨[.sh (.lst (vs.map D.int)),.sh (.int p),.ow (.lst ((T++[(w,l)]).map bw)),.sh (.int (w+1+va.fmod M)),.sh (.int (l+1+vb.fmod M)),.sh (.int (k:Int))],?_,T++[(w,l)],w+1+va.fmod M,l+1+vb.fmod M,.sh (.int (k:Int)),rfl,by omega,by omega,by simp;omega,λx hx=>?_,.inr (by simp)⟩
   .have e2:(T++[(w,l)]).map bw=T.map bw++[.tup [.int w,.int l]]:=by simp[bw]
    rw[e2];generalize T.map bw=W at *;generalize vs.map D.int=VS at *;open_line with[sI,le,cO ha,gD o1,ia,ib,B1,i11,pM,m1,m2]
   .rcases List.mem_append.mp hx with hx|hx
    .exact t4 x hx
    .rw[List.mem_singleton.mp hx];exact⟨by constructor<;>simp only<;>omega,by simp only;omega,by simp only;omega⟩
  .rw[decide_eq_false c]at le
   refine⟨[.sh (.lst (vs.map D.int)),.sh (.int p),.ow (.lst (T.map bw)),.sh (.int (w+1+va.fmod M)),.sh (.int (l+1+vb.fmod M)),.sh (.int (k:Int))],?_,T,w+1+va.fmod M,l+1+vb.fmod M,.sh (.int (k:Int)),rfl,by omega,by omega,by omega,t4,.inr ?_⟩
   .generalize T.map bw=W at *
    generalize vs.map D.int=VS at *;open_line with[sI,le,gD o1,ia,ib,B1,i11,pM,m1,m2]
   .rcases t5 with⟨_,e⟩|t5
    .omega
    .exact t5) (ρ:=[.sh (.lst (vs.map D.int)),.sh (.int p),.ow (.lst []),.sh (.int 0),.sh (.int (v0.fmod N)),.no]) ⟨[],0,v0.fmod N,.no,rfl,by omega,by omega,by simp,by simp,.inl ⟨rfl,rfl⟩⟩
 have hT:T≠[]:=by
  rcases t5 with⟨e,_⟩|t5
  .omega
  .exact t5
 have hfr:tq (eJ 5) sI [.sh (.lst (vs.map D.int)),.sh (.int p),.ow (.lst []),.sh (.int 0),.sh (.int (v0.fmod N)),.no] (.int (1+v2))=.ok (.nx [.sh (.lst (vs.map D.int)),.sh (.int p),.ow (.lst (T.map bw)),.sh (.int w),.sh (.int l),y5]):=by
  rw[←hf,show(1+v2)=(((1+v2).toNat:Nat):Int) by omega];exact p6 (by omega)
 by_cases c:v12=0
 .obtain⟨T',z,rfl⟩:∃T' z,T=T'++[z]:=⟨T.dropLast,T.getLast hT,(List.dropLast_concat_getLast hT).symm⟩
  refine⟨T'++[(z.1,eZ)],?_,⟨by simp at t3 ⊢;omega,λx hx=>?_⟩,by simp,λx hx=>?_⟩
  .have eq0:iK (.int v12) (.int 0)=.ok (.bl true):=by rw[c];rfl
   have ix1:bq (.lst ((T'++[z]).map bw)) (.int (-1))=.ok (bw z):=by rw[List.map_append];exact jz
   have ix2:bq (bw z) (.int 0)=.ok (.int z.1):=rfl;have ng:fG (.int 1)=.ok (.int (-1)):=rfl;have pu:∀ρ,DL.putAt ρ 2 ((T'++[z]).map bw) (.tup [.int z.1,.int eZ]) (.int (-1))=.ok (.nx (ρ.set 2 (.ow (.lst ((T'++[(z.1,eZ)]).map bw))))):=λρ=>by
    rw[xA (n:=T'.length) (by
     unfold uE;rw[if_neg (by decide),if_pos (by simp;omega)]
     congr 1
     simp;omega)]
    congr 6
    rw[List.map_append,List.map_append,List.set_append_right _ _ (by simp)];simp[bw]
   generalize (T'++[z]).map bw=W at *;generalize (T'++[(z.1,eZ)]).map bw=W2 at *;generalize vs.map D.int=VS at *;have hfl:jA (.tup [.int z.1,.int eZ])=true:=rfl;open_line with[aV,fI,i0,B1,i1,pN,mN,i2,lp,hfr,i12,eq0,ng,ix1,ix2,Ez,xx hfl,pu]
  .rcases List.mem_append.mp hx with hx|hx
   .have:=t4 x (List.mem_append_left _ hx)
    exact⟨⟨this.1.1,by have:=this.1.2;omega⟩,this.2.1,.inl this.2.2⟩
   .have hz:=t4 z (by simp)
    rw[List.mem_singleton.mp hx];exact⟨⟨hz.1.1,by have:=hz.1.2;simp only;omega⟩,(show(0:Int)<=eZ by decide),.inr rfl⟩
  .rcases List.mem_append.mp hx with hx|hx
   .exact(t4 x (List.mem_append_left _ hx)).1.2
   .rw[List.mem_singleton.mp hx];exact(t4 z (by simp)).1.2
 .refine⟨T,?_,⟨by omega,λx hx=>?_⟩,hT,λx hx=>(t4 x hx).1.2⟩
  .have eq0:iK (.int v12) (.int 0)=.ok (.bl false):=by
    rw[oo];simp[c]
   generalize T.map bw=W at *;generalize vs.map D.int=VS at *;open_line with[aV,fI,i0,B1,i1,pN,mN,i2,lp,hfr,i12,eq0]
  .have:=t4 x hx
   exact⟨⟨this.1.1,by have:=this.1.2;omega⟩,this.2.1,.inl this.2.2⟩
def u6{x y d:D}{e:A1}(h:m_look_at_purse [d]=.exn e):aN [x,y,d]=.exn e:=by
 have j:∀a,aU bM a [x,y,d]=.exn e:=λa=>by
  unfold aU lI yH;open_line with[dk,lj,h,l0]
 have h:=jL j;unfold aN gR;open_line with[eL,iV,h,l0]
def u0{x y d:D}{e:A1}(h:m_look_at_purse [d]=.exn e):aM [x,y,d]=.exn e:=by
 have j:∀a,aU bD a [x,y,d]=.exn e:=λa=>by
  unfold aU lI yH;open_line with[dk,lj,h,l0]
 have h:=jL j;unfold aM gR;open_line with[eK,iV,h,l0]
def Ak{fc:cr}{ga gb:db}{ρ:Ev}{b:Bool}(h:fc (fB ρ)=.ok (.bl b)):i5 fc ga gb ρ=if b=true then ga ρ else gb ρ:=by unfold i5;rw[h]
def qg{fa:Ev->ak (ac)}{m:ac->ak D}{ρ:Ev}{ds:ac}{e:A1}(h:fa ρ=.ok ds)(h2:m ds=.exn e):dX fa m ρ=.exn e:=by
 unfold dX;rw[h];show(m ds).bind _=_;rw[h2];rfl
def qQ{x y d:D}(h:m_look_at_purse [d]=.exn ⟨"NoPurse",[]⟩):cg [x,y,d]=.ok (.bl true):=by
 have n1:=u6 (x:=x) (y:=y) h;have n2:=u0 (x:=x) (y:=y) h;have q1:lX dY "NoPurse"=true:=by decide
 have t1:oX "NoPurse"=some false:=by decide
 have t2:oW "NoPurse"=some true:=by decide
 have t3:oV "NoPurse"=some true:=by decide
 have step:∀(sm:Bool) (W:ac) (y4 y5 y6:Sl),W.length<=900->(ar (o7 (i5 (ae 4)
 (dX (aa (ae 0) (aa (ae 1) (aa (ae 2) ax))) aN)
 (dX (aa (ae 0) (aa (ae 1) (aa (ae 2) ax))) aM)) (lX dY) 5
 (ar (aR 6 (kN (aL (ae 5) (ff oX)) (c9 (aL (ae 5) (ff oW)))))
 (ar (bE 3 (fg (aL (ae 5) (ff oV)) (c9 (ae 6))))
 aq)))
 aq) [.sh x,.sh y,.sh d,.ow (.lst W),.sh (.bl sm),y5,y6]=.ok (.nx [.sh x,.sh y,.sh d,.ow (.lst (W++[.bl true])),.sh (.bl sm),.no,.sh (.bl false)]):=by
  intro sm W y4 y5 y6 hW;have ha:decide (W.length<=999)=true:=decide_eq_true (by omega);have tr:i5 (ae 4) (dX (aa (ae 0) (aa (ae 1) (aa (ae 2) ax))) aN) (dX (aa (ae 0) (aa (ae 1) (aa (ae 2) ax))) aM) [.sh x,.sh y,.sh d,.ow (.lst W),.sh (.bl sm),y5,y6]=.exn ⟨"NoPurse",[]⟩:=by
   rw[Ak (b:=sm) rfl];cases sm
   .rw[if_neg (by decide)];exact qg rfl n2
   .rw[if_pos rfl];exact qg rfl n1
  open_line with[Ct,tr,zL q1,rN t1,rN t2,rN t3,cO ha,CG]
 have f2:c8 (eJ 4) (ar (o7 (i5 (ae 4)
 (dX (aa (ae 0) (aa (ae 1) (aa (ae 2) ax))) aN)
 (dX (aa (ae 0) (aa (ae 1) (aa (ae 2) ax))) aM)) (lX dY) 5
 (ar (aR 6 (kN (aL (ae 5) (ff oX)) (c9 (aL (ae 5) (ff oW)))))
 (ar (bE 3 (fg (aL (ae 5) (ff oV)) (c9 (ae 6))))
 aq)))
 aq) [.bl true,.bl false] [.sh x,.sh y,.sh d,.ow (.lst []),.no,.no,.no]=.ok (.nx [.sh x,.sh y,.sh d,.ow (.lst [.bl true,.bl true]),.sh (.bl false),.no,.sh (.bl false)]):=by
  rw[iH (ρ1:=[.sh x,.sh y,.sh d,.ow (.lst []),.sh (.bl true),.no,.no]) rfl (step true [] .no .no .no (by simp)),iH (ρ1:=[.sh x,.sh y,.sh d,.ow (.lst [.bl true]),.sh (.bl false),.no,.sh (.bl false)]) rfl (step false [.bl true] .no .no (.sh (.bl false)) (by simp))];rfl
 have eq:iK (.lst [.bl true,.bl true]) (.lst [.bl true,.bl true])=.ok (.bl true):=rfl;open_line with[cg,iq,f2,eq]
def EC:ac:=[.non,.tup [.int (-1),.int 2],.tup [.int 2,.int 2],.int 1,.bl true,.tup [.int 1,.int 0],.lst [.int 1,.int 1],.str "1",.tup [.int 1],.tup [.int 0,.int 2],.tup [.bl true,.int 1],.dic [] []]
def B7{k:Int}(h:0<=k/\k<12):∃d,bq (.lst EC) (.int k)=.ok d/\m_look_at_purse [d]=.exn ⟨"NoPurse",[]⟩:=by
 have:k=0∨k=1∨k=2∨k=3∨k=4∨k=5∨k=6∨k=7∨k=8∨k=9∨k=10∨k=11:=by omega
 rcases this with rfl|rfl|rfl|rfl|rfl|rfl|rfl|rfl|rfl|rfl|rfl|rfl<;>exact⟨_,rfl,rfl⟩
def yF:List Int:=kS++kS++[60,5,4,4,10000000000000000,3,12]
def F5:dS (.int 10) (.int 16)=.ok (.int 10000000000000000):=rfl
def Fx:dS (.int 10) (.int 30)=.ok (.int 1000000000000000000000000000000):=rfl
def GV{vs:List Int}(W:Drawn yF vs):Dv vs/\Dv (vs.drop 13)/\ig (vs.map D.int) (some 13) none=(vs.drop 13).map D.int:=by
 have hl:vs.length=33:=W.len;refine⟨λi s h=>?_,λi s h=>?_,?_⟩
 .have hi:i<13:=(List.getElem?_eq_some_iff.mp h).1
  obtain⟨v,h1,h2,_⟩:=W.at i (s:=s) (by unfold yF;rw[List.append_assoc,List.getElem?_append_left hi];exact h);exact⟨v,h1,h2⟩
 .have hi:i<13:=(List.getElem?_eq_some_iff.mp h).1
  obtain⟨v,h1,h2,_⟩:=W.at (13+i) (s:=s) (by
   unfold yF;rw[List.append_assoc,List.getElem?_append_right (by show 13<=13+i;omega),show 13+i-kS.length=i from by show 13+i-13=i;omega,List.getElem?_append_left hi];exact h)
  exact⟨v,by rw[List.getElem?_drop];exact h1,h2⟩
 .have e:vs=vs.take 13++vs.drop 13:=(List.take_append_drop 13 vs).symm
  have l:(vs.take 13).length=13:=by rw[List.length_take];omega
  have:=nv (F:=D.int) (xs:=vs.take 13) (ys:=vs.drop 13);rw[l,←e]at this;exact this
def Br{T:List (Int×Int)}(hT:T≠[])(v:Int):∃x∈T,df (.int v) (.int (T.map bw).length)=.ok (.int (v.fmod (T.map bw).length))/\bq (.lst (T.map bw)) (.int (v.fmod (T.map bw).length))=.ok (bw x):=by
 have hl:0<T.length:=List.length_pos_iff.mpr hT;rw[List.length_map];have f:=gC (a:=v) (m:=(T.length:Int)) (by omega);obtain⟨k,hk⟩:=Int.eq_ofNat_of_zero_le f.1;have kl:k<T.length:=by omega
 refine⟨T[k],List.getElem_mem kl,j8 (by simp;omega),?_⟩;rw[hk];exact n9 (by rw[List.getElem?_map,List.getElem?_eq_getElem kl];rfl)
noncomputable abbrev pO:db:=  (ar (aR 2 (ah (ah (aj (aa (ah (dC (.int 10)) (dC (.int 15)) dS) (aa (dC (.int 2)) (aa (dC (.int 4)) ax))) bU) (vY (aj (aa (ah (dC (.int 10)) (dC (.int 15)) dS) ax) bU) (dC (.int 8))) bu) (aj (aa (dC (.int 2)) (aa (dC (.int 3)) ax)) bU) bu))
 (ar (aR 3 (aj (aa (ae 1) (aa (ah (ah (ae 2) (ae 2) bu) (aj (aa (dC (.int 60)) (aa (dC (.int 5)) (aa (dC (.int 4)) (aa (dC (.int 4)) (aa (ah (dC (.int 10)) (dC (.int 16)) dS) (aa (dC (.int 3)) (aa (dC (.int 12)) ax))))))) bU) bu) ax)) cA))
 (ar (aR 4 (ah (dC (.int 10)) (dC (.int 30)) dS))
 (ar (aR 5 (aj (aa (aj (aa (ae 3) (aa (ae 4) ax)) aV) (aa (aj (aa (kM (ae 3) (fY (dC (.int 13))) gN) (aa (ae 4) ax)) aV) ax)) bU))
 (ar (aR 6 (ah (ah (ae 3) (dC (.int 30)) bq) (dC (.int 40)) df))
 (ar (dR (ah (ah (ae 3) (dC (.int 27)) bq) (dC (.int 1)) Bn)
 (ar (aR 7 (ah (ah (ae 5) (dC (.int 0)) bq) (ah (ah (ae 3) (dC (.int 28)) bq) (aj (aa (ah (ae 5) (dC (.int 0)) bq) ax) (m1 ic)) df) bq))
 (ar (aR 8 (ah (ah (ae 5) (dC (.int 1)) bq) (ah (ah (ae 3) (dC (.int 29)) bq) (aj (aa (ah (ae 5) (dC (.int 1)) bq) ax) (m1 ic)) df) bq))
 (ar (aR 6 (aj (aa (dC (.int 0)) (aa (ah (ah (ah (ah (ae 7) (dC (.int 0)) bq) (ah (ae 8) (dC (.int 0)) bq) bu) (ah (ae 3) (dC (.int 31)) bq) bu) (dC (.int 1)) AK) ax)) (m2 oz)))
 aq)))
 aq)
 (ar (dR (ah (ah (ae 3) (dC (.int 27)) bq) (dC (.int 1)) iK)
 (ar (aR 6 (ah (ae 3) (dC (.int 30)) bq))
 aq)
 aq)
 (ar (aR 9 (aj (aa (ae 3) (aa (ae 6) ax)) aV))
 (ar (aR 10 (aj (aa (kM (ae 3) (fY (dC (.int 13))) gN) (aa (ae 6) ax)) aV))
 (ar (dR (c9 (aj (aa (ae 9) (aa (ae 10) (aa (ae 6) (aa (ah (dC (.int 1)) (ah (ae 3) (dC (.int 26)) bq) bu) ax)))) cW))
 (ar (bS (dC (.bl false)))
 aq)
 aq)
 (ar (aR 11 (aj (aa (dC (.non)) (aa (aj (aa (aL (dC (.int 1)) fG) (aa (dC (.int 2)) ax)) cb) (aa (aj (aa (dC (.int 2)) (aa (dC (.int 2)) ax)) cb) (aa (dC (.int 1)) (aa (dC (.bl true)) (aa (aj (aa (dC (.int 1)) (aa (dC (.int 0)) ax)) cb) (aa (aj (aa (dC (.int 1)) (aa (dC (.int 1)) ax)) bU) (aa (dC (.str "1")) ax)))))))) bU))
 (ar (aR 12 (ah (ah (ae 11) (aj (aa (aj (aa (dC (.int 1)) ax) cb) (aa (aj (aa (dC (.int 0)) (aa (dC (.int 2)) ax)) cb) (aa (aj (aa (dC (.bl true)) (aa (dC (.int 1)) ax)) cb) (aa (dC (.dic [] [])) ax)))) bU) bu) (ah (ae 3) (dC (.int 32)) bq) bq))
 (ar (dR (c9 (aj (aa (aj (aa (ae 9) (aa (dC (.int 1)) ax)) aT) (aa (aj (aa (ae 10) (aa (dC (.int 1)) ax)) aT) (aa (ae 12) ax))) cg))
 (ar (bS (dC (.bl false)))
 aq)
 aq)
 aq)))))))))))))
def AM{S:D}{c:Int}(x2 x3 x4 x5 x6 x7 x8 x9 x10 x11 x12:Sl):∃ρ2,pO [.sh S,.sh (.int c),x2,x3,x4,x5,x6,x7,x8,x9,x10,x11,x12]=.ok (.nx ρ2)/\∃y1 y2 y3 y4 y5 y6 y7 y8 y9 y10 y11 y12,ρ2=[.sh S,y1,y2,y3,y4,y5,y6,y7,y8,y9,y10,y11,y12]:=by
 have e0:HI=1000000000000000000:=rfl;obtain⟨vs,hd,W⟩:=Cod.xJ c yF (by
  have:(yF.all λs=>decide (0<s)&&decide (s<=(su:Int)))=true:=by decide
  intro s hs;have:=List.all_eq_true.mp this s hs;simpa using this) (by decide)
 obtain⟨D1,D2,cut⟩:=GV W;obtain⟨T0,h0,t0,n0,s0⟩:=iC D1 (p:=1000000000000000000000000000000) (by decide);obtain⟨T1,h1,t1,n1,s1⟩:=iC D2 (p:=1000000000000000000000000000000) (by decide);obtain⟨v26,_,b26,i26⟩:=W.ix 26 26 rfl rfl;obtain⟨v27,_,b27,i27⟩:=W.ix 27 27 rfl rfl;obtain⟨v28,_,b28,i28⟩:=W.ix 28 28 rfl rfl;obtain⟨v29,_,b29,i29⟩:=W.ix 29 29 rfl rfl;obtain⟨v30,_,b30,i30⟩:=W.ix 30 30 rfl rfl;obtain⟨v31,_,b31,i31⟩:=W.ix 31 31 rfl rfl;obtain⟨v32,_,b32,i32⟩:=W.ix 32 32 rfl rfl;obtain⟨od,o1,o2⟩:=B7 b32;obtain⟨xa,ha,ma,ja⟩:=Br n0 v28;obtain⟨xb,hb,mb,jb⟩:=Br n1 v29;have ea:=(t0.el xa ha).1;have eb:=(t1.el xb hb).1;have ea2:=s0 xa ha;have eb2:=s1 xb hb;have m40:=j8 (a:=v30) (b:=40) rfl;have f40:=gC (a:=v30) (m:=40) (by decide);have rp:rV (.lst [.int 1000000000000000]) (.int 8)=.ok (.lst [.int 1000000000000000,.int 1000000000000000,.int 1000000000000000,.int 1000000000000000,.int 1000000000000000,.int 1000000000000000,.int 1000000000000000,.int 1000000000000000]):=rfl;have a1:bu (.lst [.int 1000000000000000,.int 2,.int 4]) (.lst [.int 1000000000000000,.int 1000000000000000,.int 1000000000000000,.int 1000000000000000,.int 1000000000000000,.int 1000000000000000,.int 1000000000000000,.int 1000000000000000])=.ok (.lst [.int 1000000000000000,.int 2,.int 4,.int 1000000000000000,.int 1000000000000000,.int 1000000000000000,.int 1000000000000000,.int 1000000000000000,.int 1000000000000000,.int 1000000000000000,.int 1000000000000000]):=rfl;have a2:bu (.lst [.int 1000000000000000,.int 2,.int 4,.int 1000000000000000,.int 1000000000000000,.int 1000000000000000,.int 1000000000000000,.int 1000000000000000,.int 1000000000000000,.int 1000000000000000,.int 1000000000000000]) (.lst [.int 2,.int 3])=.ok (.lst (kS.map D.int)):=rfl;have ad1:bu (.lst (kS.map D.int)) (.lst (kS.map D.int))=.ok (.lst ((kS++kS).map D.int)):=rfl;have ad2:bu (.lst ((kS++kS).map D.int)) (.lst [.int 60,.int 5,.int 4,.int 4,.int 10000000000000000,.int 3,.int 12])=.ok (.lst (yF.map D.int)):=rfl;have w0:bq (.lst [.lst (T0.map bw),.lst (T1.map bw)]) (.int 0)=.ok (.lst (T0.map bw)):=rfl;have w1:bq (.lst [.lst (T0.map bw),.lst (T1.map bw)]) (.int 1)=.ok (.lst (T1.map bw)):=rfl;have z0:∀x:Int×Int,bq (bw x) (.int 0)=.ok (.int x.1):=λ_=>rfl;have ng:fG (.int 1)=.ok (.int (-1)):=rfl;have od3:bu (.lst [.non,.tup [.int (-1),.int 2],.tup [.int 2,.int 2],.int 1,.bl true,.tup [.int 1,.int 0],.lst [.int 1,.int 1],.str "1"]) (.lst [.tup [.int 1],.tup [.int 0,.int 2],.tup [.bl true,.int 1],.dic [] []])=.ok (.lst EC):=rfl;have gt:Bn (.int v27) (.int 1)=.ok (.bl (decide (v27 > 1))):=rfl;have eq1:iK (.int v27) (.int 1)=.ok (.bl (decide (v27=1))):=by
  rw[oo]
  by_cases q:v27=1
  .rw[q];rfl
  .rw[decide_eq_false q];simp[q]
 have sb:∀a:Int,AK (.int a) (.int 1)=.ok (.int (a-1)):=λ_=>rfl
 /- the purse,however it is drawn -/
 have fin:∀p:Int,0<=p/\p<HI->∃A B:List (Int×Int),aV [.lst (vs.map D.int),.int p]=.ok (.lst (A.map bw))/\aV [.lst ((vs.drop 13).map D.int),.int p]=.ok (.lst (B.map bw))/\cW [.lst (A.map bw),.lst (B.map bw),.int p,.int (1+v26)]=.ok (.bl true)/\∃U V,aT [.lst (A.map bw),.int 1]=.ok U/\aT [.lst (B.map bw),.int 1]=.ok V/\cg [U,V,od]=.ok (.bl true):=λp hp=>by
  obtain⟨A,h2,t2,_,_⟩:=iC D1 hp.1;obtain⟨B,h3,t3,_,_⟩:=iC D2 hp.1;have wid:∀T:List (Int×Int),Tr T->∀x∈T,(0<=x.1/\x.1<10*HI)/\0<=x.2/\(x.2<10*HI∨x.2=eZ):=λT hT x hx=>by
   obtain⟨⟨a1,a2⟩,a3,a4⟩:=hT.el x hx;exact⟨⟨a1,by omega⟩,a3,by omega⟩
  exact⟨A,B,h2,h3,vV (by omega) hp t2 t3,_,_,gX (by decide) (by have:=t2.len;omega) (wid A t2),gX (by decide) (by have:=t3.len;omega) (wid B t3),qQ o2⟩
 generalize T0.map bw=PT0 at *;generalize T1.map bw=PT1 at *;generalize hVS:vs.map D.int=VS at *;generalize hVD:(vs.drop 13).map D.int=VD at *
 by_cases c1:v27 > 1
 .rw[decide_eq_true c1]at gt
  rw[decide_eq_false (by omega)]at eq1;obtain⟨A,B,q1,q2,q3,U,V,q4,q5,q6⟩:=fin (if xa.1+xb.1+v31-1 > 0 then xa.1+xb.1+v31-1 else 0) (by split<;>omega);generalize A.map bw=PA at *;generalize B.map bw=PB at *;refine⟨_,?_,.sh (.int c),.sh (.lst (kS.map D.int)),.sh (.lst VS),.sh (.int 1000000000000000000000000000000),.sh (.lst [.lst PT0,.lst PT1]),.sh (.int (if xa.1+xb.1+v31-1 > 0 then xa.1+xb.1+v31-1 else 0)),.sh (bw xa),.sh (bw xb),.sh (.lst PA),.sh (.lst PB),.sh (.lst [.non,.tup [.int (-1),.int 2],.tup [.int 2,.int 2],.int 1,.bl true,.tup [.int 1,.int 0],.lst [.int 1,.int 1],.str "1"]),.sh od,rfl⟩;generalize hsz:kS.map D.int=ST at *;generalize (kS++kS).map D.int=ST2 at *;generalize yF.map D.int=SC at *;open_line with[pO,B1,om,ll,rp,a1,a2,ng,F5,Fx,ad1,ad2,hd,h0,cut,h1,i30,m40,i27,gt,w0,w1,i28,i29,ma,mb,ja,jb,z0,i31,sb,ev_mx,eq1,q1,q2,i26,q3,od3,i32,o1,q4,q5,q6]
 .rw[decide_eq_false c1]at gt
  by_cases c2:v27=1
  .rw[decide_eq_true c2]at eq1
   obtain⟨A,B,q1,q2,q3,U,V,q4,q5,q6⟩:=fin (v30) (by omega);generalize A.map bw=PA at *;generalize B.map bw=PB at *;refine⟨_,?_,.sh (.int c),.sh (.lst (kS.map D.int)),.sh (.lst VS),.sh (.int 1000000000000000000000000000000),.sh (.lst [.lst PT0,.lst PT1]),.sh (.int (v30)),x7,x8,.sh (.lst PA),.sh (.lst PB),.sh (.lst [.non,.tup [.int (-1),.int 2],.tup [.int 2,.int 2],.int 1,.bl true,.tup [.int 1,.int 0],.lst [.int 1,.int 1],.str "1"]),.sh od,rfl⟩;generalize hsz:kS.map D.int=ST at *;generalize (kS++kS).map D.int=ST2 at *;generalize yF.map D.int=SC at *;open_line with[pO,B1,om,ll,rp,a1,a2,ng,F5,Fx,ad1,ad2,hd,h0,cut,h1,i30,m40,i27,gt,w0,w1,i28,i29,ma,mb,ja,jb,z0,i31,sb,ev_mx,eq1,q1,q2,i26,q3,od3,i32,o1,q4,q5,q6]
  .rw[decide_eq_false c2]at eq1
   obtain⟨A,B,q1,q2,q3,U,V,q4,q5,q6⟩:=fin (v30.fmod 40) (by omega);generalize A.map bw=PA at *;generalize B.map bw=PB at *;refine⟨_,?_,.sh (.int c),.sh (.lst (kS.map D.int)),.sh (.lst VS),.sh (.int 1000000000000000000000000000000),.sh (.lst [.lst PT0,.lst PT1]),.sh (.int (v30.fmod 40)),x7,x8,.sh (.lst PA),.sh (.lst PB),.sh (.lst [.non,.tup [.int (-1),.int 2],.tup [.int 2,.int 2],.int 1,.bl true,.tup [.int 1,.int 0],.lst [.int 1,.int 1],.str "1"]),.sh od,rfl⟩;generalize hsz:kS.map D.int=ST at *;generalize (kS++kS).map D.int=ST2 at *;generalize yF.map D.int=SC at *;open_line with[pO,B1,om,ll,rp,a1,a2,ng,F5,Fx,ad1,ad2,hd,h0,cut,h1,i30,m40,i27,gt,w0,w1,i28,i29,ma,mb,ja,jb,z0,i31,sb,ev_mx,eq1,q1,q2,i26,q3,od3,i32,o1,q4,q5,q6]
def wU(ns:List Int)(hl:ns.length<=63):m_law [.lst (ns.map D.int)]=.ok (.bl true):=by
 have ad:bu (.lst (ns.map D.int)) (.lst [.int 0])=.ok (.lst ((ns++[0]).map D.int)):=by
  rw[jC (decide_eq_true (by simp;omega)),List.map_append];rfl
 have ct:=Fe (ns++[0]);obtain⟨ρ',hf,y1,y2,y3,y4,y5,y6,y7,y8,y9,y10,y11,y12,rfl⟩:=lh (tg:=eJ 1) (body:=pO) (λρ=>∃y1 y2 y3 y4 y5 y6 y7 y8 y9 y10 y11 y12,ρ=[.sh (.lst (ns.map D.int)),y1,y2,y3,y4,y5,y6,y7,y8,y9,y10,y11,y12]) (ds:=((ns++[0]).take 63).map D.int) (by
  rintro d hd ρ ⟨y1,y2,y3,y4,y5,y6,y7,y8,y9,y10,y11,y12,rfl⟩;obtain⟨c,_,rfl⟩:=List.mem_map.mp hd;obtain⟨ρ2,h1,h2⟩:=AM (S:=.lst (ns.map D.int)) (c:=c) y2 y3 y4 y5 y6 y7 y8 y9 y10 y11 y12;exact⟨_,ρ2,rfl,h1,h2⟩) [.sh (.lst (ns.map D.int)),.no,.no,.no,.no,.no,.no,.no,.no,.no,.no,.no,.no] ⟨_,_,_,_,_,_,_,_,_,_,_,_,rfl⟩
 open_line with[m_law,Bq,ad,ct,hf]
end K66
namespace K66
open PySem L2 DL
def sp_law(K:W.Frag)(H:Hp)(a:Addr)(ns:List Int)(hl:ns.length<=63)(hS:dF K H a (ns.map V.int)):spD K 1 m_law [.ref a] H (λv _=>v=.bl true) λ_ _ _=>False:=by
 refine⟨rfl,H,[.lst (ns.map D.int)],az.refl _,Reps.cons (ay.mpr ⟨a,_,rfl,hS,iQ ns⟩) Reps.nil,?_⟩;rw[wU ns hl];exact λv H' Ha' _ r=>aE.mp r
end K66
structure PySem.W.Fast:Prop where(tw8220881389134939235 tw8352273470857075802 tw9973457442593997621 tw13970655831902094802 tw13047745862402603627 tw8020888790465382269 tw17948864195650511439 tw8114919644392188676 tw4574667451018894842 tw4476984291611110791 tw12669370327736353131 tw13750058448009186360 tw14293411236054187202 tw15134748741010540334 tw13502587171110574648 tw15191850243378628620 tw10181811699787346090 tw3800410196680984741 tw7939294868285971436 tw12026777054095140272 tw1062124441932689035 tw16939010381497207084 tw17180969790961167604 tw896695771761593270 tw3539435842793269138 tw8975817382493909750 tw4609859748414054183 tw7136443527988398754 tw14082625140412179489 tw7448098037872715920 tw9213410175194278263 tw5620416632839846734 tw14743318138342848696 tw11474693362531483921 tw18200570412161174635 tw7855422782027762506 tw14778236313223783459 tw678557382283877758 tw12058063156545475769 tw7735505817109272283 tw13204012679242296249 tw453069742000218680 tw849039068814324467 tw7566667157172276267 tw17318220674440899948 tw6041338065994828486 tw6631160974023901437 tw7193500141459302143 tw4640320910793256077 tw9470182771040079593 tw5285612932697584330 tw14423229117660976842 tw14335894640571951627 tw940807116182447581 tw1040133814586663318 tw13720211912837008838 tw11155984065642456770 tw8734089848880855543 tw12191179940753051602 tw10718952191003092087 tw3315249597977689719 tw11001113097267194879 tw12365371804021122134 tw14452380567584033437 tw15389711497562455725 tw1262919653358125155 tw1718865926594834494 tw2242816873314640594 tw8594072999916559177 tw986108017982707450:True)
open PySem PySem.W PyProof.Rows
set_option maxRecDepth 100000 in
set_option maxHeartbeats 0 in
theorem PySem.Challenge.cw_farthestcut_k66_treads_joined_holds : PySem.Challenge.rw_farthestcut_k66_treads_joined.Holds := by
 w_on;o_law;k_head;(case hw=>w_witness2)
 k_fill
 refine L2.walk_ofK (l:=PySem.Challenge.rw_farthestcut_k66_treads_joined) (n:=63) (k:=8) (x:="_law_script") (CX:=L2.CX0) (sp:=fun K=>DL.spD K 1 K66.m_law) ?I rfl (by decide) rfl ⟨rfl,by decide,by decide,rfl⟩ (fun w h Y=>W.kIn_of Y) ?F ?S ?C
 case S=>exact fun K H a ns hl _ hS=>K66.sp_law K H a ns hl hS
 case C=>exact fun _ _ _ _ h=>h
 case I=>rfl
 case F =>
  intro w mg fa h KX G hmg;have T:∃ t:K66.Adr,K66.Txt (L2.KOf KX) mg t/\mg "law"=some (.ref (t.A 26))/\∃ kV doc pm an cdv ct,t.Q 26=W.fnOf "law" "law" (L2.defArgs (K66.top 39)) (L2.defBody (K66.top 39)) (L2.defScope (K66.top 39)) .none kV doc pm an cdv ct:=by
   dsimp only[L2.KOf];refine' K66.txt_wr (K66.txt_mk KX G ?QS ?_ ?_ ?_ ?_ ?_ ?_ ?_ ?_ ?_ ?_ ?_ ?_ ?_ ?_ ?_ ⟨?_,?_,?_,?_⟩ ⟨?_,?_,?_,?_⟩ ⟨?_,?_,?_,?_⟩ ⟨⟨?_,?_,?_,?_⟩,?_,?_,?_,?_,?_,?_,?_,?_,?_,?_,?_,?_,?_⟩ (K66.sbc ?_ (K66.sbc ?_ (K66.sbc ?_ (K66.sbc ?_ trivial)))))
   case' QS=>iterate 27 refine DL.QAs.cons ⟨by k_is,by k_is,_,_,_,_,_,_,_,_,_,by k_is,by k_is⟩ ?_
   case QS=>trivial
   all_goals try first |k_is |k_exc |rfl
  obtain⟨t,T,e0,kV,doc,pm,an,cdv,ct,ed⟩:=T;have e1:=hmg.symm.trans e0;cases e1;refine⟨t.Q 26,fun s u=>?_,fun base kb nb=>(K66.ok_law T).F⟩;rw[ed];exact .of_eq rfl
