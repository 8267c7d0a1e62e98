import PyProof.Rows.All
import Wide.All
import OpenK.AllK
import Wide.FinOn
import PyProof.EqAt
import PyProof.EqKinds
import PyProof.NeKinds
import PyProof.TupleCall
import PyProof.StrWalks
import PyProof.EnumMake
import PyProof.WalksEnum
import PyProof.ZipIter
import PyProof.Rows.ZipGen
import PyProof.Rows.SortWalk
import KE.KSortedM
import PyProof.StrLawsIdx
import PyProof.StrLawsNeg
import PyProof.ExcInit
import PyProof.InstStoreFacts
import PyProof.AttrMissHeap
import PyProof.FactsAll.enumerate
import PyProof.FactsAll.dict_1
import KE.KDictOf
import KE.KItemsList
import PyProof.ReprRoads
import KE.LcSums
import PyProof.AttrMissSeq
import PyProof.TupleIter
import PyProof.WalksMore
import PyProof.ExcClass2
import PyProof.Rows.MatchSeqLen
import PyProof.FactsAll.zip_1
import KE.KRevIter
import PyProof.DictWalks
import PyProof.DictItemsLoops
import KE.KPairComp
import PyProof.FitsInt
import PySem.Challenge.RW_farthestcut_k61_turned_about_and_scaled
set_option compiler.extract_closed false
set_option bootstrap.genMatcherCode false
set_option Elab.async false
set_option linter.all false
set_option maxRecDepth 100000
set_option maxHeartbeats 4000000
noncomputable section
abbrev bi:=List Nat
namespace L2
open PySem PySem.Spec PyProof.Rows
abbrev cq:=Sum Int Str
def qS:cq->Value->Bool
 |.inl k,v=>Value.isInt k v
 |.inr x,v=>Value.isStrOf x v
def Lz(w:World):cq->Int
 |.inl k=>hashInt k
 |.inr x=>hashStr w x
theorem cj:∀{k:cq}{v:Value},qS k v=true->(∃i t,k=Sum.inl i/\v=Value.int i t)∨(∃x t,k=Sum.inr x/\v=Value.str x t)
 |.inl i,v,h=>by
  obtain⟨t,e⟩:=Value.isInt_shape (k:=i) (v:=v) h;exact .inl ⟨i,t,rfl,e⟩
 |.inr x,v,h=>by
  obtain⟨t,e⟩:=Value.isStrOf_shape (x:=x) (v:=v) h;exact .inr ⟨x,t,rfl,e⟩
def ze(i:Int)(t:Tok):qS (.inl i) (.int i t)=true:=by simp[qS,Value.isInt]
def zd(x:Str)(t:Tok):qS (.inr x) (.str x t)=true:=by simp[qS,Value.isStrOf]
def G1(a b:Int):decide ((Sum.inl a:cq)=Sum.inl b)=(a==b):=by
 by_cases e:a=b
 .subst e;simp
 .have h:¬(Sum.inl a:cq)=Sum.inl b:=λq=>e (Sum.inl.inj q)
  rw[decide_eq_false h];exact(beq_eq_false_iff_ne.mpr e).symm
def GY(a b:Str):decide ((Sum.inr a:cq)=Sum.inr b)=decide (a=b):=by
 by_cases e:a=b
 .subst e;simp
 .have h:¬(Sum.inr a:cq)=Sum.inr b:=λq=>e (Sum.inr.inj q)
  rw[decide_eq_false h,decide_eq_false e]
def G0(a:Int)(b:Str):decide ((Sum.inl a:cq)=Sum.inr b)=false:=decide_eq_false (λq=>nomatch q)
def GZ(a:Str)(b:Int):decide ((Sum.inr a:cq)=Sum.inl b)=false:=decide_eq_false (λq=>nomatch q)
noncomputable def ck(prog:Program) (w:World):PySem.KeyKind prog w cq where
 is:=qS
 hash:=Lz w
 inj:=λv a b ha hb=>by
  rcases cj ha with⟨i,t,rfl,rfl⟩|⟨x,t,rfl,rfl⟩
  .rcases cj hb with⟨j,u,rfl,e⟩|⟨y,u,rfl,e⟩
   .injection e with e1 _;rw[e1]
   .exact nomatch e
  .rcases cj hb with⟨j,u,rfl,e⟩|⟨y,u,rfl,e⟩
   .exact nomatch e
   .injection e with e1 _;rw[e1]
 byValue:=λk v h=>by
  rcases cj h with⟨i,t,rfl,rfl⟩|⟨x,t,rfl,rfl⟩<;>rfl
 pyHash:=λhv h=>by
  rcases cj hv with⟨i,t,rfl,rfl⟩|⟨x,t,rfl,rfl⟩
  .exact wpAny_pyHash_int h
  .exact wpAny_pyHash_str h
 eqBool:=λhu hv h=>by
  rcases cj hu with⟨i,t,rfl,rfl⟩|⟨x,t,rfl,rfl⟩
  .rcases cj hv with⟨j,u,rfl,rfl⟩|⟨y,u,rfl,rfl⟩
   .rw[G1]at h;exact wpAny_eqBool_int h
   .rw[G0]at h;exact SeqAt.EqAt.int_str i t y u _ _ _ _ h
  .rcases cj hv with⟨j,u,rfl,rfl⟩|⟨y,u,rfl,rfl⟩
   .rw[GZ]at h;exact SeqAt.EqAt.str_int x t j u _ _ _ _ h
   .rw[GY]at h;exact wpAny_eqBool_str h
 «strs»:=λk x t v h=>by
  rcases cj h with⟨i,u,rfl,e⟩|⟨y,u,rfl,e⟩
  .exact nomatch e
  .injection e with e1 _
   subst e1;cases v<;>rfl
def uB(prog:Program)(w:World)(i:Int)(t:Tok):(ck prog w).is (.inl i) (.int i t)=true:=ze i t
def uA(prog:Program)(w:World)(x:Str)(t:Tok):(ck prog w).is (.inr x) (.str x t)=true:=zd x t
inductive V where
 |non|bl (b:Bool)|int (i:Int)|str (x:Str)|byt (b:Array UInt8)|flt (b:UInt64)|ref (a:Addr)|ty (n:String)
 deriving DecidableEq
abbrev ad:=List V
noncomputable def bq:V->Value->Prop
 |.non,u=>u=Value.none
 |.bl b,u=>u=Value.bool b
 |.int i,u=>∃t,u=Value.int i t
 |.str x,u=>∃t,u=Value.str x t
 |.byt b,u=>∃t,u=Value.bytes b t
 |.flt b,u=>∃t,u=Value.float b t
 |.ref a,u=>u=Value.ref a
 |.ty n,u=>u=Value.type n
abbrev bo:ad->List Value->Prop:=Paired bq
def bo.length{xs:ad}{us:List Value}(r:bo xs us):xs.length=us.length:=Paired.length r
theorem bo.get:∀{xs:ad}{us:List Value}{i:Nat}{x:V},bo xs us->xs[i]?=some x->∃u,us[i]?=some u/\bq x u
 |_,_,_,_,.nil,e=>by simp at e
 |_,_,0,_,.cons r _,e=>by simp at e;subst e;exact⟨_,rfl,r⟩
 |_,_,i+1,x,.cons _ t,e=>by
  obtain⟨u,h1,h2⟩:=bo.get (i:=i) (x:=x) t (by simpa using e);exact⟨u,by simpa using h1,h2⟩
theorem bo.append:∀{xs ys:ad}{us ws:List Value},bo xs us->bo ys ws->bo (xs++ys) (us++ws)
 |_,_,_,_,.nil,s=>s
 |_,_,_,_,.cons r t,s=>.cons r (bo.append t s)
theorem bo.take:∀{xs:ad}{us:List Value}(n:Nat),bo xs us->bo (xs.take n) (us.take n)
 |_,_,0,_=>.nil
 |_,_,_+1,.nil=>.nil
 |_,_,n+1,.cons r t=>.cons r (bo.take n t)
theorem bo.drop:∀{xs:ad}{us:List Value}(n:Nat),bo xs us->bo (xs.drop n) (us.drop n)
 |_,_,0,r=>r
 |_,_,_+1,.nil=>.nil
 |_,_,n+1,.cons _ t=>bo.drop n t
def pU:Option V->Option Value->Prop
 |some v,some u=>bq v u
 |none,none=>True
 |_,_=>False
def KV{κ:Type}:List (κ×V)->List (κ×Value)->Prop:=Paired λ(p:κ×V) (q:κ×Value)=>p.1=q.1/\bq p.2 q.2
def kV:cq->V
 |.inl i=>.int i
 |.inr x=>.str x
inductive HO where
 |lst (xs:ad)
 |tup (xs:ad)
 |dK (kvs:List (cq×V))|dT (kvs:List (List cq×V))
 |set (S:Int->Bool) (n:Nat)
 |ins (C dx:Addr) (fs:List (Str×V))
 |own (x:Addr)
 |xd (fs:List (Str×V))
 |met (f x:Addr)
 |rng (lo hi:Int)
 |frz (o:Obj) (u:HO)
 |tbl (ps:Array Value)
 |ext (φ:Heap->Prop)
abbrev Hp:=Addr->Option HO
def upd(H:Hp)(a:Addr)(o:HO):Hp:=λb=>if b=a then some o else H b
def aG{H:Hp}{a:Addr}{o:HO}:upd H a o a=some o:=by unfold upd;rw[if_pos rfl]
def aC{H:Hp}{a b:Addr}{o:HO}(h:b≠a):upd H a o b=H b:=by unfold upd;rw[if_neg h]
def JP{H:Hp}{a b:Addr}{o u:HO}(h:H a=some o)(h':H b=some u)(d:o≠u):a≠b:=by
 intro e;subst e;rw[h]at h';exact d (Option.some.inj h')
def bu{H:Hp}{a b:Addr}{o:HO}(h:H a=some o)(h':H b=none):a≠b:=by
 intro e;subst e;rw[h]at h';cases h'
section
variable (P:Program) (w:World)
noncomputable def bJ(H:Hp) (h:Heap) (a:Addr):HO->Prop
 |.lst xs=>xs.length<=sizeLine/\∃(its:List Value) (n:Nat),bo xs its/\h.get? a=some { cls:=.type "list",data:=.seq its.toArray n }
 |.tup xs=>xs.length<=sizeLine/\∃its:List Value,bo xs its/\IsTup h a its.toArray
 |.dK kvs=>kvs.length<=sizeLine/\(a==sysModules)=false/\∃vs,KV kvs vs/\h.DictOf (ck P w) a vs
 |.dT kvs=>kvs.length<=sizeLine/\(a==sysModules)=false/\∃xs:List (List cq×Addr×Value),
   Paired (λ(p:List cq×V) (q:List cq×Addr×Value)=>p.1=q.1/\H q.2.1=some (.tup (p.1.map kV))/\bq p.2 q.2.2) kvs xs /\
   ∃o es ep,h.get? a=some o/\o.ExactDict/\o.data=.dict es ep/\es.toList=xs.map (entryOfKey (tupleKind (ck P w)))/\(xs.map (·.1)).Nodup
 |.set S n=>h.SetOf (intKind P w) a S n
 |.ins C dx fs=>H dx=some (.own a)/\fs.length<=1000/\dx≠a/\h.get? a=some (W.instObj C dx) /\
   ∃mA,h.Ns1 dx mA/\(∀f,pU (fs.lookup f) (mA f))/\PySem.Within mA (fs.map (·.1))
 |.own _=>∃o,h.get? a=some o
 |.xd fs=>∃mA,h.Ns1 a mA/\∀f,pU (fs.lookup f) (mA f)
 |.rng lo hi=>∃t u v,h.get? a=some { cls:=.type "range",data:=.fields #[.int lo t,.int hi u,.int 1 v] }
 |.frz o u=>h.get? a=some o/\bJ H h a u
 |.tbl ps=>h.get? a=some { cls:=.none,data:=.fields ps }
 |.met f x=>h.get? a=some (W.methodObj (.ref f) (.ref x))
 |.ext φ=>φ h/\(∃o,h.get? a=some o)/\∀h1 h2:Heap,φ h1->(∀o,h1.get? a=some o->h2.get? a=some o)->φ h2
def ka(H:Hp)(h:Heap):Prop:=∀a o,H a=some o->bJ P w H h a o
end
section
variable {P:Program}{w:World}{H H':Hp}{h h':Heap}{a:Addr}{o:HO}
def bJ.lt(x:bJ P w H h a o):a<h.objs.size:=by
 cases o with|lst xs=>obtain⟨_,_,_,_,e⟩:=x;exact Heap.lt_size e|tup xs=>obtain⟨_,_,_,p⟩:=x;exact p.lt|dK kvs|dT kvs=>obtain⟨_,_,_,_,o,_,_,e,_⟩:=x;exact Heap.lt_size e|set S n=>obtain⟨o,_,_,_,e,_⟩:=x;exact Heap.lt_size e|ins C dx fs=>obtain⟨_,_,_,e,_⟩:=x;exact Heap.lt_size e|own y=>obtain⟨_,e⟩:=x;exact Heap.lt_size e|xd fs=>obtain⟨_,⟨_,_,_,e,_⟩,_⟩:=x;exact Heap.lt_size e|rng lo hi=>obtain⟨_,_,_,e⟩:=x;exact Heap.lt_size e|frz ob u=>obtain⟨e,_⟩:=x;exact Heap.lt_size e|tbl ps|met f y=>exact Heap.lt_size (show h.get? a=some _ from x)|ext φ=>obtain⟨_,⟨_,e⟩,_⟩:=x;exact Heap.lt_size e
theorem jT{α β:Type}{F G:α->β->Prop}:∀{lb:List α}{lc:List β},Paired F lb lc->(∀a b,F a b->G a b)->Paired G lb lc
 |_,_,.nil,_=>.nil
 |_,_,.cons r t,f=>.cons (f _ _ r) (jT t f)
def bJ.stay(x:bJ P w H h a o)(k:∀b u,(b=a∨H b=some (.own a))->h.get? b=some u->h'.get? b=some u)
  (ho:∀b,H b=some (.own a)->H' b=some (.own a))(ht:∀b xs,H b=some (.tup xs)->H' b=some (.tup xs)):bJ P w H' h' a o:=by
 induction o with
 |lst xs=>obtain⟨z,its,n,r,e⟩:=x;exact⟨z,its,n,r,k _ _ (.inl rfl) e⟩|tup xs=>obtain⟨z,its,r,ob,e,c⟩:=x;exact⟨z,its,r,ob,k _ _ (.inl rfl) e,c⟩|dK kvs=>obtain⟨z,y,vs,r,ob,es,ep,e,c⟩:=x;exact⟨z,y,vs,r,ob,es,ep,k _ _ (.inl rfl) e,c⟩
 |dT kvs=>
  obtain⟨z,y,xs,r,ob,es,ep,e,c⟩:=x;exact⟨z,y,xs,jT r λp q z=>⟨z.1,ht _ _ z.2.1,z.2.2⟩,ob,es,ep,k _ _ (.inl rfl) e,c⟩
 |set S n=>obtain⟨ob,es,ep,t,e,c⟩:=x;exact⟨ob,es,ep,t,k _ _ (.inl rfl) e,c⟩
 |ins C dx fs=>
  obtain⟨d,z,ne,e,mA,⟨od,es,ep,e2,c⟩,r⟩:=x;exact⟨ho _ d,z,ne,k _ _ (.inl rfl) e,mA,⟨od,es,ep,k _ _ (.inr d) e2,c⟩,r⟩
 |own y=>obtain⟨ob,e⟩:=x;exact⟨ob,k _ _ (.inl rfl) e⟩|xd fs=>obtain⟨mA,⟨od,es,ep,e,c⟩,r⟩:=x;exact⟨mA,⟨od,es,ep,k _ _ (.inl rfl) e,c⟩,r⟩|rng lo hi=>obtain⟨t,u,v,e⟩:=x;exact⟨t,u,v,k _ _ (.inl rfl) e⟩|frz ob u ih=>obtain⟨e,q⟩:=x;exact⟨k _ _ (.inl rfl) e,ih q⟩
 |tbl ps=>
  have e:h.get? a=some { cls:=.none,data:=.fields ps }:=x;show h'.get? a=some { cls:=.none,data:=.fields ps };exact k a _ (.inl rfl) e
 |met f y=>
  have e:h.get? a=some (W.methodObj (.ref f) (.ref y)):=x;show h'.get? a=some (W.methodObj (.ref f) (.ref y));exact k a _ (.inl rfl) e
 |ext φ=>obtain⟨p,⟨o,e⟩,st⟩:=x;exact⟨st _ _ p λo q=>k _ _ (.inl rfl) q,⟨o,k _ _ (.inl rfl) e⟩,st⟩
def ka.lt(x:ka P w H h)(e:H a=some o):a<h.objs.size:=(x a o e).lt
def ka.fresh(x:ka P w H h)(e:h.objs.size<=a):H a=none:=by
 cases q:H a with|none=>rfl|some u=>exact absurd (Nat.lt_of_lt_of_le (x.lt q) e) (Nat.lt_irrefl _)
def ka.kept(x:ka P w H h)(k:∀b u,h.get? b=some u->h'.get? b=some u):ka P w H h':=λa o e=>
 (x a o e).stay (λb u _ q=>k b u q) (λ_ q=>q) λ_ _ q=>q
def ka.laid(x:ka P w H h)(k:∀b u,h.get? b=some u->h'.get? b=some u)(hp:h.objs.size<=a)(new:bJ P w (upd H a o) h' a o):ka P w (upd H a o) h':=λb u e=>by
 have hn:=x.fresh hp
 by_cases hb:b=a
 .subst hb;rw[aG]at e;cases e;exact new
 .rw[aC hb]at e
  exact(x b u e).stay (λc v _ q=>k c v q) (λc q=>by rw[aC (bu q hn)];exact q) λc xs q=>by rw[aC (bu q hn)];exact q
end
def Rd(H:Hp)(a:Addr)(u:HO):Prop:=H a=some u∨∃o,H a=some (.frz o u)
def Rd.ok{P:Program}{w:World}{H:Hp}{h:Heap}{a:Addr}{u:HO}(r:Rd H a u)(x:ka P w H h):bJ P w H h a u:=by
 rcases r with r|⟨o,r⟩
 .exact x a u r
 .obtain⟨_,q⟩:=x a _ r
  exact q
def Kz:Option HO->Prop
 |some (.lst _)=>True
 |some (.dK _)=>True
 |some (.dT _)=>True
 |some (.set _ _)=>True
 |some (.ins _ _ _)=>True
 |some (.ext _)=>True
 |_=>False
section
variable {P:Program}{w:World}{H:Hp}{h h':Heap}{x e:Addr}{o':HO}
def ka.write(ok:ka P w H h)(mu:Kz (H x))(he:e=x∨H e=some (.own x))(k:∀b u,b≠e->h.get? b=some u->h'.get? b=some u)(heo:∃u,h'.get? e=some u)
  (new:bJ P w (upd H x o') h' x o'):ka P w (upd H x o') h':=λb u q=>by
 have nown:∀c y,H c=some (.own y)->c≠x:=λc y r z=>by subst z;rw[r]at mu;exact mu
 have ntup:∀c xs,H c=some (.tup xs)->c≠x:=λc xs r z=>by subst z;rw[r]at mu;exact mu
 by_cases hb:b=x
 .subst hb;rw[aG]at q;cases q;exact new
 .rw[aC hb]at q
  by_cases hbe:b=e
  .have q':H b=some (.own x):=by
    rcases he with z|z
    .exact absurd (hbe.trans z) hb
    .rw[hbe];exact z
   rw[q]at q';cases q';obtain⟨v,hv⟩:=heo;exact⟨v,by rw[hbe];exact hv⟩
  .refine(ok b u q).stay (λc v hc r=>k c v ?_ r) (λc r=>by rw[aC (nown c b r)];exact r) λc xs r=>by rw[aC (ntup c xs r)];exact r
   rcases hc with rfl|hc
   .exact hbe
   .rintro rfl
    rcases he with z|z
    .exact nown c b hc z
    .rw[hc]at z;cases z;exact hb rfl
end
structure Un (fs ex:List Addr) (H H':Hp) (h h':Heap):Prop where
 keep:∀b o,h.get? b=some o->H b=none->b∉fs->b∉ex->h'.get? b=some o
 slot:∀b o,h.get? b=some o->H b=none->b∈fs->b∉ex->∃sl,h'.get? b=some { o with slots:=sl }
 free:∀b o,h.get? b=some o->H b=none->b∉ex->H' b=none
 there:∀b o,h.get? b=some o->b∉ex->∃o',h'.get? b=some o'
 tups:∀b xs,H b=some (.tup xs)->H' b=some (.tup xs)
 frzs:∀b o u,H b=some (.frz o u)->H' b=some (.frz o u)
 tbls:∀b ps,H b=some (.tbl ps)->∃more,H' b=some (.tbl (ps++more))
section
variable {fs fs' ex ex':List Addr}{H H1 H2:Hp}{h h1 h2 h':Heap}{a x e:Addr}{o:HO}
def Un.any(u:Un fs ex H H1 h h1){b:Addr}{ob:Obj}(q:h.get? b=some ob)(n:H b=none)(hx:b∉ex):∃sl,h1.get? b=some { ob with slots:=sl }:=by
 by_cases hb:b∈fs
 .exact u.slot b ob q n hb hx
 .exact⟨ob.slots,u.keep b ob q n hb hx⟩
def Un.kept(k:∀b u,h.get? b=some u->h'.get? b=some u):Un fs ex H H h h' :=
 ⟨λb ob q _ _ _=>k b ob q,λb ob q _ _ _=>⟨ob.slots,k b ob q⟩,λ_ _ _ n _=>n,λb ob q _=>⟨ob,k b ob q⟩,λ_ _ q=>q,λ_ _ _ q=>q,λ_ ps q=>⟨#[],by rw[q];simp⟩⟩
def Un.refl:Un fs ex H H h h:=Un.kept λ_ _ q=>q
def Un.laid(k:∀b u,h.get? b=some u->h'.get? b=some u)(hp:h.objs.size<=a)(hn:H a=none):Un fs ex H (upd H a o) h h' where
 keep:=λb u q _ _ _=>k b u q
 slot:=λb u q _ _ _=>⟨u.slots,k b u q⟩
 free:=λb u q n _=>by rw[aC (Nat.ne_of_lt (Nat.lt_of_lt_of_le (Heap.lt_size q) hp))];exact n
 there:=λb u q _=>⟨u,k b u q⟩
 tups:=λb xs q=>by rw[aC (bu q hn)];exact q
 frzs:=λb u xs q=>by rw[aC (bu q hn)];exact q
 tbls:=λb ps q=>⟨#[],by rw[aC (bu q hn),q];simp⟩
def Un.write(mu:Kz (H x))(he:e=x∨H e=some (.own x))(k:∀b u,b≠e->h.get? b=some u->h'.get? b=some u)(heo:∃u,h'.get? e=some u):Un fs ex H (upd H x o) h h':=by
 have hx:∀b,H b=none->b≠x:=λb n z=>by subst z;rw[n]at mu;exact mu
 have hb:∀b,H b=none->b≠e:=λb n z=>by
  subst z;rcases he with r|r
  .exact hx b n r
  .rw[n]at r;cases r
 have hm:∀b u,H b=some u->¬Kz (some u)->b≠x:=λb u q nm z=>by subst z;rw[q]at mu;exact nm mu
 refine⟨λb u q n _ _=>k b u (hb b n) q,λb u q n _ _=>⟨u.slots,k b u (hb b n) q⟩,λb u q n _=>by rw[aC (hx b n)];exact n,λb u q _=>?_,
  λb xs q=>by rw[aC (hm b _ q λz=>z)];exact q,λb u xs q=>by rw[aC (hm b _ q λz=>z)];exact q,λb ps q=>⟨#[],by rw[aC (hm b _ q λz=>z),q];simp⟩⟩
 by_cases hbe:b=e
 .subst hbe;exact heo
 .exact⟨u,k b u hbe q⟩
end
def KL(h:Heap)(H:Hp):List Addr:=(List.range h.objs.size).filter λa=>(H a).isSome
def sI(h:Heap)(H:Hp):Heap:=W.hideAll h (KL h H)
def zk(h:Heap)(H:Hp):(sI h H).objs.size=h.objs.size:=W.hideAll_size _ _
def BE{h:Heap}{H:Hp}{b:Addr}{o:Obj}(e:h.get? b=some o)(n:H b=none):(sI h H).get? b=some o :=
 W.hideAll_get _ e λhm=>by
  have q:(H b).isSome=true:=(List.mem_filter.mp hm).2;rw[n]at q;simp at q
def Dy{h:Heap}{H:Hp}{b:Addr}{o:Obj}(e:(sI h H).get? b=some o):h.get? b=some o/\H b=none:=by
 have e':h.get? b=some o:=W.of_hideAll (KL h H) e;refine⟨e',?_⟩;cases q:H b with
 |none=>rfl
 |some x=>
  have hm:b∈KL h H:=List.mem_filter.mpr ⟨List.mem_range.mpr (Heap.lt_size e'),by simp[q]⟩;have z:(sI h H).get? b=none:=W.hideAll_none (KL h H) hm;rw[z]at e;cases e
structure Mod (K:W.Frag) (mg:Str->Option Value) (base:Heap):Prop where
 kin:K.In base
 glob:base.Ns mainGlobals mg
 blt:∃mb,base.Ns builtinsNs mb/\∀x:Str,x≠"__name__"->mb x=bootBuiltins x
 nolimit:base.NoLimit
 sm:∃mm,base.Ns sysModules mm
structure Cx where
 prog:Program
 w:World
 K:W.Frag
 mg:Str->Option Value
 base:Heap
 A:Around
 N:List Str
 sf:Shared
 Ha:Hp
 env:Env
 outer:List Env
 stack:List Env
 ex:List Addr
 fn:Str->Bool
 calm:Bool
 pn:List (Addr×Obj)
 xe:Value->Shared->Prop
def zP(l:List Env):List Addr:=l.filterMap (·.frame)
abbrev Cx.fs(X:Cx):List Addr:=zP X.outer
def zI(sc:Scope)(x:Str):Prop:=sc.names.lookup x=some .local ∨ sc.names.lookup x=some .cell∨sc.names.lookup x=some .free
def zM(sc:Scope)(x:Str):Prop:=sc.names.lookup x=some .local ∨ sc.names.lookup x=some .cell
def LR(env:Env)(h:Heap)(m:Str->Option Value)(x:Str)(u:Value):Prop :=
 (env.kindOf x=some .local /\ m x=some u)∨((env.kindOf x=some .cell∨env.kindOf x=some .free)/\∃c,env.cells.lookup x=some c/\h.IsCell c (some u))
structure Cx.Ok (X:Cx):Prop where
 mod:Mod X.K X.mg X.base
 kind:X.env.scope.kind=.function
 glob:X.env.globals=mainGlobals
 blt:X.env.builtins=builtinsNs
 above:X.sf.heap.objs.size<=X.env.locals
 inj:∀x y c,X.env.cells.lookup x=some c->X.env.cells.lookup y=some c->x=y
 has:∀x,(X.env.kindOf x=some .cell∨X.env.kindOf x=some .free)->∃c,X.env.cells.lookup x=some c
 cab:∀x c,X.fn x=true->X.env.cells.lookup x=some c->X.sf.heap.objs.size<=c
 hd:X.calm=true->X.A.handled=none
 frames:X.A.frames=some X.stack
 stk:X.stack=X.outer∨(X.stack=X.env::X.outer/\X.env.frame=some X.env.locals)
 exf:∀b∈X.ex,b≠X.env.locals/\∀x c,X.env.cells.lookup x=some c->c≠b
 bs:∀b o,X.base.get? b=some o->X.sf.heap.get? b=some o/\X.Ha b=none
 bsz:X.base.objs.size<=X.sf.heap.objs.size
 noex:∀b o,X.base.get? b=some o->b∉X.ex
 exfs:∀b∈X.ex,b∉X.fs
 funs:X.sf.heap.FunFrames X.base X.outer
 frf:∀b∈X.fs,X.Ha b=none
structure Inv (X:Cx) (pins:List (Addr×Obj)) (σ:List (Option V)) (H:Hp) (s:Shared):Prop where
 ok:X.Ok
 os:s.os=X.sf.os
 bare:AllBare s.gens
 base:Un X.fs X.ex X.Ha H X.sf.heap s.heap
 loc:∃m,s.heap.Ns X.env.locals m/\∀(i:Nat) (x:Str) (v:V),X.N[i]?=some x->σ[i]?=some (some v)->zI X.env.scope x->∃u,bq v u/\LR X.env s.heap m x u
 cell:∀x c,X.env.cells.lookup x=some c->∃v,s.heap.IsCell c v
 free:H X.env.locals=none
 freeC:∀x c,X.env.cells.lookup x=some c->H c=none
 pin:∀p∈X.pn++pins,s.heap.get? p.1=some p.2/\H p.1=none/\p.1≠X.env.locals/\p.1∉X.fs/\∀v,p.2.data≠.cell v
 hok:ka X.prog X.w H s.heap
 len:σ.length=X.N.length
section
variable {X:Cx}{pins:List (Addr×Obj)}{σ:List (Option V)}{H H':Hp}{s:Shared}{h':Heap}
def Cx.Ok.nofr(ok:X.Ok){b:Addr}{o:Obj}(e:X.base.get? b=some o):b∉X.fs:=λhb=>by
 have:=(ok.funs.mem hb).1;rw[e]at this;cases this
def Inv.bs(I:Inv X pins σ H s):∀b o,X.base.get? b=some o->s.heap.get? b=some o/\H b=none:=λb o e=>
 ⟨I.base.keep b o (I.ok.bs b o e).1 (I.ok.bs b o e).2 (I.ok.nofr e) (I.ok.noex b o e),I.base.free b o (I.ok.bs b o e).1 (I.ok.bs b o e).2 (I.ok.noex b o e)⟩
def Inv.bk(I:Inv X pins σ H s):∀b o,X.base.get? b=some o->s.heap.get? b=some o:=λb o e=>(I.bs b o e).1
def Inv.mod(I:Inv X pins σ H s):Mod X.K X.mg X.base:=I.ok.mod
def Inv.kIn(I:Inv X pins σ H s):X.K.In s.heap:=I.ok.mod.kin.keeps I.bk
def Inv.lt(I:Inv X pins σ H s):X.env.locals<s.heap.objs.size:=let ⟨_,hn,_⟩:=I.loc;hn.lt
def Inv.sz(I:Inv X pins σ H s):X.sf.heap.objs.size<=s.heap.objs.size:=Nat.le_trans I.ok.above (Nat.le_of_lt I.lt)
def Inv.nofs(I:Inv X pins σ H s){a:Addr}(h:s.heap.objs.size<=a):a∉X.fs:=λhb=>by
 obtain⟨_,o,ho,_⟩:=I.ok.funs.mem hb;exact absurd (Nat.lt_of_lt_of_le (Heap.lt_size ho) (Nat.le_trans I.sz h)) (Nat.lt_irrefl _)
def Inv.cne(I:Inv X pins σ H s):∀x c,X.env.cells.lookup x=some c->c≠X.env.locals:=λx c e z=>by
 obtain⟨v,o,ho,hd⟩:=I.cell x c e;obtain⟨m,⟨o',es,ep,ho',hd',_⟩,_⟩:=I.loc;rw[z,ho']at ho;cases ho;rw[hd']at hd;cases hd
def Inv.funs(I:Inv X pins σ H s):s.heap.FunFrames X.base X.outer:=by
 have all:∀(l:List Env),(∀b∈zP l,b∈X.fs)->X.sf.heap.FunFrames X.base l->s.heap.FunFrames X.base l:=by
  intro l
  induction l with
  |nil=>intro _ _;trivial
  |cons env r ih=>
   intro hs hl;obtain⟨hk,⟨L,o,hf,hn,ho,hd⟩,hr⟩:=hl;have hL:L∈X.fs:=hs L (by unfold zP;rw[List.filterMap_cons,hf];exact List.mem_cons_self);obtain⟨sl,e⟩:=I.base.slot L o ho (I.ok.frf L hL) hL λz=>I.ok.exfs L z hL;exact⟨hk,⟨L,_,hf,hn,e,hd⟩,ih (λb hb=>hs b (by unfold zP;rw[List.filterMap_cons,hf];exact List.mem_cons_of_mem _ hb)) hr⟩
 exact all X.outer (λ_ hb=>hb) I.ok.funs
def Inv.stack(I:Inv X pins σ H s):s.heap.FunFrames X.base X.stack:=by
 rcases I.ok.stk with e|⟨e,hf⟩
 .rw[e];exact I.funs
 .rw[e]
  obtain⟨m,hn,_⟩:=I.loc;refine .cons (by rw[I.ok.kind];decide) hf hn ?_ I.funs;exact Heap.get?_none_of_le (Nat.le_trans I.ok.bsz I.ok.above)
def Inv.stkSub(I:Inv X pins σ H s):∀b∈zP X.stack,b∈X.env.locals::X.fs:=λb hb=>by
 rcases I.ok.stk with e|⟨e,hf⟩
 .rw[e]at hb;exact List.mem_cons_of_mem _ hb
 .rw[e]at hb
  unfold zP at hb;rw[List.filterMap_cons,hf]at hb;exact hb
def Inv.stkFree(I:Inv X pins σ H s):∀b∈zP X.stack,H b=none:=λb hb=>by
 rcases List.mem_cons.mp (I.stkSub b hb) with e|hb
 .rw[e];exact I.free
 .obtain⟨_,o,ho,_⟩:=I.ok.funs.mem hb
  exact I.base.free b o ho (I.ok.frf b hb) λz=>I.ok.exfs b z hb
def Inv.step{g':Array GenState}{t':Nat}{d':Drawn}{ch:List Addr}(I:Inv X pins σ H s)
  (hch:∀b∈ch,(b∈X.ex∨X.sf.heap.objs.size<=b)/\b≠X.env.locals/\(∀x c,X.env.cells.lookup x=some c->c≠b)/\∀p∈X.pn++pins,p.1≠b)
  (keep:∀b o,b≠X.env.locals->b∉X.fs->b∉ch->s.heap.get? b=some o->H b=none->h'.get? b=some o)
  (slot:∀b o,b≠X.env.locals->b∈X.fs->b∉ch->s.heap.get? b=some o->H b=none->∃sl,h'.get? b=some { o with slots:=sl })(free:∀b o,b∉ch->s.heap.get? b=some o->H b=none->H' b=none)
  (there:∀b o,b∉ch->s.heap.get? b=some o->∃o',h'.get? b=some o')
  (tups:∀b xs,H b=some (.tup xs)->H' b=some (.tup xs))(frzs:∀b o u,H b=some (.frz o u)->H' b=some (.frz o u))(tbls:∀b ps,H b=some (.tbl ps)->∃more,H' b=some (.tbl (ps++more)))
  (ns:∀m,s.heap.Ns X.env.locals m->h'.Ns X.env.locals m)(hok:ka X.prog X.w H' h')(hg:AllBare g') :
  Inv X pins σ H' { s with heap:=h',gens:=g',drawn:=d',toks:=t' }:=by
 have neL:∀b o,X.sf.heap.get? b=some o->b≠X.env.locals:=λb o e=>Nat.ne_of_lt (Nat.lt_of_lt_of_le (Heap.lt_size e) I.ok.above);have neC:∀b o,X.sf.heap.get? b=some o->b∉X.ex->b∉ch:=λb o e hx hb=>by
  rcases(hch b hb).1 with z|z
  .exact hx z
  .exact absurd (Nat.lt_of_lt_of_le (Heap.lt_size e) z) (Nat.lt_irrefl _)
 have cellK:∀x c,X.env.cells.lookup x=some c->∀v,s.heap.IsCell c v->h'.IsCell c v:=λx c e v z9=>by
  obtain⟨o,ho,hd⟩:=z9;have nch:c∉ch:=λz=>(hch c z).2.2.1 x c e rfl
  by_cases hc:c∈X.fs
  .obtain⟨sl,q⟩:=slot c o (I.cne x c e) hc nch ho (I.freeC x c e)
   exact⟨_,q,hd⟩
  .exact⟨o,keep c o (I.cne x c e) hc nch ho (I.freeC x c e),hd⟩
 refine⟨I.ok,I.os,hg,⟨λb o e n hb hx=>?_,λb o e n hb hx=>?_,λb o e n hx=>?_,λb o e hx=>?_,λb xs e=>tups b xs (I.base.tups b xs e),λb o xs e=>frzs b o xs (I.base.frzs b o xs e),λb ps e=>?_⟩,?_,λx c e=>?_,?_,λx c e=>?_,λp hp=>?_,hok,I.len⟩
 .exact keep b o (neL b o e) hb (neC b o e hx) (I.base.keep b o e n hb hx) (I.base.free b o e n hx)
 .obtain⟨sl,e1⟩:=I.base.slot b o e n hb hx
  obtain⟨sl',e2⟩:=slot b _ (neL b o e) hb (neC b o e hx) e1 (I.base.free b o e n hx);exact⟨sl',e2⟩
 .obtain⟨o',e1⟩:=I.base.there b o e hx
  exact free b o' (neC b o e hx) e1 (I.base.free b o e n hx)
 .obtain⟨o',e1⟩:=I.base.there b o e hx
  exact there b o' (neC b o e hx) e1
 .obtain⟨m1,e1⟩:=I.base.tbls b ps e
  obtain⟨m2,e2⟩:=tbls b _ e1;exact⟨m1++m2,by rw[e2,Array.append_assoc]⟩
 .obtain⟨m,hn,hl⟩:=I.loc
  refine⟨m,ns m hn,λi x v e1 e2 e3=>?_⟩;obtain⟨u,r,l⟩:=hl i x v e1 e2 e3;refine⟨u,r,?_⟩;rcases l with l|⟨k,c,e,z⟩
  .exact .inl l
  .exact .inr ⟨k,c,e,cellK x c e _ z⟩
 .obtain⟨v,z⟩:=I.cell x c e
  exact⟨v,cellK x c e v z⟩
 .obtain⟨m,⟨o,_,_,ho,_⟩,_⟩:=I.loc
  exact free _ o (λz=>(hch _ z).2.1 rfl) ho I.free
 .obtain⟨v,o,ho,hd⟩:=I.cell x c e
  exact free c o (λz=>(hch c z).2.2.1 x c e rfl) ho (I.freeC x c e)
 .obtain⟨e,n,ne,nf,d⟩:=I.pin p hp
  have nch:p.1∉ch:=λz=>(hch p.1 z).2.2.2 p hp rfl;exact⟨keep p.1 p.2 ne nf nch e n,free p.1 p.2 nch e n,ne,nf,d⟩
def Inv.un{t':Nat}(I:Inv X pins σ H s)(u:Un X.fs [] H H' s.heap h')(hok:ka X.prog X.w H' h'):Inv X pins σ H' { s with heap:=h',toks:=t' }:=by
 obtain⟨m,⟨o,es,ep,ho,r⟩,_⟩:=id I.loc;obtain⟨sl,hL⟩:=u.any ho I.free (by simp);exact I.step (g':=s.gens) (d':=s.drawn) (ch:=[]) (λ_ z=>nomatch z) (λb o _ hb _ e n=>u.keep b o e n hb (by simp)) (λb o _ hb _ e n=>u.slot b o e n hb (by simp)) (λb o _ e n=>u.free b o e n (by simp)) (λb o _ e=>u.there b o e (by simp)) u.tups u.frzs u.tbls (λm' hm=>by
  obtain⟨o',es',ep',ho',r'⟩:=hm;rw[ho]at ho';cases ho';exact⟨_,es',ep',hL,r'⟩) hok I.bare
def Inv.call{g':Array GenState}{t':Nat}{d':Drawn}{ch:List Addr}(I:Inv X pins σ H s)(u:Un (zP X.stack) ch H H' s.heap h')(hok:ka X.prog X.w H' h')(hg:AllBare g')
  (hch:∀b∈ch,(b∈X.ex∨X.sf.heap.objs.size<=b)/\b≠X.env.locals/\(∀x c,X.env.cells.lookup x=some c->c≠b)/\∀p∈X.pn++pins,p.1≠b) :
  Inv X pins σ H' { s with heap:=h',gens:=g',drawn:=d',toks:=t' }:=by
 obtain⟨m,⟨o,es,ep,ho,r⟩,_⟩:=id I.loc;obtain⟨sl,hL⟩:=u.any ho I.free λz=>(hch _ z).2.1 rfl;exact I.step (ch:=ch) hch (λb o hL hb hc e n=>u.keep b o e n (λz=>(List.mem_cons.mp (I.stkSub b z)).elim hL hb) hc) (λb o _ _ hc e n=>u.any e n hc) (λb o hc e n=>u.free b o e n hc) (λb o hc e=>u.there b o e hc) u.tups u.frzs u.tbls (λm' hm=>by
  obtain⟨o',es',ep',ho',r'⟩:=hm;rw[ho]at ho';cases ho';exact⟨_,es',ep',hL,r'⟩) hok hg
def Inv.turned{t':Nat}{it:Addr}(I:Inv X pins σ H s)(k:∀b o,b≠it->s.heap.get? b=some o->h'.get? b=some o)(hn:H it=none)(hL:it≠X.env.locals)
  (h1:it∈X.ex∨X.sf.heap.objs.size<=it)(h2:∀x c,X.env.cells.lookup x=some c->c≠it)(h3:∀p∈X.pn++pins,p.1≠it):Inv X pins σ H { s with heap:=h',toks:=t' }:=by
 have nit:∀b u,H b=some u->b≠it:=λb u e z=>by rw[z,hn]at e;cases e
 refine I.step (g':=s.gens) (d':=s.drawn) (ch:=[it]) (λb hb=>?_) (λb o _ _ hc e _=>k b o (λz=>hc (by simp[z])) e) (λb o _ _ hc e _=>⟨o.slots,k b o (λz=>hc (by simp[z])) e⟩) (λ_ _ _ _ n=>n)
  (λb o hc e=>⟨o,k b o (λz=>hc (by simp[z])) e⟩) (λ_ _ e=>e) (λ_ _ _ e=>e) (λb ps e=>⟨#[],by rw[e];simp⟩) (λm hm=>?_) (λb u e=>?_) I.bare
 .have e:b=it:=by simpa using hb
  subst e;exact⟨h1,hL,h2,h3⟩
 .obtain⟨o,es,ep,ho,r⟩:=hm
  exact⟨o,es,ep,k _ o (Ne.symm hL) ho,r⟩
 .refine(I.hok b u e).stay (λc v hc q=>k c v ?_ q) (λ_ q=>q) λ_ _ q=>q
  rcases hc with z|z
  .rw[z];exact nit b u e
  .exact nit c _ z
def Inv.tok(I:Inv X pins σ H s)(t:Nat):Inv X pins σ H { s with toks:=t }:=I.un (h':=s.heap) (t':=t) Un.refl I.hok
def Inv.kept{t':Nat}(I:Inv X pins σ H s)(k:∀b u,s.heap.get? b=some u->h'.get? b=some u):Inv X pins σ H { s with heap:=h',toks:=t' }:=I.un (Un.kept k) (I.hok.kept k)
def Inv.laid{a:Addr}{o:HO}{t':Nat}(I:Inv X pins σ H s)(k:∀b u,s.heap.get? b=some u->h'.get? b=some u)(hp:s.heap.objs.size<=a)(new:bJ X.prog X.w (upd H a o) h' a o) :
  Inv X pins σ (upd H a o) { s with heap:=h',toks:=t' }:=I.un (Un.laid k hp (I.hok.fresh hp)) (I.hok.laid k hp new)
def Inv.write{x e:Addr}{o:HO}{t':Nat}(I:Inv X pins σ H s)(mu:Kz (H x))(he:e=x∨H e=some (.own x))(k:∀b u,b≠e->s.heap.get? b=some u->h'.get? b=some u)(heo:∃u,h'.get? e=some u)
  (new:bJ X.prog X.w (upd H x o) h' x o):Inv X pins σ (upd H x o) { s with heap:=h',toks:=t' }:=I.un (Un.write mu he k heo) (I.hok.write mu he k heo new)
def Inv.pins_of{pins':List (Addr×Obj)}(I:Inv X pins σ H s)(h:∀p∈pins',s.heap.get? p.1=some p.2/\H p.1=none/\p.1≠X.env.locals/\p.1∉X.fs/\∀v,p.2.data≠.cell v):Inv X pins' σ H s :=
 ⟨I.ok,I.os,I.bare,I.base,I.loc,I.cell,I.free,I.freeC,λp hp=>(List.mem_append.mp hp).elim (λz=>I.pin p (List.mem_append_left _ z)) (h p),I.hok,I.len⟩
def ux{N:List Str}(hN:N.Nodup){i j:Nat}{x:Str}(a:N[i]?=some x)(b:N[j]?=some x):i=j:=by
 obtain⟨h1,e1⟩:=List.getElem?_eq_some_iff.mp a;obtain⟨h2,e2⟩:=List.getElem?_eq_some_iff.mp b;exact(List.getElem_inj hN).mp (e1.trans e2.symm)
def qF{M:Model}{A:Around}{E:Value->Shared->Prop}{i:Nat}{x:Str}{v:V}{u:Value}{Q:Unit->Shared->Prop}(I:Inv X pins σ H s)(hN:X.N.Nodup)(hi:X.N[i]?=some x)(hx:zM X.env.scope x)(r:bq v u)
  (h:∀s',Inv X pins (σ.set i (some v)) H s'->(∃a,Heap.SameBut a s.heap s'.heap/\(a=X.env.locals∨X.env.cells.lookup x=some a))->Q () s')(hf:X.fn x=true∨X.env.scope.names.lookup x=some .local := by first|exact .inl rfl|exact .inr rfl|assumption):wpAny M A (storeName X.env x u) Q E s:=by
 obtain⟨m,hn,hl⟩:=id I.loc;have hcls:(X.env.scope.kind==.class||(X.env.scope.kind==.module&&X.env.locals != X.env.globals))=false:=by rw[I.ok.kind];rfl
 have hiσ:i<σ.length:=by rw[I.len];exact(List.getElem?_eq_some_iff.mp hi).1
 have cne:=I.cne;have tracked:∀{a:Addr}{h':Heap},(∃o,s.heap.get? a=some o/\H a=none)->Heap.SameBut a s.heap h'->ka X.prog X.w H h':=λ{a h'} ha hs b ob e=>by
  obtain⟨_,_,hfree⟩:=ha;refine(I.hok b ob e).stay (λc w' hc q=>(hs.2 c ?_).trans q) (λ_ q=>q) λ_ _ q=>q;rintro rfl;rcases hc with rfl|hc
  .rw[hfree]at e;cases e
  .rw[hfree]at hc;cases hc
 rcases hx with hk|hk
 .refine wpAny_storeName_local hk hn (λh' hn' hs=>?_) hcls
  obtain⟨oL,_,_,hoL,_⟩:=id hn;refine h _ ⟨I.ok,I.os,I.bare,⟨λb o e n hb hx=>?_,λb o e n hb hx=>?_,I.base.free,λb o e hx=>?_,I.base.tups,I.base.frzs,I.base.tbls⟩,⟨_,hn',λj y v' e1 e2 e3=>?_⟩,λy c e=>?_,I.free,I.freeC,λp hp=>?_,tracked ⟨oL,hoL,I.free⟩ hs,by simpa using I.len⟩ ⟨_,hs,.inl rfl⟩
  .exact(hs.2 b (Nat.ne_of_lt (Nat.lt_of_lt_of_le (Heap.lt_size e) I.ok.above))).trans (I.base.keep b o e n hb hx)
  .obtain⟨sl,e1⟩:=I.base.slot b o e n hb hx
   exact⟨sl,(hs.2 b (Nat.ne_of_lt (Nat.lt_of_lt_of_le (Heap.lt_size e) I.ok.above))).trans e1⟩
  .obtain⟨o',e1⟩:=I.base.there b o e hx
   exact⟨o',(hs.2 b (Nat.ne_of_lt (Nat.lt_of_lt_of_le (Heap.lt_size e) I.ok.above))).trans e1⟩
  .by_cases hj:j=i
   .subst hj
    rw[hi]at e1;cases e1;rw[List.getElem?_set_self hiσ]at e2;cases e2;exact⟨u,r,.inl ⟨hk,by simp⟩⟩
   .rw[List.getElem?_set_ne (Ne.symm hj)]at e2
    obtain⟨u',r',q⟩:=hl j y v' e1 e2 e3;refine⟨u',r',?_⟩;rcases q with⟨k,e⟩|⟨k,c,e,z⟩
    .refine .inl ⟨k,?_⟩
     have:y≠x:=λe=>hj (ux hN e1 (e▸hi));simp[this,e]
    .exact .inr ⟨k,c,e,z.sameBut hs (cne y c e)⟩
  .obtain⟨w',z⟩:=I.cell y c e
   exact⟨w',z.sameBut hs (cne y c e)⟩
  .obtain⟨e,n,ne,nf,d⟩:=I.pin p hp
   exact⟨(hs.2 p.1 ne).trans e,n,ne,nf,d⟩
 .have hfn:X.fn x=true:=by
   rcases hf with z|z
   .exact z
   .rw[z]at hk;cases hk
  obtain⟨c,hc⟩:=I.ok.has x (.inl hk);obtain⟨w',z⟩:=I.cell x c hc;refine wpAny_storeName_cell I.ok.kind hk hc z (λh' hc' hs=>?_);obtain⟨oc,hoc,hocd⟩:=id z;refine h { s with heap:=h' } ⟨I.ok,I.os,I.bare,⟨λb o e n hb hx=>?_,λb o e n hb hx=>?_,I.base.free,λb o e hx=>?_,I.base.tups,I.base.frzs,I.base.tbls⟩,⟨m,hn.sameBut hs (Ne.symm (cne x c hc)),λj y v' e1 e2 e3=>?_⟩,λy c' e=>?_,I.free,I.freeC,λp hp=>?_,tracked ⟨oc,hoc,I.freeC x c hc⟩ hs,by simpa using I.len⟩ ⟨c,hs,.inr hc⟩
  .exact(hs.2 b (Nat.ne_of_lt (Nat.lt_of_lt_of_le (Heap.lt_size e) (I.ok.cab x c hfn hc)))).trans (I.base.keep b o e n hb hx)
  .obtain⟨sl,e1⟩:=I.base.slot b o e n hb hx
   exact⟨sl,(hs.2 b (Nat.ne_of_lt (Nat.lt_of_lt_of_le (Heap.lt_size e) (I.ok.cab x c hfn hc)))).trans e1⟩
  .obtain⟨o',e1⟩:=I.base.there b o e hx
   exact⟨o',(hs.2 b (Nat.ne_of_lt (Nat.lt_of_lt_of_le (Heap.lt_size e) (I.ok.cab x c hfn hc)))).trans e1⟩
  .by_cases hj:j=i
   .subst hj
    rw[hi]at e1;cases e1;rw[List.getElem?_set_self hiσ]at e2;cases e2;exact⟨u,r,.inr ⟨.inl hk,c,hc,hc'⟩⟩
   .rw[List.getElem?_set_ne (Ne.symm hj)]at e2
    obtain⟨u',r',q⟩:=hl j y v' e1 e2 e3;refine⟨u',r',?_⟩;rcases q with q|⟨k,c',e,z'⟩
    .exact .inl q
    .refine .inr ⟨k,c',e,z'.sameBut hs ?_⟩
     rintro rfl;exact hj (ux hN e1 (I.ok.inj _ _ _ e hc▸hi))
  .by_cases hcc:c'=c
   .subst hcc;exact⟨_,hc'⟩
   .obtain⟨w2,z2⟩:=I.cell y c' e
    exact⟨w2,z2.sameBut hs hcc⟩
  .obtain⟨e,n,ne,nf,d⟩:=I.pin p hp
   refine⟨(hs.2 p.1 ?_).trans e,n,ne,nf,d⟩;intro q;rw[q,hoc]at e;have q':oc=p.2:=Option.some.inj e;exact d w' (by rw[←q'];exact hocd)
def kR{M:Model}{A:Around}{E:Value->Shared->Prop}{i:Nat}{x:Str}{v:V}{u:Value}{Q:Unit->Shared->Prop}(I:Inv X pins σ H s)(hN:X.N.Nodup)(hi:X.N[i]?=some x)(hx:zM X.env.scope x)(r:bq v u)
  (h:∀s',Inv X pins (σ.set i (some v)) H s'->Q () s')(hf:X.fn x=true∨X.env.scope.names.lookup x=some .local := by first|exact .inl rfl|exact .inr rfl|assumption):wpAny M A (storeName X.env x u) Q E s :=
 qF I hN hi hx r (λs' I' _=>h s' I') hf
def Inv.call'{s':Shared}{ch:List Addr}(I:Inv X pins σ H s)(ho:s'.os=s.os)(u:Un (zP X.stack) ch H H' s.heap s'.heap)(hok:ka X.prog X.w H' s'.heap)(hg:AllBare s'.gens)
  (hch:∀b∈ch,(b∈X.ex∨X.sf.heap.objs.size<=b)/\b≠X.env.locals/\(∀x c,X.env.cells.lookup x=some c->c≠b)/\∀p∈X.pn++pins,p.1≠b):Inv X pins σ H' s':=by
 obtain⟨h',g',d',t',o'⟩:=s';have e:o'=s.os:=ho;subst e;exact I.call (g':=g') (t':=t') (d':=d') u hok hg hch
end
abbrev XK:=Value->Option Addr->Hp->Prop
abbrev St:=List (Option V)
abbrev VK:=V->Hp->Prop
abbrev TE:=St->Hp->VK->Prop
abbrev TT:=St->Hp->(Bool->Hp->Prop)->Prop
abbrev TA:=St->Hp->(ad->Hp->Prop)->Prop
structure fW where
 nx:St->Hp->Prop
 rt:VK
 bk:St->Hp->Prop:=λ_ _=>False
 ct:St->Hp->Prop:=λ_ _=>False
abbrev TS:=fW->St->Hp->Prop
def EP(X:Cx)(pins:List (Addr×Obj))(σ:St)(Q:VK)(u:Value)(s':Shared):Prop:=∃v H',Inv X pins σ H' s'/\bq v u/\Q v H'
def TP(X:Cx)(pins:List (Addr×Obj))(σ:St)(Q:Bool->Hp->Prop)(b:Bool)(s':Shared):Prop:=∃H',Inv X pins σ H' s'/\Q b H'
def AP(X:Cx)(pins:List (Addr×Obj))(σ:St)(Q:ad->Hp->Prop)(us:List Value)(s':Shared):Prop:=∃vs H',Inv X pins σ H' s'/\bo vs us/\Q vs H'
noncomputable def SP(X:Cx) (pins:List (Addr×Obj)) (D:fW) (f:Flow) (s':Shared):Prop :=
 match f with
 |.next=>∃σ' H',Inv X pins σ' H' s'/\D.nx σ' H'
 |.brk=>∃σ' H',Inv X pins σ' H' s'/\D.bk σ' H'
 |.cont=>∃σ' H',Inv X pins σ' H' s'/\D.ct σ' H'
 |.ret u=>∃v σ' H',Inv X pins σ' H' s'/\bq v u/\D.rt v H'
def PE(X:Cx)(e:Expr)(t:TE):Prop :=
 ∀(pins:List (Addr×Obj)) (s:Shared) (σ:St) (H:Hp) (Q:VK),Inv X pins σ H s->t σ H Q->wpAny (model X.prog X.w) X.A (eval e X.env) (EP X pins σ Q) X.xe s
def PT(X:Cx)(e:Expr)(t:TT):Prop :=
 ∀(pins:List (Addr×Obj)) (s:Shared) (σ:St) (H:Hp) (Q:Bool->Hp->Prop),Inv X pins σ H s->t σ H Q->wpAny (model X.prog X.w) X.A (isTrue e X.env (eval e X.env)) (TP X pins σ Q) X.xe s
def PW(X:Cx)(e:Expr)(t:TT):Prop :=
 ∀(whole:Sem Value) (pins:List (Addr×Obj)) (s:Shared) (σ:St) (H:Hp) (Q:Bool->Hp->Prop),Inv X pins σ H s->t σ H Q->wpAny (model X.prog X.w) X.A (isTrue e X.env whole) (TP X pins σ Q) X.xe s
def PW.pt{X:Cx}{e:Expr}{t:TT}(h:PW X e t):PT X e t:=h _
def PA(X:Cx)(es:List Expr)(t:TA):Prop :=
 ∀(pos:Pos) (pins:List (Addr×Obj)) (s:Shared) (σ:St) (H:Hp) (Q:ad->Hp->Prop),Inv X pins σ H s->t σ H Q->wpAny (model X.prog X.w) X.A (spliced (backTo pos (starEach es X.env))) (AP X pins σ Q) X.xe s
def PS(X:Cx)(st:Stmt)(t:TS):Prop :=
 ∀(pins:List (Addr×Obj)) (s:Shared) (σ:St) (H:Hp) (D:fW),Inv X pins σ H s->t D σ H->wpAny (model X.prog X.w) X.A (exec st X.env) (SP X pins D) X.xe s
def pZ(X:Cx)(st:List Stmt)(t:TS):Prop :=
 ∀(pins:List (Addr×Obj)) (s:Shared) (σ:St) (H:Hp) (D:fW),Inv X pins σ H s->t D σ H->wpAny (model X.prog X.w) X.A (execs st X.env) (SP X pins D) X.xe s
def cR{α:Type}{t:Sem α}{Q Q':α->Shared->Prop}{M:Model}{A:Around}{E:Value->Shared->Prop}{s:Shared}(h:wpAny M A t Q E s)(hQ:∀a s,Q a s->Q' a s):wpAny M A t Q' E s:=wpAny_mono h hQ λ_ _ x=>x
section
variable {X:Cx}
def F3(i:Nat):TE:=λσ H Q=>∃v,σ[i]?=some (some v)/\Q v H
def tC(v:V):TE:=λ_ H Q=>Q v H
def gb{i:Nat}{x:Str}{pos:Pos}(hN:X.N[i]?=some x)(hv:zI X.env.scope x)(hd:(x==("__debug__":Str))=false:=by decide)(hcd:(x==("__classdict__":Str))=false:=by decide):PE X (.Name x pos) (F3 i):=by
 intro pins s σ H Q I h;obtain⟨v,e,h⟩:=h;obtain⟨m,hn,hl⟩:=I.loc;obtain⟨u,r,l⟩:=hl i x v hN e hv;have fin:EP X pins σ Q u s:=⟨v,H,I,r,h⟩
 rcases l with⟨hk,hm⟩|⟨hk,c,hc,hcell⟩
 .exact wpAny_Name (wpAny_loadName_local I.ok.kind hk hn hm fin) hd
 .rcases hk with hk|hk
  .exact wpAny_Name (wpAny_loadName_cell I.ok.kind hk hc hcell fin) hd
  .exact wpAny_Name (wpAny_loadName_free I.ok.kind hk hc hcell fin hcd) hd
def oy{i j pos}:PE X (.Constant (.int i) j pos) (tC (.int i)):=λ_ _ _ H _ I h=>wpAny_Constant_int ⟨.int i,H,I.tok _,⟨_,rfl⟩,h⟩
def JE{b j pos}:PE X (.Constant (.bool b) j pos) (tC (.bl b)):=λ_ _ _ H _ I h=>Constant_bool ⟨.bl b,H,I,rfl,h⟩
def A4{j pos}:PE X (.Constant .none j pos) (tC .non):=λ_ _ _ H _ I h=>Constant_none ⟨.non,H,I,rfl,h⟩
def GA{x j pos}:PE X (.Constant (.str x) j pos) (tC (.str x)):=λ_ _ _ H _ I h=>Calls.Constant_str ⟨.str x,H,I.tok _,⟨_,rfl⟩,h⟩
def Gl(X:Cx)(x:Str):Prop:=X.env.kindOf x=some .globalImplicit
def xP{E:Value->Shared->Prop}{pins:List (Addr×Obj)}{s:Shared}{σ:St}{H:Hp}{x:Str}{u:Value}{pos:Pos}{Q:Value->Shared->Prop}(I:Inv X pins σ H s)(hg:Gl X x)(hm:X.mg x=some u)(h:Q u s)
  (hd:(x==("__debug__":Str))=false:=by decide):wpAny (model X.prog X.w) X.A (eval (.Name x pos) X.env) Q E s :=
 Calls.Name_function_global I.ok.kind hg (Calls.loadGlobal_global (by rw[I.ok.glob];exact I.mod.glob.keeps I.bk) hm h) hd
def jE{E:Value->Shared->Prop}{pins:List (Addr×Obj)}{s:Shared}{σ:St}{H:Hp}{x:Str}{u:Value}{pos:Pos}{Q:Value->Shared->Prop}(I:Inv X pins σ H s)(hg:Gl X x)(hm:X.mg x=none)(hv:bootBuiltins x=some u)(h:Q u s)
  (hn:x≠"__name__":=by decide)(hd:(x==("__debug__":Str))=false:=by decide):wpAny (model X.prog X.w) X.A (eval (.Name x pos) X.env) Q E s:=by
 obtain⟨mb,h1,h2⟩:=I.mod.blt;exact Calls.Name_function_global I.ok.kind hg (Calls.loadGlobal_builtin (by rw[I.ok.glob];exact I.mod.glob.keeps I.bk) hm (by rw[I.ok.blt];exact h1.keeps I.bk) ((h2 x hn).trans hv) h) hd
def Dn{x:Str}{v:V}{u:Value}{pos:Pos}(hg:Gl X x)(hm:X.mg x=some u)(r:bq v u)(hd:(x==("__debug__":Str))=false:=by decide):PE X (.Name x pos) (tC v) :=
 λ_ _ _ H _ I h=>xP I hg hm ⟨v,H,I,r,h⟩ hd
def xA{x:Str}{v:V}{u:Value}{pos:Pos}(hg:Gl X x)(hm:X.mg x=none)(hv:bootBuiltins x=some u)(r:bq v u)(hn:x≠"__name__":=by decide)(hd:(x==("__debug__":Str))=false:=by decide):PE X (.Name x pos) (tC v) :=
 λ_ _ _ H _ I h=>jE I hg hm hv ⟨v,H,I,r,h⟩ hn hd
variable {a b:Expr}{ta tb:TE}{pos:Pos}
noncomputable def PC(X:Cx) (op:CmpOp) (a b:Expr) (t:TE):Prop :=
 ∀(pins:List (Addr×Obj)) (s:Shared) (σ:St) (H:Hp) (Q:VK),Inv X pins σ H s->t σ H Q ->
  wpAny (model X.prog X.w) X.A (eval a X.env) (λv sg=>wpAny (model X.prog X.w) X.A (eval b X.env) (λu si=>wpAny (model X.prog X.w) X.A (compareOp op v u) (EP X pins σ Q) X.xe si) X.xe sg) X.xe s
def Bl(b:Expr){op:CmpOp}(h:op≠.In)(h2:op≠.NotIn):behindInMarks op b=false:=by
 have e1:(op==CmpOp.In)=false:=by cases op<;>first|rfl|exact absurd rfl h
 have e2:(op==CmpOp.NotIn)=false:=by cases op<;>first|rfl|exact absurd rfl h2
 cases b<;>simp[behindInMarks,e1,e2]
def tB(t:TE):TT:=λσ H Q=>t σ H λx H1=>∃c,x=.bl c/\Q c H1
def Gq{e:Expr}{t:TE}(h:PE X e t)(he:∀whole,isTrue e X.env whole=(do let v ←whole;standAt e.pos;holding [v] (truthy v)):=by intro _;rfl):PT X e (tB t):=by
 intro pins s σ H Q I hw;refine isTrue_plain (cR (h pins s σ H _ I hw) λv s1 z9=>?_) (he _);obtain⟨x,H1,I1,r1,q1⟩:=z9;obtain⟨d,rfl,q⟩:=q1;cases r1;exact wpAny_truthy_bool ⟨H1,I1,q⟩
variable {tA tB':TT}{rest:List Expr}
def Ln(t u:TT):TT:=λσ H Q=>t σ H λc H1=>if c=true then u σ H1 Q else Q false H1
def Mn(t u:TT):TT:=λσ H Q=>t σ H λc H1=>if c=true then Q true H1 else u σ H1 Q
def Le(t:TT):TT:=λσ H Q=>t σ H λc H1=>Q (!c) H1
def C3(ha:PT X a tA):PW X (.BoolOp .And [a] pos) tA:=by
 intro wh pins s σ H Q I h;refine isTrue_and (cR (ha pins s σ H Q I h) λc s1 e=>?_);cases c with|true=>exact isTrue_and_nil e|false=>exact e
def Gn(ha:PT X a tA):PW X (.BoolOp .Or [a] pos) tA:=by
 intro wh pins s σ H Q I h;refine isTrue_or (cR (ha pins s σ H Q I h) λc s1 e=>?_);cases c with|false=>exact isTrue_or_nil e|true=>exact e
def Gp(ha:PT X a tA)(hb:PW X (.BoolOp .And (b::rest) pos) tB'):PW X (.BoolOp .And (a::b::rest) pos) (Ln tA tB'):=by
 intro wh pins s σ H Q I h;refine isTrue_and (cR (ha pins s σ H _ I h) λc s1 z9=>?_);obtain⟨H1,I1,q1⟩:=z9;cases c with|true=>exact hb wh pins s1 σ H1 Q I1 q1|false=>exact⟨H1,I1,q1⟩
def Jy(ha:PT X a tA)(hb:PW X (.BoolOp .Or (b::rest) pos) tB'):PW X (.BoolOp .Or (a::b::rest) pos) (Mn tA tB'):=by
 intro wh pins s σ H Q I h;refine isTrue_or (cR (ha pins s σ H _ I h) λc s1 z9=>?_);obtain⟨H1,I1,q1⟩:=z9;cases c with|true=>exact⟨H1,I1,q1⟩|false=>exact hb wh pins s1 σ H1 Q I1 q1
def Gr(ha:PT X a tA):PT X (.UnaryOp .Not a pos) (Le tA):=by
 intro pins s σ H Q I h;exact isTrue_not (ha pins s σ H (λc H1=>Q (!c) H1) I h)
def Jc(ta tb:TE):TE:=λσ H Q=>ta σ H λx H1=>∃c,x=.bl c/\if c=true then tb σ H1 Q else Q (.bl false) H1
def Ld(ta tb:TE):TE:=λσ H Q=>ta σ H λx H1=>∃c,x=.bl c/\if c=true then Q (.bl true) H1 else tb σ H1 Q
def IV(ta:TE):TE:=λσ H Q=>ta σ H λx H1=>∃c,x=.bl c/\Q (.bl (!c)) H1
def GC{op}{t:TE}(h:PE X a t):PE X (.BoolOp op [a] pos) t:=λpins s σ H Q I hw=>BoolOp_one (h pins s σ H Q I hw)
def GF(ha:PE X a ta)(hb:PE X (.BoolOp .And (b::rest) pos) tb):PE X (.BoolOp .And (a::b::rest) pos) (Jc ta tb):=by
 intro pins s σ H Q I h;refine BoolOp_and (cR (ha pins s σ H _ I h) λv s1 ⟨x,H1,I1,r1,q1⟩=>?_);obtain⟨c,rfl,q1⟩:=q1;cases r1;refine wpAny_truthy_bool ?_;cases c with|true=>exact hb pins s1 σ H1 Q I1 q1|false=>exact⟨.bl false,H1,I1,rfl,q1⟩
def JD(ha:PE X a ta)(hb:PE X (.BoolOp .Or (b::rest) pos) tb):PE X (.BoolOp .Or (a::b::rest) pos) (Ld ta tb):=by
 intro pins s σ H Q I h;refine BoolOp_or (cR (ha pins s σ H _ I h) λv s1 ⟨x,H1,I1,r1,q1⟩=>?_);obtain⟨c,rfl,q1⟩:=q1;cases r1;refine wpAny_truthy_bool ?_;cases c with|false=>exact hb pins s1 σ H1 Q I1 q1|true=>exact⟨.bl true,H1,I1,rfl,q1⟩
def GD(ha:PE X a ta):PE X (.UnaryOp .Not a pos) (IV ta):=by
 intro pins s σ H Q I h;refine UnaryOp_ (cR (ha pins s σ H _ I h) λv s1 z9=>?_);obtain⟨x,H1,I1,r1,q1⟩:=z9;obtain⟨c,rfl,q1⟩:=q1;cases r1;exact not_of (wpAny_truthy_bool ⟨.bl (!c),H1,I1,rfl,q1⟩)
def Mq(t:TT)(ta tb:TE):TE:=λσ H Q=>t σ H λc H1=>if c=true then ta σ H1 Q else tb σ H1 Q
def A7{c:Expr}(hc:PT X c tA)(ha:PE X a ta)(hb:PE X b tb):PE X (.IfExp c a b pos) (Mq tA ta tb):=by
 intro pins s σ H Q I h;refine wpAny_IfExp (cR (hc pins s σ H _ I h) λd s1 z9=>?_);obtain⟨H1,I1,q1⟩:=z9;cases d with|true=>exact ha pins s1 σ H1 Q I1 q1|false=>exact hb pins s1 σ H1 Q I1 q1
end
def dF(K:W.Frag)(H:Hp)(a:Addr)(xs:ad):Prop :=
 Rd H a (.lst xs) ∨
  ∃(o:Obj) (its:Array Value) (n:Nat),K.lookup a=some o/\o.cls=.type "list"/\o.dict=none/\o.data=.seq its n/\its.size<=sizeLine/\bo xs its.toList
def fS(K:W.Frag)(H:Hp)(a:Addr)(xs:ad):Prop :=
 Rd H a (.tup xs) ∨
  ∃(o:Obj) (its:Array Value) (n:Nat),K.lookup a=some o/\o.cls=.type "tuple"/\o.data=.seq its n/\its.size<=sizeLine/\bo xs its.toList
def LM:Value->Option V
 |.none=>some .non
 |.bool b=>some (.bl b)
 |.int i _=>some (.int i)
 |.str x _=>some (.str x)
 |.bytes b _=>some (.byt b)
 |.float b _=>some (.flt b)
 |.ref a=>some (.ref a)
 |.type n=>some (.ty n)
 |_=>none
def bq.abs{x:V}{u:Value}(r:bq x u):LM u=some x:=by
 cases x with|non|bl _=>cases r;rfl|int _|str _|byt _|flt _=>obtain⟨t,rfl⟩:=r;rfl|ref _|ty _=>cases r;rfl
def bq.inj{x y:V}{u:Value}(r:bq x u)(q:bq y u):x=y:=Option.some.inj (r.abs.symm.trans q.abs)
theorem bo.inj:∀{xs ys:ad}{us:List Value},bo xs us->bo ys us->xs=ys
 |_,_,_,.nil,.nil=>rfl
 |_,_,_,.cons r t,.cons r' t'=>by rw[r.inj r',bo.inj t t']
section
variable {X:Cx}{pins:List (Addr×Obj)}{σ:St}{H:Hp}{s:Shared}{a:Addr}{xs ys:ad}
def dF.of{K:W.Frag}(h:H a=some (.lst xs)):dF K H a xs:=.inl (.inl h)
def fS.of{K:W.Frag}(h:H a=some (.tup xs)):fS K H a xs:=.inl (.inl h)
def Inv.list(I:Inv X pins σ H s)(h:dF X.K H a xs):∃its:List Value,bo xs its/\PlainL s.heap a its.toArray/\xs.length<=sizeLine:=by
 rcases h with h|⟨o,its,n,hk,hc,hd,hs,hz,r⟩
 .obtain⟨z,its,n,r,e⟩:=h.ok I.hok
  exact⟨its,r,⟨_,n,e,rfl,rfl,rfl⟩,z⟩
 .refine⟨its.toList,r,⟨o,n,I.kIn a o hk,hc,hd,by simpa using hs⟩,?_⟩
  have e:=r.length;simp only[Array.length_toList]at e;omega
def Inv.tuple(I:Inv X pins σ H s)(h:fS X.K H a xs):∃its:List Value,bo xs its/\IsTup s.heap a its.toArray/\xs.length<=sizeLine:=by
 rcases h with h|⟨o,its,n,hk,hc,hs,hz,r⟩
 .obtain⟨z,its,r,p⟩:=h.ok I.hok
  exact⟨its,r,p,z⟩
 .refine⟨its.toList,r,⟨o,I.kIn a o hk,hc,n,by simpa using hs⟩,?_⟩
  have e:=r.length;simp only[Array.length_toList]at e;omega
def Inv.list_inj(I:Inv X pins σ H s)(h:dF X.K H a xs)(h':dF X.K H a ys):xs=ys:=by
 obtain⟨its,r,⟨o,n,e,_,_,d⟩,_⟩:=I.list h;obtain⟨its',r',⟨o',n',e',_,_,d'⟩,_⟩:=I.list h';rw[e]at e';cases e';rw[d]at d';injection d' with d1 _;have:its=its':=by simpa using congrArg Array.toList d1
 subst this;exact r.inj r'
def Inv.tuple_inj(I:Inv X pins σ H s)(h:fS X.K H a xs)(h':fS X.K H a ys):xs=ys:=by
 obtain⟨its,r,⟨o,e,_,n,d⟩,_⟩:=I.tuple h;obtain⟨its',r',⟨o',e',_,n',d'⟩,_⟩:=I.tuple h';rw[e]at e';cases e';rw[d]at d';injection d' with d1 _;have:its=its':=by simpa using congrArg Array.toList d1
 subst this;exact r.inj r'
end
abbrev Cx.wish(X:Cx)(E:Value->Shared->Prop):Cx:={ X with xe:=E }
abbrev Cx.nox(X:Cx):Cx:=X.wish λ_ _=>False
def Cx.Ok.wish{X:Cx}(ok:X.Ok)(E:Value->Shared->Prop):(X.wish E).Ok :=
 ⟨ok.mod,ok.kind,ok.glob,ok.blt,ok.above,ok.inj,ok.has,ok.cab,ok.hd,ok.frames,ok.stk,ok.exf,ok.bs,ok.bsz,ok.noex,ok.exfs,ok.funs,ok.frf⟩
def Cx.Ok.unwish{X:Cx}{E:Value->Shared->Prop}(ok:(X.wish E).Ok):X.Ok :=
 ⟨ok.mod,ok.kind,ok.glob,ok.blt,ok.above,ok.inj,ok.has,ok.cab,ok.hd,ok.frames,ok.stk,ok.exf,ok.bs,ok.bsz,ok.noex,ok.exfs,ok.funs,ok.frf⟩
section
variable {X:Cx}{pins:List (Addr×Obj)}{σ:St}{H:Hp}{s:Shared}{E:Value->Shared->Prop}
def Inv.wish(I:Inv X pins σ H s)(E:Value->Shared->Prop):Inv (X.wish E) pins σ H s:=⟨I.ok.wish E,I.os,I.bare,I.base,I.loc,I.cell,I.free,I.freeC,I.pin,I.hok,I.len⟩
def Inv.unwish(I:Inv (X.wish E) pins σ H s):Inv X pins σ H s:=⟨I.ok.unwish,I.os,I.bare,I.base,I.loc,I.cell,I.free,I.freeC,I.pin,I.hok,I.len⟩
def SP.unwish{D:fW}{f:Flow}{s':Shared}(h:SP (X.wish E) pins D f s'):SP X pins D f s':=by
 cases f with|next|brk|cont=>obtain⟨σ',H',I,q⟩:=h;exact⟨σ',H',I.unwish,q⟩|ret u=>obtain⟨v,σ',H',I,r,q⟩:=h;exact⟨v,σ',H',I.unwish,r,q⟩
def pZ.nox{st:List Stmt}{t:TS}(h:pZ X.nox st t):pZ X st t:=λpins s σ H D I hw=>
 wpAny_mono (h pins s σ H D (I.wish _) hw) (λ_ _ q=>q.unwish) λ_ _ z=>False.elim z
end
section
variable {X:Cx}{st:Stmt}{rest:List Stmt}{t u:TS}{e:Expr}{te:TE}{pos:Pos}
def IW:TS:=λD σ H=>D.nx σ H
def K7(t u:TS):TS:=λD σ H=>t { D with nx:=u D } σ H
def kY:pZ X [] IW:=λ_ _ σ H _ I h=>wpAny_execs_nil ⟨σ,H,I,h⟩
def dZ(h1:PS X st t)(h2:pZ X rest u):pZ X (st::rest) (K7 t u):=by
 intro pins s σ H D I h;refine wpAny_execs_cons (cR (h1 pins s σ H { D with nx:=u D } I h) λf s1 q=>?_);cases f with
 |next=>
  obtain⟨σ',H',I',q⟩:=q;exact h2 pins s1 σ' H' D I' q
 |ret v|brk|cont=>exact q
def Inv.quiet{pins:List (Addr×Obj)}{σ:St}{H:Hp}{s:Shared}(I:Inv X pins σ H s):interactive X.env=false:=by simp[interactive,I.ok.kind]
def IY(te:TE):TS:=λD σ H=>te σ H λ_ H1=>D.nx σ H1
def kZ(he:PE X e te)(hs:swapsWith e none pos.line X.env=pure false:=by rfl):PS X (.Expr e pos) (IY te):=by
 intro pins s σ H D I h;exact wpAny_Expr_any (cR (he pins s σ H _ I h) λv s1 ⟨x,H1,I1,r1,q1⟩=>⟨σ,H1,I1,q1⟩) I.quiet hs
def La(te:TE):TS:=λD σ H=>te σ H D.rt
def vV(he:PE X e te):PS X (.Return (some e) pos) (La te):=by
 intro pins s σ H D I h;exact wpAny_Return_some (cR (he pins s σ H _ I h) λv s1 ⟨x,H1,I1,r1,q1⟩=>⟨x,σ,H1,I1,r1,q1⟩)
def Lh(c:TT)(t u:TS):TS:=λD σ H=>c σ H λb H1=>if b=true then t D σ H1 else u D σ H1
def Fp{c:Expr}{a b:List Stmt}{tc:TT}(hc:PT X c tc)(ha:pZ X a t)(hb:pZ X b u):PS X (.If c a b pos) (Lh tc t u):=by
 intro pins s σ H D I h;refine wpAny_If (cR (hc pins s σ H _ I h) λd s1 z9=>?_);obtain⟨H1,I1,q1⟩:=z9;cases d with|true=>exact ha pins s1 σ H1 D I1 q1|false=>exact hb pins s1 σ H1 D I1 q1
def F4:TS:=λ_ _ _=>False
def AQ:PS X st F4:=λ_ _ _ _ _ _ h=>h.elim
end
abbrev TG:=V->St->Hp->(St->Hp->Prop)->Prop
abbrev Cr:=ad->St->Hp->(St->Hp->Prop)->Prop
noncomputable def PG(X:Cx) (target:Expr) (t:TG):Prop :=
 ∀(pins:List (Addr×Obj)) (s:Shared) (σ:St) (H:Hp) (v:V) (u:Value) (Q:St->Hp->Prop),Inv X pins σ H s->bq v u->t v σ H Q ->
  wpAny (model X.prog X.w) X.A (assign target X.env u) (λ_ s'=>∃σ' H',Inv X pins σ' H' s'/\Q σ' H') X.xe s
noncomputable def zK(X:Cx) (ts:List Expr) (t:Cr):Prop :=
 ∀(pins:List (Addr×Obj)) (s:Shared) (σ:St) (H:Hp) (vs:ad) (us:List Value) (Q:St->Hp->Prop),Inv X pins σ H s->bo vs us->t vs σ H Q ->
  wpAny (model X.prog X.w) X.A (assignInOrder ((assignEach ts X.env).map (·.2)) us) (λ_ s'=>∃σ' H',Inv X pins σ' H' s'/\Q σ' H') X.xe s
section
variable {X:Cx}{pos:Pos}
def BG(i:Nat):TG:=λv σ H Q=>Q (σ.set i (some v)) H
def rS{i:Nat}{x:Str}(hN:X.N.Nodup)(hi:X.N[i]?=some x)(hx:zM X.env.scope x)(hf:X.fn x=true∨X.env.scope.names.lookup x=some .local := by first|exact .inl rfl|exact .inr rfl|assumption):PG X (.Name x pos) (BG i):=by
 intro pins s σ H v u Q I r h;exact wpAny_assign_Name (kR I hN hi hx r (λs' I'=>⟨_,H,I',h⟩) hf)
def LG:Cr:=λvs σ H Q=>vs=[]/\Q σ H
def J3(t:TG)(u:Cr):Cr:=λvs σ H Q=>∃v r,vs=v::r/\t v σ H λσ' H'=>u r σ' H' Q
def Dk:zK X [] LG:=by
 intro pins s σ H vs us Q I r h;obtain⟨e,h⟩:=h;subst e;cases r;exact assignInOrder_nil ⟨σ,H,I,h⟩
def AX{e:Expr}{es:List Expr}{t:TG}{u:Cr}(h1:PG X e t)(h2:zK X es u)
  (hs:(assignEach (e::es) X.env).map (·.2)=assign e X.env::(assignEach es X.env).map (·.2):=by rfl):zK X (e::es) (J3 t u):=by
 intro pins s σ H vs us Q I r h;obtain⟨v,vr,e1,h⟩:=h;subst e1;cases r with
 |cons r rr=>
  rw[hs];refine assignInOrder_cons (cR (h1 pins s σ H _ _ _ I r h) λ_ s1 z9=>?_);obtain⟨σ1,H1,I1,q1⟩:=z9;exact h2 pins s1 σ1 H1 _ _ Q I1 rr q1
def LF(K:W.Frag)(n:Nat)(t:Cr):TG:=λv σ H Q=>∃a xs,v=.ref a/\fS K H a xs/\xs.length=n/\t xs σ H Q
def Gz{es:List Expr}{k:Nat}{t:Cr}{n:Nat}(hc:X.calm=true)(h:zK X es t)
  (hn:(assignEach es X.env).length=n:=by rfl)(hst:(assignEach es X.env).findIdx? (·.1)=none:=by rfl):PG X (.Tuple es k pos) (LF X.K n t):=by
 intro pins s σ H v u Q I r hw;obtain⟨a,xs,e1,hq,hl,hw⟩:=hw;subst e1;cases r;obtain⟨its,rv,ht,hz⟩:=I.tuple hq;refine assign_Tuple_tuple (I.ok.hd hc) ht (by simp[hn,←hl,rv.length]) hst λh' hx=>?_;have I1:Inv X pins σ H { s with heap:=h' }:=I.kept (t':=s.toks) λb o e=>hx b o (Nat.ne_of_lt (Heap.lt_size e)) e;exact h pins _ σ H xs _ Q I1 (by simpa using rv) hw
def F8(te:TE)(g:TG):TS:=λD σ H=>te σ H λx H1=>g x σ H1 D.nx
def Gv{tg e:Expr}{te:TE}{g:TG}(he:PE X e te)(hg:PG X tg g)(hs:swapsWithSole [tg] e pos.line X.env=pure false:=by rfl)(hw:swappedStores [tg] e X.env=pure none:=by rfl)
  (h1:(assignEach [tg] X.env).map (·.2)=[assign tg X.env]:=by rfl):PS X (.Assign [tg] e pos) (F8 te g):=by
 intro pins s σ H D I h;refine wpAny_Assign_stores (cR (he pins s σ H _ I h) λv s1 z9=>?_) hs hw;obtain⟨x,H1,I1,r1,q1⟩:=z9;rw[h1];exact cR (hg pins s1 σ H1 x v _ I1 r1 q1) λ_ s2 q=>q
def l7{i:Nat}{x:Str}{e:Expr}{te:TE}{pos':Pos}(hN:X.N.Nodup)(hi:X.N[i]?=some x)(hx:zM X.env.scope x)(he:PE X e te)(hs:swapsWith e (some (.Name x pos')) pos.line X.env=pure false:=by rfl)(hf:X.fn x=true∨X.env.scope.names.lookup x=some .local := by first|exact .inl rfl|exact .inr rfl|assumption) :
  PS X (.Assign [.Name x pos'] e pos) (F8 te (BG i)):=by
 intro pins s σ H D I h;refine wpAny_Assign_Name (cR (he pins s σ H _ I h) λv s1 z9=>?_) hs;obtain⟨y,H1,I1,r1,q1⟩:=z9;exact kR I1 hN hi hx r1 (λs2 I2=>⟨_,H1,I2,q1⟩) hf
def Lc(i j:Nat)(ta:TA):TS:=λD σ H=>ta σ H λvs H1=>∃v w,vs=[v,w]/\D.nx ((σ.set i (some v)).set j (some w)) H1
def Gs{i j:Nat}{x y:Str}{a b:Expr}{ta:TA}{px py pt:Pos}{kt k2 pt2}(hc:X.calm=true)(hN:X.N.Nodup)(hi:X.N[i]?=some x)(hj:X.N[j]?=some y)(hij:i≠j)
  (hx:X.env.scope.names.lookup x=some .local)(hy:X.env.scope.names.lookup y=some .local)(ha:PA X [a,b] ta)
  (hw:swappedStores [.Tuple [.Name x px,.Name y py] kt pt] (.Tuple [a,b] k2 pt2) X.env=pure (some [x,y]))
  (hs:swapsWithSole [.Tuple [.Name x px,.Name y py] kt pt] (.Tuple [a,b] k2 pt2) pos.line X.env=pure false:=by rfl) :
  PS X (.Assign [.Tuple [.Name x px,.Name y py] kt pt] (.Tuple [a,b] k2 pt2) pos) (Lc i j ta):=by
 intro pins s σ H D I h;rw[exec_Assign_arm];refine wpAny_bind (wpAny_standAt ?_);rw[hs];refine wpAny_bind (wpAny_pure ?_);rw[if_neg (by decide)];refine wpAny_bind (Tuple_ (cR (ha _ pins s σ H _ I h) λus s1 z9=>?_));obtain⟨vs,H1,I1,r1,q1⟩:=z9;obtain⟨v,w,e1,q1⟩:=q1;subst e1;obtain⟨u1,u2,rfl,rv,rw'⟩:∃u1 u2,us=[u1,u2]/\bq v u1/\bq w u2:=by
  cases r1 with
  |cons p q=>
   cases q with
   |cons p' q'=>
    cases q';exact⟨_,_,rfl,p,p'⟩
 refine wpAny_newObj_type ?_ (by show 2<=sizeLine;decide);have I2:Inv X pins σ H1 { s1 with heap:=s1.heap.push { cls:=.type "tuple",data:=.seq [u1,u2].toArray } }:=I1.kept (t':=s1.toks) λb o e=>Heap.get?_push_of_some _ e;rw[hw];refine wpAny_bind (wpAny_pure ?_);show wpAny (model X.prog X.w) X.A (do rule "assign.swapped-stores";let items ←unpackItems (.ref s1.heap.objs.size) 2 none;assignInOrder [λv=>bindName X.env y v,λv=>bindName X.env x v] items.reverse;pure Flow.next) _ _ _;refine wpAny_bind (wpAny_rule (wpAny_bind (unpackItems_tuple (items:=#[u1,u2]) (I.ok.hd hc) (IsTup.new s1.heap _) λh' hx'=>?_)));have I3:=I2.kept (h':=h') (t':=s1.toks) λb o e=>hx' b o (Nat.ne_of_lt (Heap.lt_size e)) e;show wpAny _ _ (assignInOrder [λv=>bindName X.env y v,λv=>bindName X.env x v] [u2,u1] >>= λ_=>pure Flow.next) _ _ _;refine wpAny_bind (assignInOrder_cons (wpAny_bindName (kR I3 hN hj (.inl hy) rw' (λs2 I4=>?_) (.inr hy))));refine assignInOrder_cons (wpAny_bindName (kR I4 hN hi (.inl hx) rv (λs3 I5=>assignInOrder_nil (wpAny_pure ?_)) (.inr hx)));rw[List.set_comm _ _ (Ne.symm hij)]at I5;exact⟨_,H1,I5,q1⟩
end
section
variable {X:Cx}{pos:Pos}
def F2(c:TT)(tb:TS):TS:=λD σ H=>∃W:Nat->St->Hp->Prop,(∃m,W m σ H)/\∀m σ H,W m σ H ->
 c σ H λb H1=>if b=true then ∃N:St->Hp->Prop,(∀σ' H',N σ' H'->∃m',m' < m/\W m' σ' H')/\tb { D with nx:=N,ct:=N,bk:=D.nx } σ H1 else D.nx σ H1
def AO{c:Expr}{body:List Stmt}{tc:TT}{tb:TS}(hp:PassesOwn (model X.prog X.w) X.A X.env X.xe)(hc:PT X c tc)(hb:pZ X body tb):PS X (.While c body [] pos) (F2 tc tb):=by
 intro pins s σ H D I h;obtain⟨W,⟨m0,w0⟩,turn⟩:=h;refine wpAny_While (codeAny_whileLoop (λn s'=>∃σ' H',Inv X pins σ' H' s'/\W n σ' H') ?_ m0 ⟨σ,H,I,w0⟩);rintro n s1 ⟨σ1,H1,I1,w1⟩;refine wpAny_passesOwn hp (cR (hc pins s1 σ1 H1 _ I1 (turn n σ1 H1 w1)) λb s2 z9=>?_);obtain⟨H2,I2,q2⟩:=z9;cases b with
 |true=>
  obtain⟨N,hN,q2⟩:=q2;rw[if_pos rfl];refine wpAny_passesOwn hp (cR (hb pins s2 σ1 H2 _ I2 q2) λf s3 q3=>?_);cases f with
  |next=>
   obtain⟨σ3,H3,I3,n3⟩:=q3;obtain⟨m',hm,w3⟩:=hN σ3 H3 n3;exact⟨m',hm,σ3,H3,I3,w3⟩
  |cont=>
   obtain⟨σ3,H3,I3,n3⟩:=q3;obtain⟨m',hm,w3⟩:=hN σ3 H3 n3;exact⟨m',hm,σ3,H3,I3,w3⟩
  |brk|ret v=>exact q3
 |false=>
  rw[if_neg Bool.false_ne_true];exact wpAny_execs_nil ⟨σ1,H2,I2,q2⟩
end
structure It where
 go:Nat->Hp->Prop
 yld:Nat->Hp->V->Hp->Prop
 stop:Nat->Hp->Prop
def mB(X:Cx)(pins:List (Addr×Obj))(H:Hp)(b:Addr):Prop :=
 H b=none/\b≠X.env.locals/\b∉X.fs/\(b∈X.ex∨X.sf.heap.objs.size<=b)/\(∀x c,X.env.cells.lookup x=some c->c≠b)/\∀p∈X.pn++pins,p.1≠b
def Inv.fpOk{X:Cx}{pins:List (Addr×Obj)}{σ:St}{H H':Hp}{s:Shared}{b:Addr}(I:Inv X pins σ H s)(hb:s.heap.objs.size<=b)(hn:H' b=none):mB X pins H' b:=by
 refine⟨hn,Nat.ne_of_gt (Nat.lt_of_lt_of_le I.lt hb),I.nofs hb,.inr (Nat.le_trans I.sz hb),λx c e z=>?_,λp hp z=>?_⟩
 .obtain⟨v,q⟩:=I.cell x c e
  exact absurd (Nat.lt_of_lt_of_le q.lt (by rw[z];exact hb)) (Nat.lt_irrefl _)
 .exact absurd (Nat.lt_of_lt_of_le (Heap.lt_size (I.pin p hp).1) (by rw[z];exact hb)) (Nat.lt_irrefl _)
structure qz (P:Program) (w:World) (K:W.Frag) (tg:Expr) (J:It) (fp:List Addr) (it:Addr) (tn:Nat->Heap->Prop):Prop where
 mem:it∈fp
 obj:∀i h,tn i h->∀b∈fp,∃o,h.get? b=some o/\∀v,o.data≠.cell v
 keep:∀i h h',tn i h->(∀b∈fp,∀o,h.get? b=some o->h'.get? b=some o)->tn i h'
 item:∀(X:Cx),X.prog=P->X.w=w->X.K=K->X.calm=true->∀(i:Nat) (pins:List (Addr×Obj)) (s:Shared) (σ:St) (H:Hp) (E:Value->Shared->Prop),Inv X pins σ H s->(∀b∈fp,mB X pins H b)->tn i s.heap->J.go i H ->
  wpAny (model P w) X.A (pyNext (.ref it)) (λr s1=>∃u,r=some u /\
   wpAny (model P w) X.A (letOwnedTupleGo tg (.ref it) u) (λ_ s2=>∃x H',Inv X pins σ H' s2/\bq x u/\J.yld i H x H'/\tn (i+1) s2.heap/\∀b∈fp,H' b=none) E s1) E s
 done:∀(X:Cx),X.prog=P->X.w=w->X.K=K->X.calm=true->∀(i:Nat) (pins:List (Addr×Obj)) (s:Shared) (σ:St) (H:Hp) (E:Value->Shared->Prop),Inv X pins σ H s->(∀b∈fp,mB X pins H b)->tn i s.heap->J.stop i H ->
  wpAny (model P w) X.A (pyNext (.ref it)) (λr s1=>r=none/\Inv X pins σ H s1) E s
 self:∀(A:Around) (i:Nat) (s:Shared) (Q:Value->Shared->Prop) (E:Value->Shared->Prop),tn i s.heap->Q (.ref it) s->wpAny (model P w) A (pyIter (.ref it)) Q E s
abbrev TI:=St->Hp->(It->Hp->Prop)->Prop
noncomputable def LO(X:Cx) (pins:List (Addr×Obj)) (σ:St) (tg:Expr) (R:It->Hp->Prop) (itv:Value) (s2:Shared):Prop :=
 ∃(it:Addr) (fp:List Addr) (tn:Nat->Heap->Prop) (J:It) (H':Hp),itv=.ref it/\Inv X pins σ H' s2/\qz X.prog X.w X.K tg J fp it tn/\tn 0 s2.heap/\(∀b∈fp,mB X pins H' b)/\R J H'
noncomputable def PI(X:Cx) (tg iter:Expr) (wi:TI):Prop :=
 ∀(pins:List (Addr×Obj)) (s:Shared) (σ:St) (H:Hp) (R:It->Hp->Prop),Inv X pins σ H s->wi σ H R ->
  wpAny (model X.prog X.w) X.A (eval iter X.env) (λv s1=>wpAny (model X.prog X.w) X.A (pyIter v) (LO X pins σ tg R) X.xe s1) X.xe s
def uI{M:Model}{A:Around}{E:Value->Shared->Prop}{s:Shared}{tg:Expr}{it:Addr}{u:Value}{o:Obj}{n:String}{vs:Array Value}{Q:Unit->Shared->Prop}(ho:s.heap.get? it=some o)(hc:o.cls=.type n)(hd:o.data=.fields vs)
  (hn:["enumerate","zip","dict_itemiterator","dict_reverseitemiterator","odict_iterator","itertools.zip_longest","itertools.pairwise"].contains n=false)(hQ:Q () s):wpAny M A (letOwnedTupleGo tg (.ref it) u) Q E s:=by
 unfold letOwnedTupleGo;cases tg<;>first
  |exact wpAny_pure hQ
  |(cases u<;>first
    |exact wpAny_pure hQ
    |(refine wpAny_bind (wpAny_load ho ?_);rw[hc,hd];show wpAny M A (if(["enumerate","zip","dict_itemiterator","dict_reverseitemiterator","odict_iterator","itertools.zip_longest","itertools.pairwise"].contains n&&vs[0]?==some (rawInt _))=true then _ else _) Q E s;rw[if_neg (by intro h;rw[hn,Bool.false_and]at h;cases h)];exact wpAny_pure hQ))
def KC(K:W.Frag)(a:Addr):It :=
 ⟨λi H=>∃xs x,dF K H a xs/\xs[i]?=some x,λi H x H'=>H'=H/\∀xs,dF K H a xs->xs[i]?=some x,λi H=>∃xs,dF K H a xs/\xs.length<=i⟩
def vA(lo:Int)(n:Nat):It:=⟨λi _=>i<n,λi H x H'=>H'=H/\x=.int (lo+i),λi _=>n<=i⟩
def yx{P:Program}{w:World}{K:W.Frag}{tg:Expr}(a it:Addr):qz P w K tg (KC K a) [it] it (λi h=>h.IsListIter it a i) where
 mem:=by simp
 obj:=λi h st b hb=>by
  have e:b=it:=by simpa using hb
  subst e;obtain⟨o,e,c,d⟩:=st;exact⟨o,e,λv z=>by rw[d]at z;cases z⟩
 keep:=λi h h' st k=>st.at λo e=>k it (by simp) o e
 item:=by
  intro X hP hw hK hc i pins s σ H E I hf st hg;subst hP hw hK;obtain⟨xs,x,hq,hx⟩:=hg;obtain⟨its,rv,p,hz⟩:=I.list hq;obtain⟨u,hu,ru⟩:=rv.get hx;obtain⟨f0,f1,f2,f3,f4,f5⟩:=hf it (by simp);refine wpAny_pyNext_list_item st p.isList (x:=u) (by simpa using hu) λh' st' sb=>?_;have I1:Inv X pins σ H { s with heap:=h' }:=I.turned (t':=s.toks) (λb o hb e=>(sb.2 b hb).trans e) f0 f1 f3 f4 f5;obtain⟨o,e,c,d⟩:=id st';exact⟨u,rfl,uI (s:={ s with heap:=h' }) e c d (by decide) ⟨x,H,I1,ru,⟨rfl,λys hy=>by rw[I.list_inj hy hq];exact hx⟩,st',λb hb=>(hf b hb).1⟩⟩
 done:=by
  intro X hP hw hK hc i pins s σ H E I hf st hg;subst hP hw hK;obtain⟨xs,hq,hx⟩:=hg;obtain⟨its,rv,p,hz⟩:=I.list hq;obtain⟨f0,f1,f2,f3,f4,f5⟩:=hf it (by simp);have hl:=rv.length;exact wpAny_pyNext_list_end (I.ok.hd hc) st p.isList (by simp;omega) λh' eb=>⟨rfl,I.turned (t':=s.toks) (λb o hb e=>eb b o hb e) f0 f1 f3 f4 f5⟩
 self:=λ_ _ _ _ _ st h=>wpAny_pyIter_listiter st h
def vJ{P:Program}{w:World}{K:W.Frag}{tg:Expr}(it:Addr)(lo:Int)(n:Nat):qz P w K tg (vA lo n) [it] it (λi h=>IsRangeIter h it (lo+(i:Nat)*1) ((n:Int)-(i:Nat)) 1) where
 mem:=by simp
 obj:=λi h st b hb=>by
  have e:b=it:=by simpa using hb
  subst e;exact⟨_,st,λv z=>by
   have z':Data.fields _=Data.cell v:=z;cases z'⟩
 keep:=λi h h' st k=>k it (by simp) _ st
 item:=by
  intro X hP hw hK hc i pins s σ H E I hf st hg;subst hP hw hK;obtain⟨f0,f1,f2,f3,f4,f5⟩:=hf it (by simp);have W:=Walks.range (prog:=X.prog) (w:=X.w) (I.ok.hd hc) it lo 1 n;refine W.item i s _ _ hg st λv h' tk hv st' kk=>?_;obtain⟨t,rfl⟩:=hv;have I1:Inv X pins σ H { s with heap:=h',toks:=tk }:=I.turned (λb o hb e=>kk b o (by simpa using hb) e) f0 f1 f3 f4 f5;refine⟨_,rfl,uI (s:={ s with heap:=h',toks:=tk }) (n:="range_iterator") st' rfl rfl (by decide) ⟨.int (lo+i),H,I1,⟨t,?_⟩,⟨rfl,rfl⟩,st',λb hb=>(hf b hb).1⟩⟩;rw[Int.mul_one]
 done:=by
  intro X hP hw hK hc i pins s σ H E I hf st hg;subst hP hw hK;obtain⟨f0,f1,f2,f3,f4,f5⟩:=hf it (by simp);exact wpAny_pyNext_range_end (I.ok.hd hc) st (by have:n<=i:=hg;omega) λh' eb=>⟨rfl,I.turned (t':=s.toks) (λb o hb e=>eb b o hb e) f0 f1 f3 f4 f5⟩
 self:=λ_ _ _ _ _ st h=>wpAny_pyIter_rangeiter st h
section
variable {X:Cx}{tg:Expr}
def JZ(K:W.Frag)(tl:TE):TI:=λσ H R=>tl σ H λx H1=>∃a,x=.ref a/\(∃xs,dF K H1 a xs)/\R (KC K a) H1
def rQ{l:Expr}{tl:TE}(hl:PE X l tl):PI X tg l (JZ X.K tl):=by
 intro pins s σ H R I h;refine cR (hl pins s σ H _ I h) λv s1 ⟨x,H1,I1,r1,q1⟩=>?_;obtain⟨a,e,⟨xs,hq⟩,q⟩:=q1;subst e;cases r1;obtain⟨its,rv,p,hz⟩:=I1.list hq;refine wpAny_pyIter_list p.isList ?_;refine⟨s1.heap.objs.size,[s1.heap.objs.size],_,_,H1,rfl,I1.kept (t':=s1.toks) λb o e=>Heap.get?_push_of_some _ e,yx a _,⟨_,Heap.get?_push_size _ rfl,rfl,rfl⟩,λb hb=>?_,q⟩;have e:b=s1.heap.objs.size:=by simpa using hb
 subst e;exact I1.fpOk (Nat.le_refl _) (I1.hok.fresh (Nat.le_refl _))
def AG{pins:List (Addr×Obj)}{σ:St}{H:Hp}{s:Shared}{R:It->Hp->Prop}{E:Value->Shared->Prop}{lo hi:Int}{t u v:Tok}{tk:Nat}(I:Inv X pins σ H s)(h1:-(2 ^ 62)<=lo)(h2:lo<2 ^ 62)(h3:-(2 ^ 62)<=hi)(h4:hi<2 ^ 62)
  (q:R (vA lo (hi-lo).toNat) H):wpAny (model X.prog X.w) X.A (pyIter (.ref s.heap.objs.size)) (LO X pins σ tg R) E { s with heap:=s.heap.push { cls:=.type "range",data:=.fields #[.int lo t,.int hi u,.int 1 v] },toks:=tk }:=by
 refine wpAny_pyIter_range (IsRange.new ..) (small_one h1 h2 h3 h4) ?_;have I1:Inv X pins σ H { s with heap:=s.heap.push { cls:=.type "range",data:=.fields #[.int lo t,.int hi u,.int 1 v] },toks:=tk }:=I.kept λb o e=>Heap.get?_push_of_some _ e;refine⟨(s.heap.push { cls:=.type "range",data:=.fields #[.int lo t,.int hi u,.int 1 v] }).objs.size,[(s.heap.push { cls:=.type "range",data:=.fields #[.int lo t,.int hi u,.int 1 v] }).objs.size],_,_,H,rfl,
  I1.kept (t':=tk) λb o e=>Heap.get?_push_of_some _ e,vJ _ lo (hi-lo).toNat,?_,λb hb=>?_,q⟩
 .have e1:lo+((0:Nat):Int)*1=lo:=by simp
  have e2:(((hi-lo).toNat:Nat):Int)-((0:Nat):Int)=Builtin.Range.rangeSize lo hi 1:=by rw[rangeSize_one];split<;>omega
  show IsRangeIter _ _ (lo+((0:Nat):Int)*1) ((((hi-lo).toNat:Nat):Int)-((0:Nat):Int)) 1;rw[e1,e2];exact Heap.get?_push_size _ rfl
 .have e:b=(s.heap.push { cls:=.type "range",data:=.fields #[.int lo t,.int hi u,.int 1 v] }).objs.size:=by simpa using hb
  subst e;exact I1.fpOk (Nat.le_refl _) (I1.hok.fresh (Nat.le_refl _))
def JY(ta:TA):TI:=λσ H R=>ta σ H λvs H1=>∃j:Int,vs=[.int j]/\-(2 ^ 62)<=j/\j<2 ^ 62/\R (vA 0 j.toNat) H1
def qM{a:Expr}{ta:TA}{p pos:Pos}(hg:Gl X "range")(hm:X.mg "range"=none)(ha:PA X [a] ta)(hs:starEach [a] X.env=[(false,eval a X.env)]:=by rfl):PI X tg (.Call (.Name "range" p) [a] [] pos) (JY ta):=by
 intro pins s σ H R I h;refine Call_ (jE I hg hm boot_range (PyProof.Rows.callWith_type1 (cR (ha pos pins s σ H _ I h) λus s1 z9=>?_) hs rfl));obtain⟨vs,H1,I1,r1,q1⟩:=z9;obtain⟨j,e,q1,q2,q⟩:=q1;subst e;cases r1 with
 |cons r rr=>
  cases rr;obtain⟨t,rfl⟩:=r;exact call_range_1 (AG I1 (by omega) (by omega) q1 q2 (by simpa using q))
noncomputable def Lj(wi:TI) (g:TG) (tb:TS):TS:=λD σ H=>wi σ H λJ H1=>∃W:Nat->Nat->St->Hp->Prop,(∃m,W 0 m σ H1)/\∀i m σ H,W i m σ H ->
 (J.stop i H/\D.nx σ H)∨(J.go i H/\∃N:St->Hp->Prop,(∀σ' H',N σ' H'->∃m',m' < m/\W (i+1) m' σ' H')/\∀x H',J.yld i H x H'->g x σ H' λσ2 H2=>tb { D with nx:=N,ct:=N,bk:=D.nx } σ2 H2)
def ou(fp:List Addr)(h:Heap):List (Addr×Obj):=fp.filterMap λb=>(h.get? b).map λo=>(b,o)
def iI{fp:List Addr}{h:Heap}{b:Addr}{o:Obj}(hb:b∈fp)(e:h.get? b=some o):(b,o)∈ou fp h:=List.mem_filterMap.mpr ⟨b,hb,by rw[e];rfl⟩
def yU{fp:List Addr}{h:Heap}{p:Addr×Obj}(hp:p∈ou fp h):p.1∈fp/\h.get? p.1=some p.2:=by
 obtain⟨b,hb,e⟩:=List.mem_filterMap.mp hp;cases q:h.get? b with
 |none=>rw[q]at e;cases e
 |some o=>
  rw[q]at e;have e':(b,o)=p:=Option.some.inj e;subst e';exact⟨hb,q⟩
def Inv.pinned{pins:List (Addr×Obj)}{σ:St}{H:Hp}{s:Shared}{fp:List Addr}(I:Inv X pins σ H s)(hf:∀b∈fp,mB X pins H b)(ho:∀b∈fp,∃o,s.heap.get? b=some o/\∀v,o.data≠.cell v):Inv X (pins++ou fp s.heap) σ H s :=
 I.pins_of λp hp=>(List.mem_append.mp hp).elim (λz=>I.pin p (List.mem_append_right _ z)) λz=>by
  obtain⟨hb,e⟩:=yU z;obtain⟨f0,f1,f2,_⟩:=hf p.1 hb;obtain⟨o,e',d⟩:=ho p.1 hb;rw[e]at e';cases e';exact⟨e,f0,f1,f2,d⟩
def Inv.unpinned{pins pl:List (Addr×Obj)}{σ:St}{H:Hp}{s:Shared}(I:Inv X (pins++pl) σ H s):Inv X pins σ H s:=I.pins_of λp hp=>I.pin p (List.mem_append_right _ (List.mem_append_left _ hp))
def oj{iter:Expr}{body:List Stmt}{wi:TI}{g:TG}{tb:TS}{pos:Pos}(hp:PassesOwn (model X.prog X.w) X.A X.env X.xe)(hc:X.calm=true)(hi:PI X tg iter wi)(hg:PG X tg g)(hb:pZ X body tb)
  (hs:∀x,foldedSetIterable iter X.env x=pure x:=by intro _;rfl):PS X (.For tg iter body [] pos) (Lj wi g tb):=by
 intro pins s σ H D I h;refine wpAny_For (cR (hi pins s σ H _ I h) λv s1 h1=>cR h1 λitv s2 h2=>?_) hs;obtain⟨it,fp,tn,J,H2,e,I2,T,st2,f2,W,⟨m0,w0⟩,turn⟩:=h2;subst e;have stat:∀{H':Hp},(∀b∈fp,H' b=none)->∀b∈fp,mB X pins H' b:=λhn b hb=>⟨hn b hb,(f2 b hb).2⟩
 refine codeAny_forLoop_any (λn s'=>∃i σ' H',Inv X pins σ' H' s'/\tn i s'.heap/\(∀b∈fp,H' b=none)/\W i n σ' H') ?_ m0 ⟨0,σ,H2,I2,st2,λb hb=>(f2 b hb).1,w0⟩;rintro n s3 ⟨i,σ3,H3,I3,st3,fr3,w3⟩;rcases turn i n σ3 H3 w3 with⟨stop,qn⟩|⟨go,N,hN,step⟩
 .refine wpAny_passesOwn hp (cR (T.done X rfl rfl rfl hc i pins s3 σ3 H3 X.xe I3 (stat fr3) st3 stop) λr s4 ⟨hr,I4⟩=>?_)
  subst hr;exact wpAny_execs_nil ⟨σ3,H3,I4,qn⟩
 .refine wpAny_passesOwn hp (cR (T.item X rfl rfl rfl hc i pins s3 σ3 H3 X.xe I3 (stat fr3) st3 go) λr s4 ⟨u,hr,h4⟩=>?_)
  subst hr;refine wpAny_passesOwn hp (cR h4 λ_ s5 ⟨x,H5,I5,r5,y5,st5,fr5⟩=>?_);have I5':=I5.pinned (stat fr5) (T.obj _ _ st5);refine wpAny_passesOwn hp (cR (hg _ s5 σ3 H5 x u _ I5' r5 (step x H5 y5)) λ_ s6 ⟨σ6,H6,I6,q6⟩=>?_);refine wpAny_passesOwn hp (cR (hb _ s6 σ6 H6 _ I6 q6) λf s7 q7=>?_);have again:∀{σ7:St}{H7:Hp},Inv X (pins++ou fp s5.heap) σ7 H7 s7->N σ7 H7->∃m,m<n/\∃i σ' H',Inv X pins σ' H' s7/\tn i s7.heap/\(∀b∈fp,H' b=none)/\W i m σ' H':=λ{σ7 H7} I7 n7=>by
   obtain⟨m',hm,w7⟩:=hN σ7 H7 n7;refine⟨m',hm,i+1,σ7,H7,I7.unpinned,T.keep _ _ _ st5 λb hb o e=>(I7.pin (b,o) (List.mem_append_right _ (List.mem_append_right _ (iI hb e)))).1,λb hb=>?_,w7⟩;obtain⟨o,e,d⟩:=T.obj _ _ st5 b hb;exact(I7.pin (b,o) (List.mem_append_right _ (List.mem_append_right _ (iI hb e)))).2.1
  cases f with|next|cont=>obtain⟨σ7,H7,I7,n7⟩:=q7;exact again I7 n7|brk=>obtain⟨σ7,H7,I7,q7⟩:=q7;exact⟨σ7,H7,I7.unpinned,q7⟩|ret v=>obtain⟨x7,σ7,H7,I7,r7,q7⟩:=q7;exact⟨x7,σ7,H7,I7.unpinned,r7,q7⟩
end
def uK{K:W.Frag}{a:Addr}{xs:ad}{g:TG}{tb:TS}{D:fW}{σ:St}{H:Hp}(Pv:Nat->St->Hp->Prop)(h0:Pv 0 σ H)(hl:∀i σ H,i<=xs.length->Pv i σ H->dF K H a xs)
  (hs:∀i x σ H,xs[i]?=some x->Pv i σ H->g x σ H λσ2 H2=>tb { D with nx:=Pv (i+1),ct:=Pv (i+1),bk:=D.nx } σ2 H2)(hd:∀σ H,Pv xs.length σ H->D.nx σ H) :
  ∃W:Nat->Nat->St->Hp->Prop,(∃m,W 0 m σ H)/\∀i m σ H,W i m σ H ->
   ((KC K a).stop i H/\D.nx σ H)∨((KC K a).go i H/\∃N:St->Hp->Prop,(∀σ' H',N σ' H'->∃m',m' < m/\W (i+1) m' σ' H')/\∀x H',(KC K a).yld i H x H'->g x σ H' λσ2 H2=>tb { D with nx:=N,ct:=N,bk:=D.nx } σ2 H2):=by
 refine⟨λi m σ H=>m=xs.length-i/\i<=xs.length/\Pv i σ H,⟨xs.length,by simp,Nat.zero_le _,h0⟩,?_⟩;rintro i m σ H ⟨rfl,hi,p⟩;have q:=hl i σ H hi p
 by_cases hlt:i<xs.length
 .refine .inr ⟨⟨xs,xs[i],q,by simp[hlt]⟩,Pv (i+1),λσ' H' p'=>⟨xs.length-(i+1),by omega,rfl,hlt,p'⟩,λx H' y=>?_⟩
  obtain⟨e,y⟩:=y;subst e;exact hs i x σ _ (y xs q) p
 .have e:i=xs.length:=by omega
  subst e;exact .inl ⟨⟨xs,q,Nat.le_refl _⟩,hd σ H p⟩
def zm{lo:Int}{n:Nat}{g:TG}{tb:TS}{D:fW}{σ:St}{H:Hp}(Pv:Nat->St->Hp->Prop)(h0:Pv 0 σ H)
  (hs:∀i σ H,i<n->Pv i σ H->g (.int (lo+i)) σ H λσ2 H2=>tb { D with nx:=Pv (i+1),ct:=Pv (i+1),bk:=D.nx } σ2 H2)(hd:∀σ H,Pv n σ H->D.nx σ H) :
  ∃W:Nat->Nat->St->Hp->Prop,(∃m,W 0 m σ H)/\∀i m σ H,W i m σ H ->
   ((vA lo n).stop i H/\D.nx σ H)∨((vA lo n).go i H/\∃N:St->Hp->Prop,(∀σ' H',N σ' H'->∃m',m' < m/\W (i+1) m' σ' H')/\∀x H',(vA lo n).yld i H x H'->g x σ H' λσ2 H2=>tb { D with nx:=N,ct:=N,bk:=D.nx } σ2 H2):=by
 refine⟨λi m σ H=>m=n-i/\i<=n/\Pv i σ H,⟨n,by simp,Nat.zero_le _,h0⟩,?_⟩;rintro i m σ H ⟨rfl,hi,p⟩
 by_cases hlt:i<n
 .refine .inr ⟨hlt,Pv (i+1),λσ' H' p'=>⟨n-(i+1),by omega,rfl,hlt,p'⟩,λx H' y=>?_⟩
  obtain⟨e,y⟩:=y;subst e y;exact hs i σ _ hlt p
 .have e:i=n:=by omega
  subst e;exact .inl ⟨Nat.le_refl _,hd σ H p⟩
abbrev R2:=V->V->Hp->VK->Prop
def fP(X:Cx)(f:Value->Value->Sem Value)(r:R2):Prop :=
 ∀(pins:List (Addr×Obj)) (s:Shared) (σ:St) (H:Hp) (x y:V) (v u:Value) (Q:VK),Inv X pins σ H s->bq x v->bq y u->r x y H Q ->
  wpAny (model X.prog X.w) X.A (f v u) (EP X pins σ Q) X.xe s
def KS(X:Cx)(f:Value->Sem Value)(r:V->Hp->VK->Prop):Prop :=
 ∀(pins:List (Addr×Obj)) (s:Shared) (σ:St) (H:Hp) (x:V) (v:Value) (Q:VK),Inv X pins σ H s->bq x v->r x H Q ->
  wpAny (model X.prog X.w) X.A (f v) (EP X pins σ Q) X.xe s
def gT(X:Cx)(f:Value)(r:ad->Hp->VK->Prop):Prop :=
 ∀(pins:List (Addr×Obj)) (s:Shared) (σ:St) (H:Hp) (xs:ad) (us:List Value) (Q:VK),Inv X pins σ H s->bo xs us->r xs H Q ->
  wpAny (model X.prog X.w) X.A (call f us) (EP X pins σ Q) X.xe s
def MG(X:Cx)(r:V->Hp->(Bool->Hp->Prop)->Prop):Prop :=
 ∀(pins:List (Addr×Obj)) (s:Shared) (σ:St) (H:Hp) (x:V) (v:Value) (Q:Bool->Hp->Prop),Inv X pins σ H s->bq x v->r x H Q ->
  wpAny (model X.prog X.w) X.A (truthy v) (TP X pins σ Q) X.xe s
def IU(r:R2)(ta tb:TE):TE:=λσ H Q=>ta σ H λx H1=>tb σ H1 λy H2=>r x y H2 Q
def Ml(r:V->Hp->VK->Prop)(ta:TE):TE:=λσ H Q=>ta σ H λx H1=>r x H1 Q
def rI(C:Int->Int->Prop)(g:Int->Int->V):R2:=λx y H Q=>∃i j,x=.int i/\y=.int j/\C i j/\Q (g i j) H
def AJ(g:Int->Int->V):R2:=λx y H Q=>∃i j,x=.int i/\y=.int j/\Q (g i j) H
def rU(g:Int->V):V->Hp->VK->Prop:=λx H Q=>∃i,x=.int i/\Q (g i) H
section
variable {X:Cx}{a b c:Expr}{ta tb tc:TE}{pos:Pos}
def Il(ha:PE X a ta)(hb:PE X b tb){pins:List (Addr×Obj)}{s:Shared}{σ:St}{H:Hp}{R:V->V->Hp->Prop}(I:Inv X pins σ H s)
  (h:ta σ H λx H1=>tb σ H1 λy H2=>R x y H2){Q:Value->Shared->Prop}{f:Value->Value->Sem Value}
  (hf:∀v u s2 x y H2,Inv X pins σ H2 s2->bq x v->bq y u->R x y H2->wpAny (model X.prog X.w) X.A (f v u) Q X.xe s2) :
  wpAny (model X.prog X.w) X.A (eval a X.env) (λv sg=>wpAny (model X.prog X.w) X.A (eval b X.env) (λu si=>wpAny (model X.prog X.w) X.A (f v u) Q X.xe si) X.xe sg) X.xe s:=by
 refine cR (ha pins s σ H _ I h) λv s1 ⟨x,H1,I1,r1,q1⟩=>?_;refine cR (hb pins s1 σ H1 _ I1 q1) λu s2 ⟨y,H2,I2,r2,q2⟩=>?_;exact hf v u s2 x y H2 I2 r1 r2 q2
def A3{op:Operator}{r:R2}(ho:fP X (binaryOp op) r)(ha:PE X a ta)(hb:PE X b tb):PE X (.BinOp a op b pos) (IU r ta tb):=by
 intro pins s σ H Q I h;exact wpAny_BinOp (Il ha hb I h λv u s2 x y H2 I2 rx ry q=>ho pins s2 σ H2 x y v u Q I2 rx ry q)
def AZ{op:UnaryOp}{r:V->Hp->VK->Prop}(ho:KS X (unaryOp op) r)(ha:PE X a ta):PE X (.UnaryOp op a pos) (Ml r ta):=by
 intro pins s σ H Q I h;exact UnaryOp_ (cR (ha pins s σ H _ I h) λv s1 ⟨x,H1,I1,r1,q1⟩=>ho pins s1 σ H1 x v Q I1 r1 q1)
def JK{f:Value->Value->Sem Value}{C:Int->Int->Prop}{g:Int->Int->Int}
  (rule:∀(i j:Int) (t u:Tok) (s:Shared) (Q:Value->Shared->Prop) (E:Value->Shared->Prop),C i j->Q (.int (g i j) s.toks) { s with toks:=s.toks+1 }->wpAny (model X.prog X.w) X.A (f (.int i t) (.int j u)) Q E s) :
  fP X f (rI C λi j=>.int (g i j)):=by
 intro pins s σ H x y v u Q I rx ry h;obtain⟨i,j,rfl,rfl,hc,q⟩:=h;obtain⟨t,rfl⟩:=rx;obtain⟨t',rfl⟩:=ry;exact rule i j t t' s _ _ hc ⟨.int (g i j),H,I.tok _,⟨_,rfl⟩,q⟩
def GP{f:Value->Value->Sem Value}{g:Int->Int->Int}
  (rule:∀(i j:Int) (t u:Tok) (s:Shared) (Q:Value->Shared->Prop) (E:Value->Shared->Prop),Q (.int (g i j) s.toks) { s with toks:=s.toks+1 }->wpAny (model X.prog X.w) X.A (f (.int i t) (.int j u)) Q E s) :
  fP X f (AJ λi j=>.int (g i j)):=by
 intro pins s σ H x y v u Q I rx ry h;obtain⟨i,j,rfl,rfl,q⟩:=h;obtain⟨t,rfl⟩:=rx;obtain⟨t',rfl⟩:=ry;exact rule i j t t' s _ _ ⟨.int (g i j),H,I.tok _,⟨_,rfl⟩,q⟩
def Dx{f:Value->Value->Sem Value}{g:Int->Int->Bool}
  (rule:∀(i j:Int) (t u:Tok) (s:Shared) (Q:Value->Shared->Prop) (E:Value->Shared->Prop),Q (.bool (g i j)) s->wpAny (model X.prog X.w) X.A (f (.int i t) (.int j u)) Q E s) :
  fP X f (AJ λi j=>.bl (g i j)):=by
 intro pins s σ H x y v u Q I rx ry h;obtain⟨i,j,rfl,rfl,q⟩:=h;obtain⟨t,rfl⟩:=rx;obtain⟨t',rfl⟩:=ry;exact rule i j t t' s _ _ ⟨.bl (g i j),H,I,rfl,q⟩
def LZ(i j:Int):Prop:=0<=j/\j<=1000000/\i.natAbs<2 ^ 64
def KI(i j:Int):Prop:=(-(2 ^ 64)<i/\i<2 ^ 64)∨(-(2 ^ 64)<j/\j<2 ^ 64)
def KI.ok{i j:Int}(h:KI i j):IntMulOk i j:=by
 rcases h with⟨h1,h2⟩|⟨h1,h2⟩
 .exact .of_left (intBits_le_64 h1 h2)
 .exact .of_right (intBits_le_64 h1 h2)
def vI(k:Nat):(0:Int)<=2 ^ k:=by
 rw[two_pow_cast];exact Int.natCast_nonneg _
def GO:fP X (binaryOp .Add) (AJ λi j=>.int (i+j)):=GP λ_ _ _ _ _ _ _ q=>add_int q
def GG:fP X (binaryOp .Sub) (AJ λi j=>.int (i-j)):=GP λ_ _ _ _ _ _ _ q=>sub_int q
def Du:fP X (binaryOp .Mod) (rI (λ_ j=>j≠0) λi j=>.int (i.fmod j)):=JK λ_ _ _ _ _ _ _ hc q=>mod_int' hc q
def GJ:fP X (binaryOp .Pow) (rI LZ λi j=>.int (i ^ j.toNat)):=JK λ_ _ _ _ _ _ _ hc q=>pow_int_small hc.1 hc.2.1 hc.2.2 q
def GH:fP X (binaryOp .RShift) (rI (λ_ j=>0<=j) λi j=>.int (i / 2 ^ j.toNat)):=JK λi j _ _ _ _ _ hc q=>
 rshift_int hc (by rw[Int.fdiv_eq_ediv_of_nonneg i (vI _)];exact q)
def GN:fP X (binaryOp .BitAnd) (AJ λi j=>.int (Builtin.bitAnd i j)):=GP λ_ _ _ _ _ _ _ q=>and_int q
def Mk{f:Value->Sem Value}{g:Int->Int}
  (rule:∀(i:Int) (t:Tok) (s:Shared) (Q:Value->Shared->Prop) (E:Value->Shared->Prop),Q (.int (g i) s.toks) { s with toks:=s.toks+1 }->wpAny (model X.prog X.w) X.A (f (.int i t)) Q E s) :
  KS X f (rU λi=>.int (g i)):=by
 intro pins s σ H x v Q I rx h;obtain⟨i,rfl,q⟩:=h;obtain⟨t,rfl⟩:=rx;exact rule i t s _ _ ⟨.int (g i),H,I.tok _,⟨_,rfl⟩,q⟩
def vH:KS X (unaryOp .USub) (rU λi=>.int (-i)):=Mk λ_ _ _ _ _ q=>neg_int q
end
section
variable {X:Cx}{a b c:Expr}{ta tb tc:TE}{pos:Pos}
def wA{pins:List (Addr×Obj)}{σ:St}{H:Hp}{s:Shared}{Q:VK}{k k':Bool}(I:Inv X pins σ H s)(q:Q (.bl k) H)(e:k=k'):EP X pins σ Q (.bool k') s:=by
 subst e;exact⟨.bl k,H,I,rfl,q⟩
def Bf:fP X (compareOp .Lt) (AJ λi j=>.bl (decide (i<j))):=Dx λ_ _ _ _ _ _ _ q=>lt_int q
def uo:fP X (compareOp .LtE) (AJ λi j=>.bl (decide (i<=j))):=Dx λ_ _ _ _ _ _ _ q=>le_int q
def xE:fP X (compareOp .Gt) (AJ λi j=>.bl (decide (j<i))):=Dx λ_ _ _ _ _ _ _ q=>gt_int q
def Bg:fP X (compareOp .GtE) (AJ λi j=>.bl (decide (j<=i))):=Dx λ_ _ _ _ _ _ _ q=>ge_int q
def yR:fP X (compareOp .In) (λx y H Q=>∃i j,x=.str i/\y=.str j/\Q (.bl (!(Builtin.Str.occurrences j i 0 j.length 1).isEmpty)) H):=by
 intro pins s σ H x y v u Q I rx ry h;obtain⟨i,j,rfl,rfl,q⟩:=h;obtain⟨t,rfl⟩:=rx;obtain⟨t',rfl⟩:=ry;exact in_str (wA I q rfl)
def rX:fP X (compareOp .Is) (λx y H Q=>y=.non/\Q (.bl (decide (x=.non))) H):=by
 intro pins s σ H x y v u Q I rx ry h;obtain⟨rfl,q⟩:=h;cases ry;refine is_none_gen (wA I q ?_);cases x<;>first
  |(cases rx;rfl)
  |(obtain⟨t,rfl⟩:=rx;rfl)
def rV:fP X (compareOp .IsNot) (λx y H Q=>y=.non/\Q (.bl (!decide (x=.non))) H):=by
 intro pins s σ H x y v u Q I rx ry h;obtain⟨rfl,q⟩:=h;cases ry;refine isnot_none_gen (wA I q ?_);cases x<;>first
  |(cases rx;rfl)
  |(obtain⟨t,rfl⟩:=rx;rfl)
def fP.or{f:Value->Value->Sem Value}{r r':R2}(h:fP X f r)(h':fP X f r'):fP X f (λx y H Q=>r x y H Q∨r' x y H Q):=by
 intro pins s σ H x y v u Q I rx ry q;rcases q with q|q
 .exact h pins s σ H x y v u Q I rx ry q
 .exact h' pins s σ H x y v u Q I rx ry q
def Ds{op:CmpOp}{r:R2}(ho:fP X (compareOp op) r)(ha:PE X a ta)(hb:PE X b tb)(hm:behindInMarks op b=false):PE X (.Compare a [op] [b] pos) (IU r ta tb):=by
 intro pins s σ H Q I h;exact wpAny_Compare1 (Il ha hb I h λv u s2 x y H2 I2 rx ry q=>ho pins s2 σ H2 x y v u Q I2 rx ry q) hm
def Fh(t:TE):TT:=λσ H Q=>t σ H λx H'=>∃k,x=.bl k/\Q k H'
def C7{op:CmpOp}{r:R2}(ho:fP X (compareOp op) r)(ha:PE X a ta)(hb:PE X b tb)(hm:behindInMarks op b=false):PT X (.Compare a [op] [b] pos) (Fh (IU r ta tb)):=by
 intro pins s σ H Q I h;refine wpAny_isTrue_Compare1 (cR (ha pins s σ H _ I h) λv s1 ⟨x,H1,I1,r1,q1⟩=>cR (hb pins s1 σ H1 _ I1 q1) λu s2 ⟨y,H2,I2,r2,q2⟩ =>
  cR (ho pins s2 σ H2 x y v u _ I2 r1 r2 q2) λc s3 ⟨z,H3,I3,r3,k,e,q3⟩=>?_) hm
 subst e;cases r3;exact wpAny_truthy_bool ⟨H3,I3,q3⟩
def Ao(r r':R2)(ta tb tc:TE):TE:=λσ H Q=>ta σ H λx H1=>tb σ H1 λy H2=>r x y H2 λz H3=>∃k,z=.bl k /\
 (if k=true then tc σ H3 λw' H4=>r' y w' H4 Q else Q (.bl false) H3)
def AN{op op':CmpOp}{r r':R2}(ho:fP X (compareOp op) r)(ho':fP X (compareOp op') r')(ha:PE X a ta)(hb:PE X b tb)(hc:PE X c tc)
  (hm:lastMarks [op,op'] [b,c]=false:=by with_unfolding_all rfl):PT X (.Compare a [op,op'] [b,c] pos) (Fh (Ao r r' ta tb tc)):=by
 intro pins s σ H Q I h;refine isTrue_chain (cR (ha pins s σ H _ I h) λv s1 ⟨x,H1,I1,r1,q1⟩=>test_link (cR (hb pins s1 σ H1 _ I1 q1) λu s2 ⟨y,H2,I2,r2,q2⟩ =>
  cR (ho pins s2 σ H2 x y v u _ I2 r1 r2 q2) λd s3 ⟨z,H3,I3,r3,k,e,q3⟩=>?_)) hm
 subst e;cases r3;refine wpAny_truthy_bool ?_;cases k with
 |false=>
  obtain⟨k',e',q'⟩:=q3;cases e';exact ite_ff ⟨H3,I3,q'⟩
 |true=>
  refine ite_tt (test_last (cR (hc pins s3 σ H3 _ I3 q3) λw' s4 ⟨z',H4,I4,r4,q4⟩=>cR (ho' pins s4 σ H4 y z' u w' _ I4 r2 r4 q4) λd' s5 z9=>?_));obtain⟨z2,H5,I5,r5,k2,e2,q5⟩:=z9;subst e2;cases r5;exact wpAny_truthy_bool ⟨H5,I5,q5⟩
noncomputable def MF(K:W.Frag) (x:V) (H:Hp) (k:Bool):Prop :=
 match x with
 |.non=>k=false
 |.bl b=>k=b
 |.int i=>k=(i != 0)
 |.str y=>y.length<=sizeLine/\k=((y.length:Int) != 0)
 |.byt y=>y.size<=sizeLine/\k=((y.size:Int) != 0)
 |.ref p=>(∃xs,dF K H p xs/\k=!xs.isEmpty)∨(∃xs,fS K H p xs/\k=!xs.isEmpty)∨∃kvs,H p=some (.dK kvs)/\k=!kvs.isEmpty
 |_=>False
def G5{κ:Type}{kvs:List (κ×V)}{vs:List (κ×Value)}(r:KV kvs vs):(!vs.isEmpty)=!kvs.isEmpty:=by
 cases r<;>rfl
def G4{xs:ad}{its:List Value}(r:bo xs its):(!its.toArray.isEmpty)=!xs.isEmpty:=by
 cases r<;>simp
def sC:(sizeLine:Nat)<2 ^ 63:=by rw[sizeLine_eq];decide
def wa:fP X (binaryOp .Add) (λx y H Q=>∃i j,x=.str i/\y=.str j/\i.length+j.length<=sizeLine/\Q (.str (i++j)) H):=by
 intro pins s σ H x y v u Q I rx ry h;obtain⟨i,j,rfl,rfl,hz,q⟩:=h;obtain⟨t,rfl⟩:=rx;obtain⟨t',rfl⟩:=ry;exact add_str (λt' tk=>⟨.str (i++j),H,I.tok _,⟨_,rfl⟩,q⟩) hz
def mE{x:V}{us:List Value}(r:bo [x] us):∃u,us=[u]/\bq x u:=by
 cases r with|cons r1 r2=>cases r2;exact⟨_,rfl,r1⟩
def IL{x y:V}{us:List Value}(r:bo [x,y] us):∃u w',us=[u,w']/\bq x u/\bq y w':=by
 cases r with
 |cons r1 r2=>
  cases r2 with|cons r3 r4=>cases r4;exact⟨_,_,rfl,r1,r3⟩
def jN:gT X (.builtin "abs") (λxs H Q=>∃i,xs=[.int i]/\Q (.int (if i<0 then -i else i)) H):=by
 intro pins s σ H xs us Q I r h;obtain⟨i,rfl,q⟩:=h;obtain⟨u,rfl,t,rfl⟩:=mE r;exact call_abs_int λu tk=>⟨.int (if i<0 then -i else i),H,I.tok _,⟨_,rfl⟩,q⟩
def zD(hc:X.calm=true):gT X (.builtin "min") (λxs H Q=>∃i j,xs=[.int i,.int j]/\Q (.int (if j<i then j else i)) H):=by
 intro pins s σ H xs us Q I r h;obtain⟨i,j,rfl,q⟩:=h;obtain⟨u,w',rfl,⟨t,rfl⟩,⟨t',rfl⟩⟩:=IL r;refine min_two_ints (I.ok.hd hc) λh' tk k=>⟨_,H,I.kept k,?_,q⟩
 by_cases hj:j<i
 .rw[if_pos hj,if_pos hj];exact⟨_,rfl⟩
 .rw[if_neg hj,if_neg hj];exact⟨_,rfl⟩
def zE:gT X (.type "int") (λxs H Q=>(∃i,xs=[.int i]/\Q (.int i) H)∨∃k,xs=[.bl k]/\Q (.int (if k then 1 else 0)) H):=by
 intro pins s σ H xs us Q I r h;rcases h with⟨i,rfl,q⟩|⟨k,rfl,q⟩
 .obtain⟨u,rfl,t,rfl⟩:=mE r
  exact call_int_int ⟨.int i,H,I,⟨_,rfl⟩,q⟩
 .obtain⟨u,rfl,r1⟩:=mE r
  cases r1;exact call_int_bool ⟨.int (if k then 1 else 0),H,I.tok _,⟨_,rfl⟩,q⟩
def KA(K:W.Frag)(x:V)(H:Hp)(n:Nat):Prop :=
 match x with
 |.str y=>y.length<=sizeLine/\n=y.length
 |.byt y=>y.size<=sizeLine/\n=y.size
 |.ref p=>(∃xs,dF K H p xs/\n=xs.length)∨∃xs,fS K H p xs/\n=xs.length
 |_=>False
def bS:gT X (.builtin "len") (λxs H Q=>∃x n,xs=[x]/\KA X.K x H n/\Q (.int n) H):=by
 intro pins s σ H xs us Q I r h;obtain⟨x,n,rfl,e,q⟩:=h;obtain⟨u,rfl,rx⟩:=mE r;have hl:=sC;have hs:sizeLine=16777216:=sizeLine_eq;cases x with
 |str y=>
  obtain⟨t,rfl⟩:=rx;obtain⟨hy,e'⟩:y.length<=sizeLine/\n=y.length:=e;subst e';exact len_str (by omega) ⟨.int _,H,I.tok _,⟨_,rfl⟩,q⟩
 |byt y=>
  obtain⟨t,rfl⟩:=rx;obtain⟨hy,e'⟩:y.size<=sizeLine/\n=y.size:=e;subst e';exact W.len_bytes (by omega) ⟨.int _,H,I.tok _,⟨_,rfl⟩,q⟩
 |ref p=>
  cases rx;have e':(∃xs,dF X.K H p xs/\n=xs.length)∨∃xs,fS X.K H p xs/\n=xs.length:=e;rcases e' with⟨xs,hx,e'⟩|⟨xs,hx,e'⟩
  .subst e'
   obtain⟨its,r',pl,hz⟩:=I.list hx;have hlen:=r'.length;exact Calls.call_len_list pl.isList (by simp only[List.size_toArray];omega) ⟨.int xs.length,H,I.tok _,⟨_,by simp only[List.size_toArray];rw[hlen]⟩,q⟩
  .subst e'
   obtain⟨its,r',pl,hz⟩:=I.tuple hx;have hlen:=r'.length;exact len_tuple pl (by simp only[List.size_toArray];omega) ⟨.int xs.length,H,I.tok _,⟨_,by simp only[List.size_toArray];rw[hlen]⟩,q⟩
 |_=>exact(show False from e).elim
end
structure Iq (h:Heap) (x dx C:Addr) (mA:Str->Option Value):Prop where
 obj:h.get? x=some (W.instObj C dx)
 ns:h.Ns1 dx mA
 ne:dx≠x
def za{h:Heap}{dx:Addr}{mA:Str->Option Value}(n:h.Ns1 dx mA):∃od,h.get? dx=some od/\∀name,W.lookIn name od=some (mA name):=by
 obtain⟨o,es,ep,ho,hd,hk,_,hm⟩:=n;refine⟨o,ho,λname=>?_⟩;have e:=hm name;unfold nsFind findBy at e;rw[←Array.find?_toList]at e;unfold W.lookIn;rw[hd];dsimp only;split
 .rename_i y q
  rw[q]at e;exact congrArg some e
 .rename_i q
  rw[q]at e;have a:es.toList.any (·.refKey)=false:=by
   rw[List.any_eq_false];intro y hy;obtain⟨z,t,hkey⟩:=hk y (Array.mem_toList_iff.mp hy);simp[DictEntry.refKey,hkey]
  have a':¬es.toList.any (·.refKey)=true:=by rw[a];exact Bool.false_ne_true
  rw[if_neg a'];exact congrArg some e
def Iq.look{h:Heap}{x dx C:Addr}{mA:Str->Option Value}(I:Iq h x dx C mA):∃od,W.InstAt h x (W.instObj C dx) C (some od)/\∀name,W.lookIn name od=some (mA name) :=
 let ⟨od,ho,hl⟩:=za I.ns
 ⟨od,⟨I.obj,rfl,rfl,ho⟩,hl⟩
def pU.some_of{v:V}{o:Option Value}(r:pU (some v) o):∃u,o=some u/\bq v u:=by
 cases o with|none=>exact(show False from r).elim|some u=>exact⟨u,rfl,r⟩
section
variable {P:Program}{w:World}{H H':Hp}{h h':Heap}{a C dx:Addr}{fs fs':List (Str×V)}
def xR(hok:ka P w H h)(e:H a=some (.ins C dx fs)):∃mA,Iq h a dx C mA/\(∀f,pU (fs.lookup f) (mA f))/\PySem.Within mA (fs.map (·.1))/\fs.length<=1000/\H dx=some (.own a):=by
 obtain⟨d,z,ne,ob,mA,n,r,q⟩:=(show bJ P w H h a (.ins C dx fs) from hok a _ e)
 exact⟨mA,⟨ob,n,ne⟩,r,q,z,d⟩
end
structure K1 (K:W.Frag) (C:Addr):Prop where
 pg:W.plainGet K C Str.empty=true
 hd:W.hasDictIn K C=true
 po:W.plainOver K C=true
 sa:W.findIn K (.ref C) "__setattr__"=some (some (.builtin "object.__setattr__"))
def K1.get{K:W.Frag}{C:Addr}(c:K1 K C)(f:Str):W.plainGet K C f=true:=c.pg
def Iu(K:W.Frag)(C:Addr)(f:Str):Prop:=W.findIn K (.ref C) f=some none
section
variable {X:Cx}{pins:List (Addr×Obj)}{σ:St}{H:Hp}{s:Shared}{A:Around}{E:Value->Shared->Prop}{Q:Value->Shared->Prop}{c:Value}{b:Bool}
inductive nr (K:W.Frag) (H:Hp):V->Value->Prop where
 |non:nr K H .non (.type "NoneType")
 |bl (x:Bool):nr K H (.bl x) (.type "bool")
 |int (i:Int):nr K H (.int i) (.type "int")
 |str (x:Str):nr K H (.str x) (.type "str")
 |flt (x:UInt64):nr K H (.flt x) (.type "float")
 |lst {a:Addr}{xs:ad}(e:H a=some (.lst xs)):nr K H (.ref a) (.type "list")
 |frz {a:Addr}{o:Obj}{xs:ad}(e:H a=some (.frz o (.lst xs))):nr K H (.ref a) (.type "list")
 |tup {a:Addr}{xs:ad}(e:H a=some (.tup xs)):nr K H (.ref a) (.type "tuple")
 |dK {a:Addr}{kvs:List (cq×V)}(e:H a=some (.dK kvs)):nr K H (.ref a) (.type "dict")
 |dT {a:Addr}{kvs:List (List cq×V)}(e:H a=some (.dT kvs)):nr K H (.ref a) (.type "dict")
 |ins {a C dx:Addr}{fs:List (Str×V)}(e:H a=some (.ins C dx fs)) (cl:K1 K C) (ha:W.findIn K (.ref C) "__class__"=some (some (.builtin "object.__class__")))
   (hn:W.specialIn K (.builtin "object.__class__") "__get__"=some (some (.builtin "getset_descriptor.__get__"))) (htk:W.takesIn K (.builtin "object.__class__")=some true)
   (hm:W.mroIn K C (.type "object")=some true):nr K H (.ref a) (.ref C)
def ir{x:V}{u t:Value}(I:Inv X pins σ H s)(rx:bq x u)(ty:nr X.K H x t)(e:W.kitOne X.K t c=some b)(h:∀tk,Q (.bool b) { s with toks:=tk }) :
  wpAny (model X.prog X.w) A (call (.builtin "isinstance") [u,c]) Q E s:=by
 cases ty with
 |non=>cases (show u=Value.none from rx);exact W.kia_one W.kitx_none I.kIn True.intro e (λz=>nomatch z) h|bl y=>cases (show u=Value.bool y from rx);exact W.kia_one W.kitx_bool I.kIn True.intro e (λz=>nomatch z) h|int i=>obtain⟨t,q⟩:=(show ∃t,u=Value.int i t from rx);cases q;exact W.kia_one W.kitx_int I.kIn True.intro e (λz=>nomatch z) h|str y=>obtain⟨t,q⟩:=(show ∃t,u=Value.str y t from rx);cases q;exact W.kia_one W.kitx_str I.kIn True.intro e (λz=>nomatch z) h|flt y=>obtain⟨t,q⟩:=(show ∃t,u=Value.float y t from rx);cases q;exact W.kia_one W.kitx_float I.kIn True.intro e (λz=>nomatch z) h
 |@lst a xs ea=>
  cases (show u=Value.ref a from rx);obtain⟨_,_,n,_,h1⟩:=(show bJ X.prog X.w H s.heap a (.lst xs) from I.hok a _ ea)
  exact W.kia_one W.kitx_list I.kIn ⟨_,h1,rfl⟩ e (λz=>nomatch z) h
 |@frz a ob xs ea=>
  cases (show u=Value.ref a from rx);obtain⟨_,_,_,n,_,h1⟩:=(show bJ X.prog X.w H s.heap a (.frz ob (.lst xs)) from I.hok a _ ea)
  exact W.kia_one W.kitx_list I.kIn ⟨_,h1,rfl⟩ e (λz=>nomatch z) h
 |@tup a xs ea=>
  cases (show u=Value.ref a from rx);obtain⟨_,_,_,p⟩:=(show bJ X.prog X.w H s.heap a (.tup xs) from I.hok a _ ea)
  obtain⟨o,h1,h2,_⟩:=p;exact W.kia_one W.kitx_tuple I.kIn ⟨o,h1,h2⟩ e (λz=>nomatch z) h
 |@dK a kvs ea=>
  cases (show u=Value.ref a from rx);obtain⟨_,_,vs,_,p⟩:=(show bJ X.prog X.w H s.heap a (.dK kvs) from I.hok a _ ea)
  obtain⟨o,es,ep,h1,h2,_⟩:=p;exact W.kia_one W.kitx_dict I.kIn ⟨o,h1,h2.1⟩ e (λz=>nomatch z) h
 |@dT a kvs ea=>
  cases (show u=Value.ref a from rx);obtain⟨_,_,xs,_,o,es,ep,h1,h2,_⟩:=(show bJ X.prog X.w H s.heap a (.dT kvs) from I.hok a _ ea)
  exact W.kia_one W.kitx_dict I.kIn ⟨o,h1,h2.1⟩ e (λz=>nomatch z) h
 |@ins a C dx fs ea cl ha hn htk hm=>
  cases (show u=Value.ref a from rx);obtain⟨mA,O,_⟩:=xR I.hok ea;obtain⟨od,J,_⟩:=O.look;exact W.kia_one (W.kitx_own (cl.get _) cl.hd ha hn htk hm) I.kIn J e (λz=>nomatch z) h
end
structure dX (k:Nat) (A:Around):Prop where
 hd:A.handled=none
 dp:A.depth+3*k+5<recursionLimit
 un:A.units+16*k+200<cLine
 gd:A.guards=some []
def dX.mono{j k:Nat}{A:Around}(r:dX k A)(h:j<=k):dX j A:=⟨r.hd,by have:=r.dp;omega,by have:=r.un;omega,r.gd⟩
def dX.deeper{k:Nat}{A:Around}(r:dX (k+1) A)(env:Env):dX k (A.deeper env) :=
 ⟨r.hd,by have:=r.dp;show A.depth+1+3*k+5<_;omega,by have:=r.un;show A.units+3+16*k+200<_;omega,r.gd⟩
def dX.depth{k:Nat}{A:Around}(r:dX k A):A.depth<recursionLimit:=by have:=r.dp;omega
def dX.units{k:Nat}{A:Around}(r:dX k A):A.units+64<cLine:=by have:=r.un;omega
def Lf:TA:=λ_ H Q=>Q [] H
def Ja(ta:TE)(tr:TA):TA:=λσ H Q=>ta σ H λx H1=>tr σ H1 λxs H2=>Q (x::xs) H2
section
variable {X:Cx}{e:Expr}{es:List Expr}{te:TE}{t:TA}{pos:Pos}
def fI:PA X [] Lf:=λ_ _ _ _ H Q I h=>Calls.spliced_nil ⟨[],H,I,.nil,h⟩
def cQ(ha:PE X e te)(hr:PA X es t)(hs:starEach (e::es) X.env=(false,eval e X.env)::starEach es X.env:=by rfl):PA X (e::es) (Ja te t):=by
 intro pos pins s σ H Q I h;rw[hs];show wpAny _ _ (spliced ((false,eval e X.env)::backTo pos (starEach es X.env))) _ _ s;refine Calls.spliced_cons (cR (ha pins s σ H _ I h) λu s1 ⟨x,H1,I1,r1,q1⟩=>?_);exact cR (hr pos pins s1 σ H1 _ I1 q1) λus s2 ⟨xs,H2,I2,r2,q2⟩=>⟨x::xs,H2,I2,.cons r1 r2,q2⟩
def K5(t:TA):TE:=λσ H Q=>t σ H λxs H1=>xs.length<=sizeLine/\∀p,H1 p=none->Q (.ref p) (upd H1 p (.tup xs))
def Lg(t:TA):TE:=λσ H Q=>t σ H λxs H1=>xs.length<=sizeLine/\∀p,H1 p=none->Q (.ref p) (upd H1 p (.lst xs))
def A0{x1}(h:PA X es t):PE X (.Tuple es x1 pos) (K5 t):=by
 intro pins s σ H Q I hq;refine wpAny_Tuple_spliced (cR (h pos pins s σ H _ I hq) λus s1 ⟨xs,H1,I1,r,z,q⟩=>⟨by rw[←r.length];exact z,?_⟩);have hf:H1 s1.heap.objs.size=none:=I1.hok.fresh (Nat.le_refl _);refine⟨.ref s1.heap.objs.size,upd H1 s1.heap.objs.size (.tup xs),I1.laid (t':=s1.toks) (λb u e=>Heap.get?_push_of_some _ e) (Nat.le_refl _) ?_,rfl,q _ hf⟩;exact⟨z,us,r,⟨_,Heap.get?_push_size _ rfl,rfl,_,rfl⟩⟩
def v8(h:PA X es t):PE X (.List es pos) (Lg t):=by
 intro pins s σ H Q I hq;refine wpAny_List_spliced (cR (h pos pins s σ H _ I hq) λus s1 ⟨xs,H1,I1,r,z,q⟩=>⟨by rw[←r.length];exact z,?_⟩);have hf:H1 s1.heap.objs.size=none:=I1.hok.fresh (Nat.le_refl _);refine⟨.ref s1.heap.objs.size,upd H1 s1.heap.objs.size (.lst xs),I1.laid (t':=s1.toks) (λb u e=>Heap.get?_push_of_some _ e) (Nat.le_refl _) ?_,rfl,q _ hf⟩;exact⟨z,us,0,r,Heap.get?_push_size _ rfl⟩
end
abbrev Sp:=ad->Hp->VK->XK->Prop
abbrev pY:=List Env->Hp->Shared->XK->Value->Shared->Prop
structure Cn (P:Program) (w:World) (K:W.Frag) (mg:Str->Option Value) (base:Heap) (A:Around) (outer:List Env) (s:Shared) (H:Hp):Prop where
 frames:A.frames=some outer
 mod:Mod K mg base
 bs:∀b o,base.get? b=some o->s.heap.get? b=some o/\H b=none
 bsz:base.objs.size<=s.heap.objs.size
 funs:s.heap.FunFrames base outer
 frf:∀b∈zP outer,H b=none
 hok:ka P w H s.heap
 bare:AllBare s.gens
def CE(outer:List Env)(P:Program)(w:World)(H:Hp)(s:Shared)(Q:VK)(u:Value)(s':Shared):Prop :=
 ∃v H',s'.os=s.os/\AllBare s'.gens/\Un (zP outer) [] H H' s.heap s'.heap/\ka P w H' s'.heap/\bq v u/\Q v H'
def CR(CX:pY)(outer:List Env)(P:Program)(w:World)(H:Hp)(s:Shared)(Q:VK)(E:XK)(r:Result)(s':Shared):Prop :=
 match r with
 |.ok (.ret u)=>CE outer P w H s Q u s'
 |.ok _=>False
 |.error e=>CX outer H s E e s'
structure gE (P:Program) (w:World) (K:W.Frag) (mg:Str->Option Value) (base:Heap) (CX:pY) (k:Nat) (f:Addr) (fd:FuncData) (ps:List Str) (sp:Sp):Prop where
 len:∀vs H Q E,sp vs H Q E->vs.length=ps.length
 run:∀(A:Around) (outer:List Env) (s:Shared) (H:Hp) (args:Args) (us:List Value) (vs:ad) (Q:VK) (E:XK),dX k A->Cn P w K mg base A outer s H->BindsTo s fd args (ps.zip us)->bo vs us->sp vs H Q E ->
  codeAny (model P w) A (.call (.ref f) args) (CR CX outer P w H s Q E) s
def gE.mono{P:Program}{w:World}{K:W.Frag}{mg:Str->Option Value}{base:Heap}{CX:pY}{j k:Nat}{f:Addr}{fd:FuncData}{ps:List Str}{sp:Sp}(F:gE P w K mg base CX j f fd ps sp)(h:j<=k) :
  gE P w K mg base CX k f fd ps sp:=⟨F.len,λA outer s H args us vs Q E hr=>F.run A outer s H args us vs Q E (hr.mono h)⟩
def gE.imp{P:Program}{w:World}{K:W.Frag}{mg:Str->Option Value}{base:Heap}{CX:pY}{k:Nat}{f:Addr}{fd:FuncData}{ps:List Str}{sp sp':Sp}(F:gE P w K mg base CX k f fd ps sp)
  (h:∀vs H Q E,sp' vs H Q E->sp vs H Q E):gE P w K mg base CX k f fd ps sp' :=
 ⟨λvs H Q E q=>F.len vs H Q E (h _ _ _ _ q),λA outer s H args us vs Q E hr he hb hv hs=>F.run A outer s H args us vs Q E hr he hb hv (h _ _ _ _ hs)⟩
section
variable {X:Cx}{pins:List (Addr×Obj)}{σ:St}{H:Hp}{s s':Shared}
def Inv.env0(I:Inv X pins σ H s):Cn X.prog X.w X.K X.mg X.base X.A X.stack s H :=
 ⟨I.ok.frames,I.ok.mod,I.bs,Nat.le_trans I.ok.bsz I.sz,I.stack,I.stkFree,I.hok,I.bare⟩
def Inv.after{Q:VK}{u:Value}(I:Inv X pins σ H s)(h:CE X.stack X.prog X.w H s Q u s'):EP X pins σ Q u s':=by
 obtain⟨v,H',os,bare,un,hok,r,q⟩:=h;obtain⟨hh,g,d,t,os'⟩:=s';obtain rfl:os'=s.os:=os;exact⟨v,H',I.call (h':=hh) (g':=g) (d':=d) (t':=t) (ch:=[]) un hok bare (λb z=>absurd z (by simp)),r,q⟩
end
def Jb(sp:Sp)(dvs:ad)(E:XK)(t:TA):TE:=λσ H Q=>t σ H λvs H1=>sp (vs++dvs) H1 Q E
def lW(K:W.Frag)(fd:FuncData)(ps:List Str)(ds:List Value):Prop :=
 ∀(s:Shared) (us:List Value),K.In s.heap->(us++ds).length=ps.length->BindsTo s fd ⟨us,[]⟩ (ps.zip (us++ds))
def lW.all{K:W.Frag}{fd:FuncData}{ps:List Str}(h:∀us:List Value,us.length=ps.length->bindArgs fd ⟨us,[]⟩=pure (ps.zip us)):lW K fd ps []:=λs us _ hl=>by
 rw[List.append_nil]at hl ⊢;exact .of_eq (h us hl)
def i4(CX:pY)(X:Cx)(E:XK):Prop:=∀(pins:List (Addr×Obj)) (σ:St) (H:Hp) (s:Shared) (e:Value) (s':Shared),Inv X pins σ H s->CX X.stack H s E e s'->X.xe e s'
section
variable {X:Cx}{CX:pY}{k:Nat}{f C:Addr}{fd:FuncData}{ps:List Str}{sp:Sp}{dvs:ad}{ds:List Value}{E:XK}{x m:Str}{p pos apos:Pos}{e o:Expr}{es:List Expr}{ta:TE}{t:TA}
def Gk{pins:List (Addr×Obj)}{σ:St}{H:Hp}{s:Shared}{Q:VK}{us:List Value}{vs:ad}(F:gE X.prog X.w X.K X.mg X.base CX k f fd ps sp)(hr:dX k X.A)(hb:lW X.K fd ps ds)(hd:bo dvs ds)(hx:i4 CX X E)
  (I:Inv X pins σ H s)(r:bo vs us)(h:sp (vs++dvs) H Q E):wpAny (model X.prog X.w) X.A (call (.ref f) us) (EP X pins σ Q) X.xe s:=by
 have r2:bo (vs++dvs) (us++ds):=r.append hd;have hl:(us++ds).length=ps.length:=by rw[←r2.length];exact F.len _ _ _ _ h
 refine wpAny_call (codeAny_mono (F.run X.A X.stack s H ⟨us,[]⟩ (us++ds) (vs++dvs) Q E hr I.env0 (hb s us I.kIn hl) r2 h) λr s' hq=>?_);cases r with
 |error e=>exact hx pins σ H s e s' I hq
 |ok fl=>
  cases fl with|ret u=>exact I.after hq|next|brk|cont=>exact False.elim hq
def rT(F:gE X.prog X.w X.K X.mg X.base CX k f fd ps sp)(hr:dX k X.A)(hg:Gl X x)(hm:X.mg x=some (.ref f))(hk:W.keepIn X.K (.ref f)=true)(hb:lW X.K fd ps ds)(hd:bo dvs ds)(hx:i4 CX X E)
  (ha:PA X (e::es) t)(hdb:(x==("__debug__":Str))=false:=by decide)(he:starEach (e::es) X.env=(false,eval e X.env)::starEach es X.env:=by rfl)(hpl:(backTo pos (starEach es X.env)).any (·.1)=false:=by rfl) :
  PE X (.Call (.Name x p) (e::es) [] pos) (Jb sp dvs E t):=by
 intro pins s σ H Q I h;refine wpAny_Call_Name_kw (xP I hg hm ?_ hdb);refine W.callWith_K (h₀:=X.base) I.ok.mod.kin hk (cR (ha pos pins s σ H _ I h) λus s1 z9=>?_) he hpl;obtain⟨vs,H1,I1,r,q⟩:=z9;refine⟨I1.kIn,?_⟩;exact Gk F hr hb hd hx I1 r q
end
structure gS (N P:List Str) (sc:Scope):Prop where
 kind:sc.kind=.function
 co:sc.isCoroutine=false
 gen:sc.isGenerator=false
 nd:N.Nodup
 pre:N.take P.length=P
 par:∀x∈P,sc.names.lookup x=some .local ∨ sc.names.lookup x=some .cell
 nofree:∀y∈sc.names,y.2≠.free
theorem rl{kindOf:Str->Option NameKind}{x:Str}:∀{binds:List (Str×Value)}{m:Str->Option Value},(∀v,(x,v)∉binds)->bindL kindOf binds m x=m x
 |[],_,_=>rfl
 |(n,v)::r,m,h=>by
  unfold bindL;rw[rl λw hw=>h w (List.mem_cons_of_mem _ hw)];split
  .have:x≠n:=by rintro rfl;exact h v List.mem_cons_self
   simp[this]
  .rfl
theorem rn{kindOf:Str->Option NameKind}{x:Str}:∀{binds:List (Str×Value)}{m:Str->Option Value},(∀v,(x,v)∉binds)->bindC kindOf binds m x=m x
 |[],_,_=>rfl
 |(n,v)::r,m,h=>by
  unfold bindC;rw[rn λw hw=>h w (List.mem_cons_of_mem _ hw)];split
  .rfl
  .have:x≠n:=by rintro rfl;exact h v List.mem_cons_self
   simp[this]
theorem rm{kindOf:Str->Option NameKind}{x:Str}{v:Value}:∀{P:List Str}{vs:List Value}{i:Nat}{m:Str->Option Value},P.Nodup->P[i]?=some x->vs[i]?=some v->kindOf x=some .local ->
  bindL kindOf (P.zip vs) m x=some v
 |[],_,_,_,_,h,_,_=>by simp at h
 |_::_,[],_,_,_,_,h,_=>by simp at h
 |p::P,w::vs,0,m,nd,h1,h2,hk=>by
  simp at h1 h2;subst h1;subst h2;show bindL kindOf ((p,w)::P.zip vs) m p=_;unfold bindL;rw[rl λv hv=>(List.nodup_cons.mp nd).1 (List.of_mem_zip hv).1,if_pos hk];simp
 |p::P,w::vs,i+1,m,nd,h1,h2,hk=>by
  show bindL kindOf ((p,w)::P.zip vs) m x=_;unfold bindL;exact rm (i:=i) (List.nodup_cons.mp nd).2 (by simpa using h1) (by simpa using h2) hk
theorem ro{kindOf:Str->Option NameKind}{x:Str}{v:Value}:∀{P:List Str}{vs:List Value}{i:Nat}{m:Str->Option Value},P.Nodup->P[i]?=some x->vs[i]?=some v->kindOf x≠some .local ->
  bindC kindOf (P.zip vs) m x=some v
 |[],_,_,_,_,h,_,_=>by simp at h
 |_::_,[],_,_,_,_,h,_=>by simp at h
 |p::P,w::vs,0,m,nd,h1,h2,hk=>by
  simp at h1 h2;subst h1;subst h2;show bindC kindOf ((p,w)::P.zip vs) m p=_;unfold bindC;rw[rn λv hv=>(List.nodup_cons.mp nd).1 (List.of_mem_zip hv).1,if_neg hk];simp
 |p::P,w::vs,i+1,m,nd,h1,h2,hk=>by
  show bindC kindOf ((p,w)::P.zip vs) m x=_;unfold bindC;exact ro (i:=i) (List.nodup_cons.mp nd).2 (by simpa using h1) (by simpa using h2) hk
def start(N:List Str)(vs:ad):St:=vs.map some++List.replicate (N.length-vs.length) none
noncomputable def nq(CX:pY) (P:Program) (w:World) (K:W.Frag) (mg:Str->Option Value) (base:Heap) (N:List Str) (qual:Str) (scope:Scope) (f:Addr) (cd:Value) (A:Around) (outer:List Env) (s:Shared) (H:Hp) (E:XK):Cx where
 prog:=P
 w:=w
 K:=K
 mg:=mg
 base:=base
 A:=A.deeper (envOfC qual scope s.heap.objs.size f cd)
 N:=N
 sf:=s
 Ha:=H
 env:=envOfC qual scope s.heap.objs.size f cd
 outer:=outer
 stack:=envOfC qual scope s.heap.objs.size f cd::outer
 ex:=[]
 calm:=true
 fn:=λ_=>true
 pn:=[]
 xe:=λe s'=>wpAny (model P w) (A.deeper (envOfC qual scope s.heap.objs.size f cd)) (leaving (envOfC qual scope s.heap.objs.size f cd) e) (λ_ s''=>CX outer H s E e s'') (λe' s''=>CX outer H s E e' s'') s'
def vd{sc:Scope}{n:Nat}{x:Str}(h:sc.names.lookup x=some .cell):∃c,(cellsFrom n sc.names []).lookup x=some c:=by
 have q:=W.cellsFrom_some sc.names n [] (.inl h);exact Option.isSome_iff_exists.mp q
def zh{CX:pY}{P:Program}{w:World}{K:W.Frag}{mg:Str->Option Value}{base:Heap}{N ps:List Str}{qual:Str}{scope:Scope}{f:Addr}{cd:Value}{A:Around}{outer:List Env}{s s1:Shared}{H:Hp}{E:XK}{us:List Value}{vs:ad}
  (S:gS N ps scope)(hd:A.handled=none)(e0:Cn P w K mg base A outer s H)(hl:vs.length=ps.length)(r:bo vs us)
  (x:InCallC s s.heap.objs.size (bindL (envOfC qual scope s.heap.objs.size f cd).kindOf (ps.zip us) λ_=>none) (cellsFrom (s.heap.objs.size+1) scope.names []) (bindC (envOfC qual scope s.heap.objs.size f cd).kindOf (ps.zip us) λ_=>none) s1) :
  Inv (nq CX P w K mg base N qual scope f cd A outer s H E) [] (start N vs) H s1:=by
 have hpl:ps.length<=N.length:=by have:=congrArg List.length S.pre;rw[List.length_take]at this;omega
 obtain⟨h1,tk,rfl,hk⟩:=x.done;have noA:∀b:Addr,b∉(nq CX P w K mg base N qual scope f cd A outer s H E).ex:=λb z=>absurd (show b∈([]:List Addr) from z) (by simp);refine⟨⟨e0.mod,S.kind,rfl,rfl,Nat.le_refl _,λy z c h1 h2=>?_,λy hy=>?_,λy c _ h=>?_,λ_=>hd,Around.frames_deeper e0.frames,.inr ⟨rfl,rfl⟩,λb z=>absurd z (noA b),e0.bs,e0.bsz,λb _ _=>noA b,λb z=>absurd z (noA b),e0.funs,e0.frf⟩,
  rfl,e0.bare,Un.kept hk,⟨_,x.toInCall.ns,λi y v h1 h2 h3=>?_⟩,λy c h=>⟨_,x.cell y c h⟩,e0.hok.fresh (Nat.le_refl _),λy c h=>?_,λp hp=>absurd (show p∈([]:List (Addr×Obj)) from hp) (by simp),e0.hok.kept hk,?_⟩
 .exact name_of_addr x.apart (PySem.mem_of_lookup h1) (PySem.mem_of_lookup h2)
 .have hy:scope.names.lookup y=some .cell∨scope.names.lookup y=some .free:=hy
  rcases hy with hy|hy
  .exact vd hy
  .exact absurd rfl (S.nofree _ (PySem.mem_of_lookup hy))
 .exact Nat.le_of_lt (x.above y c (PySem.mem_of_lookup h))
 .have hi:i<vs.length:=by
   unfold start at h2
   by_cases hi:i<vs.length
   .exact hi
   .rw[List.getElem?_append_right (by simpa using hi)]at h2
    rw[List.getElem?_replicate]at h2;split at h2<;>cases h2
  have ha:vs[i]?=some v:=by
   unfold start at h2;rw[List.getElem?_append_left (by simpa using hi),List.getElem?_map]at h2;cases e:vs[i]? with|none=>rw[e]at h2;cases h2|some a=>rw[e]at h2;cases h2;rfl
  obtain⟨u,hu,rv⟩:=r.get ha;have hp:ps[i]?=some y:=by
   rw[←S.pre,List.getElem?_take_of_lt (by omega)];exact h1
  have ndP:ps.Nodup:=by rw[←S.pre];exact S.nd.sublist (List.take_sublist _ _)
  refine⟨u,rv,?_⟩;rcases S.par y (List.mem_of_getElem? hp) with k|k
  .exact .inl ⟨k,rm ndP hp hu k⟩
  .obtain⟨c,e⟩:=vd (n:=s.heap.objs.size+1) k
   refine .inr ⟨.inl k,c,e,?_⟩;have q:=x.cell y c e;rw[ro ndP hp hu (by show scope.names.lookup y≠_;rw[k];decide)]at q;exact q
 .exact e0.hok.fresh (Nat.le_of_lt (x.above y c (PySem.mem_of_lookup h)))
 .unfold start
  show _=N.length;rw[List.length_append,List.length_map,List.length_replicate];omega
def J6{CX:pY}{P:Program}{w:World}{K:W.Frag}{mg:Str->Option Value}{base:Heap}{k:Nat}{f:Addr}{name qual:Str}{params:Arguments}{body:List Stmt}{scope:Scope}{dV kV doc pm cdv ct oc:Value}{an od:Option Addr}
  {osl:Array (Option Value)}{N ps:List Str}{sp:Sp}(lk:K.lookup f=some ⟨oc,od,.func (W.fnOf name qual params body scope dV kV doc pm an cdv ct),osl⟩) (hcd:W.codeIn K cdv qual=true) (S:gS N ps scope)
  (len:∀vs H Q E,sp vs H Q E->vs.length=ps.length)
  (hbody:∀(A:Around) (outer:List Env) (s:Shared) (H:Hp) (vs:ad) (Q:VK) (E:XK),dX k (A.deeper (envOfC qual scope s.heap.objs.size f cdv))->sp vs H Q E ->
   ∃t,pZ (nq CX P w K mg base N qual scope f cdv A outer s H E) body t/\t { nx:=λ_ H'=>Q .non H',rt:=Q } (start N vs) H) :
  gE P w K mg base CX (k+1) f (W.fnOf name qual params body scope dV kV doc pm an cdv ct) ps sp:=by
 refine⟨len,λA outer s H args us vs Q E hr e0 hb r hsp=>?_⟩;have hl:=len _ _ _ _ hsp;have KX:K.In s.heap:=e0.mod.kin.keeps λb o e=>(e0.bs b o e).1;have lim:s.heap.NoLimit:=e0.mod.nolimit.keeps λb o e=>(e0.bs b o e).1;have hkind:∀y∈ps.zip us,scope.names.lookup y.1=some .local ∨ (scope.names.lookup y.1=some .cell/\((cellsFrom (s.heap.objs.size+1) scope.names []).lookup y.1).isSome=true):=λ⟨n,v⟩ hy=>by
  rcases S.par n (List.of_mem_zip hy).1 with q|q
  .exact .inl q
  .exact .inr ⟨q,W.cellsFrom_some _ _ _ (.inl q)⟩
 refine codeAny_call_function hr.depth (KX _ _ lk) rfl S.co S.gen rfl (W.codeRec_of KX hcd) (hb _ _ _ _ ?_);refine wpAny_newFunctionEnv_cells S.kind hkind λenv he s1 x=>?_;subst he;refine⟨lim.keeps x.toInCall.keep,codeAny_func ?_⟩;obtain⟨t,ht,hq⟩:=hbody A outer s H vs Q E (hr.deeper _) hsp;have I:Inv (nq CX P w K mg base N qual scope f cdv A outer s H E) [] (start N vs) H s1:=zh S hr.hd e0 hl r x;refine wpAny_mono (ht [] s1 (start N vs) H _ I hq) (λfl s' hs=>?_) λe s' hs=>hs;have fin:∀{σ':St}{H':Hp}{v:V}{u:Value},Inv (nq CX P w K mg base N qual scope f cdv A outer s H E) [] σ' H' s'->bq v u->Q v H'->CE outer P w H s Q u s' :=
  λ{σ' H' v u} J rv q=>⟨v,H',J.os,J.bare,J.base,J.hok,rv,q⟩
 cases fl with
 |ret u=>
  obtain⟨v,σ',H',J,rv,q⟩:=hs;exact fin J rv q
 |next=>
  obtain⟨σ',H',J,q⟩:=hs;exact fin (v:=V.non) (u:=Value.none) J rfl q
 |brk=>
  obtain⟨_,_,_,q⟩:=hs;exact False.elim q
 |cont=>
  obtain⟨_,_,_,q⟩:=hs;exact False.elim q
section
variable {X:Cx}{x:Str}{p pos:Pos}{e:Expr}{es:List Expr}{t:TA}{id T:String}{r:ad->Hp->VK->Prop}
def L6(r:ad->Hp->VK->Prop)(t:TA):TE:=λσ H Q=>t σ H λvs H1=>r vs H1 Q
def oz(hc:gT X (.builtin id) r)(hg:Gl X x)(hm:X.mg x=none)(hv:bootBuiltins x=some (.builtin id))(ha:PA X (e::es) t)(hn:x≠"__name__":=by decide)(hdb:(x==("__debug__":Str))=false:=by decide)
  (he:starEach (e::es) X.env=(false,eval e X.env)::starEach es X.env:=by rfl)(hpl:(backTo pos (starEach es X.env)).any (·.1)=false:=by rfl):PE X (.Call (.Name x p) (e::es) [] pos) (L6 r t):=by
 intro pins s σ H Q I h;refine wpAny_Call_Name_kw (jE I hg hm hv ?_ hn hdb);exact PyProof.Rows.callWith_builtin1 (cR (ha pos pins s σ H _ I h) λus s1 ⟨vs,H1,I1,r1,q1⟩=>hc pins s1 σ H1 vs us Q I1 r1 q1) he hpl
def qO(hc:gT X (.type T) r)(hg:Gl X x)(hm:X.mg x=none)(hv:bootBuiltins x=some (.type T))(ha:PA X (e::es) t)(hn:x≠"__name__":=by decide)(hdb:(x==("__debug__":Str))=false:=by decide)
  (he:starEach (e::es) X.env=(false,eval e X.env)::starEach es X.env:=by rfl)(hpl:(backTo pos (starEach es X.env)).any (·.1)=false:=by rfl):PE X (.Call (.Name x p) (e::es) [] pos) (L6 r t):=by
 intro pins s σ H Q I h;refine wpAny_Call_Name_kw (jE I hg hm hv ?_ hn hdb);exact PyProof.Rows.callWith_type1 (cR (ha pos pins s σ H _ I h) λus s1 ⟨vs,H1,I1,r1,q1⟩=>hc pins s1 σ H1 vs us Q I1 r1 q1) he hpl
end
end L2
namespace HT
open PySem PyProof.Rows
section
variable {prog:Program}{w:World}{A:Around}{E:Value->Shared->Prop}{s:Shared}
def cat_tup{t b:Addr}{vs ws:List Value}{Q:Value->Shared->Prop}(ht:IsTup s.heap t vs.toArray)(hb:IsTup s.heap b ws.toArray)(hv:vs≠[])
  (h1:ws=[]->Q (.ref t) s)(h2:ws≠[]->Q (.ref s.heap.objs.size) { s with heap:=s.heap.push { cls:=.type "tuple",data:=.seq (vs++ws).toArray } })
  (hsz:vs.length+ws.length<=sizeLine):wpAny (model prog w) A (binaryOp .Add (.ref t) (.ref b)) Q E s:=by
 obtain⟨⟨cls,dd,data,sl⟩,ho,hc,n,hd⟩:=id ht;obtain⟨⟨cls2,dd2,data2,sl2⟩,ho2,hc2,n2,hd2⟩:=id hb;simp only at hc hd hc2 hd2;subst hc hd hc2 hd2;have e:vs.toArray++ws.toArray=(vs++ws).toArray:=by simp
 by_cases hw:ws=[]
 .exact concat_meets ⟨_,ho,rfl⟩ ⟨_,ho2,rfl⟩ noFill_tuple_add seq_tuple_add PySem.F.slot_tuple_add PySem.F.entry_tuple_add (PySem.F.args_tuple_add_2 _ _)
   (tuple_addW1 t b vs.toArray ws.toArray n n2 dd dd2 sl sl2 (by simpa using hv) (by simp[hw])) ⟨ho,ho2,h1 hw⟩
 .refine concat_meets ⟨_,ho,rfl⟩ ⟨_,ho2,rfl⟩ noFill_tuple_add seq_tuple_add PySem.F.slot_tuple_add PySem.F.entry_tuple_add (PySem.F.args_tuple_add_2 _ _)
   (tuple_addW2 t b vs.toArray ws.toArray n n2 dd dd2 sl sl2 (by simpa using hv) (by simpa using hw) (by rw[List.size_toArray,List.size_toArray];exact hsz)) ⟨ho,ho2,?_⟩
  rw[e];exact h2 hw
def sIx(n d:Nat):Option Int->Nat
 |none=>d
 |some v=>if v<0 then(v+(n:Int)).toNat else min v.toNat n
def sIx_none(n d:Nat):sIx n d none=d:=rfl
def sIx_nat(n d k:Nat):sIx n d (some (k:Int))=min k n:=by
 show(if(k:Int)<0 then((k:Int)+(n:Int)).toNat else min (k:Int).toNat n)=min k n;rw[if_neg (by omega),Int.toNat_natCast]
def Gi(n d:Nat)(hd:d<=n)(o:Option Int):sIx n d o<=n:=by
 cases o with
 |none=>exact hd
 |some v=>
  show(if v<0 then(v+(n:Int)).toNat else min v.toNat n)<=n
  by_cases hv:v<0
  .rw[if_pos hv];omega
  .rw[if_neg hv];exact Nat.min_le_right _ _
def yj(v:Int)(n d:Nat):(if v<0 then max (v+(n:Int)) 0 else min v (n:Int))=((sIx n d (some v):Nat):Int):=by
 show(if v<0 then max (v+(n:Int)) 0 else min v (n:Int))=(((if v<0 then(v+(n:Int)).toNat else min v.toNat n):Nat):Int)
 by_cases hv:v<0
 .simp only[if_pos hv];omega
 .simp only[if_neg hv];omega
def wY(lo hi:Option Int)(n:Nat):Builtin.Slice.sliceAdjust lo hi 1 (n:Int)=(((sIx n 0 lo:Nat):Int),((sIx n n hi:Nat):Int)):=by
 have h1:¬((1:Int)<0):=by omega
 unfold Builtin.Slice.sliceAdjust;simp only[h1,if_false];refine Prod.ext ?_ ?_
 .cases lo with
  |none=>rfl
  |some v=>exact yj v n 0
 .cases hi with
  |none=>rfl
  |some v=>exact yj v n n
def vZ(i j:Nat):Builtin.Slice.slicePlaces (i:Int) (j:Int) 1=j-i:=by
 unfold Builtin.Slice.slicePlaces;have h1:(1:Int) > 0:=by omega
 simp only[h1,if_true,Int.ediv_one];split<;>omega
def slicePart_{v:Value}{o:Option Int}{Q:Option Int->Shared->Prop}(p:IsPart v o)(h:Q o s):wpAny (model prog w) A (Builtin.Slice.slicePartIndex v) Q E s:=by
 cases p with|none=>exact slicePart_none h|int i t=>exact slicePart_int h
def l3{sl:Addr}{vl vu:Value}{lo hi:Option Int}{n:Nat}{Q:Int×Int×Nat->Shared->Prop}(hs:s.heap.IsSliceOf sl vl vu .none)(pl:IsPart vl lo)(pu:IsPart vu hi)
  (h:Q (((sIx n 0 lo:Nat):Int),1,sIx n n hi-sIx n 0 lo) s):wpAny (model prog w) A (Builtin.Slice.sliceApplied (.ref sl) (pure (n:Int))) Q E s:=by
 obtain⟨os,hos,hcs,hds⟩:=id hs;unfold Builtin.Slice.sliceApplied Builtin.Slice.sliceFields;refine wpAny_bind (wpAny_bind (wpAny_field hos hds (x:=vl) rfl (wpAny_bind (wpAny_field hos hds (x:=vu) rfl (wpAny_bind (wpAny_field hos hds (x:=.none) rfl (wpAny_pure ?_)))))));refine wpAny_bind (slicePart_none ?_);show wpAny _ _ (if((1:Int)==0)=true then _ else _) _ _ s;rw[if_neg (by decide)];refine wpAny_bind (slicePart_ pl (wpAny_bind (slicePart_ pu (wpAny_bind (wpAny_pure ?_)))));show wpAny _ _ (match Builtin.Slice.sliceAdjust lo hi 1 (n:Int) with|(lo,hi)=>pure (lo,(1:Int),Builtin.Slice.slicePlaces lo hi 1)) _ _ s;rw[wY lo hi n];show wpAny _ _ (pure (((sIx n 0 lo:Nat):Int),(1:Int),Builtin.Slice.slicePlaces ((sIx n 0 lo:Nat):Int) ((sIx n n hi:Nat):Int) 1)) _ _ s;rw[vZ];exact wpAny_pure h
def AV(xs:Array Value)(i k:Nat):((List.range k).filterMap λ(m:Nat)=>xs[((i:Int)+(m:Int)*1).toNat]?).toArray=((xs.toList.drop i).take k).toArray:=by
 have e:(λ(m:Nat)=>xs[((i:Int)+(m:Int)*1).toNat]?)=λm=>xs[i+m]?:=by
  funext m;have:((i:Int)+(m:Int)*1).toNat=i+m:=by omega
  rw[this]
 rw[e];have:=pick_run xs i k;rw[List.filterMap_map]at this;have e2:((λx=>xs[x]?)∘λx=>i+x)=λm=>xs[i+m]?:=rfl;rw[e2]at this;rw[this]
def getItem_tuple_cut{t sl:Addr}{items:Array Value}{vl vu:Value}{lo hi:Option Int}{Q:Value->Shared->Prop}(ht:IsTup s.heap t items)(hs:s.heap.IsSliceOf sl vl vu .none)(pl:IsPart vl lo)(pu:IsPart vu hi)
  (hw:¬(sIx items.size 0 lo=0/\sIx items.size items.size hi=items.size))
  (h:Q (.ref s.heap.objs.size) { s with heap:=s.heap.push { cls:=.type "tuple",data:=.seq ((items.toList.drop (sIx items.size 0 lo)).take (sIx items.size items.size hi-sIx items.size 0 lo)).toArray } })
  (hsz:items.size<=sizeLine):wpAny (model prog w) A (getItem (.ref t) (.ref sl)) Q E s:=by
 have htake:sizeOk (.seq ((items.toList.drop (sIx items.size 0 lo)).take (sIx items.size items.size hi-sIx items.size 0 lo)).toArray):=by
  show((items.toList.drop (sIx items.size 0 lo)).take (sIx items.size items.size hi-sIx items.size 0 lo)).toArray.size<=sizeLine;rw[List.size_toArray,List.length_take,List.length_drop,Array.length_toList];omega
 have hj:sIx items.size items.size hi<=items.size:=Gi _ _ (Nat.le_refl _) hi;obtain⟨os,hos,hcs,hds⟩:=id hs;have hTs:s.TypeIs (.ref sl) "slice":=⟨os,hos,hcs⟩
 unfold getItem
 try with_reducible refine wpAny_holding ?_
 first|refine wpAny_bind (wpAny_pure ?_)|skip
 refine wpAny_bind (wpAny_sequenceKey ht.typeIs (by decide) ?_);refine wpAny_bind (wpAny_callSpecial?_slot (name:=Str.ofString "__getitem__") ht.typeIs PyProof.Rows.slot_tuple_getitem
  (wpAny_call_entry PyProof.Rows.slot_tuple_getitem ht.typeIs entry_tuple_getitem ?_ (args_tuple_getitem _ _)))
 show wpAny _ _ (Builtin.Tuple.tupleItemsOf (.ref t) >>= _) _ _ s;refine wpAny_bind (tupleItemsOf_ ht ?_);refine wpAny_bind (wpAny_typeOf hTs ?_);rw[if_pos (by decide)];refine wpAny_bind (l3 hs pl pu ?_);have hno:¬((((sIx items.size 0 lo:Nat):Int)==0&&(1:Int)==1&&(sIx items.size items.size hi-sIx items.size 0 lo)==items.size)=true):=by
  intro q;rw[Bool.and_eq_true,Bool.and_eq_true]at q;have q1:((sIx items.size 0 lo:Nat):Int)=0:=eq_of_beq q.1.1;have q2:sIx items.size items.size hi-sIx items.size 0 lo=items.size:=eq_of_beq q.2;exact hw ⟨by omega,by omega⟩
 show wpAny _ _ (if(((sIx items.size 0 lo:Nat):Int)==0&&(1:Int)==1&&(sIx items.size items.size hi-sIx items.size 0 lo)==items.size)=true then _ else _) _ _ s;rw[if_neg hno,AV]
 first
  |exact wpAny_bind (m:=Builtin.Tuple.tupleExact _) (wpAny_newObj_type (wpAny_pure ⟨_,rfl,wpAny_pure h⟩) htake)
  |exact wpAny_bind (m:=Builtin.Tuple.tupleExact _) (wpAny_newObj_type (wpAny_bind (wpAny_pure (wpAny_pure ⟨_,rfl,wpAny_pure h⟩))) htake)
  |exact wpAny_bind (wpAny_bind (m:=Builtin.Tuple.tupleExact _) (wpAny_newObj_type (wpAny_pure (wpAny_pure ⟨_,rfl,wpAny_pure h⟩)) htake))
  |exact wpAny_bind (wpAny_bind (m:=Builtin.Tuple.tupleExact _) (wpAny_newObj_type (wpAny_pure ⟨_,rfl,wpAny_pure h⟩) htake))
end
end HT
namespace L2
open PySem PySem.Spec PyProof.Rows
abbrev TO:=St->Hp->(Option Int->Hp->Prop)->Prop
def PO(X:Cx)(e:Option Expr)(t:TO):Prop :=
 ∀(pins:List (Addr×Obj)) (s:Shared) (σ:St) (H:Hp) (Q:Option Int->Hp->Prop),Inv X pins σ H s->t σ H Q ->
  wpAny (model X.prog X.w) X.A (evalPart e X.env) (λu s'=>∃o H',Inv X pins σ H' s'/\IsPart u o/\Q o H') X.xe s
def CQ:TO:=λ_ H Q=>Q none H
def IT(t:TE):TO:=λσ H Q=>t σ H λx H1=>∃i,x=.int i/\Q (some i) H1
section
variable {X:Cx}{e:Expr}{te:TE}{lo hi:Option Expr}{tl th:TO}{pos p2:Pos}
def De:PO X none CQ:=by
 intro pins s σ H Q I h;rw[evalPart_none];exact wpAny_pure ⟨none,H,I,.none,h⟩
def Dd(h:PE X e te):PO X (some e) (IT te):=by
 intro pins s σ H Q I hw;rw[evalPart_some];refine cR (h pins s σ H _ I hw) λu s1 ⟨x,H1,I1,r1,q1⟩=>?_;obtain⟨i,rfl,q⟩:=q1;obtain⟨t,rfl⟩:=r1;exact⟨some i,H1,I1,.int i t,q⟩
noncomputable def Cs(X:Cx) (r:V->Option Int->Option Int->Hp->VK->Prop):Prop :=
 ∀(pins:List (Addr×Obj)) (s:Shared) (σ:St) (H:Hp) (x:V) (v vl vu:Value) (lo hi:Option Int) (sl:Addr) (Q:VK),Inv X pins σ H s->bq x v->s.heap.IsSliceOf sl vl vu .none->IsPart vl lo->IsPart vu hi->r x lo hi H Q ->
  ∃T id,typeLookup (.type T) "__getitem__"=pure (some (.builtin id))/\s.TypeIs v T/\wpAny (model X.prog X.w) X.A (getItem v (.ref sl)) (EP X pins σ Q) X.xe s
def Cs.or{r r':V->Option Int->Option Int->Hp->VK->Prop}(h:Cs X r)(h':Cs X r'):Cs X (λx lo hi H Q=>r x lo hi H Q∨r' x lo hi H Q):=by
 intro pins s σ H x v vl vu lo hi sl Q I rx hs pl pu q;rcases q with q|q
 .exact h pins s σ H x v vl vu lo hi sl Q I rx hs pl pu q
 .exact h' pins s σ H x v vl vu lo hi sl Q I rx hs pl pu q
def L4(r:V->Option Int->Option Int->Hp->VK->Prop)(te:TE)(tl th:TO):TE:=λσ H Q=>te σ H λx H1=>tl σ H1 λl H2=>th σ H2 λu H3=>r x l u H3 Q
def A1{r:V->Option Int->Option Int->Hp->VK->Prop}(hr:Cs X r)(he:PE X e te)(hl:PO X lo tl)(hu:PO X hi th):PE X (.Subscript e (.Slice lo hi none p2) pos) (L4 r te tl th):=by
 intro pins s σ H Q I h;refine Subscript_ (cR (he pins s σ H _ I h) λv s1 ⟨x,H1,I1,r1,q1⟩=>?_);refine wpAny_Slice (cR (hl pins s1 σ H1 _ I1 q1) λvl s2 ⟨l,H2,I2,pl,q2⟩=>cR (hu pins s2 σ H2 _ I2 q2) λvu s3 ⟨u,H3,I3,pu,q3⟩=>?_);rw[evalPart_none];refine wpAny_pure ?_;have I4:Inv X pins σ H3 { s3 with heap:=s3.heap.push { cls:=.type "slice",data:=.fields #[vl,vu,.none] } }:=I3.kept (t':=s3.toks) λb ob q=>Heap.get?_push_of_some _ q;obtain⟨T,id,hT,ht,hg⟩:=hr pins { s3 with heap:=s3.heap.push { cls:=.type "slice",data:=.fields #[vl,vu,.none] } } σ H3 x v vl vu l u s3.heap.objs.size Q I4 r1 (Heap.IsSliceOf.new ..) pl pu q3;show wpAny (model X.prog X.w) X.A (subscriptTail e (.Slice lo hi none p2) v (.ref s3.heap.objs.size)) (EP X pins σ Q) X.xe { s3 with heap:=s3.heap.push { cls:=.type "slice",data:=.fields #[vl,vu,.none] } };exact tail_any (ops:=[.ref s3.heap.objs.size,v]) ht hT hg (by with_unfolding_all rfl)
def va(xs:ad)(lo hi:Option Int):ad:=(xs.drop (HT.sIx xs.length 0 lo)).take (HT.sIx xs.length xs.length hi-HT.sIx xs.length 0 lo)
def mS(xs:ad)(lo hi:Option Int):(va xs lo hi).length<=xs.length:=by
 unfold va;rw[List.length_take,List.length_drop];omega
def Lq(K:W.Frag):V->Option Int->Option Int->Hp->VK->Prop:=λx lo hi H Q=>∃a xs,x=.ref a/\fS K H a xs /\
 ¬(HT.sIx xs.length 0 lo=0/\HT.sIx xs.length xs.length hi=xs.length)/\∀p,H p=none->Q (.ref p) (upd H p (.tup (va xs lo hi)))
def Ge:Cs X (Lq X.K):=by
 intro pins s σ H x v vl vu lo hi sl Q I rx hs pl pu h;obtain⟨a,xs,rfl,hx,hw,q⟩:=h;cases rx;obtain⟨its,r,ht,hz⟩:=I.tuple hx;have hlen:its.toArray.size=xs.length:=by rw[List.size_toArray];exact r.length.symm
 refine⟨"tuple",_,PyProof.Rows.slot_tuple_getitem.lookup,ht.typeIs,?_⟩;refine HT.getItem_tuple_cut ht hs pl pu (by rw[hlen];exact hw) ?_ (by rw[hlen];exact hz);rw[hlen];refine⟨.ref s.heap.objs.size,_,I.laid (t':=s.toks) (o:=.tup (va xs lo hi)) (λb ob q=>Heap.get?_push_of_some _ q) (Nat.le_refl _) ?_,rfl,q _ (I.hok.fresh (Nat.le_refl _))⟩;exact⟨Nat.le_trans (mS xs lo hi) hz,_,(r.drop (HT.sIx xs.length 0 lo)).take (HT.sIx xs.length xs.length hi-HT.sIx xs.length 0 lo),IsTup.new _ _⟩
def Jw(K:W.Frag):R2:=λx y H Q=>∃a b xs ys,x=.ref a/\y=.ref b/\fS K H a xs/\fS K H b ys/\xs≠[]/\xs.length+ys.length<=sizeLine /\
 (ys=[]->Q (.ref a) H)/\(ys≠[]->∀p,H p=none->Q (.ref p) (upd H p (.tup (xs++ys))))
def bo.nil_iff{xs:ad}{us:List Value}(r:bo xs us):us=[]↔xs=[]:=by
 cases r with|nil|cons _ _=>simp
def Dw:fP X (binaryOp .Add) (Jw X.K):=by
 intro pins s σ H x y v u Q I rx ry h;obtain⟨a,b,xs,ys,rfl,rfl,ha,hb,hx,hz,q1,q2⟩:=h;cases rx;cases ry;obtain⟨its,r1,p1,_⟩:=I.tuple ha;obtain⟨its2,r2,p2,_⟩:=I.tuple hb;refine HT.cat_tup p1 p2 (λz=>hx (r1.nil_iff.mp z)) (λz=>⟨.ref a,H,I,rfl,q1 (r2.nil_iff.mp z)⟩) (λz=>?_) (by rw[←r1.length,←r2.length];exact hz);refine⟨.ref s.heap.objs.size,_,I.laid (t':=s.toks) (o:=.tup (xs++ys)) (λb ob q=>Heap.get?_push_of_some _ q) (Nat.le_refl _) ?_,rfl,q2 (λw=>z (r2.nil_iff.mpr w)) _ (I.hok.fresh (Nat.le_refl _))⟩;exact⟨by rw[List.length_append];exact hz,_,r1.append r2,IsTup.new _ _⟩
end
def Fw(n:Nat)(i:Int):Option Nat:=if 0<=i then(if i<n then some i.toNat else none) else if -(n:Int)<=i then some (i+n).toNat else none
def atI{α:Type}(xs:List α)(i:Int):Option α:=(Fw xs.length i).bind λj=>xs[j]?
def DR{n:Nat}{i:Int}{j:Nat}(h:Fw n i=some j):seqIndex? i n=some j/\j<n/\-(n:Int)<=i/\i<n:=by
 unfold Fw at h
 by_cases h0:0<=i
 .rw[if_pos h0]at h
  by_cases h1:i<n
  .rw[if_pos h1]at h
   have e:i.toNat=j:=Option.some.inj h;exact⟨by rw[seqIndex_of h0 h1,e],by omega,by omega,h1⟩
  .rw[if_neg h1]at h;cases h
 .rw[if_neg h0]at h
  by_cases h1:-(n:Int)<=i
  .rw[if_pos h1]at h
   have e:(i+n).toNat=j:=Option.some.inj h;exact⟨by rw[seqIndex_neg (by omega) h1,e],by omega,h1,by omega⟩
  .rw[if_neg h1]at h;cases h
def tw{α:Type}{xs:List α}{i:Int}{v:α}(h:atI xs i=some v):∃j,seqIndex? i xs.length=some j/\xs[j]?=some v/\j<xs.length/\-(xs.length:Int)<=i/\i<xs.length:=by
 unfold atI at h;cases e:Fw xs.length i with
 |none=>rw[e]at h;cases h
 |some j=>
  rw[e]at h;obtain⟨h1,h2,h3,h4⟩:=DR e;exact⟨j,h1,h,h2,h3,h4⟩
def eE{α:Type}{xs:List α}{j:Nat}{v:α}(h:xs[j]?=some v):atI xs (j:Int)=some v:=by
 have hj:j<xs.length:=(List.getElem?_eq_some_iff.mp h).1;have e:Fw xs.length (j:Int)=some j:=by
  unfold Fw;rw[if_pos (by omega),if_pos (by omega)];simp
 unfold atI;rw[e];exact h
def lT(b:Expr):Prop:=∀o i,subscripted b false o i=operate [o,i] (getItem o i)
noncomputable def Ct(X:Cx) (r:R2):Prop :=
 ∀(value slice:Expr) (pins:List (Addr×Obj)) (s:Shared) (σ:St) (H:Hp) (x y:V) (v u:Value) (Q:VK),Inv X pins σ H s->bq x v->bq y u->r x y H Q ->
  subscripted slice false v u=operate [v,u] (getItem v u)->wpAny (model X.prog X.w) X.A (subscriptTail value slice v u) (EP X pins σ Q) X.xe s
noncomputable def LP(X:Cx) (id:String) (r:V->ad->Hp->VK->Prop):Prop :=
 ∀(pins:List (Addr×Obj)) (s:Shared) (σ:St) (H:Hp) (x:V) (xs:ad) (v:Value) (us:List Value) (Q:VK),Inv X pins σ H s->bq x v->bo xs us->r x xs H Q ->
  wpAny (model X.prog X.w) X.A (call (.builtin id) (v::us)) (EP X pins σ Q) X.xe s
section
variable {X:Cx}{a b:Expr}{ta tb:TE}{pos:Pos}
def Ct.or{r r':R2}(h:Ct X r)(h':Ct X r'):Ct X (λx y H Q=>r x y H Q∨r' x y H Q):=by
 intro value slice pins s σ H x y v u Q I rx ry q hs;rcases q with q|q
 .exact h value slice pins s σ H x y v u Q I rx ry q hs
 .exact h' value slice pins s σ H x y v u Q I rx ry q hs
def A6{r:R2}(hr:Ct X r)(ha:PE X a ta)(hb:PE X b tb)(hs:lT b):PE X (.Subscript a b pos) (IU r ta tb):=by
 intro pins s σ H Q I h;exact Subscript_ (Il ha hb I h λv u s2 x y H2 I2 rx ry q=>hr a b pins s2 σ H2 x y v u Q I2 rx ry q (hs _ _))
def Js(K:W.Frag):R2:=λx y H Q=>∃p xs i v,x=.ref p/\y=.int i/\dF K H p xs/\atI xs i=some v/\Q v H
def Jq(K:W.Frag):R2:=λx y H Q=>∃p xs i v,x=.ref p/\y=.int i/\fS K H p xs/\atI xs i=some v/\Q v H
def Jr:R2:=λx y H Q=>∃z i c,x=.str z/\y=.int i/\z.length<=sizeLine/\atI z.cps.toList i=some c/\Q (.str ⟨#[c]⟩) H
def DQ:Ct X (Js X.K):=by
 intro value slice pins s σ H x y v u Q I rx ry h hs;obtain⟨p,xs,i,z,rfl,rfl,hq,he,q⟩:=h;cases rx;obtain⟨t,rfl⟩:=ry;obtain⟨its,r,pl,hz⟩:=I.list hq;obtain⟨j,h1,h2,h3,h4,h5⟩:=tw he;obtain⟨w,ew,rw'⟩:=r.get h2;have hl:=r.length;have hn:=sC;have fin:EP X pins σ Q w s:=⟨z,H,I,rw',q⟩
 by_cases h0:0<=i
 .have hj:i.toNat=j:=by
   rw[seqIndex_of h0 h5]at h1;exact Option.some.inj h1
  exact item_listR pl.isList h0 (by omega) (by rw[hj];simpa using ew) fin hs
 .have hj:(i+(its.toArray.size:Int)).toNat=j:=by
   rw[seqIndex_neg (by omega) h4]at h1;rw[List.size_toArray,←hl];exact Option.some.inj h1
  exact subscriptTail_builtinR (x:=w) pl.isList.typeIs slot_list_getitem.lookup
   (wpAny_getItem_list_neg (Q:=λr s'=>r=w/\EP X pins σ Q r s') pl.isList (by omega) (by rw[List.size_toArray]<;>omega) (by omega) (by rw[hj];simpa using ew) ⟨rfl,fin⟩) hs
def wq:Ct X (Jq X.K):=by
 intro value slice pins s σ H x y v u Q I rx ry h hs;obtain⟨p,xs,i,z,rfl,rfl,hq,he,q⟩:=h;cases rx;obtain⟨t,rfl⟩:=ry;obtain⟨its,r,pl,hz⟩:=I.tuple hq;obtain⟨j,h1,h2,h3,h4,h5⟩:=tw he;obtain⟨w,ew,rw'⟩:=r.get h2;have hl:=r.length;have hn:=sC;have fin:EP X pins σ Q w s:=⟨z,H,I,rw',q⟩
 exact subscriptTail_builtinR (x:=w) pl.typeIs slot_tuple_getitem.lookup
  (getItem_tuple (j:=j) (Q:=λr s'=>r=w/\EP X pins σ Q r s') pl (by omega) (by omega) (by rw[List.size_toArray,←hl];exact h1) (by simpa using ew) ⟨rfl,fin⟩) hs
def G2:Ct X Jr:=by
 intro value slice pins s σ H x y v u Q I rx ry h hs;obtain⟨z,i,c,rfl,rfl,hz,he,q⟩:=h;obtain⟨t,rfl⟩:=rx;obtain⟨t',rfl⟩:=ry;obtain⟨j,h1,h2,h3,h4,h5⟩:=tw he;have hl:z.cps.toList.length=z.length:=by simp[Str.length]
 rw[hl]at h1 h4 h5;have hn:=sC;exact tail_any (typeIs_str s z t) slot_str_getitem.lookup (getItem_str (c:=c) (by
  have e1:decide (i < -(2 ^ 63:Int))=false:=decide_eq_false (by omega);have e2:decide (i≥2 ^ 63)=false:=decide_eq_false (by omega);rw[e1,e2,Bool.or_false]) (by rw[h1];simpa using h2) ⟨.str ⟨#[c]⟩,H,I.tok _,⟨_,rfl⟩,q⟩) hs
def Ma(K:W.Frag):R2:=λx y H Q=>Js K x y H Q∨Jq K x y H Q∨Jr x y H Q
def G3:Ct X (Ma X.K):=DQ.or (wq.or G2)
def rL(lo hi:Option Int)(n:Nat):(sliceBounds lo hi none n).1=((HT.sIx n 0 lo:Nat):Int)/\(sliceBounds lo hi none n).2.1=((HT.sIx n n hi:Nat):Int)/\(sliceBounds lo hi none n).2.2=1:=by
 refine⟨?_,?_,rfl⟩
 .cases lo with
  |none=>simp[sliceBounds,HT.sIx]
  |some i=>
   simp only[sliceBounds,HT.sIx,Option.getD_none,show(1:Int) > 0 by decide,if_true]
   by_cases h:i<0
   .simp only[h,if_true]<;>omega
   .simp only[h,if_false]<;>omega
 .cases hi with
  |none=>simp[sliceBounds,HT.sIx]
  |some i=>
   simp only[sliceBounds,HT.sIx,Option.getD_none,show(1:Int) > 0 by decide,if_true]
   by_cases h:i<0
   .simp only[h,if_true]<;>omega
   .simp only[h,if_false]<;>omega
def qe(its:List Value)(lo hi:Option Int):slicePick its.toArray lo hi none=((its.drop (HT.sIx its.length 0 lo)).take (HT.sIx its.length its.length hi-HT.sIx its.length 0 lo)).toArray:=by
 obtain⟨h1,h2,h3⟩:=rL lo hi its.toArray.size;unfold slicePick;rw[h1,h2,h3];simp only[sliceRange_one,pick_run,List.size_toArray]<;>rfl
def Ls(K:W.Frag):V->Option Int->Option Int->Hp->VK->Prop:=λx lo hi H Q=>∃a xs,x=.ref a/\dF K H a xs/\∀p,H p=none->Q (.ref p) (upd H p (.lst (va xs lo hi)))
def CV:Cs X (Ls X.K):=by
 intro pins s σ H x v vl vu lo hi sl Q I rx hs pl pu h;obtain⟨a,xs,rfl,hx,q⟩:=h;cases rx;obtain⟨its,r,ht,hz⟩:=I.list hx;have hlen:=r.length;refine⟨"list",_,slot_list_getitem.lookup,ht.isList.typeIs,?_⟩;refine wpAny_getItem_list_slice ht.isList hs pl pu .none (by simp) ?_ (by rw[List.size_toArray]<;>omega);rw[qe,←hlen];refine⟨.ref s.heap.objs.size,_,I.laid (t':=s.toks) (o:=.lst (va xs lo hi)) (λb ob q=>Heap.get?_push_of_some _ q) (Nat.le_refl _) ?_,rfl,q _ (I.hok.fresh (Nat.le_refl _))⟩;exact⟨Nat.le_trans (mS xs lo hi) hz,_,0,(r.drop (HT.sIx xs.length 0 lo)).take (HT.sIx xs.length xs.length hi-HT.sIx xs.length 0 lo),Heap.get?_push_size _ rfl⟩
def rW:fP X (compareOp .NotIn) (λx y H Q=>∃i j,x=.str i/\y=.str j/\Q (.bl (!(!(Builtin.Str.occurrences j i 0 j.length 1).isEmpty))) H):=by
 intro pins s σ H x y v u Q I rx ry h;obtain⟨i,j,rfl,rfl,q⟩:=h;obtain⟨t,rfl⟩:=rx;obtain⟨t',rfl⟩:=ry;exact notIn_str ⟨.bl _,H,I,rfl,q⟩
def lF:gT X (.type "list") (λxs H Q=>∃p ys,xs=[.ref p]/\(dF X.K H p ys∨fS X.K H p ys)/\∀l,H l=none->Q (.ref l) (upd H l (.lst ys))):=by
 intro pins s σ H xs us Q I r h;obtain⟨p,ys,rfl,hq,q⟩:=h;obtain⟨u,rfl,rx⟩:=mE r;cases rx;have fin:∀(its:List Value),bo ys its->ys.length<=sizeLine->∀(h':Heap) (c':Nat),(∀b o',s.heap.get? b=some o'->h'.get? b=some o') ->
   h'.get? s.heap.objs.size=some { cls:=.type "list",dict:=none,data:=.seq its.toArray c',slots:=#[] }->EP X pins σ Q (.ref s.heap.objs.size) { s with heap:=h' }:=λits r' hz h' c' kp e=>
  ⟨.ref s.heap.objs.size,_,I.laid (t':=s.toks) kp (Nat.le_refl _) (show bJ X.prog X.w _ h' _ (.lst ys) from⟨hz,its,c',r',e⟩),rfl,q _ (I.hok.fresh (Nat.le_refl _))⟩
 rcases hq with hq|hq
 .obtain⟨its,r',pl,hz⟩:=I.list hq
  have hlen:=r'.length;obtain⟨o,ho,hc,n,hd⟩:=pl.isList;exact call_list_seq p (.inl rfl) ho hc hd (λh' c' kp e=>fin its r' hz h' c' kp e) (by simp only[List.size_toArray]<;>omega)
 .obtain⟨its,r',pl,hz⟩:=I.tuple hq
  have hlen:=r'.length;obtain⟨o,ho,hc,n,hd⟩:=pl;exact call_list_seq p (.inr rfl) ho hc hd (λh' c' kp e=>fin its r' hz h' c' kp e) (by simp only[List.size_toArray]<;>omega)
noncomputable def K3(K:W.Frag) (T:String) (x:V) (H:Hp):Prop:=match x with
 |.str _=>T="str"
 |.int _=>T="int"
 |.ref p=>(T="list"/\∃xs,dF K H p xs)∨(T="tuple"/\∃o,K.lookup p=some o/\o.cls=.type "tuple"/\o.dict=none) ∨
   (T="dict"/\((∃kvs,H p=some (.dK kvs))∨∃kvs,H p=some (.dT kvs)))∨(T="set"/\∃S n,H p=some (.set S n))
 |_=>False
def Ab{pins:List (Addr×Obj)}{σ:St}{H:Hp}{s:Shared}{T:String}{x:V}{v:Value}(I:Inv X pins σ H s)(r:bq x v)(ty:K3 X.K T x H) :
  s.TypeIs v T/\∀a,v=.ref a->∃ob,s.heap.get? a=some ob/\ob.dict=none:=by
 cases x with
 |str z=>
  obtain⟨t,rfl⟩:=r;cases (show T="str" from ty);exact⟨typeIs_str s z t,λ_ e=>nomatch e⟩
 |int i=>
  obtain⟨t,rfl⟩:=r;cases (show T="int" from ty);exact⟨typeIs_int s i t,λ_ e=>nomatch e⟩
 |ref p=>
  cases r;rcases ty with⟨rfl,xs,hq⟩|⟨rfl,o,hk,hc,hd⟩|⟨rfl,hk⟩|⟨rfl,S,n,hk⟩
  .obtain⟨its,_,pl,_⟩:=I.list hq
   refine⟨pl.isList.typeIs,λa e=>?_⟩;cases e;obtain⟨o,n,e,c,hd,_⟩:=pl;exact⟨o,e,hd⟩
  .refine⟨⟨o,I.kIn p o hk,hc⟩,λa e=>?_⟩
   cases e;exact⟨o,I.kIn _ o hk,hd⟩
  .have z:∃o,s.heap.get? p=some o/\o.ExactDict:=by
    rcases hk with⟨kvs,hk⟩|⟨kvs,hk⟩
    .obtain⟨_,_,_,_,o,_,_,e,ex,_⟩:=I.hok p _ hk
     exact⟨o,e,ex⟩
    .obtain⟨_,_,_,_,o,_,_,e,ex,_⟩:=I.hok p _ hk
     exact⟨o,e,ex⟩
   obtain⟨o,e,ex⟩:=z;refine⟨⟨o,e,ex.1⟩,λa e2=>?_⟩;cases e2;exact⟨o,e,ex.2.1⟩
  .obtain⟨o,_,_,_,e,ex,_⟩:=I.hok p _ hk
   refine⟨⟨o,e,ex.1⟩,λa e2=>?_⟩;cases e2;exact⟨o,e,ex.2.1⟩
 |_=>exact False.elim ty
def Lm(K:W.Frag)(T:String)(r:V->ad->Hp->VK->Prop)(to:TE):TE:=λσ H Q=>to σ H λx H1=>K3 K T x H1/\r x [] H1 Q
def Mt(K:W.Frag)(T:String)(r:V->ad->Hp->VK->Prop)(to:TE)(t:TA):TE:=λσ H Q=>to σ H λx H1=>K3 K T x H1/\t σ H1 λxs H2=>r x xs H2 Q
variable {o e:Expr}{es:List Expr}{to:TE}{t:TA}{name:Str}{apos cpos:Pos}{T id:String}{r:V->ad->Hp->VK->Prop}
def A9(pa:PlainAttrs T)(slot:Slot T name id)(hty:typeOf (.builtin id)=pure (.type "method_descriptor"))(hm:LP X id r)(ho:PE X o to)
  (hbase:attributeBase o name X.env (eval o X.env)=eval o X.env:=by rfl)(hline:(apos.endLine==cpos.line)=true:=by rfl):PE X (.Call (.Attribute o name apos) [] [] cpos) (Lm X.K T r to):=by
 intro pins s σ H Q I h;refine wpAny_Call_method0_late hbase hline (cR (ho pins s σ H _ I h) λv s1 z9=>?_);obtain⟨x,H1,I1,r1,ty,q1⟩:=z9;obtain⟨h1,h2⟩:=Ab I1 r1 ty;exact⟨T,id,pa,slot,hty,h1,h2,Calls.callWith_builtin rfl (PySem.evalArgs_none (hm pins s1 σ H1 x [] v [] Q I1 r1 .nil q1))⟩
def Ba(pa:PlainAttrs T)(slot:Slot T name id)(hty:typeOf (.builtin id)=pure (.type "method_descriptor"))(hm:LP X id r)(ho:PE X o to)(ha:PA X (e::es) t)
  (hbase:attributeBase o name X.env (eval o X.env)=eval o X.env:=by rfl)
  (hfew:((backTo cpos (starEach (e::es) X.env)).all (λx=>!x.1)&&(backToKw cpos (keywordEach [] X.env)).all (λx=>x.1.isSome)
  &&decide ((e::es).length+([]:List Keyword).length+(if([]:List Keyword).isEmpty then 0 else 1)<30))=true:=by rfl)
  (hline:(apos.endLine==cpos.line)=true:=by rfl) (hs:starEach (e::es) X.env=(false,eval e X.env)::starEach es X.env:=by rfl) (hplain:(backTo cpos (starEach es X.env)).any (·.1)=false:=by rfl) :
  PE X (.Call (.Attribute o name apos) (e::es) [] cpos) (Mt X.K T r to t):=by
 intro pins s σ H Q I h;refine wpAny_Call_method_late hbase hfew hline rfl (cR (ho pins s σ H _ I h) λv s1 ⟨x,H1,I1,r1,ty,q1⟩=>?_);obtain⟨h1,h2⟩:=Ab I1 r1 ty;refine⟨T,id,pa,slot,hty,h1,h2,?_⟩;have hA:=ha cpos pins s1 σ H1 _ I1 q1;rw[hs]at hA ⊢;refine Calls.callWith_builtin (by show(false||(backTo cpos (starEach es X.env)).any (·.1))=false;rw[hplain]<;>rfl) (Calls.evalArgs_plain ?_);exact cR hA λus s2 ⟨vs,H2,I2,r2,q2⟩=>hm pins s2 σ H2 x vs v us Q I2 r1 r2 q2
end
noncomputable def LQ(X:Cx) (id:String) (r:V->ad->Hp->VK->Prop):Prop :=
 ∀(pins:List (Addr×Obj)) (s:Shared) (σ:St) (H:Hp) (x:V) (xs:ad) (v:Value) (us:List Value) (Q:VK),Inv X pins σ H s->bq x v->bo xs us->r x xs H Q ->
  wpAny (model X.prog X.w) X.A (call (.builtin id) (v::us)) (EP X pins σ Q) X.xe s
theorem bo.one:∀{x:V}{us:List Value},bo [x] us->∃u,us=[u]/\bq x u
 |_,_,.cons r .nil=>⟨_,rfl,r⟩
theorem bo.zero:∀{us:List Value},bo [] us->us=[]
 |_,.nil=>rfl
theorem bo.rep{xs:ad}{us:List Value}(h:bo xs us):∀k:Nat,bo (List.replicate k xs).flatten (List.replicate k us).flatten
 |0=>.nil
 |k+1=>by
  rw[List.replicate_succ,List.replicate_succ,List.flatten_cons,List.flatten_cons];exact bo.append h (bo.rep h k)
theorem qV(its:List Value):∀(k:Nat) (acc:List Value),
  List.foldl (λx1 x2=>x1++x2) acc.toArray (List.replicate k its.toArray)=(acc++(List.replicate k its).flatten).toArray
 |0,acc=>by simp
 |k+1,acc=>by
  have e:acc.toArray++its.toArray=(acc++its).toArray:=by simp
  have e2:(acc++its)++(List.replicate k its).flatten=acc++(List.replicate (k+1) its).flatten:=by
   rw[List.replicate_succ,List.flatten_cons,List.append_assoc]
  rw[←e2,←qV its k (acc++its),←e,List.replicate_succ,List.foldl_cons]
section
variable {X:Cx}{pins:List (Addr×Obj)}{σ:St}{H:Hp}{s:Shared}{l b:Addr}{xs ys zs:ad}
def Inv.lset{its its':List Value}{n:Nat}{f:Array Value->Array Value}{t':Nat}(I:Inv X pins σ H s)(hH:H l=some (.lst xs))
  (e:s.heap.get? l=some { cls:=.type "list",data:=.seq its.toArray n })(hf:f its.toArray=its'.toArray)(hv:bo ys its')(hz:ys.length<=sizeLine) :
  Inv X pins σ (upd H l (.lst ys)) { s with heap:=s.heap.update l (Obj.mapSeq f),toks:=t' }:=by
 have q:=PySem.IsL.update e f;rw[hf]at q;refine I.write (x:=l) (e:=l) (by rw[hH];exact trivial) (.inl rfl) (λb' u hb hu=>(Heap.get?_update_other s.heap (Obj.mapSeq f) (Ne.symm hb)).trans hu) ⟨_,q⟩ ?_;exact⟨hz,its',_,hv,q⟩
def Inv.lnew{its:List Value}{t':Nat}(I:Inv X pins σ H s)(hv:bo ys its)(hz:ys.length<=sizeLine) :
  Inv X pins σ (upd H s.heap.objs.size (.lst ys)) { s with heap:=s.heap.push { cls:=.type "list",data:=.seq its.toArray },toks:=t' } :=
 I.laid (λ_ _ q=>Heap.get?_push_of_some _ q) (Nat.le_refl _) ⟨hz,its,0,hv,Heap.get?_push_size _ rfl⟩
def Inv.fresh(I:Inv X pins σ H s):H s.heap.objs.size=none:=I.hok.fresh (Nat.le_refl _)
def Inv.lstM(I:Inv X pins σ H s)(hH:H l=some (.lst xs)):xs.length<=sizeLine/\∃(its:List Value) (n:Nat),bo xs its/\xs.length=its.length/\s.heap.get? l=some { cls:=.type "list",data:=.seq its.toArray n }:=by
 obtain⟨z,its,n,r,e⟩:=I.hok l _ hH;exact⟨z,its,n,r,r.length,e⟩
def Bk{n:Nat}(h:n<=sizeLine):Builtin.List.listTooLong n=false:=by
 unfold Builtin.List.listTooLong;exact decide_eq_false (by omega)
end
section
variable {X:Cx}
def C2:V->ad->Hp->VK->Prop:=λx vs H Q=>∃l xs y,x=.ref l/\vs=[y]/\H l=some (.lst xs)/\xs.length<sizeLine/\Q .non (upd H l (.lst (xs++[y])))
def ma:LQ X "list.append" C2:=by
 intro pins s σ H x vs v us Q I rx rv h;obtain⟨l,xs,y,rfl,rfl,hH,hz,q⟩:=h;cases rx;obtain⟨u,rfl,ru⟩:=rv.one;obtain⟨z,its,n,r,hl,e⟩:=I.lstM hH;refine call_meets F.slot_list_append ⟨_,e,rfl⟩ F.entry_list_append (F.args_list_append_2 _ _) (PySem.list_append l its.toArray n u (by rw[List.size_toArray];omega)) ⟨e,?_⟩;refine⟨.non,_,I.lset (its':=its++[u]) hH e (by simp) (r.append (.cons ru .nil)) ?_,rfl,q⟩;rw[List.length_append,List.length_singleton];omega
def Gm:V->ad->Hp->VK->Prop:=λx vs H Q=>∃l xs,x=.ref l/\vs=[]/\H l=some (.lst xs)/\Q .non (upd H l (.lst []))
def Bq:LQ X "list.clear" Gm:=by
 intro pins s σ H x vs v us Q I rx rv h;obtain⟨l,xs,rfl,rfl,hH,q⟩:=h;cases rx;have hus:=rv.zero;subst hus;obtain⟨z,its,n,r,hl,e⟩:=I.lstM hH;refine call_meets F.slot_list_clear ⟨_,e,rfl⟩ F.entry_list_clear (F.args_list_clear_1 _) (AutoSeq1.list_clear_list_0 l its.toArray n (by rw[List.size_toArray];omega)) ⟨e,?_⟩;exact⟨.non,_,I.lset (its':=[]) (ys:=[]) hH e rfl .nil (Nat.zero_le _),rfl,q⟩
def Lu:R2:=λx y H Q=>∃l k xs,x=.ref l/\y=.int k/\H l=some (.lst xs)/\-(2 ^ 63)<=k/\k<2 ^ 63/\xs.length*k.toNat<=sizeLine /\
 ∀p,H p=none->Q (.ref p) (upd H p (.lst (List.replicate k.toNat xs).flatten))
def DM{α:Type}(xs:List α)(k:Nat):(List.replicate k xs).flatten.length=k*xs.length:=by
 induction k with|zero=>simp|succ k ih=>rw[List.replicate_succ,List.flatten_cons,List.length_append,ih,Nat.succ_mul,Nat.add_comm]
def GI:fP X (binaryOp .Mult) Lu:=by
 intro pins s σ H x y v u Q I rx ry h;obtain⟨l,k,xs,rfl,rfl,hH,h1,h2,hz,q⟩:=h;cases rx;obtain⟨t,rfl⟩:=ry;obtain⟨z,its,n,r,hl,e⟩:=I.lstM hH;have hlen:its.toArray.size*k.toNat<=sizeLine:=by rw[List.size_toArray,←hl];exact hz
 have hcap:¬its.toArray.size*k.toNat > (2 ^ 63-1) / 8:=by
  have:(sizeLine:Nat)<=(2 ^ 63-1) / 8:=by decide
  omega
 have hfit:¬(!Builtin.List.listFitsIndex k)=true:=by
  rw[fitsIndex_both h1 h2];exact Bool.false_ne_true
 have hlong:¬Builtin.List.listTooLong (its.toArray.size*k.toNat)=true:=by
  rw[Bk hlen];exact Bool.false_ne_true
 have hnew:List.foldl (λx1 x2=>x1++x2) #[] (List.replicate (if its.toArray.isEmpty=true then 0 else k.toNat) its.toArray)=(List.replicate k.toNat its).flatten.toArray:=by
  have f0:∀m:Nat,List.foldl (λx1 x2=>x1++x2) #[] (List.replicate m its.toArray)=(List.replicate m its).flatten.toArray:=λm=>by
   have:=qV its m [];rw[List.nil_append]at this;exact this
  rw[f0];cases its with|nil=>simp|cons a r'=>rw[if_neg (by simp)]
 refine wpAny_binaryOp_repeat_ref (T:="list") (U:="int") (by decide) ⟨_,e,rfl⟩ (λs'=>typeIs_int s' k t) noFill_list_mul F.fills_int_mul F.slot_int_rmul repeat_list F.slot_int_index.lookup
  (call_meets F.slot_int_rmul (typeIs_int s k t) F.entry_int_rmul (F.args_int_rmul_2 _ _) (int___rmul___int_list k t l its.toArray n)
   ⟨e,rfl,⟨_,e,rfl⟩,call_meets F.slot_list_mul ⟨_,e,rfl⟩ F.entry_list_mul (F.args_list_mul_2 _ _) (AutoListH.list___mul___list_int_3 l its.toArray n k t hfit hcap hlong) ⟨e,?_⟩⟩)
 rw[hnew];exact⟨.ref _,_,I.lnew (t':=s.toks) (r.rep k.toNat) (by rw[DM,Nat.mul_comm];exact hz),rfl,q _ I.fresh⟩
end
end L2
namespace Att
open PySem PySem.W PySem.Calls PyProof.Rows
def nh{P:Params}{h:Heap}:∀(ns:List Int) (vs:List Value),WellAll P h vs (ns.map WData.int)->IntsAre vs ns:=by
 intro ns
 induction ns with
 |nil=>
  intro vs w;rw[List.map_nil]at w;cases w;exact .nil
 |cons n ns ih=>
  intro vs w;rw[List.map_cons]at w;cases w with
  |cons a b=>
   cases a;exact .cons _ _ (ih _ b)
def yF{l:OpenLaw}{n:Nat}(hn:l.most=some n){P:Params}{h:Heap}{args:List WData}{vals:List Value}
  (hpre:l.row.toRowW.claim.pre args=true)(hwl:WellAll P h vals args) :
  ∃a vs ns,vals=[Value.ref a]/\args=[WData.list (ns.map WData.int)]/\h.get? a=some { cls:=.type "list",data:=.seq vs.toArray }/\IntsAre vs ns/\ns.length<=n:=by
 have hsh:WShape.hasAll [] args [.list .int]=true:=(pre_splitW hpre).1;have hc:l.pre.holds [] { args:=args }=true:=(pre_splitW hpre).2;obtain⟨d,r,rfl,h1,h2⟩:=hasAllW_cons hsh;obtain rfl:=hasAllW_nil h2;obtain⟨xs,rfl,h3⟩:=hasW_list h1;obtain⟨ns,rfl⟩:=items_int h3;have hlen:ns.length<=n:=by
  unfold OpenLaw.pre at hc;have h4:(WTm.not (.lt (.lit (.int (n:Int))) (.len (.arg 0)))).holds [] { args:=[.list (ns.map .int)] }=true:=by
   have h4:=(holds_andW hc).1;rw[hn]at h4;exact h4
  have h5:=condW_of h4 (w_not (w_lt w_lit (w_len_list (w_arg rfl))));rw[List.length_map]at h5;refine Nat.le_of_not_lt λq=>?_;have q':(n:Int)<((ns.length:Nat):Int):=by omega
  first
   |(rw[decide_eq_true q']at h5;exact absurd h5 (by decide))
   |(simp at h5;omega)
 cases hwl with
 |cons w1 w2=>
  cases w2;cases w1 with|list ho hall=>exact⟨_,_,ns,rfl,rfl,ho,nh ns _ hall,hlen⟩
def yL(l:OpenLaw)(args:List WData):l.row.toRowW.claim.post args (.bool true) args=true :=
 postW_of (r:=l.row.toRowW) (X:=(true==true))
  (show WShape.has [] (.bool true) .bool=true by first|rfl|decide|simp[WShape.has,WShape.arms,WShape.armsAll])
  (show(WTm.eq .res (.lit (.bool true))).value [] { args:=args,res:=some (.bool true),after:=args }=some (.bool (true==true)) from w_eq_bool (w_res rfl) w_lit) rfl
def attach_call{l:OpenLaw}{n:Nat}{q:Program}{loose:List Str}{XP:(Str->Option Value)->Heap->Prop}{YP:World->Heap->Prop}{d:DefRec}
  (hn:l.most=some n)(hdf:d.params.defaults=[])
  (call:∀(w:World) (sf sg:Shared) (mg mb:Str->Option Value) (fa:Addr) (o:Obj) (pm cd doc:Value) (a:Addr) (vs:List Value) (ns:List Int),
   Ground q loose [] XP w sf mg mb sg.heap->YP w sg.heap ->
   sg.heap.get? fa=some o->o.data=.func (docDef d.name d.params d.body d.scope pm cd doc)->sg.heap.CodeRec cd d.name->mg d.name=some (.ref fa) ->
   sg.heap.get? a=some { cls:=.type "list",data:=.seq vs.toArray }->IntsAre vs ns->ns.length<=n->sg.gens=#[] ->
   codeAny (model l.prog w) callerA (.call (.ref fa) ⟨[.ref a],[]⟩) (λr s'=>r=.ok (.ret (.bool true))/\OldK sg.heap s'.heap/\s'.os=sg.os/\AllBare s'.gens) sg) :
  WalkO q loose XP YP l.row.toRowW d [] (λf vs=>PySem.call f vs):=by
 intro w sf sg mg mb G Y fa o pm cd doc dV kV ho hd hcd hD hmg hg args vals as hpre hlay hrd hwl hlo;obtain rfl:dV=.none:=Dflts.none hD hdf;obtain rfl:kV=.none:=Dflts.noKw hD;obtain⟨a,vs,ns,rfl,rfl,hobj,hints,hlen⟩:=yF hn hpre hwl;refine enter_call (codeAny_mono (call w sf sg mg mb fa o pm cd doc a vs ns G Y ho (fd_plain hd) hcd hmg hobj hints hlen hg) λr s' hq=>?_);obtain⟨rfl,h2,h3,h4⟩:=hq;exact⟨.inl ⟨.bool true,.bool true,[],rfl,λ_=>rfl,.bool true,yL l _,λ_=>⟨List.Pairwise.nil,λ_ hm=>(nomatch hm)⟩⟩,h2,h3,h4⟩
end Att
namespace L2
open PySem PySem.Spec PyProof.Rows
theorem qC:∀{vs:List Value}{ns:List Int},IntsAre vs ns->bo (ns.map V.int) vs
 |_,_,.nil=>.nil
 |_,_,.cons n t h=>.cons ⟨t,rfl⟩ (qC h)
def E6(H:Hp):Prop:=∀b,H b=none∨∃o xs,H b=some (.frz o (.lst xs))
def Bv{P:Program}{w:World}{K:W.Frag}{mg mb:Str->Option Value}{CX:pY}{k:Nat}{fa a:Addr}{fd:FuncData}{x:Str}{sp:Sp}{sg:Shared}{vs:List Value}{ns:List Int}
  (KX:K.In sg.heap)(hns:sg.heap.Ns mainGlobals mg)(hb:sg.heap.Ns builtinsNs mb)(hbb:∀x:Str,x≠"__name__"->mb x=bootBuiltins x)(hlim:sg.heap.NoLimit)(hsm:∃mm,sg.heap.Ns sysModules mm)(hg:sg.gens=#[])
  (ha:sg.heap.get? a=some { cls:=.type "list",data:=.seq vs.toArray })(hi:IntsAre vs ns)(hl:ns.length<=sizeLine)(hr:dX k callerA)
  (F:∀base:Heap,K.In base->base.Ns mainGlobals mg->gE P w K mg base CX k fa fd [x] sp)(hbind:∀(s:Shared) (u:Value),BindsTo s fd ⟨[u],[]⟩ [(x,u)])
  (hsp:∀H:Hp,E6 H->dF K H a (ns.map V.int)->sp [.ref a] H (λv _=>v=.bl true) λ_ _ _=>False)
  (hCX:∀H e s',CX [] H sg (λ_ _ _=>False) e s'->False) :
  codeAny (model P w) callerA (.call (.ref fa) ⟨[.ref a],[]⟩) (λr s'=>r=.ok (.ret (.bool true))/\OldK sg.heap s'.heap/\s'.os=sg.os/\AllBare s'.gens) sg:=by
 have rv:=qC hi;have lenV:=hi.length;have core:∀H:Hp,E6 H->dF K H a (ns.map V.int)->ka P w H sg.heap->(∀b,H b≠none->b=a)->(H a≠none->K.lookup a=none) ->
   codeAny (model P w) callerA (.call (.ref fa) ⟨[.ref a],[]⟩) (λr s'=>r=.ok (.ret (.bool true))/\OldK sg.heap s'.heap/\s'.os=sg.os/\AllBare s'.gens) sg:=by
  intro H hO hS hok hA hK;have base_of:∀{b:Addr}{o:Obj},sg.heap.get? b=some o->H b=none->(sI sg.heap H).get? b=some o:=λe n=>BE e n;have noA:∀{b:Addr}{o:Obj}{es:Array DictEntry}{ep:Nat},sg.heap.get? b=some o->o.data=.dict es ep->H b=none:=λ{b o es ep} e d=>by
   cases q:H b with
   |none=>rfl
   |some u=>
    have e':b=a:=hA b (by rw[q];simp);subst e';rw[ha]at e;cases e;have d':Data.seq vs.toArray _=Data.dict es ep:=d;cases d'
  have nsK:∀{b:Addr}{m:Str->Option Value},sg.heap.Ns b m->(sI sg.heap H).Ns b m:=λ{b m} ⟨o,es,ep,e,d,r⟩=>⟨o,es,ep,base_of e (noA e d),d,r⟩
  have hKb:K.In (sI sg.heap H):=λb o e=>base_of (KX b o e) (by
   cases q:H b with
   |none=>rfl
   |some u=>
    have e':b=a:=hA b (by rw[q];simp);subst e';rw[hK (by rw[q];simp)]at e;cases e)
  have hM:Mod K mg (sI sg.heap H):=⟨hKb,nsK hns,⟨mb,nsK hb,hbb⟩,let ⟨mc,h1,h2⟩:=hlim;⟨mc,nsK h1,h2⟩,let ⟨mm,h1⟩:=hsm;⟨mm,nsK h1⟩⟩
  have e0:Cn P w K mg (sI sg.heap H) callerA [] sg H:=⟨rfl,hM,λb o e=>Dy e,Nat.le_of_eq (zk _ _),trivial,λb hb=>absurd (show b∈([]:List Addr) from hb) (by simp),hok,.of_eq hg⟩
  refine codeAny_mono ((F _ hKb (nsK hns)).run callerA [] sg H ⟨[.ref a],[]⟩ [.ref a] [.ref a] _ _ hr e0 (hbind sg (.ref a)) (.cons rfl .nil) (hsp H hO hS)) λr s' h=>?_;cases r with
  |error e=>exact(hCX H e s' h).elim
  |ok fl=>
   cases fl with
   |next|brk|cont=>exact False.elim h
   |ret u=>
    obtain⟨v,H',os,bare,un,hok',r',q⟩:=h;have q':v=.bl true:=q;subst q';obtain rfl:u=Value.bool true:=r';refine⟨rfl,OldK.of_keep λb o e=>?_,os,bare⟩;cases q:H b with
    |none=>exact un.keep b o e q (by intro z;exact absurd (show b∈([]:List Addr) from z) (by simp)) (by simp)
    |some u=>
     rcases hO b with z|⟨ob,xs,z⟩
     .rw[q]at z;cases z
     .have z2:=un.frzs b ob _ z
      obtain⟨e1,_⟩:=hok b _ z;obtain⟨e2,_⟩:=hok' b _ z2;rw[e]at e1;cases e1;exact e2
 cases hk:K.lookup a with
 |some o=>
  have e:=KX a o hk;rw[ha]at e;cases e;refine core (λ_=>none) (λ_=>.inl rfl) (.inr ⟨_,vs.toArray,_,hk,rfl,rfl,rfl,by rw[List.size_toArray,lenV];exact hl,by simpa using rv⟩) (λb u z=>by have z':(none:Option HO)=some u:=z;cases z') (λb z=>absurd rfl z) λz=>absurd rfl z
 |none=>
  refine core (λb=>if b=a then some (.frz { cls:=.type "list",data:=.seq vs.toArray } (.lst (ns.map V.int))) else none) (λb=>?_) (.inl (.inr ⟨{ cls:=.type "list",data:=.seq vs.toArray },if_pos rfl⟩)) (λb u z=>?_) (λb z=>?_) λ_=>hk
  .by_cases hb:b=a
   .exact .inr ⟨_,_,if_pos hb⟩
   .exact .inl (if_neg hb)
  .by_cases hb:b=a
   .have z':=(if_pos hb).symm.trans z
    cases z';subst hb;exact⟨ha,by rw[List.length_map];exact hl,vs,_,rv,ha⟩
   .have z':=(if_neg hb).symm.trans z
    cases z'
  .by_cases hb:b=a
   .exact hb
   .exact absurd (if_neg hb) z
abbrev KOf{K:W.Frag}{h:Heap}(_:K.In h):W.Frag:=K
def CF{l:W.OpenLaw}{n k:Nat}{q:Program}{loose:List Str}{XP:(Str->Option Value)->Heap->Prop}{YP:World->Heap->Prop}{d:DefRec}{K:Params->W.Frag}{CX:World->pY}{sp:World->Sp}{x:Str}
  (hi:importsNone q=true)(hn:l.most=some n)(hn2:n<=sizeLine)(hdf:d.params.defaults=[])(hr:dX k callerA)
  (hY:∀(w:World) (h:Heap),YP w h->(K w.params).In h)
  (F:∀(w:World) (mg:Str->Option Value) (fa:Addr) (h:Heap),(K w.params).In h->h.Ns mainGlobals mg->mg d.name=some (.ref fa) ->
   ∃fd:FuncData,(∀(s:Shared) (u:Value),BindsTo s fd ⟨[u],[]⟩ [(x,u)]) /\
    ∀base:Heap,(K w.params).In base->base.Ns mainGlobals mg->gE l.prog w (K w.params) mg base (CX w) k fa fd [x] (sp w))
  (hsp:∀(w:World) (H:Hp) (a:Addr) (ns:List Int),ns.length<=n->E6 H->dF (K w.params) H a (ns.map V.int)->sp w [.ref a] H (λv _=>v=.bl true) λ_ _ _=>False)
  (hCX:∀(w:World) (H:Hp) (s:Shared) (e:Value) (s':Shared),CX w [] H s (λ_ _ _=>False) e s'->False) :
  W.WalkO q loose XP YP l.row.toRowW d [] (λf vs=>PySem.call f vs):=by
 refine Att.attach_call hn hdf λw sf sg mg mb fa o pm cd doc a vs ns G Y ho hd hcd hmg hobj hints hlen hg=>?_;have KX:=hY w _ Y;obtain⟨fd,hb,hF⟩:=F w mg fa _ KX G.T.g hmg;exact Bv KX G.T.g G.T.b G.T.builtins G.T.nolimit (let ⟨mm,h1,_⟩:=(G.T.seer hi).mods;⟨mm,h1⟩) hg hobj hints (Nat.le_trans hlen hn2) hr hF hb (λH hO hS=>hsp w H a ns hlen hO hS) λH e s'=>hCX w H sg e s'
def walk_ofK{l:W.OpenLaw}{n k:Nat}{q:Program}{loose:List Str}{XP:(Str->Option Value)->Heap->Prop}{YP:World->Heap->Prop}{d:DefRec}{K:Params->W.Frag}{CX:pY}{sp:W.Frag->Sp}{x:Str}
  (hi:importsNone q=true)(hn:l.most=some n)(hn2:n<=sizeLine)(hdf:d.params.defaults=[])(hr:dX k callerA)
  (hY:∀(w:World) (h:Heap),YP w h->(K w.params).In h)
  (F:∀(w:World) (mg:Str->Option Value) (fa:Addr) (h:Heap),(K w.params).In h->h.Ns mainGlobals mg->mg d.name=some (.ref fa) ->
   ∃fd:FuncData,(∀(s:Shared) (u:Value),BindsTo s fd ⟨[u],[]⟩ [(x,u)]) /\
    ∀base:Heap,(K w.params).In base->base.Ns mainGlobals mg->gE l.prog w (K w.params) mg base CX k fa fd [x] (sp (K w.params)))
  (hsp:∀(K:W.Frag) (H:Hp) (a:Addr) (ns:List Int),ns.length<=n->E6 H->dF K H a (ns.map V.int)->sp K [.ref a] H (λv _=>v=.bl true) λ_ _ _=>False)
  (hCX:∀(H:Hp) (s:Shared) (e:Value) (s':Shared),CX [] H s (λ_ _ _=>False) e s'->False) :
  W.WalkO q loose XP YP l.row.toRowW d [] (λf vs=>PySem.call f vs) :=
 CF (K:=K) (CX:=λ_=>CX) (sp:=λw=>sp (K w.params)) hi hn hn2 hdf hr hY F (λw H a ns h1 h2 h3=>hsp (K w.params) H a ns h1 h2 h3) λ_ H s e s'=>hCX H s e s'
def defArgs(s:Stmt):Arguments:=match s with
 |.FunctionDef _ a _ _ _ _ _ _ _ _=>a
 |_=>{ posonlyargs:=[],args:=[],vararg:=none,kwonlyargs:=[],kw_defaults:=[],kwarg:=none,defaults:=[] }
def defBody(s:Stmt):List Stmt:=match s with
 |.FunctionDef _ _ b _ _ _ _ _ _ _=>b
 |_=>[]
def defScope(s:Stmt):Scope:=match s with
 |.FunctionDef _ _ _ _ _ _ sc _ _ _=>sc
 |_=>{ kind:=.function,names:=[],isGenerator:=false,isCoroutine:=false }
abbrev CX0:pY:=λ_ _ _ _ _ _=>False
abbrev E0:XK:=λ_ _ _=>False
def Bb{X:Cx}:i4 CX0 X E0:=λ_ _ _ _ _ _ _ h=>h.elim
structure Fd (K:W.Frag) (x qual:Str) (st:Stmt) (f:Addr) (fd:FuncData):Prop where
 ex:∃(oc:Value) (od:Option Addr) (kV doc pm:Value) (an:Option Addr) (cdv ct:Value) (osl:Array (Option Value)),
  fd=W.fnOf x qual (defArgs st) (defBody st) (defScope st) .none kV doc pm an cdv ct/\K.lookup f=some ⟨oc,od,.func fd,osl⟩/\W.codeIn K cdv qual=true
 kp:W.keepIn K (.ref f)=true
section
variable {P:Program}{w:World}{K:W.Frag}{mg:Str->Option Value}{base:Heap}
def Fd.ok{x qual:Str}{st:Stmt}{f:Addr}{fd:FuncData}{N ps:List Str}{k:Nat}{sp:Sp}(F:Fd K x qual st f fd)(S:gS N ps (defScope st))(len:∀vs H Q E,sp vs H Q E->vs.length=ps.length)
  (hbody:∀(cdv:Value) (A:Around) (outer:List Env) (s:Shared) (H:Hp) (vs:ad) (Q:VK) (E:XK),dX k (A.deeper (envOfC qual (defScope st) s.heap.objs.size f cdv))->sp vs H Q E ->
   ∃t,pZ (nq CX0 P w K mg base N qual (defScope st) f cdv A outer s H E).nox (defBody st) t/\t { nx:=λ_ H'=>Q .non H',rt:=Q } (start N vs) H):gE P w K mg base CX0 (k+1) f fd ps sp:=by
 obtain⟨oc,od,kV,doc,pm,an,cdv,ct,osl,rfl,lk,hcd⟩:=F.ex;refine J6 lk hcd S len λA outer s H vs Q E hr hsp=>?_;obtain⟨t,h,q⟩:=hbody cdv A outer s H vs Q E hr hsp;exact⟨t,h.nox,q⟩
def Fd.binds{x qual:Str}{st:Stmt}{f:Addr}{fd:FuncData}{ps:List Str}(F:Fd K x qual st f fd)
  (h:∀(kV doc pm:Value) (an:Option Addr) (cdv ct:Value) (us:List Value),us.length=ps.length->bindArgs (W.fnOf x qual (defArgs st) (defBody st) (defScope st) .none kV doc pm an cdv ct) ⟨us,[]⟩=pure (ps.zip us)):lW K fd ps []:=by
 obtain⟨oc,od,kV,doc,pm,an,cdv,ct,osl,rfl,lk,hcd⟩:=F.ex;exact .all (h kV doc pm an cdv ct)
def BH{x qual:Str}{st:Stmt}{f:Addr}{oc:Value}{od an:Option Addr}{osl:Array (Option Value)}{kV doc pm cdv ct:Value}(l:K.lookup f=some ⟨oc,od,.func (W.fnOf x qual (defArgs st) (defBody st) (defScope st) .none kV doc pm an cdv ct),osl⟩)
  (c:W.codeIn K cdv qual=true)(k:W.keepIn K (.ref f)=true):Fd K x qual st f (W.fnOf x qual (defArgs st) (defBody st) (defScope st) .none kV doc pm an cdv ct):=⟨⟨oc,od,kV,doc,pm,an,cdv,ct,osl,rfl,l,c⟩,k⟩
end
def aF(H H':Hp):Prop:=∀b o,H b=some o->H' b=some o
def aF.refl(H:Hp):aF H H:=λ_ _ h=>h
def aF.trans{H H1 H2:Hp}(a:aF H H1)(b:aF H1 H2):aF H H2:=λc o h=>b c o (a c o h)
def aF.free{H H':Hp}(e:aF H H'){l:Addr}(h:H' l=Option.none):H l=Option.none:=by
 cases q:H l with
 |none=>rfl
 |some o=>
  rw[e l o q]at h;cases h
end L2
namespace DL
open PySem PySem.Spec PySem.Calls PySem.W PyProof.Rows Builtin Builtin.ObjectAttr Builtin.Getset_descriptor
section
variable {prog:Program}{w:World}{A:Around}{E:Value->Shared->Prop}{h:Heap}{g:Array GenState}{d:Drawn}{t:Nat}{os:OsState}{a C:Addr}{o:Obj}{K:Frag}
structure qA (K:Frag) (C:Addr):Prop where
 cls:findIn K (.ref C) "__class__"=some (some (.builtin "object.__class__"))
 ga:findIn K (.ref C) "__getattribute__"=some (some (.builtin "BaseException.__getattribute__"))
 gt:findIn K (.ref C) "__getattr__"=some none
 ob:mroIn K C (.type "object")=some true
 be:subIn K (.ref C) (.type "BaseException")=some true
def FO{R:Result->Shared->Prop}{tp:Value}(X:K.In h)(Z:qA K C)(hx:h.get? a=some o)(hc:o.cls=.ref C)(hq:R (.ok (.ret (.ref C))) ⟨h,g,d,t,os⟩) :
  codeAny (model prog w) A (.call (.builtin "getset_descriptor.__get__") ⟨[.builtin "object.__class__",.ref a,tp],[]⟩) R ⟨h,g,d,t,os⟩:=by
 have L0:Looks (model prog w) h (typeOf (.ref a)) (.ref C):=hc▸(Looks.ld hx).andThen .now;have L1:=looks_mroIn (M:=model prog w) X Z.ob;refine codeAny_call_builtin KF.slot_gs.plain KF.entry_gs (KF.slot_gs.check _ _ _ _ _ _ _ _ KF.type_class (KF.args_gs _ _ _) ?_);unfold Builtin.«getset_descriptor.__get__» descrGet;rw[dga_obj];refine wpAny_bind (wpAny_pure ?_);unfold descrGetter descrCheckInstance descrNameAndClass isInstance;simp only[KF.owner_class]
 repeat lk
 refine⟨Code.quiet_builtin _ (by decide +kernel),codeAny_builtin KF.entry_class ?_⟩;unfold Builtin.«object.__class__» shownTypeOf
 repeat lk
 exact hq
def zX{M:Model}{nameV:Value}{Q:Unit->Shared->Prop}(X:K.In h)(Z:qA K C)(hx:h.get? a=some o)(hc:o.cls=.ref C)(hq:Q () ⟨h,g,d,t,os⟩):wpAny M A (checkBuiltinCall "BaseException.__getattribute__" ⟨[.ref a,nameV],[]⟩) Q E ⟨h,g,d,t,os⟩:=by
 have hk:builtinKind "BaseException.__getattribute__"=some .slot:=by decide +kernel
 have hsplit:splitId "BaseException.__getattribute__"=some ("BaseException","__getattribute__"):=by decide +kernel
 have ha:=F.args_bexc_ga (.ref a) nameV;have LS:Looks M h (isSubtype (.ref C) (.type "BaseException")) true:=looks_subIn X Z.be;simp only[checkBuiltinCall,hk,hsplit];refine wpAny_bind ?_
 .unfold isInstance
  repeat (first|(with_reducible refine wpAny_loadPart_at hx ?_;rw[hc])|(with_reducible refine LS.at ?_)|wp_step)
  exact hq
def zW{tk:Tok}{Q:Fin->Shared->Prop}(X:K.In h)(Z:qA K C)(hx:h.get? a=some o)(hc:o.cls=.ref C)(hq:Q (.done (.ret (.ref C))) ⟨h,g,d,t,os⟩) :
  wpAny (model prog w) A (Builtin.«object.__getattribute__» ⟨[.ref a,.str "__class__" tk],[]⟩) Q E ⟨h,g,d,t,os⟩:=by
 have hT5:(⟨h,g,d,t,os⟩:Shared).TypeIs (.builtin "object.__class__") "getset_descriptor":=F.typeOf_object_class;have f5:=F.typeOf_object_class;have f6:=F.slot_gs_get.lookup;have f7:=F.slot_gs_set.lookup;have LC:Looks (model prog w) h (typeLookup (.ref C) "__class__") (some (.builtin "object.__class__")):=looks_findIn X Z.cls
 repeat (any_goals (first|assumption|(with_reducible refine wpAny_loadPart_at hx ?_;rw[hc])|(with_reducible refine LC.at ?_)|wp_step))
 refine FO X Z hx hc ?_
 repeat (any_goals (first|assumption|wp_step))
def Cz{tk:Tok}{R:Result->Shared->Prop}(X:K.In h)(Z:qA K C)(hx:h.get? a=some o)(hc:o.cls=.ref C)(hq:R (.ok (.ret (.ref C))) ⟨h,g,d,t,os⟩) :
  codeAny (model prog w) A (.call (.builtin "BaseException.__getattribute__") ⟨[.ref a,.str "__class__" tk],[]⟩) R ⟨h,g,d,t,os⟩ :=
 codeAny_call_builtin F.attr_ValueError.ga.plain F.entry_bexc_ga (zX X Z hx hc (zW X Z hx hc hq))
def IJ{tk:Tok}{Q:Value->Shared->Prop}(X:K.In h)(Z:qA K C)(hx:h.get? a=some o)(hc:o.cls=.ref C)(hq:Q (.ref C) ⟨h,g,d,t,os⟩) :
  wpAny (model prog w) A (getAttrBy (.ref a) (.str "__class__" tk) false) Q E ⟨h,g,d,t,os⟩:=by
 have f3:=F.attr_ValueError.ga.bind (.ref a);have hx2:(Value.builtin "BaseException.__getattribute__"==Value.builtin "object.__getattribute__")=false:=by decide +kernel
 have hx1:(onTheHeap (Value.ref C)&&Value.builtin "BaseException.__getattribute__"==Value.builtin "object.__getattribute__")=false:=by rw[hx2];rfl
 have L1:Looks (model prog w) h (typeLookup (.ref C) "__getattribute__") (some (.builtin "BaseException.__getattribute__")):=looks_findIn X Z.ga;have L2:Looks (model prog w) h (typeLookup (.ref C) "__getattr__") none:=looks_findIn X Z.gt
 repeat (any_goals (first|assumption|(with_reducible refine wpAny_loadPart_at hx ?_;rw[hc])|(with_reducible refine L1.at ?_)|(with_reducible refine L2.at ?_)|wp_step))
 refine Cz X Z hx hc ?_
 repeat (any_goals (first|assumption|wp_step))
def CA{Q:Option Value->Shared->Prop}(X:K.In h)(Z:qA K C)(hx:h.get? a=some o)(hc:o.cls=.ref C)(hq:Q (some (.ref C)) ⟨h,g,d,t+1,os⟩):wpAny (model prog w) A (getAttr? (.ref a) "__class__") Q E ⟨h,g,d,t,os⟩:=by
 unfold getAttr? getAttrBy?
 repeat (any_goals (first|assumption|with_reducible apply IJ X Z hx hc|wp_step))
end
def KZ(a C:Addr)(dc:Option Addr):Heap->Prop:=λh=>∃o vs,h.get? a=some o/\o.cls=.ref C/\o.data=.fields vs/\o.dict=dc
def uE{K:Frag}{a C:Addr}{dc:Option Addr}(Z:qA K C)(hC:(clsIn K C).isSome=true):KitX K (.ref a) (.ref C) (KZ a C dc) where
 ty:=λ_ _ _ ⟨o,_,h1,h2,_⟩=>h2▸(Looks.ld h1).andThen .now
 it:=λ_ _ X _=>by
  obtain⟨cd,hcD⟩:=Option.isSome_iff_exists.mp hC;unfold clsIn at hcD;split at hcD
  .rename_i c' d' cd' sl' ho
   intro A' Q' E' s' k q;unfold isType loadHead;exact wpAny_bind (wpAny_loadPart (k _ _ (X _ _ ho)) (wpAny_pure q))
  .cases hcD
 ne:=λh tp dd its n sl X htp=>by
  obtain⟨cd,hcD⟩:=Option.isSome_iff_exists.mp hC;refine Bool.eq_false_iff.mpr λq=>?_;have e:C=tp:=Value.ref.inj (beq_iff_eq.mp q);subst e;unfold clsIn at hcD;split at hcD
  .rename_i c' d' cd' sl' ho
   have z:=(X _ _ ho).symm.trans htp;cases z
  .cases hcD
 ca:=λ{_ _ _ _ _ s} X ⟨o,_,h1,h2,_⟩ k=>by
  obtain⟨h,g,d,t,os⟩:=s;exact CA X Z h1 h2 k
def qA.isCls{K:Frag}{C:Addr}(Z:qA K C):(clsIn K C).isSome=true:=by
 obtain⟨cd,a,b⟩:=Option.bind_eq_some_iff.mp Z.ob;rw[a];rfl
def iW:List String:=["NoneType","bool","int","str","tuple","list","dict"]
structure XC (K:Frag) (x:Str) (C:Addr):Prop where
 ns:nsIn K mainGlobals x=some (some (.ref C))
 ek:qA K C
 bt:∀T∈iW,kitOne K (.ref C) (.type T)=some false
end DL
namespace DL
open PySem PySem.Spec PyProof.Rows L2
def Fs:Expr->Bool
 |.Starred _ _=>false
 |_=>true
def aY{e:Expr}{es:List Expr}{env:PySem.Env}(h:Fs e=true):starEach (e::es) env=(false,eval e env)::starEach es env:=by
 cases e<;>first|(rw[starEach];intros;contradiction)|rw[starEach]|(cases h)
def eP{e:Expr}{env:PySem.Env}(h:Fs e=true):starEach [e] env=[(false,eval e env)]:=by
 rw[aY h,starEach]
theorem bY{env:PySem.Env}{pos:Pos}:∀{es:List Expr},es.all Fs=true->(backTo pos (starEach es env)).any (·.1)=false
 |[],_=>by rw[starEach];rfl
 |e::es,h=>by
  rw[List.all_cons,Bool.and_eq_true]at h;rw[aY h.1];have:=bY (env:=env) (pos:=pos) h.2;show(false||(backTo pos (starEach es env)).any (·.1))=false;rw[this];rfl
def oX{e:Expr}{env:PySem.Env}{pos:Pos}(h:Fs e=true):((backTo pos (starEach [e] env)).all (λx=>!x.1)&&(backToKw pos (keywordEach [] env)).all (λx=>x.1.isSome)
  &&decide ([e].length+([]:List Keyword).length+(if([]:List Keyword).isEmpty then 0 else 1)<30))=true:=by
 rw[eP h,keywordEach];rfl
inductive Kd where
 |ins (c:Str) (ks:List Str)|dint (ks:List Int)|exf (c:Str) (ks:List Str)|pl
inductive D where
 |non|bl (b:Bool)|int (i:Int)|str (x:Str)|tup (xs:List D)|lst (xs:List D)|dic (ks:List Str) (xs:List D)|exc (x:Str)|ob (k:Kd) (xs:List D)
abbrev ac:=List D
structure LN (K:W.Frag) (ks:List Str) (C:Addr):Prop where
 cls:K1 K C
 no:∀f∈ks,Iu K C f
 gc:W.findIn K (.ref C) "__class__"=some (some (.builtin "object.__class__"))
 gn:W.specialIn K (.builtin "object.__class__") "__get__"=some (some (.builtin "getset_descriptor.__get__"))
 tk:W.takesIn K (.builtin "object.__class__")=some true
 mo:W.mroIn K C (.type "object")=some true
 bt:∀T∈iW,W.kitOne K (.ref C) (.type T)=some false
noncomputable def vz(K:W.Frag) (H:Hp):Kd->Addr->ad->Prop
 |.ins c ks,a,vs=>∃C dx,W.nsIn K mainGlobals c=some (some (.ref C))/\LN K ks C/\H a=some (.ins C dx (ks.zip vs))/\ks.length=vs.length
 |.dint ks,a,vs=>∃kvs,Rd H a (.dK kvs)/\kvs=(ks.map Sum.inl).zip vs/\ks.length=vs.length
 |.exf c ks,a,vs=>∃C dx fs,XC K c C/\Rd H a (.ext (KZ a C (some dx)))/\H dx=some (.xd fs)/\ks.length=vs.length/\∀(i:Nat) (f:Str) (v:V),ks[i]?=some f->vs[i]?=some v->fs.lookup f=some v
 |.pl,a,vs=>H a=some (.lst vs)
structure Mj where
 cls:Str
 flds:List (Str×D)
inductive ax (α:Type) where
 |ok (a:α)|exn (x:Mj)|stuck
def ax.bind{α β:Type}(r:ax α)(f:α->ax β):ax β:=match r with
 |.ok a=>f a
 |.exn x=>.exn x
 |.stuck=>.stuck
mutual
def Rep(K:W.Frag)(H:Hp):D->V->Prop
 |.non,v=>v=.non
 |.bl b,v=>v=.bl b
 |.int i,v=>v=.int i
 |.str x,v=>v=.str x
 |.tup ds,v=>∃a vs,v=.ref a/\fS K H a vs/\Reps K H ds vs
 |.lst ds,v=>∃a vs,v=.ref a/\dF K H a vs/\Reps K H ds vs
 |.dic ks ds,v=>∃a kvs vs,v=.ref a/\Rd H a (.dK kvs)/\kvs=(ks.map Sum.inr).zip vs/\ks.length=vs.length/\Reps K H ds vs
 |.exc x,v=>∃a C dc,v=.ref a/\XC K x C/\Rd H a (.ext (KZ a C dc))
 |.ob k ds,v=>∃a vs,v=.ref a/\vz K H k a vs/\Reps K H ds vs
def Reps(K:W.Frag)(H:Hp):ac->ad->Prop
 |[],vs=>vs=[]
 |d::ds,vs=>∃v r,vs=v::r/\Rep K H d v/\Reps K H ds r
end
def aF.rd{H H':Hp}(e:aF H H'){a:Addr}{o:HO}(h:Rd H a o):Rd H' a o:=by
 rcases h with h|⟨o',h⟩
 .exact .inl (e _ _ h)
 .exact .inr ⟨o',e _ _ h⟩
def aF.sqT{K:W.Frag}{H H':Hp}(e:aF H H'){a:Addr}{xs:ad}(h:fS K H a xs):fS K H' a xs:=by
 rcases h with h|h
 .exact .inl (aF.rd e h)
 .exact .inr h
def aF.sqL{K:W.Frag}{H H':Hp}(e:aF H H'){a:Addr}{xs:ad}(h:dF K H a xs):dF K H' a xs:=by
 rcases h with h|h
 .exact .inl (aF.rd e h)
 .exact .inr h
theorem vz.mono{K:W.Frag}{H H':Hp}(e:aF H H'):∀{k:Kd}{a:Addr}{vs:ad},vz K H k a vs->vz K H' k a vs
 |.ins c ks,a,vs,⟨C,dx,h0,h1,h2,h3⟩=>⟨C,dx,h0,h1,e _ _ h2,h3⟩
 |.dint ks,a,vs,⟨kvs,h1,h2,h3⟩=>⟨kvs,aF.rd e h1,h2,h3⟩
 |.exf c ks,a,vs,⟨C,dx,fs,h1,h2,h3,h4⟩=>⟨C,dx,fs,h1,aF.rd e h2,e _ _ h3,h4⟩
 |.pl,a,vs,h=>e _ _ h
mutual
theorem Rep.mono{K:W.Frag}{H H':Hp}(e:aF H H'):∀{d:D}{v:V},Rep K H d v->Rep K H' d v
 |.non,_,h=>by unfold Rep at h ⊢;exact h
 |.bl _,_,h=>by unfold Rep at h ⊢;exact h
 |.int _,_,h=>by unfold Rep at h ⊢;exact h
 |.str _,_,h=>by unfold Rep at h ⊢;exact h
 |.tup ds,_,h=>by
  unfold Rep at h ⊢;obtain⟨a,vs,e1,e2,e3⟩:=h;exact⟨a,vs,e1,aF.sqT e e2,Reps.mono e e3⟩
 |.lst ds,_,h=>by
  unfold Rep at h ⊢;obtain⟨a,vs,e1,e2,e3⟩:=h;exact⟨a,vs,e1,aF.sqL e e2,Reps.mono e e3⟩
 |.dic ks ds,_,h=>by
  unfold Rep at h ⊢;obtain⟨a,kvs,vs,e1,e2,e3,e4,e5⟩:=h;exact⟨a,kvs,vs,e1,aF.rd e e2,e3,e4,Reps.mono e e5⟩
 |.exc x,_,h=>by
  unfold Rep at h ⊢;obtain⟨a,C,dc,e1,e2,e3⟩:=h;exact⟨a,C,dc,e1,e2,aF.rd e e3⟩
 |.ob k ds,_,h=>by
  unfold Rep at h ⊢;obtain⟨a,vs,e1,e2,e3⟩:=h;exact⟨a,vs,e1,e2.mono e,Reps.mono e e3⟩
theorem Reps.mono{K:W.Frag}{H H':Hp}(e:aF H H'):∀{ds:ac}{vs:ad},Reps K H ds vs->Reps K H' ds vs
 |[],_,h=>by unfold Reps at h ⊢;exact h
 |d::ds,_,h=>by
  unfold Reps at h ⊢;obtain⟨v,r,e1,e2,e3⟩:=h;exact⟨v,r,e1,Rep.mono e e2,Reps.mono e e3⟩
end
section
variable {K:W.Frag}{H:Hp}{v:V}{vs:ad}{d:D}{ds:ac}
def aT:Rep K H .non v↔v=.non:=by unfold Rep;exact Iff.rfl
def aK{b}:Rep K H (.bl b) v↔v=.bl b:=by unfold Rep;exact Iff.rfl
def aE{i}:Rep K H (.int i) v↔v=.int i:=by unfold Rep;exact Iff.rfl
def Rep.str_iff{x}:Rep K H (.str x) v↔v=.str x:=by unfold Rep;exact Iff.rfl
def aH:Rep K H (.tup ds) v↔∃a vs,v=.ref a/\fS K H a vs/\Reps K H ds vs:=by rw[Rep]
def aB:Rep K H (.lst ds) v↔∃a vs,v=.ref a/\dF K H a vs/\Reps K H ds vs:=by rw[Rep]
def gR{x}:Rep K H (.exc x) v↔∃a C dc,v=.ref a/\XC K x C/\Rd H a (.ext (KZ a C dc)):=by rw[Rep]
def bL{k}:Rep K H (.ob k ds) v↔∃a vs,v=.ref a/\vz K H k a vs/\Reps K H ds vs:=by rw[Rep]
def Reps.nil_iff:Reps K H [] vs↔vs=[]:=by unfold Reps;exact Iff.rfl
def aD:Reps K H (d::ds) vs↔∃v r,vs=v::r/\Rep K H d v/\Reps K H ds r:=by rw[Reps]
def Reps.nil:Reps K H [] []:=Reps.nil_iff.mpr rfl
def Reps.cons(h:Rep K H d v)(h':Reps K H ds vs):Reps K H (d::ds) (v::vs):=aD.mpr ⟨_,_,rfl,h,h'⟩
end
theorem Reps.length{K:W.Frag}{H:Hp}:∀{ds:ac}{vs:ad},Reps K H ds vs->ds.length=vs.length
 |[],_,h=>by rw[Reps.nil_iff.mp h];rfl
 |d::ds,_,h=>by
  obtain⟨v,r,rfl,_,h⟩:=aD.mp h;simp[Reps.length h]
theorem Reps.get{K:W.Frag}{H:Hp}:∀{ds:ac}{vs:ad}{i:Nat}{d:D},Reps K H ds vs->ds[i]?=some d->∃v,vs[i]?=some v/\Rep K H d v
 |[],_,_,_,h,e=>by simp at e
 |x::ds,_,0,d,h,e=>by
  obtain⟨v,r,rfl,h1,_⟩:=aD.mp h;simp at e;subst e;exact⟨v,rfl,h1⟩
 |x::ds,_,i+1,d,h,e=>by
  obtain⟨v,r,rfl,_,h2⟩:=aD.mp h;obtain⟨u,e1,e2⟩:=Reps.get (i:=i) h2 (by simpa using e);exact⟨u,by simpa using e1,e2⟩
theorem Reps.app{K:W.Frag}{H:Hp}:∀{ds es:ac}{vs us:ad},Reps K H ds vs->Reps K H es us->Reps K H (ds++es) (vs++us)
 |[],_,_,_,h,h'=>by rw[Reps.nil_iff.mp h];exact h'
 |d::ds,_,_,_,h,h'=>by
  obtain⟨v,r,rfl,h1,h2⟩:=aD.mp h;exact Reps.cons h1 (Reps.app h2 h')
theorem Reps.take{K:W.Frag}{H:Hp}:∀{ds:ac}{vs:ad}(n:Nat),Reps K H ds vs->Reps K H (ds.take n) (vs.take n)
 |_,_,0,_=>by simp;exact Reps.nil
 |[],_,n+1,h=>by rw[Reps.nil_iff.mp h];exact Reps.nil
 |d::ds,_,n+1,h=>by
  obtain⟨v,r,rfl,h1,h2⟩:=aD.mp h;exact Reps.cons h1 (Reps.take n h2)
theorem Reps.drop{K:W.Frag}{H:Hp}:∀{ds:ac}{vs:ad}(n:Nat),Reps K H ds vs->Reps K H (ds.drop n) (vs.drop n)
 |_,_,0,h=>by simpa using h
 |[],_,n+1,h=>by rw[Reps.nil_iff.mp h];exact Reps.nil
 |d::ds,_,n+1,h=>by
  obtain⟨v,r,rfl,h1,h2⟩:=aD.mp h;exact Reps.drop n h2
theorem mz{K:W.Frag}{H:Hp}:∀(ns:List Int),Reps K H (ns.map D.int) (ns.map V.int)
 |[]=>Reps.nil
 |n::r=>Reps.cons (aE.mpr rfl) (mz r)
structure aW (H Ha H' Ha':Hp):Prop where
 s:aF H H'
 z:aF Ha Ha'
 sub:aF Ha' H'
 nw:∀a,Ha' a≠none->Ha a=none->H a=none
def aW.refl{H Ha:Hp}(h:aF Ha H):aW H Ha H Ha:=⟨aF.refl _,aF.refl _,h,λa h1 h2=>absurd h2 h1⟩
theorem aW.trans{H Ha H1 H01 H2 H02:Hp}(a:aW H Ha H1 H01)(b:aW H1 H01 H2 H02):aW H Ha H2 H02 :=
 ⟨a.s.trans b.s,a.z.trans b.z,b.sub,λx h1 h2=>by
  cases q:H01 x with
  |none=>exact a.s.free (b.nw x h1 q)
  |some o=>exact a.nw x (by rw[q];simp) h2⟩
def aO{H Ha:Hp}{p:Addr}{o:HO}(hs:aF Ha H)(hp:H p=none):aW H Ha (upd H p o) (upd Ha p o) :=
 ⟨same_new hp o,same_new (hs.free hp) o,λb u e=>by
  by_cases hb:b=p
  .subst hb;rw[aG]at e ⊢;exact e
  .rw[aC hb]at e ⊢;exact hs _ _ e,λa h1 h2=>by
  by_cases hb:a=p
  .subst hb;exact hp
  .rw[aC hb]at h1;exact absurd h2 h1⟩
where
 same_new {H:Hp}{p:Addr}(h:H p=none) (o:HO):aF H (upd H p o):=λb u q=>by rw[aC (bu q h)];exact q
inductive Sl where
 |no|sh (d:D)|ow (d:D)|ox (j:Nat) (ds:ac)|pt (a:Addr)
abbrev Ev:=List Sl
abbrev al:=Ev->ax D
def ez(K:W.Frag)(Ha:Hp)(σ:L2.St)(ρ:Ev):Prop:=∀(i:Nat) (d:D),ρ[i]?=some (.sh d)->∃v,σ[i]?=some (some v)/\Rep K Ha d v
def ez.mono{K:W.Frag}{H H':Hp}{σ:L2.St}{ρ:Ev}(e:aF H H')(r:ez K H σ ρ):ez K H' σ ρ:=λi d h=>
 let ⟨v,h1,h2⟩:=r i d h
 ⟨v,h1,h2.mono e⟩
def rE(K:W.Frag)(H:Hp)(x:Mj)(C:Value)(ox:Option Addr):Prop :=
 (∃c,C=.ref c/\XC K x.cls c)/\match ox with
  |none=>x.flds=[]
  |some a=>∃fs,H a=some (.xd fs)/\∀n d,x.flds.lookup n=some d->∃v,fs.lookup n=some v/\Rep K H d v
def post(K:W.Frag)(E:XK)(H Ha:Hp)(r:ax D)(Q:VK):Prop:=match r with
 |.ok d=>∀v H' Ha',aW H Ha H' Ha'->Rep K Ha' d v->Q v H'
 |.exn x=>∀C ox H' Ha',aW H Ha H' Ha'->rE K Ha' x C ox->E C ox H'
 |.stuck=>False
def uk(K:W.Frag)(E:XK)(H Ha:Hp)(r:ax (ac))(Q:ad->Hp->Prop):Prop:=match r with
 |.ok ds=>∀vs H' Ha',aW H Ha H' Ha'->Reps K Ha' ds vs->Q vs H'
 |.exn x=>∀C ox H' Ha',aW H Ha H' Ha'->rE K Ha' x C ox->E C ox H'
 |.stuck=>False
def om(K:W.Frag)(E:XK)(H Ha:Hp)(r:ax D)(Q:Bool->Hp->Prop):Prop:=match r with
 |.ok (.bl b)=>∀H' Ha',aW H Ha H' Ha'->Q b H'
 |.ok _=>False
 |.exn x=>∀C ox H' Ha',aW H Ha H' Ha'->rE K Ha' x C ox->E C ox H'
 |.stuck=>False
section
variable {K:W.Frag}{E:XK}{H Ha H1 H01:Hp}
def post.grow{r:ax D}{Q:VK}(h:post K E H Ha r Q)(g:aW H Ha H1 H01):post K E H1 H01 r Q:=by
 cases r with|ok d=>exact λv H' Ha' g'=>h v H' Ha' (g.trans g')|exn x=>exact λC ox H' Ha' g'=>h C ox H' Ha' (g.trans g')|stuck=>exact h
def uk.grow{r:ax (ac)}{Q:ad->Hp->Prop}(h:uk K E H Ha r Q)(g:aW H Ha H1 H01):uk K E H1 H01 r Q:=by
 cases r with|ok d=>exact λv H' Ha' g'=>h v H' Ha' (g.trans g')|exn x=>exact λC ox H' Ha' g'=>h C ox H' Ha' (g.trans g')|stuck=>exact h
def om.grow{r:ax D}{Q:Bool->Hp->Prop}(h:om K E H Ha r Q)(g:aW H Ha H1 H01):om K E H1 H01 r Q:=by
 cases r with
 |ok d=>
  cases d with|bl b=>exact λH' Ha' g'=>h H' Ha' (g.trans g')| _=>exact h
 |exn x=>exact λC ox H' Ha' g'=>h C ox H' Ha' (g.trans g')
 |stuck=>exact h
end
def tD(K:W.Frag)(E:XK)(f:al):TE:=λσ H Q=>∃Ha ρ,aF Ha H/\ez K Ha σ ρ/\post K E H Ha (f ρ) Q
def L5(K:W.Frag)(E:XK)(f:Ev->ax (ac)):TA:=λσ H Q=>∃Ha ρ,aF Ha H/\ez K Ha σ ρ/\uk K E H Ha (f ρ) Q
def Iy(K:W.Frag)(E:XK)(f:al):TT:=λσ H Q=>∃Ha ρ,aF Ha H/\ez K Ha σ ρ/\om K E H Ha (f ρ) Q
structure DE (X:Cx) (E:XK) (e:Expr) (f:al):Prop where
 o:PE X e (tD X.K E f)
structure DA (X:Cx) (E:XK) (es:List Expr) (f:Ev->ax (ac)):Prop where
 o:PA X es (L5 X.K E f)
structure DT (X:Cx) (E:XK) (e:Expr) (f:al):Prop where
 o:PT X e (Iy X.K E f)
structure DW (X:Cx) (E:XK) (e:Expr) (f:al):Prop where
 o:PW X e (Iy X.K E f)
section
variable {X:Cx}{E:XK}{e a b:Expr}{es:List Expr}{f g:al}{fa:Ev->ax (ac)}{pos:Pos}
def aZ{t t':TE}(h:PE X e t)(w:∀σ H Q,t' σ H Q->t σ H Q):PE X e t':=λpins s σ H Q I q=>h pins s σ H Q I (w σ H Q q)
def xB{t t':TA}(h:PA X es t)(w:∀σ H Q,t' σ H Q->t σ H Q):PA X es t':=λpos pins s σ H Q I q=>h pos pins s σ H Q I (w σ H Q q)
def nC{t t':TT}(h:PT X e t)(w:∀σ H Q,t' σ H Q->t σ H Q):PT X e t':=λpins s σ H Q I q=>h pins s σ H Q I (w σ H Q q)
def xx{t t':TT}(h:PW X e t)(w:∀σ H Q,t' σ H Q->t σ H Q):PW X e t':=λwh pins s σ H Q I q=>h wh pins s σ H Q I (w σ H Q q)
def ae(i:Nat):al:=λρ=>match ρ[i]? with
 |some (.sh d)=>.ok d
 |_=>.stuck
def dC(d:D):al:=λ_=>.ok d
def Ia{i:Nat}{x:Str}(hN:X.N[i]?=some x)(hv:zI X.env.scope x)(hd:(x==("__debug__":Str))=false:=by decide)(hcd:(x==("__classdict__":Str))=false:=by decide):DE X E (.Name x pos) (ae i):=by
 refine⟨?_⟩;refine aZ (gb hN hv hd hcd) λσ H Q ⟨Ha,ρ,hs,hr,q⟩=>?_;unfold ae at q;cases e:ρ[i]? with
 |none=>rw[e]at q;exact q.elim
 |some s=>
  rw[e]at q;cases s with
  |sh d=>
   obtain⟨v,e1,e2⟩:=hr i d e;exact⟨v,e1,q v H Ha (aW.refl hs) e2⟩
  |no|ow d|ox j ds|pt a=>exact q.elim
def aj{i j}:DE X E (.Constant (.int i) j pos) (dC (.int i)):=⟨aZ oy λσ H Q ⟨Ha,ρ,hs,hr,q⟩=>q _ H Ha (aW.refl hs) (aE.mpr rfl)⟩
def eL{i j}:DE X E (.Constant (.bool i) j pos) (dC (.bl i)):=⟨aZ JE λσ H Q ⟨Ha,ρ,hs,hr,q⟩=>q _ H Ha (aW.refl hs) (aK.mpr rfl)⟩
def ff{j}:DE X E (.Constant .none j pos) (dC .non):=⟨aZ A4 λσ H Q ⟨Ha,ρ,hs,hr,q⟩=>q _ H Ha (aW.refl hs) (aT.mpr rfl)⟩
def jH{x j}:DE X E (.Constant (.str x) j pos) (dC (.str x)):=⟨aZ GA λσ H Q ⟨Ha,ρ,hs,hr,q⟩=>q _ H Ha (aW.refl hs) (Rep.str_iff.mpr rfl)⟩
def EL{x:Str}{v:V}{u:Value}{d:D}(hg:Gl X x)(hm:X.mg x=some u)(r:bq v u)(hr:∀H,Rep X.K H d v)(hd:(x==("__debug__":Str))=false:=by decide):DE X E (.Name x pos) (dC d) :=
 ⟨aZ (Dn hg hm r hd) λσ H Q ⟨Ha,ρ,hs,hr',q⟩=>q _ H Ha (aW.refl hs) (hr Ha)⟩
def aa(f g:al)(op:D->D->ax D):al:=λρ=>(f ρ).bind λx=>(g ρ).bind λy=>op x y
def aS(f:al)(op:D->ax D):al:=λρ=>(f ρ).bind op
def tP(K:W.Frag)(E:XK)(r:R2)(op:D->D->ax D):Prop:=∀(x y:D) (v u:V) (H Ha:Hp) (Q:VK),aF Ha H->Rep K Ha x v->Rep K Ha y u->post K E H Ha (op x y) Q->r v u H Q
def ig{r:R2}{op:D->D->ax D}(ho:tP X.K E r op)(σ:L2.St)(H:Hp)(Q:VK)(h:tD X.K E (aa f g op) σ H Q):IU r (tD X.K E f) (tD X.K E g) σ H Q:=by
 obtain⟨Ha,ρ,hs,hr,q⟩:=h;refine⟨Ha,ρ,hs,hr,?_⟩;unfold aa at q;cases e1:f ρ with
 |stuck|exn x=>rw[e1]at q;exact q
 |ok x=>
  rw[e1]at q;intro v H1 H01 g1 r1;refine⟨H01,ρ,g1.sub,hr.mono g1.z,?_⟩;replace q:post X.K E H Ha ((g ρ).bind λy=>op x y) Q:=q;replace q:=q.grow g1;cases e2:g ρ with
  |stuck|exn x=>rw[e2]at q;exact q
  |ok y=>
   rw[e2]at q;intro u H2 H02 g2 r2;exact ho x y v u H2 H02 Q g2.sub (r1.mono g2.z) r2 (post.grow (r:=op x y) q g2)
def mQ{op:Operator}{r:R2}{o:D->D->ax D}(h:fP X (binaryOp op) r)(ho:tP X.K E r o)(ha:DE X E a f)(hb:DE X E b g):DE X E (.BinOp a op b pos) (aa f g o) :=
 ⟨aZ (A3 h ha.o hb.o) (ig ho)⟩
def fL{op:CmpOp}{r:R2}{o:D->D->ax D}(h:fP X (compareOp op) r)(ho:tP X.K E r o)(ha:DE X E a f)(hb:DE X E b g)(hm:behindInMarks op b=false):DE X E (.Compare a [op] [b] pos) (aa f g o) :=
 ⟨aZ (Ds h ha.o hb.o hm) (ig ho)⟩
def Kr{r:R2}{o:D->D->ax D}(h:Ct X r)(ho:tP X.K E r o)(ha:DE X E a f)(hb:DE X E b g)(hs:lT b):DE X E (.Subscript a b pos) (aa f g o) :=
 ⟨aZ (A6 h ha.o hb.o hs) (ig ho)⟩
def ME(K:W.Frag)(E:XK)(r:V->Hp->VK->Prop)(op:D->ax D):Prop:=∀(x:D) (v:V) (H Ha:Hp) (Q:VK),aF Ha H->Rep K Ha x v->post K E H Ha (op x) Q->r v H Q
def Kp{op:UnaryOp}{r:V->Hp->VK->Prop}{o:D->ax D}(h:KS X (unaryOp op) r)(ho:ME X.K E r o)(ha:DE X E a f):DE X E (.UnaryOp op a pos) (aS f o):=by
 refine⟨?_⟩;refine aZ (AZ h ha.o) λσ H Q z9=>?_;obtain⟨Ha,ρ,hs,hr,q⟩:=z9;refine⟨Ha,ρ,hs,hr,?_⟩
 unfold aS at q;cases e1:f ρ with
 |stuck|exn x=>rw[e1]at q;exact q
 |ok x=>
  rw[e1]at q;intro v H1 H01 g1 r1;exact ho x v H1 H01 Q g1.sub r1 (post.grow (r:=o x) q g1)
def aA:Ev->ax (ac):=λ_=>.ok []
def af(f:al)(fa:Ev->ax (ac)):Ev->ax (ac):=λρ=>(f ρ).bind λx=>(fa ρ).bind λxs=>.ok (x::xs)
def az:DA X E [] aA:=⟨xB fI λσ H Q ⟨Ha,ρ,hs,hr,q⟩=>q [] H Ha (aW.refl hs) Reps.nil⟩
def ag(ha:DE X E e f)(hr:DA X E es fa)(hs:starEach (e::es) X.env=(false,eval e X.env)::starEach es X.env:=by exact aY rfl):DA X E (e::es) (af f fa):=by
 refine⟨?_⟩;refine xB (cQ ha.o hr.o hs) λσ H Q z9=>?_;obtain⟨Ha,ρ,hs,hr,q⟩:=z9;refine⟨Ha,ρ,hs,hr,?_⟩
 unfold af at q;cases e1:f ρ with
 |stuck|exn x=>rw[e1]at q;exact q
 |ok x=>
  rw[e1]at q;intro v H1 H01 g1 r1;refine⟨H01,ρ,g1.sub,hr.mono g1.z,?_⟩;replace q:uk X.K E H Ha ((fa ρ).bind λxs=>.ok (x::xs)) Q:=q;replace q:=q.grow g1;cases e2:fa ρ with
  |stuck|exn x=>rw[e2]at q;exact q
  |ok xs=>
   rw[e2]at q;intro us H2 H02 g2 r2;exact q (v::us) H2 H02 g2 (Reps.cons (r1.mono g2.z) r2)
def line:Nat:=1000000
def eB{n:Nat}(h:n<=line):n<=sizeLine:=Nat.le_trans h (by decide)
def ai(fa:Ev->ax (ac))(m:ac->ax D):al:=λρ=>(fa ρ).bind m
def df:ac->ax D:=λds=>if ds.length<=line then .ok (.tup ds) else .stuck
def bM:ac->ax D:=λds=>if ds.length<=line then .ok (.lst ds) else .stuck
def j9{m:ac->ax D}{r:ad->Hp->VK->Prop}(ho:∀(ds:ac) (vs:ad) (H Ha:Hp) (Q:VK),aF Ha H->Reps X.K Ha ds vs->post X.K E H Ha (m ds) Q->r vs H Q)
  (σ:L2.St)(H:Hp)(Q:VK)(h:tD X.K E (ai fa m) σ H Q):L5 X.K E fa σ H λvs H1=>r vs H1 Q:=by
 obtain⟨Ha,ρ,hs,hr,q⟩:=h;refine⟨Ha,ρ,hs,hr,?_⟩;unfold ai at q;cases e1:fa ρ with
 |stuck|exn x=>rw[e1]at q;exact q
 |ok x=>
  rw[e1]at q;intro v H1 H01 g1 r1;exact ho x v H1 H01 Q g1.sub r1 (post.grow (r:=m x) q g1)
def cF{x1}(h:DA X E es fa):DE X E (.Tuple es x1 pos) (ai fa df):=by
 refine⟨?_⟩;refine aZ (A0 h.o) (j9 (r:=λxs H1 Q=>xs.length<=sizeLine/\∀p,H1 p=none->Q (.ref p) (upd H1 p (.tup xs))) λds vs H Ha Q hs hr q=>?_);unfold df at q
 by_cases hl:ds.length<=line
 .rw[if_pos hl]at q
  refine⟨by rw[←hr.length];exact eB hl,λp hp=>q _ _ _ (aO hs hp) (aH.mpr ⟨p,vs,rfl,fS.of aG,hr.mono (aO hs hp).z⟩)⟩
 .rw[if_neg hl]at q;exact q.elim
def cU(h:DA X E es fa):DE X E (.List es pos) (ai fa bM):=by
 refine⟨?_⟩;refine aZ (v8 h.o) (j9 (r:=λxs H1 Q=>xs.length<=sizeLine/\∀p,H1 p=none->Q (.ref p) (upd H1 p (.lst xs))) λds vs H Ha Q hs hr q=>?_);unfold bM at q
 by_cases hl:ds.length<=line
 .rw[if_pos hl]at q
  refine⟨by rw[←hr.length];exact eB hl,λp hp=>q _ _ _ (aO hs hp) (aB.mpr ⟨p,vs,rfl,dF.of aG,hr.mono (aO hs hp).z⟩)⟩
 .rw[if_neg hl]at q;exact q.elim
def spD(K:W.Frag)(n:Nat)(m:ac->ax D):Sp:=λvs H Q E=>vs.length=n/\∃Ha ds,aF Ha H/\Reps K Ha ds vs/\post K E H Ha (m ds) Q
def EM{CX:pY}{k n:Nat}{fn:Addr}{fd:FuncData}{ps:List Str}{m:ac->ax D}{x:Str}{p:Pos}(F:gE X.prog X.w X.K X.mg X.base CX k fn fd ps (spD X.K n m))(hr:dX k X.A)(hg:Gl X x)(hm:X.mg x=some (.ref fn))
  (hk:W.keepIn X.K (.ref fn)=true)(hb:lW X.K fd ps [])(hx:i4 CX X E)(ha:DA X E (e::es) fa)(hn:(e::es).length=n:=by rfl)(hl:∀ρ ds,fa ρ=.ok ds->ds.length=(e::es).length)
  (hdb:(x==("__debug__":Str))=false:=by decide)(he:starEach (e::es) X.env=(false,eval e X.env)::starEach es X.env:=by exact aY rfl)(hpl:(backTo pos (starEach es X.env)).any (·.1)=false:=by exact bY rfl) :
  DE X E (.Call (.Name x p) (e::es) [] pos) (ai fa m):=by
 refine⟨?_⟩;refine aZ (rT F hr hg hm hk hb .nil hx ha.o hdb he hpl) λσ H Q h=>?_;obtain⟨Ha,ρ,hs,hr,q⟩:=h;refine⟨Ha,ρ,hs,hr,?_⟩;unfold ai at q;cases e1:fa ρ with
 |stuck|exn x=>rw[e1]at q;exact q
 |ok ds=>
  rw[e1]at q;intro v H1 H01 g1 r1;refine⟨?_,H01,ds,g1.sub,by simpa using r1,post.grow (r:=m ds) q g1⟩;have:=r1.length;have:=hl ρ ds e1;simp only[List.append_nil];omega
def Cj{ρ:Ev}{ds:ac}(h:aA ρ=.ok ds):ds.length=0:=by cases h;rfl
def mw{ρ:Ev}{ds:ac}{n:Nat}(hr:∀es,fa ρ=.ok es->es.length=n)(h:af f fa ρ=.ok ds):ds.length=n+1:=by
 unfold af at h;cases e1:f ρ with
 |stuck|exn x=>rw[e1]at h;cases h
 |ok x=>
  rw[e1]at h;replace h:((fa ρ).bind λxs=>ax.ok (x::xs))=.ok ds:=h;cases e2:fa ρ with
  |stuck|exn x=>rw[e2]at h;cases h
  |ok xs=>
   rw[e2]at h;cases h;simp[hr xs e2]
def iG(X:Cx)(E:XK)(r:ad->Hp->VK->Prop)(m:ac->ax D):Prop:=∀(ds:ac) (vs:ad) (H Ha:Hp) (Q:VK),aF Ha H->Reps X.K Ha ds vs->post X.K E H Ha (m ds) Q->r vs H Q
def bf{id:String}{r:ad->Hp->VK->Prop}{m:ac->ax D}{x:Str}{p:Pos}(hc:gT X (.builtin id) r)(hd:iG X E r m)(hg:Gl X x)(hm:X.mg x=none)(hv:bootBuiltins x=some (.builtin id))(ha:DA X E (e::es) fa)(hn:x≠"__name__":=by decide)(hdb:(x==("__debug__":Str))=false:=by decide)
  (he:starEach (e::es) X.env=(false,eval e X.env)::starEach es X.env:=by exact aY rfl)(hpl:(backTo pos (starEach es X.env)).any (·.1)=false:=by exact bY rfl):DE X E (.Call (.Name x p) (e::es) [] pos) (ai fa m) :=
 ⟨aZ (oz hc hg hm hv ha.o hn hdb he hpl) (j9 hd)⟩
def B1(h:PT X e (tB (tD X.K E f))):DT X E e f:=by
 refine⟨?_⟩;refine nC h λσ H Q z9=>?_;obtain⟨Ha,ρ,hs,hr,q⟩:=z9;refine⟨Ha,ρ,hs,hr,?_⟩
 cases e1:f ρ with
 |stuck|exn x=>rw[e1]at q;exact q
 |ok d=>
  rw[e1]at q;intro v H1 H01 g1 r1;cases d with|bl b=>rw[aK.mp r1];exact⟨b,rfl,q H1 H01 g1⟩| _=>exact q.elim
def bE(h:DE X E e f)(he:∀whole,isTrue e X.env whole=(do let v ←whole;standAt e.pos;holding [v] (truthy v)):=by intro _;rfl):DT X E e f:=B1 (Gq h.o he)
def aR{op:CmpOp}{r:R2}{o:D->D->ax D}(h:fP X (compareOp op) r)(ho:tP X.K E r o)(ha:DE X E a f)(hb:DE X E b g)(hm:behindInMarks op b=false):DT X E (.Compare a [op] [b] pos) (aa f g o):=by
 refine⟨?_⟩;refine nC (C7 h ha.o hb.o hm) λσ H Q h=>?_;have w:tD X.K E (aa f g o) σ H λx H'=>∃k,x=.bl k/\Q k H':=by
  obtain⟨Ha,ρ,hs,hr,q⟩:=h;refine⟨Ha,ρ,hs,hr,?_⟩;cases e1:aa f g o ρ with
  |stuck|exn x=>rw[e1]at q;exact q
  |ok d=>
   rw[e1]at q;intro v H1 H01 g1 r1;cases d with|bl b=>rw[aK.mp r1];exact⟨b,rfl,q H1 H01 g1⟩| _=>exact q.elim
 exact ig ho σ H _ w
def bR(f:al):al:=aS f λx=>match x with
 |.bl b=>.ok (.bl (!b))
 |_=>.stuck
def dN(f g:al):al:=λρ=>(f ρ).bind λx=>match x with
 |.bl true=>g ρ
 |.bl false=>.ok (.bl false)
 |_=>.stuck
def gY(f g:al):al:=λρ=>(f ρ).bind λx=>match x with
 |.bl true=>.ok (.bl true)
 |.bl false=>g ρ
 |_=>.stuck
def bF(ha:DT X E a f):DT X E (.UnaryOp .Not a pos) (bR f):=by
 refine⟨?_⟩;refine nC (Gr ha.o) λσ H Q z9=>?_;obtain⟨Ha,ρ,hs,hr,q⟩:=z9;refine⟨Ha,ρ,hs,hr,?_⟩
 unfold bR aS at q;cases e1:f ρ with
 |stuck|exn x=>rw[e1]at q;exact q
 |ok d=>
  rw[e1]at q;cases d with|bl b=>exact q| _=>exact q.elim
def Cc(ha:DE X E a f):DE X E (.UnaryOp .Not a pos) (bR f):=by
 refine⟨?_⟩;refine aZ (GD ha.o) λσ H Q z9=>?_;obtain⟨Ha,ρ,hs,hr,q⟩:=z9;refine⟨Ha,ρ,hs,hr,?_⟩
 unfold bR aS at q;cases e1:f ρ with
 |stuck|exn x=>rw[e1]at q;exact q
 |ok d=>
  rw[e1]at q;intro v H1 H01 g1 r1;cases d with|bl b=>rw[aK.mp r1];exact⟨b,rfl,q (.bl !b) H1 H01 g1 (aK.mpr rfl)⟩| _=>exact q.elim
variable {rest:List Expr}
def gw(ha:DT X E a f):DW X E (.BoolOp .And [a] pos) f:=⟨C3 ha.o⟩
def br(ha:DT X E a f):DW X E (.BoolOp .Or [a] pos) f:=⟨Gn ha.o⟩
def jF(ha:DT X E a f)(hb:DW X E (.BoolOp .And (b::rest) pos) g):DW X E (.BoolOp .And (a::b::rest) pos) (dN f g):=by
 refine⟨?_⟩;refine xx (Gp ha.o hb.o) λσ H Q z9=>?_;obtain⟨Ha,ρ,hs,hr,q⟩:=z9;refine⟨Ha,ρ,hs,hr,?_⟩
 unfold dN at q;cases e1:f ρ with
 |stuck|exn x=>rw[e1]at q;exact q
 |ok d=>
  rw[e1]at q;cases d with
  |bl b=>
   cases b with|true=>exact λH1 H01 g1=>⟨H01,ρ,g1.sub,hr.mono g1.z,om.grow (r:=g ρ) q g1⟩|false=>exact λH1 H01 g1=>q H1 H01 g1
  |_=>exact q.elim
def dB(ha:DT X E a f)(hb:DW X E (.BoolOp .Or (b::rest) pos) g):DW X E (.BoolOp .Or (a::b::rest) pos) (gY f g):=by
 refine⟨?_⟩;refine xx (Jy ha.o hb.o) λσ H Q z9=>?_;obtain⟨Ha,ρ,hs,hr,q⟩:=z9;refine⟨Ha,ρ,hs,hr,?_⟩
 unfold gY at q;cases e1:f ρ with
 |stuck|exn x=>rw[e1]at q;exact q
 |ok d=>
  rw[e1]at q;cases d with
  |bl b=>
   cases b with|false=>exact λH1 H01 g1=>⟨H01,ρ,g1.sub,hr.mono g1.z,om.grow (r:=g ρ) q g1⟩|true=>exact λH1 H01 g1=>q H1 H01 g1
  |_=>exact q.elim
def DW.dt(h:DW X E e f):DT X E e f:=⟨PW.pt h.o⟩
def iP{op}(h:DE X E a f):DE X E (.BoolOp op [a] pos) f:=⟨GC h.o⟩
def iR(ha:DE X E a f)(hb:DE X E (.BoolOp .And (b::rest) pos) g):DE X E (.BoolOp .And (a::b::rest) pos) (dN f g):=by
 refine⟨?_⟩;refine aZ (GF ha.o hb.o) λσ H Q z9=>?_;obtain⟨Ha,ρ,hs,hr,q⟩:=z9;refine⟨Ha,ρ,hs,hr,?_⟩
 unfold dN at q;cases e1:f ρ with
 |stuck|exn x=>rw[e1]at q;exact q
 |ok d=>
  rw[e1]at q;intro v H1 H01 g1 r1;cases d with
  |bl b=>
   rw[aK.mp r1];cases b with|true=>exact⟨true,rfl,H01,ρ,g1.sub,hr.mono g1.z,post.grow (r:=g ρ) q g1⟩|false=>exact⟨false,rfl,q (.bl false) H1 H01 g1 (aK.mpr rfl)⟩
  |_=>exact q.elim
def Kq(ha:DE X E a f)(hb:DE X E (.BoolOp .Or (b::rest) pos) g):DE X E (.BoolOp .Or (a::b::rest) pos) (gY f g):=by
 refine⟨?_⟩;refine aZ (JD ha.o hb.o) λσ H Q z9=>?_;obtain⟨Ha,ρ,hs,hr,q⟩:=z9;refine⟨Ha,ρ,hs,hr,?_⟩
 unfold gY at q;cases e1:f ρ with
 |stuck|exn x=>rw[e1]at q;exact q
 |ok d=>
  rw[e1]at q;intro v H1 H01 g1 r1;cases d with
  |bl b=>
   rw[aK.mp r1];cases b with|false=>exact⟨false,rfl,H01,ρ,g1.sub,hr.mono g1.z,post.grow (r:=g ρ) q g1⟩|true=>exact⟨true,rfl,q (.bl true) H1 H01 g1 (aK.mpr rfl)⟩
  |_=>exact q.elim
def IG(c f g:al):al:=λρ=>(c ρ).bind λx=>match x with
 |.bl true=>f ρ
 |.bl false=>g ρ
 |_=>.stuck
def uW{c:Expr}{fc:al}(hc:DT X E c fc)(ha:DE X E a f)(hb:DE X E b g):DE X E (.IfExp c a b pos) (IG fc f g):=by
 refine⟨?_⟩;refine aZ (A7 hc.o ha.o hb.o) λσ H Q z9=>?_;obtain⟨Ha,ρ,hs,hr,q⟩:=z9;refine⟨Ha,ρ,hs,hr,?_⟩
 unfold IG at q;cases e1:fc ρ with
 |stuck|exn x=>rw[e1]at q;exact q
 |ok d=>
  rw[e1]at q;cases d with
  |bl b=>
   cases b with|true=>exact λH1 H01 g1=>⟨H01,ρ,g1.sub,hr.mono g1.z,post.grow (r:=f ρ) q g1⟩|false=>exact λH1 H01 g1=>⟨H01,ρ,g1.sub,hr.mono g1.z,post.grow (r:=g ρ) q g1⟩
  |_=>exact q.elim
end
noncomputable def vx(K:W.Frag) (Ha H:Hp) (a:Addr) (d:D):Prop:=match d with
 |.lst ds=>∃vs,H a=some (.lst vs)/\Reps K Ha ds vs
 |.dic ks ds=>∃vs,H a=some (.dK ((ks.map Sum.inr).zip vs))/\ks.length=vs.length/\Reps K Ha ds vs
 |.ob (.dint ks) ds=>∃vs,H a=some (.dK ((ks.map Sum.inl).zip vs))/\ks.length=vs.length/\Reps K Ha ds vs
 |_=>False
def qf(j k:Nat):Bool:=if j=99 then decide (k<=1) else k==j
noncomputable def E7(K:W.Frag) (He Ha H:Hp) (a:Addr) (j:Nat) (ds:ac) (P:Nat->Addr):Prop:=∃vs,He a=none/\H a=some (.tup vs)/\ds.length=vs.length /\
 (∀k,qf j k=true->∃es us,He (P k)=none/\Ha (P k)=none/\ds[k]?=some (.lst es)/\vs[k]?=some (.ref (P k))/\H (P k)=some (.lst us)/\Reps K Ha es us) /\
 (∀k l,qf j k=true->qf j l=true->P k=P l->k=l)/\∀k d v,qf j k=false->ds[k]?=some d->vs[k]?=some v->Rep K Ha d v
noncomputable def OX(K:W.Frag) (He Ha:Hp) (σ:L2.St) (H:Hp) (ρ:Ev):Prop:=(∀(i j:Nat) (ds:ac),ρ[i]?=some (.ox j ds)->∃a P,σ[i]?=some (some (.ref a))/\E7 K He Ha H a j ds P/\(∀(k:Nat) (d:D) (l:Nat),qf j l=true->ρ[k]?=some (.ow d)->σ[k]?≠some (some (.ref (P l))))/\∀(k j':Nat) (ds':ac),ρ[k]?=some (.ox j' ds')->k=i)/\∀(i:Nat) (a:Addr),ρ[i]?=some (.pt a)->σ[i]?=some (some (.ref a))
def OX.upd{K:W.Frag}{He Ha Ha' H H':Hp}{σ σ':L2.St}{ρ ρ':Ev}(h:OX K He Ha σ H ρ)
  (hk:∀(j:Nat) (s:Sl),ρ'[j]?=some s->(ρ[j]?=some s/\σ'[j]?=σ[j]?)∨(∃d,s=.sh d)∨s=.no∨∃d q,s=.ow d/\σ'[j]?=some (some (.ref q))/\∀(i j:Nat) (ds:ac) (a:Addr) (P:Nat->Addr),ρ[i]?=some (.ox j ds)->σ[i]?=some (some (.ref a))->E7 K He Ha H a j ds P->∀l,qf j l=true->q≠P l)
  (hz:aF Ha Ha')(ht:∀a vs,He a=none->H a=some (.tup vs)->H' a=some (.tup vs))
  (hl:∀p us,He p=none->Ha p=none->H p=some (.lst us)->(∀(k:Nat) (d:D),ρ[k]?=some (.ow d)->σ[k]?≠some (some (.ref p)))->H' p=some (.lst us)/\Ha' p=none):OX K He Ha' σ' H' ρ':=by
 refine⟨λi j ds e=>?_,λi a e=>?_⟩
 rotate_left
 .rcases hk i _ e with h1|⟨d,h1⟩|h1|⟨d,q,h1,_⟩
  .rw[h1.2];exact h.2 i a h1.1
  .cases h1
  .cases h1
  .cases h1
 have old:ρ[i]?=some (.ox j ds)/\σ'[i]?=σ[i]?:=by
  rcases hk i _ e with h1|⟨d,h1⟩|h1|⟨d,q,h1,_⟩
  .exact h1
  .cases h1
  .cases h1
  .cases h1
 obtain⟨a,P,h1,h2,h3,h4⟩:=h.1 i j ds old.1;have h2':=h2;obtain⟨vs,r1,r2,r3,r4,r5,r6⟩:=h2;refine⟨a,P,old.2.trans h1,⟨vs,r1,ht a vs r1 r2,r3,λk ok=>?_,r5,λk d v hk e1 e2=>(r6 k d v hk e1 e2).mono hz⟩,λk d l ok ek z=>?_,λk j' ds' ek=>?_⟩
 .obtain⟨es,us,q1,q2,q3,q4,q5,q6⟩:=r4 k ok
  obtain⟨l1,l2⟩:=hl (P k) us q1 q2 q5 λm d em=>h3 m d k ok em;exact⟨es,us,q1,l2,q3,q4,l1,q6.mono hz⟩
 .rcases hk k _ ek with h1'|⟨d',h1'⟩|h1'|⟨d',q,h1',h2'',h3'⟩
  .exact h3 k d l ok h1'.1 (by rw[←h1'.2];exact z)
  .cases h1'
  .cases h1'
  .rw[h2'']at z
   cases z;exact h3' i j ds a P old.1 h1 h2' l ok rfl
 .rcases hk k _ ek with h1'|⟨d',h1'⟩|h1'|⟨d',q,h1',_⟩
  .exact h4 k j' ds' h1'.1
  .cases h1'
  .cases h1'
  .cases h1'
def OX.none{K:W.Frag}{He Ha H:Hp}{σ:L2.St}{ρ:Ev}(h:∀(i j:Nat) (ds:ac),ρ[i]?≠some (.ox j ds))(h':∀(i:Nat) (a:Addr),ρ[i]?=some (.pt a)->σ[i]?=some (some (.ref a))):OX K He Ha σ H ρ:=⟨λi j ds e=>absurd e (h i j ds),h'⟩
theorem rN{K:W.Frag}{H:Hp}:∀{ds:ac}{vs:ad},ds.length=vs.length->(∀(k:Nat) (d:D) (v:V),ds[k]?=some d->vs[k]?=some v->Rep K H d v)->Reps K H ds vs
 |[],[],_,_=>Reps.nil
 |d::ds,v::vs,hl,h=>Reps.cons (h 0 d v rfl rfl) (rN (by simpa using hl) λk d' v' e1 e2=>h (k+1) d' v' e1 e2)
structure cW (K:W.Frag) (He H0e Ha:Hp) (σ:L2.St) (H:Hp) (ρ:Ev):Prop where
 g:aW He H0e H Ha
 rd:ez K Ha σ ρ
 ow:∀(i:Nat) (d:D),ρ[i]?=some (.ow d)->∃a,σ[i]?=some (some (.ref a))/\He a=none/\Ha a=none/\vx K Ha H a d
 ap:∀(i j:Nat) (d d':D),i≠j->ρ[i]?=some (.ow d)->ρ[j]?=some (.ow d')->σ[i]?≠σ[j]?
 ln:ρ.length=σ.length
 ex:OX K He Ha σ H ρ
inductive Fl where
 |nx (ρ:Ev)|rt (d:D)|bk (ρ:Ev)|ct (ρ:Ev)
abbrev am:=Ev->ax Fl
noncomputable def bK(K:W.Frag) (E:XK) (He H0e Ha:Hp) (r:ax Fl) (D:fW):Prop:=match r with
 |.ok (.nx ρ)=>∀σ H Ha',aF Ha Ha'->cW K He H0e Ha' σ H ρ->D.nx σ H
 |.ok (.rt d)=>∀v H Ha',aW He H0e H Ha'->Rep K Ha' d v->D.rt v H
 |.ok (.bk ρ)=>∀σ H Ha',aF Ha Ha'->cW K He H0e Ha' σ H ρ->D.bk σ H
 |.ok (.ct ρ)=>∀σ H Ha',aF Ha Ha'->cW K He H0e Ha' σ H ρ->D.ct σ H
 |.exn x=>∀C ox H Ha',aW He H0e H Ha'->rE K Ha' x C ox->E C ox H
 |.stuck=>False
def bK.grow{K:W.Frag}{E:XK}{He H0e Ha Hb:Hp}{r:ax Fl}{D:fW}(h:bK K E He H0e Ha r D)(s:aF Ha Hb):bK K E He H0e Hb r D:=by
 cases r with
 |ok f=>
  cases f with|nx ρ=>exact λσ H Ha' s'=>h σ H Ha' (s.trans s')|rt d=>exact h|bk ρ=>exact λσ H Ha' s'=>h σ H Ha' (s.trans s')|ct ρ=>exact λσ H Ha' s'=>h σ H Ha' (s.trans s')
 |exn x=>exact h
 |stuck=>exact h
def tS(K:W.Frag)(E:XK)(He H0e:Hp)(g:am):TS:=λD σ H=>∃Ha ρ,cW K He H0e Ha σ H ρ/\bK K E He H0e Ha (g ρ) D
structure DS (X:Cx) (E:XK) (He H0e:Hp) (st:Stmt) (g:am):Prop where
 o:PS X st (tS X.K E He H0e g)
structure tQ (X:Cx) (E:XK) (He H0e:Hp) (st:List Stmt) (g:am):Prop where
 o:pZ X st (tS X.K E He H0e g)
def ij(ρ:Ev):Ev:=ρ.map λs=>match s with
 |.ow d=>.sh d
 |.ox _ ds=>.sh (.tup ds)
 |x=>x
def frz(He Ha H:Hp):Hp:=λa=>match He a with
 |none=>H a
 |some _=>Ha a
section
variable {K:W.Frag}{E:XK}{He H0e Ha H H1:Hp}{σ:L2.St}{ρ:Ev}
def cW.same(h:cW K He H0e Ha σ H ρ)(s:aF H H1):cW K He H0e Ha σ H1 ρ :=
 ⟨⟨h.g.s.trans s,h.g.z,h.g.sub.trans s,h.g.nw⟩,h.rd,λi d e=>by
  obtain⟨a,h1,h2,h3,h4⟩:=h.ow i d e;refine⟨a,h1,h2,h3,?_⟩;cases d with
  |lst ds=>obtain⟨vs,h5,h6⟩:=h4;exact⟨vs,s _ _ h5,h6⟩|dic ks ds=>obtain⟨vs,h5,hl,h6⟩:=h4;exact⟨vs,s _ _ h5,hl,h6⟩
  |ob kk ds=>
   cases kk with|dint ks=>obtain⟨vs,h5,hl,h6⟩:=h4;exact⟨vs,s _ _ h5,hl,h6⟩| _=>exact h4.elim
  |_=>exact h4,h.ap,h.ln,h.ex.upd (λj s' e=>.inl ⟨e,rfl⟩) (aF.refl _) (λa vs _ e=>s _ _ e) λp us _ h0 hp _=>⟨s _ _ hp,h0⟩⟩
def cW.grow{H01:Hp}(h:cW K He H0e Ha σ H ρ)(s:aW H Ha H1 H01):cW K He H0e H01 σ H1 ρ :=
 ⟨h.g.trans s,h.rd.mono s.z,λi d e=>by
  obtain⟨a,h1,h2,h3,h4⟩:=h.ow i d e;have ha:H01 a=none:=by
   cases q:H01 a with
   |none=>rfl
   |some o=>
    have:=s.nw a (by rw[q];simp) h3;cases d with
    |lst ds|dic ks ds=>obtain⟨vs,h5,_⟩:=h4;rw[h5]at this;cases this
    |ob kk ds=>
     cases kk with|dint ks=>obtain⟨vs,h5,_⟩:=h4;rw[h5]at this;cases this| _=>exact h4.elim
    |_=>exact h4.elim
  refine⟨a,h1,h2,ha,?_⟩;cases d with
  |lst ds=>obtain⟨vs,h5,h6⟩:=h4;exact⟨vs,s.s _ _ h5,h6.mono s.z⟩|dic ks ds=>obtain⟨vs,h5,hl,h6⟩:=h4;exact⟨vs,s.s _ _ h5,hl,h6.mono s.z⟩
  |ob kk ds=>
   cases kk with|dint ks=>obtain⟨vs,h5,hl,h6⟩:=h4;exact⟨vs,s.s _ _ h5,hl,h6.mono s.z⟩| _=>exact h4.elim
  |_=>exact h4,h.ap,h.ln,h.ex.upd (λj s' e=>.inl ⟨e,rfl⟩) s.z (λa vs _ e=>s.s _ _ e) λp us _ h0 hp _=>⟨s.s _ _ hp,by
   cases q:H01 p with
   |none=>rfl
   |some o=>have:=s.nw p (by rw[q];simp) h0;rw[hp]at this;cases this⟩⟩
def cW.frz_sub(h:cW K He H0e Ha σ H ρ):aF Ha (frz He Ha H):=λb o e=>by
 unfold frz;cases q:He b with|none=>exact h.g.sub _ _ e|some _=>exact e
def cW.frz_le(h:cW K He H0e Ha σ H ρ):aF (frz He Ha H) H:=λb o e=>by
 unfold frz at e;cases q:He b with|none=>rw[q]at e;exact e|some _=>rw[q]at e;exact h.g.sub _ _ e
theorem cW.frz_grow(h:cW K He H0e Ha σ H ρ):aW He H0e H (frz He Ha H) :=
 ⟨h.g.s,h.g.z.trans h.frz_sub,h.frz_le,λa h1 h2=>by
  cases q:He a with
  |none=>rfl
  |some o=>
   unfold frz at h1;rw[q]at h1;have:=h.g.nw a h1 h2;rw[q]at this;cases this⟩
def cW.looks(h:cW K He H0e Ha σ H ρ):ez K (frz He Ha H) σ (ij ρ):=λi d e=>by
 unfold ij at e;rw[List.getElem?_map]at e;cases q:ρ[i]? with
 |none=>rw[q]at e;cases e
 |some s=>
  rw[q]at e;cases s with
  |no|pt a=>cases e
  |sh d'=>
   cases e;obtain⟨v,h1,h2⟩:=h.rd i d q;exact⟨v,h1,h2.mono h.frz_sub⟩
  |ow d'=>
   cases e;obtain⟨a,h1,h2,h3,h4⟩:=h.ow i d q;refine⟨_,h1,?_⟩;cases d with
   |lst ds=>
    obtain⟨vs,h5,h6⟩:=h4;exact aB.mpr ⟨a,vs,rfl,dF.of (by unfold frz;rw[h2];exact h5),h6.mono h.frz_sub⟩
   |dic ks ds=>
    obtain⟨vs,h5,hl,h6⟩:=h4;rw[Rep];exact⟨a,_,vs,rfl,.inl (by unfold frz;rw[h2];exact h5),rfl,hl,h6.mono h.frz_sub⟩
   |ob kk ds=>
    cases kk with
    |dint ks=>
     obtain⟨vs,h5,hl,h6⟩:=h4;exact bL.mpr ⟨a,vs,rfl,⟨_,.inl (by unfold frz;rw[h2];exact h5),rfl,hl⟩,h6.mono h.frz_sub⟩
    |_=>exact h4.elim
   |_=>exact h4.elim
  |ox j ds=>
   cases e;obtain⟨a,P,h1,⟨vs,r1,r2,r3,r4,r5,r6⟩,_⟩:=h.ex.1 i j ds q;refine⟨_,h1,aH.mpr ⟨a,vs,rfl,fS.of (by unfold frz;rw[r1];exact r2),rN r3 λk d v e1 e2=>?_⟩⟩;cases hk:qf j k with
   |true=>
    obtain⟨es,us,q1,q2,q3,q4,q5,q6⟩:=r4 k hk;rw[q3]at e1;cases e1;rw[q4]at e2;cases e2;exact aB.mpr ⟨P k,us,rfl,dF.of (by unfold frz;rw[q1];exact q5),q6.mono h.frz_sub⟩
   |false=>exact(r6 k d v hk e1 e2).mono h.frz_sub
def cW.put(h:cW K He H0e Ha σ H ρ){i:Nat}{d:D}{v:V}(r:Rep K Ha d v):cW K He H0e Ha (σ.set i (some v)) H (ρ.set i (.sh d)):=by
 have key:∀(j:Nat) (s:Sl),(ρ.set i (.sh d))[j]?=some s->(j=i/\s=.sh d/\i<σ.length)∨(j≠i/\ρ[j]?=some s):=λj s e=>by
  by_cases hj:i=j
  .subst hj
   rw[List.getElem?_set_self']at e;cases q:ρ[i]? with
   |none=>rw[q]at e;cases e
   |some s'=>
    rw[q]at e;cases e;refine .inl ⟨rfl,rfl,?_⟩;rw[←h.ln];exact(List.getElem?_eq_some_iff.mp q).1
  .rw[List.getElem?_set_ne hj]at e
   exact .inr ⟨λz=>hj z.symm,e⟩
 refine⟨h.g,λj d' e=>?_,λj d' e=>?_,λj k d1 d2 hn e1 e2=>?_,by simp[h.ln],h.ex.upd (λj s e=>?_) (aF.refl _) (λa vs _ e=>e) λp us _ h0 hp _=>⟨hp,h0⟩⟩
 rotate_left 3
 .rcases key j _ e with⟨rfl,e',hl⟩|⟨hj,e'⟩
  .exact .inr (.inl ⟨d,e'⟩)
  .exact .inl ⟨e',by rw[List.getElem?_set_ne (Ne.symm hj)]⟩
 .rcases key j _ e with⟨rfl,e',hl⟩|⟨hj,e'⟩
  .cases e'
   exact⟨v,by rw[List.getElem?_set_self hl],r⟩
  .obtain⟨v',h1,h2⟩:=h.rd j d' e'
   exact⟨v',by rw[List.getElem?_set_ne (Ne.symm hj)];exact h1,h2⟩
 .rcases key j _ e with⟨rfl,e',hl⟩|⟨hj,e'⟩
  .cases e'
  .obtain⟨a,h1,h2⟩:=h.ow j d' e'
   exact⟨a,by rw[List.getElem?_set_ne (Ne.symm hj)];exact h1,h2⟩
 .rcases key j _ e1 with⟨_,e',_⟩|⟨hj,e1'⟩
  .cases e'
  rcases key k _ e2 with⟨_,e',_⟩|⟨hk,e2'⟩
  .cases e'
  rw[List.getElem?_set_ne (Ne.symm hj),List.getElem?_set_ne (Ne.symm hk)];exact h.ap j k d1 d2 hn e1' e2'
def cW.putOwn(h:cW K He H0e Ha σ H ρ){i:Nat}{ds:ac}{vs:ad}{p:Addr}(hp:∀(j:Nat) (a:Addr),σ[j]?=some (some (V.ref a))->a=p->∀d:D,ρ[j]?≠some (Sl.ow d))(he:He p=none)(h0:Ha p=none)(hv:H p=some (.lst vs))(r:Reps K Ha ds vs)(hx:∀(i j:Nat) (ds:ac) (a:Addr) (P:Nat->Addr),ρ[i]?=some (.ox j ds)->σ[i]?=some (some (.ref a))->E7 K He Ha H a j ds P->∀l,qf j l=true->p≠P l) :
  cW K He H0e Ha (σ.set i (some (.ref p))) H (ρ.set i (.ow (.lst ds))):=by
 have key:∀(j:Nat) (s:Sl),(ρ.set i (.ow (.lst ds)))[j]?=some s->(j=i/\s=.ow (.lst ds)/\i<σ.length)∨(j≠i/\ρ[j]?=some s):=λj s e=>by
  by_cases hj:i=j
  .subst hj
   rw[List.getElem?_set_self']at e;cases q:ρ[i]? with
   |none=>rw[q]at e;cases e
   |some s'=>
    rw[q]at e;cases e;refine .inl ⟨rfl,rfl,?_⟩;rw[←h.ln];exact(List.getElem?_eq_some_iff.mp q).1
  .rw[List.getElem?_set_ne hj]at e
   exact .inr ⟨λz=>hj z.symm,e⟩
 have other:∀(k:Nat) (d2:D),k≠i->ρ[k]?=some (.ow d2)->some (some (V.ref p))≠σ[k]?:=λk d2 hk e2 z=>by
  obtain⟨a,h1,_⟩:=h.ow k d2 e2;rw[h1]at z;cases z;exact hp k p h1 rfl d2 e2
 refine⟨h.g,λj d' e=>?_,λj d' e=>?_,λj k d1 d2 hn e1 e2=>?_,by simp[h.ln],h.ex.upd (λj s e=>?_) (aF.refl _) (λa vs _ e=>e) λp us _ h0 hp _=>⟨hp,h0⟩⟩
 rotate_left 3
 .rcases key j _ e with⟨rfl,e',hl⟩|⟨hj,e'⟩
  .exact .inr (.inr (.inr ⟨.lst ds,p,e',by rw[List.getElem?_set_self hl],hx⟩))
  .exact .inl ⟨e',by rw[List.getElem?_set_ne (Ne.symm hj)]⟩
 .rcases key j _ e with⟨rfl,e',hl⟩|⟨hj,e'⟩
  .cases e'
  .obtain⟨v',h1,h2⟩:=h.rd j d' e'
   exact⟨v',by rw[List.getElem?_set_ne (Ne.symm hj)];exact h1,h2⟩
 .rcases key j _ e with⟨rfl,e',hl⟩|⟨hj,e'⟩
  .cases e'
   exact⟨p,by rw[List.getElem?_set_self hl],he,h0,vs,hv,r⟩
  .obtain⟨a,h1,h2⟩:=h.ow j d' e'
   exact⟨a,by rw[List.getElem?_set_ne (Ne.symm hj)];exact h1,h2⟩
 .rcases key j _ e1 with⟨rfl,_,hl⟩|⟨hj,e1'⟩
  .rcases key k _ e2 with⟨rfl,_,_⟩|⟨hk,e2'⟩
   .exact absurd rfl hn
   .rw[List.getElem?_set_self hl,List.getElem?_set_ne (Ne.symm hk)]
    exact other k d2 hk e2'
  .rcases key k _ e2 with⟨rfl,_,hl⟩|⟨hk,e2'⟩
   .rw[List.getElem?_set_self hl,List.getElem?_set_ne (Ne.symm hj)]
    exact λz=>other j d1 hj e1' z.symm
   .rw[List.getElem?_set_ne (Ne.symm hj),List.getElem?_set_ne (Ne.symm hk)]
    exact h.ap j k d1 d2 hn e1' e2'
def cW.fresh_x{H01:Hp}{p:Addr}(h:cW K He H0e Ha σ H ρ)(s:aF H H1)(hp:H p=none):∀(i j:Nat) (ds:ac) (a:Addr) (P:Nat->Addr),ρ[i]?=some (.ox j ds)->σ[i]?=some (some (.ref a))->E7 K He H01 H1 a j ds P->∀l,qf j l=true->p≠P l:=λi j ds a P x1 x2 x3 l ol=>by
 obtain⟨a2,P2,y1,⟨vs2,_,z3,_,y4,_⟩,_⟩:=h.ex.1 i j ds x1;rw[x2]at y1;cases y1;obtain⟨vs1,_,z1,_,y5,_⟩:=x3;have:=s _ _ z3;rw[z1]at this;cases this;obtain⟨_,us2,_,_,_,z4,z5,_⟩:=y4 l ol;obtain⟨_,_,_,_,_,z2,_⟩:=y5 l ol;rw[z2]at z4;injection z4 with z4;injection z4 with z4;intro z;rw[←z4,←z,hp]at z5;cases z5
def cW.write(h:cW K He H0e Ha σ H ρ){i:Nat}{d:D}{p:Addr}{ds:ac}{vs:ad}(e:ρ[i]?=some (.ow d))(es:σ[i]?=some (some (.ref p)))(r:Reps K Ha ds vs) :
  cW K He H0e Ha σ (upd H p (.lst vs)) (ρ.set i (.ow (.lst ds))):=by
 obtain⟨a,h1,h2,h3,h4⟩:=h.ow i d e;rw[h1]at es;cases es;have hil:i<ρ.length:=(List.getElem?_eq_some_iff.mp e).1;have key:∀(j:Nat) (s:Sl),(ρ.set i (.ow (.lst ds)))[j]?=some s->(j=i/\s=.ow (.lst ds))∨(j≠i/\ρ[j]?=some s):=λj s e=>by
  by_cases hj:i=j
  .subst hj
   rw[List.getElem?_set_self hil]at e;cases e;exact .inl ⟨rfl,rfl⟩
  .rw[List.getElem?_set_ne hj]at e
   exact .inr ⟨λz=>hj z.symm,e⟩
 refine⟨⟨λb o eb=>?_,h.g.z,λb o eb=>?_,h.g.nw⟩,λj d' e'=>?_,λj d' e'=>?_,λj k d1 d2 hn e1 e2=>?_,by simp[h.ln],h.ex.upd (λj s e'=>?_) (aF.refl _) (λb us _ eb=>?_) λq us _ q0 hq hd=>?_⟩
 rotate_left 5
 .rcases key j _ e' with⟨rfl,e''⟩|⟨hj,e''⟩
  .exact .inr (.inr (.inr ⟨.lst ds,p,e'',h1,λi' j' ds' a' P' x1 x2 x3 l ol=>by
    obtain⟨a2,P2,y1,y2,y3,_⟩:=h.ex.1 i' j' ds' x1;rw[x2]at y1;cases y1;have:P2 l=P' l:=by
     obtain⟨vs1,_,z1,_,y5,_⟩:=x3;obtain⟨vs2,_,z3,_,y4,_⟩:=y2;rw[z1]at z3;cases z3;obtain⟨_,_,_,_,_,z2,_⟩:=y5 l ol;obtain⟨_,_,_,_,_,z4,_⟩:=y4 l ol;rw[z2]at z4;injection z4 with z4;injection z4 with z4;exact z4.symm
    rw[←this];intro zz;rw[zz]at h1;exact y3 j d l ol e h1⟩))
  .exact .inl ⟨e'',rfl⟩
 .rw[aC (by
   intro z;subst z;cases d with
   |lst ds'|dic ks ds'=>obtain⟨vs',h5,_⟩:=h4;rw[h5]at eb;cases eb
   |ob kk ds'=>
    cases kk with|dint ks=>obtain⟨vs',h5,_⟩:=h4;rw[h5]at eb;cases eb| _=>exact h4.elim
   |_=>exact h4)];exact eb
 .have hq':q≠p:=by
   intro z;subst z;exact hd i d e h1
  exact⟨by rw[aC hq'];exact hq,q0⟩
 .rw[aC (by intro z;subst z;rw[h2]at eb;cases eb)];exact h.g.s _ _ eb
 .rw[aC (by intro z;subst z;rw[h3]at eb;cases eb)];exact h.g.sub _ _ eb
 .rcases key j _ e' with⟨rfl,e''⟩|⟨hj,e''⟩
  .cases e''
  .exact h.rd j d' e''
 .rcases key j _ e' with⟨rfl,e''⟩|⟨hj,e''⟩
  .cases e''
   exact⟨p,h1,h2,h3,vs,aG,r⟩
  .obtain⟨b,k1,k2,k3,k4⟩:=h.ow j d' e''
   refine⟨b,k1,k2,k3,?_⟩;have hb:b≠p:=by
    intro z;subst z;exact h.ap j i d' d hj e'' e (by rw[k1,h1])
   cases d' with
   |lst ds'=>
    obtain⟨vs',h5,h6⟩:=k4;exact⟨vs',by rw[aC hb];exact h5,h6⟩
   |dic ks ds'=>
    obtain⟨vs',h5,hl,h6⟩:=k4;exact⟨vs',by rw[aC hb];exact h5,hl,h6⟩
   |ob kk ds'=>
    cases kk with
    |dint ks=>
     obtain⟨vs',h5,hl,h6⟩:=k4;exact⟨vs',by rw[aC hb];exact h5,hl,h6⟩
    |_=>exact k4.elim
   |_=>exact k4.elim
 .rcases key j _ e1 with⟨rfl,e1'⟩|⟨hj,e1'⟩
  .rcases key k _ e2 with⟨rfl,_⟩|⟨hk,e2'⟩
   .exact absurd rfl hn
   .exact h.ap j k d d2 hn e e2'
  .rcases key k _ e2 with⟨rfl,_⟩|⟨hk,e2'⟩
   .exact h.ap j k d1 d hn e1' e
   .exact h.ap j k d1 d2 hn e1' e2'
end
mutual
def ni:D->Bool
 |.lst _=>false
 |.dic _ _=>false
 |.exc _=>false
 |.ob _ _=>false
 |.tup ds=>flats ds
 |_=>true
def flats:ac->Bool
 |[]=>true
 |d::ds=>ni d&&flats ds
end
mutual
theorem Rep.flat_to{K:W.Frag}{H H':Hp}(e:∀a vs,Rd H a (.tup vs)->Rd H' a (.tup vs)):∀{d:D}{v:V},ni d=true->Rep K H d v->Rep K H' d v
 |.non,_,_,h=>by unfold Rep at h ⊢;exact h
 |.bl _,_,_,h=>by unfold Rep at h ⊢;exact h
 |.int _,_,_,h=>by unfold Rep at h ⊢;exact h
 |.str _,_,_,h=>by unfold Rep at h ⊢;exact h
 |.tup ds,_,f,h=>by
  unfold ni at f;obtain⟨a,vs,e1,e2,e3⟩:=aH.mp h;refine aH.mpr ⟨a,vs,e1,?_,Reps.flat_to e f e3⟩;rcases e2 with e2|e2
  .exact .inl (e _ _ e2)
  .exact .inr e2
 |.lst ds,_,f,h=>by unfold ni at f;cases f
 |.dic ks ds,_,f,h=>by unfold ni at f;cases f
 |.exc x,_,f,h=>by unfold ni at f;cases f
 |.ob k ds,_,f,h=>by unfold ni at f;cases f
theorem Reps.flat_to{K:W.Frag}{H H':Hp}(e:∀a vs,Rd H a (.tup vs)->Rd H' a (.tup vs)):∀{ds:ac}{vs:ad},flats ds=true->Reps K H ds vs->Reps K H' ds vs
 |[],_,_,h=>by unfold Reps at h ⊢;exact h
 |d::ds,_,f,h=>by
  unfold flats at f;rw[Bool.and_eq_true]at f;obtain⟨v,r,e1,e2,e3⟩:=aD.mp h;exact aD.mpr ⟨v,r,e1,Rep.flat_to e f.1 e2,Reps.flat_to e f.2 e3⟩
end
def jS(Ha J:Hp):Hp:=λa=>match Ha a with
 |some o=>some o
 |none=>match J a with
  |some (.tup vs)=>some (.tup vs)
  |some (.frz o (.tup vs))=>some (.frz o (.tup vs))
  |_=>none
section
variable {K:W.Frag}{E:XK}{He H0e Ha H H1 J:Hp}{σ:L2.St}{ρ:Ev}
def E2(h:aF Ha J):∀a o,jS Ha J a=some o->J a=some o:=λa o e=>by
 unfold jS at e;cases q:Ha a with
 |some u=>rw[q]at e;cases e;exact h _ _ q
 |none=>
  rw[q]at e;cases q2:J a with
  |none=>rw[q2]at e;cases e
  |some u=>
   rw[q2]at e;cases u with
   |tup vs=>cases e;rfl
   |frz o u'=>
    cases u' with|tup vs=>cases e;rfl| _=>cases e
   |_=>cases e
def yn(h:aF Ha J)(a:Addr)(vs:ad)(e:Rd J a (.tup vs)):Rd (jS Ha J) a (.tup vs):=by
 rcases e with e|⟨o,e⟩
 .refine .inl ?_
  unfold jS;cases q:Ha a with|some u=>have:=h _ _ q;rw[e]at this;cases this;rfl|none=>rw[e]
 .refine .inr ⟨o,?_⟩
  unfold jS;cases q:Ha a with|some u=>have:=h _ _ q;rw[e]at this;cases this;rfl|none=>rw[e]
def cW.behind(h:cW K He H0e Ha σ H ρ)(g:aW H (frz He Ha H) H1 J):cW K He H0e (jS Ha J) σ H1 ρ:=by
 have hJ:aF Ha J:=h.frz_sub.trans g.z;have le:=E2 (Ha:=Ha) (J:=J) hJ;have z:aF Ha (jS Ha J):=λb o e=>by unfold jS;rw[e]
 refine⟨⟨h.g.s.trans g.s,h.g.z.trans z,λb o e=>g.sub _ _ (le b o e),λa h1 h2=>?_⟩,h.rd.mono z,λi d e=>?_,h.ap,h.ln,h.ex.upd (λj s e=>.inl ⟨e,rfl⟩) z (λa vs _ e=>g.s _ _ e) λp us hp h0 hl _=>⟨g.s _ _ hl,by
  have:frz He Ha H p=some (.lst us):=by unfold frz;rw[hp];exact hl
  have:=g.z _ _ this;unfold jS;rw[h0,this]⟩⟩
 .cases q:jS Ha J a with
  |none=>exact absurd q h1
  |some o=>
   have hj:=le a o q;exact(h.frz_grow.trans g).nw a (by rw[hj];simp) h2
 .obtain⟨a,k1,k2,k3,k4⟩:=h.ow i d e
  refine⟨a,k1,k2,?_,?_⟩
  .cases d with
   |lst ds=>
    obtain⟨vs,h5,_⟩:=k4;have:frz He Ha H a=some (.lst vs):=by unfold frz;rw[k2];exact h5
    have:=g.z _ _ this;unfold jS;rw[k3,this]
   |dic ks ds=>
    obtain⟨vs,h5,_⟩:=k4;have:frz He Ha H a=some (.dK ((ks.map Sum.inr).zip vs)):=by unfold frz;rw[k2];exact h5
    have:=g.z _ _ this;unfold jS;rw[k3,this]
   |ob kk ds=>
    cases kk with
    |dint ks=>
     obtain⟨vs,h5,_⟩:=k4;have:frz He Ha H a=some (.dK ((ks.map Sum.inl).zip vs)):=by unfold frz;rw[k2];exact h5
     have:=g.z _ _ this;unfold jS;rw[k3,this]
    |_=>exact k4.elim
   |_=>exact k4.elim
  .cases d with
   |lst ds=>obtain⟨vs,h5,h6⟩:=k4;exact⟨vs,g.s _ _ h5,h6.mono z⟩
   |dic ks ds=>obtain⟨vs,h5,hl,h6⟩:=k4;exact⟨vs,g.s _ _ h5,hl,h6.mono z⟩
   |ob kk ds=>
    cases kk with|dint ks=>obtain⟨vs,h5,hl,h6⟩:=k4;exact⟨vs,g.s _ _ h5,hl,h6.mono z⟩| _=>exact k4.elim
   |_=>exact k4.elim
end
section
variable {X:Cx}{E:XK}{He H0e:Hp}{st:Stmt}{rest:List Stmt}{e a b:Expr}{es:List Expr}{f g:al}{fa:Ev->ax (ac)}{s t:am}{pos:Pos}
def cb{t t':TS}(h:PS X st t)(w:∀D σ H,t' D σ H->t D σ H):PS X st t':=λpins s σ H D I q=>h pins s σ H D I (w D σ H q)
def dY{t t':TS}(h:pZ X rest t)(w:∀D σ H,t' D σ H->t D σ H):pZ X rest t':=λpins s σ H D I q=>h pins s σ H D I (w D σ H q)
def ak:am:=λρ=>.ok (.nx ρ)
def aq(s t:am):am:=λρ=>(s ρ).bind λr=>match r with
 |.nx ρ'=>t ρ'
 |r=>.ok r
def ar:tQ X E He H0e [] ak:=⟨dY kY λD σ H ⟨Ha,ρ,h,q⟩=>q σ H Ha (aF.refl _) h⟩
def ah(h1:DS X E He H0e st s)(h2:tQ X E He H0e rest t):tQ X E He H0e (st::rest) (aq s t):=by
 refine⟨?_⟩;refine dY (dZ h1.o h2.o) λD σ H z9=>?_;obtain⟨Ha,ρ,h,q⟩:=z9;refine⟨Ha,ρ,h,?_⟩
 unfold aq at q;cases e1:s ρ with
 |stuck|exn x=>rw[e1]at q;exact q
 |ok r=>
  rw[e1]at q;cases r with|nx ρ'=>exact λσ' H' Ha' s' h'=>⟨Ha',ρ',h',bK.grow (r:=t ρ') q s'⟩|rt d|bk ρ'|ct ρ'=>exact q
def cX:am:=λ_=>.stuck
def dq:DS X E He H0e st cX:=⟨cb AQ λD σ H ⟨Ha,ρ,h,q⟩=>q⟩
def plain{K:W.Frag}{Ha H:Hp}{σ:L2.St}{ρ:Ev}{k:D->ax Fl}{D':fW}(h:cW K He H0e Ha σ H ρ){r:ax D}{Q:VK}
  (q:bK K E He H0e Ha (r.bind k) D')(hk:∀d v H' Ha',r=.ok d->aW H Ha H' Ha'->Rep K Ha' d v->bK K E He H0e Ha' (k d) D'->Q v H'):post K E H Ha r Q:=by
 cases r with|stuck=>exact q|exn x=>exact λC ox H' Ha' g ex=>q C ox H' Ha' (h.g.trans g) ex|ok d=>exact λv H' Ha' g rp=>hk d v H' Ha' rfl g rp (bK.grow (r:=k d) q g.z)
def look{K:W.Frag}{Ha H:Hp}{σ:L2.St}{ρ:Ev}{k:D->ax Fl}{D':fW}(h:cW K He H0e Ha σ H ρ){r:ax D}{Q:VK}
  (q:bK K E He H0e Ha (r.bind k) D')(hk:∀d v H' J,r=.ok d->aW H (frz He Ha H) H' J->Rep K J d v->bK K E He H0e Ha (k d) D'->Q v H'):post K E H (frz He Ha H) r Q:=by
 cases r with|stuck=>exact q|exn x=>exact λC ox H' Ha' g ex=>q C ox H' Ha' (h.frz_grow.trans g) ex|ok d=>exact λv H' J g rp=>hk d v H' J rfl g rp q
def Fu{K:W.Frag}{Ha H:Hp}{σ:L2.St}{ρ:Ev}{k:Bool->ax Fl}{D':fW}(h:cW K He H0e Ha σ H ρ){r:ax D}{Q:Bool->Hp->Prop}
  (q:bK K E He H0e Ha (r.bind λx=>match x with|.bl b=>k b|_=>.stuck) D')(hk:∀b H',aF H H'->bK K E He H0e Ha (k b) D'->Q b H'):om K E H (frz He Ha H) r Q:=by
 cases r with
 |stuck=>exact q|exn x=>exact λC ox H' Ha' g ex=>q C ox H' Ha' (h.frz_grow.trans g) ex
 |ok d=>
  cases d with|bl b=>exact λH' J g=>hk b H' g.s q| _=>exact q.elim
def aV(i:Nat)(f:al):am:=λρ=>(f ρ).bind λd=>.ok (.nx (ρ.set i (.sh d)))
def xq(i:Nat)(f:al):am:=λρ=>(f (ij ρ)).bind λd=>if ni d=true then .ok (.nx (ρ.set i (.sh d))) else .stuck
def bh(f:al):am:=λρ=>(f (ij ρ)).bind λd=>.ok (.rt d)
def f9(f:al):am:=λρ=>(f (ij ρ)).bind λ_=>.ok (.nx ρ)
def cP(c:al)(s t:am):am:=λρ=>(c (ij ρ)).bind λx=>match x with
 |.bl b=>if b=true then s ρ else t ρ
 |_=>.stuck
def aU{i:Nat}{x:Str}{pos':Pos}(hN:X.N.Nodup)(hi:X.N[i]?=some x)(hx:zM X.env.scope x)(he:DE X E e f)(hs:swapsWith e (some (.Name x pos')) pos.line X.env=pure false:=by rfl)
  (hf:X.fn x=true∨X.env.scope.names.lookup x=some .local := by first|exact .inl rfl|exact .inr rfl|assumption):DS X E He H0e (.Assign [.Name x pos'] e pos) (aV i f):=by
 refine⟨?_⟩;refine cb (l7 hN hi hx he.o hs hf) λD σ H z9=>?_;obtain⟨Ha,ρ,h,q⟩:=z9;refine⟨Ha,ρ,h.g.sub,h.rd,?_⟩
 refine plain h q λd v H' Ha' _ g rp q'=>?_;exact q' _ H' Ha' (aF.refl _) ((h.grow g).put rp)
def EE{i:Nat}{x:Str}{pos':Pos}(hN:X.N.Nodup)(hi:X.N[i]?=some x)(hx:zM X.env.scope x)(he:DE X E e f)(hs:swapsWith e (some (.Name x pos')) pos.line X.env=pure false:=by rfl)
  (hf:X.fn x=true∨X.env.scope.names.lookup x=some .local := by first|exact .inl rfl|exact .inr rfl|assumption):DS X E He H0e (.Assign [.Name x pos'] e pos) (xq i f):=by
 refine⟨?_⟩;refine cb (l7 hN hi hx he.o hs hf) λD σ H z9=>?_;obtain⟨Ha,ρ,h,q⟩:=z9;refine⟨frz He Ha H,ij ρ,h.frz_le,h.looks,?_⟩
 refine look h q λd v H' J _ g rp q'=>?_
 by_cases fl:ni d=true
 .rw[if_pos fl]at q'
  have hJ:aF Ha J:=h.frz_sub.trans g.z;refine q' _ H' (jS Ha J) (λb o e=>by unfold jS;rw[e]) ((h.behind g).put (rp.flat_to (yn hJ) fl))
 .rw[if_neg fl]at q';exact q'.elim
def aP(he:DE X E e f):DS X E He H0e (.Return (some e) pos) (bh f):=by
 refine⟨?_⟩;refine cb (vV he.o) λD σ H z9=>?_;obtain⟨Ha,ρ,h,q⟩:=z9;refine⟨frz He Ha H,ij ρ,h.frz_le,h.looks,?_⟩
 exact look h q λd v H' J _ g rp q'=>q' v H' J (h.frz_grow.trans g) rp
def gM(he:DE X E e f)(hs:swapsWith e none pos.line X.env=pure false:=by rfl):DS X E He H0e (.Expr e pos) (f9 f):=by
 refine⟨?_⟩;refine cb (kZ he.o hs) λD σ H z9=>?_;obtain⟨Ha,ρ,h,q⟩:=z9;refine⟨frz He Ha H,ij ρ,h.frz_le,h.looks,?_⟩
 exact look h q λd v H' J _ g rp q'=>q' σ H' Ha (aF.refl _) (h.same g.s)
def bB{c:Expr}{fc:al}{sa sb:List Stmt}(hc:DT X E c fc)(ha:tQ X E He H0e sa s)(hb:tQ X E He H0e sb t):DS X E He H0e (.If c sa sb pos) (cP fc s t):=by
 refine⟨?_⟩;refine cb (Fp hc.o ha.o hb.o) λD σ H z9=>?_;obtain⟨Ha,ρ,h,q⟩:=z9;refine⟨frz He Ha H,ij ρ,h.frz_le,h.looks,?_⟩
 refine Fu (k:=λb=>if b=true then s ρ else t ρ) h q λb H' hs q'=>?_;cases b with|true=>rw[if_pos rfl]at q' ⊢;exact⟨Ha,ρ,h.same hs,q'⟩|false=>rw[if_neg Bool.false_ne_true]at q' ⊢;exact⟨Ha,ρ,h.same hs,q'⟩
noncomputable def tF(K:W.Frag) (E:XK) (f:al):TE:=λσ H Q=>∃Ha ρ,aF Ha H/\ez K Ha σ ρ/\match f ρ with
 |.ok (.lst ds)=>∀p vs H' Ha',aW H Ha H' Ha'->H p=none->Ha' p=none->H' p=some (.lst vs)->Reps K Ha' ds vs->Q (.ref p) H'
 |.ok _=>False
 |.exn x=>∀C ox H' Ha',aW H Ha H' Ha'->rE K Ha' x C ox->E C ox H'
 |.stuck=>False
structure DF (X:Cx) (E:XK) (e:Expr) (f:al):Prop where
 o:PE X e (tF X.K E f)
def jq(i:Nat)(f:al):am:=λρ=>(f ρ).bind λd=>match d with
 |.lst ds=>.ok (.nx (ρ.set i (.ow (.lst ds))))
 |_=>.stuck
def jG{i:Nat}{x:Str}{pos':Pos}(hN:X.N.Nodup)(hi:X.N[i]?=some x)(hx:zM X.env.scope x)(he:DF X E e f)(hs:swapsWith e (some (.Name x pos')) pos.line X.env=pure false:=by rfl)
  (hf:X.fn x=true∨X.env.scope.names.lookup x=some .local := by first|exact .inl rfl|exact .inr rfl|assumption):DS X E He H0e (.Assign [.Name x pos'] e pos) (jq i f):=by
 refine⟨?_⟩;refine cb (l7 hN hi hx he.o hs hf) λD σ H z9=>?_;obtain⟨Ha,ρ,h,q⟩:=z9;refine⟨Ha,ρ,h.g.sub,h.rd,?_⟩
 unfold jq at q;cases e1:f ρ with
 |stuck=>rw[e1]at q;exact q|exn x=>rw[e1]at q;exact λC ox H' Ha' g ex=>q C ox H' Ha' (h.g.trans g) ex
 |ok d=>
  rw[e1]at q;cases d with
  |lst ds=>
   intro p vs H' Ha' g hp h0 hv rp;refine q _ H' Ha' g.z ((h.grow g).putOwn (λj a ej ea d ed=>?_) (h.g.s.free hp) h0 hv rp (h.fresh_x g.s hp));subst ea;obtain⟨a',k1,_,_,k4⟩:=h.ow j d ed;rw[ej]at k1;cases k1;cases d with
   |lst ds'|dic ks ds'=>obtain⟨vs',h5,_⟩:=k4;rw[hp]at h5;cases h5
   |ob kk ds'=>
    cases kk with|dint ks=>obtain⟨vs',h5,_⟩:=k4;rw[hp]at h5;cases h5| _=>exact k4.elim
   |_=>exact k4.elim
  |_=>exact q.elim
def gX(h:DA X E es fa):DF X E (.List es pos) (ai fa bM):=by
 refine⟨?_⟩;refine aZ (v8 h.o) λσ H Q h=>?_;obtain⟨Ha,ρ,hs,hr,q⟩:=h;refine⟨Ha,ρ,hs,hr,?_⟩;unfold ai at q;cases e1:fa ρ with
 |stuck|exn x=>rw[e1]at q;exact q
 |ok ds=>
  rw[e1]at q;intro vs H1 H01 g1 r1;replace q:match bM ds with
   |.ok (.lst ds)=>∀p vs H' Ha',aW H Ha H' Ha'->H p=none->Ha' p=none->H' p=some (.lst vs)->Reps X.K Ha' ds vs->Q (.ref p) H'
   |.ok _=>False
   |.exn x=>∀C ox H' Ha',aW H Ha H' Ha'->rE X.K Ha' x C ox->E C ox H'
   |.stuck=>False:=q
  unfold bM at q
  by_cases hl:ds.length<=line
  .rw[if_pos hl]at q
   refine⟨by rw[←r1.length];exact eB hl,λp hp=>?_⟩;have h0:H01 p=none:=g1.sub.free hp;refine q p vs _ H01 (g1.trans ⟨λb o q=>by rw[aC (bu q hp)];exact q,aF.refl _,λb o q=>?_,λa h1 h2=>absurd h2 h1⟩) (g1.s.free hp) h0 aG r1;rw[aC (by intro z;subst z;rw[h0]at q;cases q)];exact g1.sub _ _ q
  .rw[if_neg hl]at q;exact q.elim
def Be(ρ:Ev)(i:Nat)(k:ac->ax Fl):ax Fl:=match ρ[i]? with
 |some (.ow (.lst ds))=>k ds
 |_=>.stuck
def bW(i:Nat)(f:al):am:=λρ=>Be ρ i λds=>(f ρ).bind λd=>if ds.length<line then .ok (.nx (ρ.set i (.ow (.lst (ds++[d]))))) else .stuck
def Bc{K:W.Frag}{Ha H:Hp}{σ:L2.St}{ρ:Ev}{i:Nat}{k:ac->ax Fl}{D':fW}(h:cW K He H0e Ha σ H ρ)(q:bK K E He H0e Ha (Be ρ i k) D') :
  ∃ds p vs,ρ[i]?=some (.ow (.lst ds))/\σ[i]?=some (some (.ref p))/\He p=none/\Ha p=none/\H p=some (.lst vs)/\Reps K Ha ds vs/\bK K E He H0e Ha (k ds) D':=by
 unfold Be at q;cases e:ρ[i]? with
 |none=>rw[e]at q;exact q.elim
 |some s=>
  rw[e]at q;cases s with
  |no|sh d|ox j ds|pt a=>exact q.elim
  |ow d=>
   cases d with
   |lst ds=>
    obtain⟨p,h1,h2,h3,vs,h4,h5⟩:=h.ow i _ e;exact⟨ds,p,vs,rfl,h1,h2,h3,h4,h5,q⟩
   |_=>exact q.elim
def dA{i:Nat}{x:Str}{p1 p2 p3:Pos}(hN:X.N[i]?=some x)(hv:zI X.env.scope x)(he:DE X E e f)
  (hd:(x==("__debug__":Str))=false:=by decide)(hcd:(x==("__classdict__":Str))=false:=by decide)
  (hbase:attributeBase (.Name x p1) "append" X.env (eval (.Name x p1) X.env)=eval (.Name x p1) X.env:=by rfl)
  (hfew:((backTo p3 (starEach [e] X.env)).all (λx=>!x.1)&&(backToKw p3 (keywordEach [] X.env)).all (λx=>x.1.isSome)
  &&decide ([e].length+([]:List Keyword).length+(if([]:List Keyword).isEmpty then 0 else 1)<30))=true:=by exact oX rfl)
  (hline:(p2.endLine==p3.line)=true:=by rfl) (hs:starEach [e] X.env=(false,eval e X.env)::starEach [] X.env:=by exact aY rfl) (hplain:(backTo p3 (starEach [] X.env)).any (·.1)=false:=by exact bY rfl)
  (hw:swapsWith (.Call (.Attribute (.Name x p1) "append" p2) [e] [] p3) none pos.line X.env=pure false:=by rfl) :
  DS X E He H0e (.Expr (.Call (.Attribute (.Name x p1) "append" p2) [e] [] p3) pos) (bW i f):=by
 refine⟨?_⟩;refine cb (kZ (Ba PySem.F.plainAttrs_list PySem.F.slot_list_append PySem.F.type_list_append ma (gb hN hv hd hcd) (cQ he.o fI hs) hbase hfew hline hs hplain) hw) λD σ H ⟨Ha,ρ,h,q⟩=>?_;obtain⟨ds,p,vs,e1,e2,e3,e4,e5,e6,q⟩:=Bc h q;refine⟨.ref p,e2,.inl ⟨rfl,vs,dF.of e5⟩,?_⟩;refine⟨Ha,ρ,h.g.sub,h.rd,plain h q λd v H' Ha' _ g rp q'=>?_⟩
 by_cases hl:ds.length<line
 .rw[if_pos hl]at q'
  have e5':H' p=some (.lst vs):=g.s _ _ e5;refine⟨p,vs,v,rfl,rfl,e5',by rw[←e6.length];exact Nat.lt_of_lt_of_le hl (by decide),?_⟩;exact q' σ _ Ha' (aF.refl _) ((h.grow g).write e1 e2 ((e6.mono g.z).app (Reps.cons rp Reps.nil)))
 .rw[if_neg hl]at q';exact q'.elim
def putAt(ρ:Ev)(i:Nat)(ds:ac)(d:D)(j:D):ax Fl:=match j with
 |.int j=>match Fw ds.length j with
  |some n=>.ok (.nx (ρ.set i (.ow (.lst (ds.set n d)))))
  |none=>.stuck
 |_=>.stuck
noncomputable def cA(tg:Ev->D->ax Ev) (body:am):ac->am
 |[],ρ=>.ok (.nx ρ)
 |d::r,ρ=>(tg ρ d).bind λρ1=>(body ρ1).bind λx=>match x with
  |.nx ρ2=>cA tg body r ρ2
  |.ct ρ2=>cA tg body r ρ2
  |.bk ρ2=>.ok (.nx ρ2)
  |.rt d=>.ok (.rt d)
def tG(K:W.Frag)(He H0e:Hp)(tg:Ev->D->ax Ev):TG:=λv σ H Q=>∃Ha ρ d,cW K He H0e Ha σ H ρ/\Rep K Ha d v/\match tg ρ d with
  |.ok ρ'=>∀σ' H' Ha',aF Ha Ha'->cW K He H0e Ha' σ' H' ρ'->Q σ' H'
  |_=>False
structure DG (X:Cx) (E:XK) (He H0e:Hp) (target:Expr) (tg:Ev->D->ax Ev):Prop where
 o:PG X target (tG X.K He H0e tg)
def dg(i:Nat):Ev->D->ax Ev:=λρ d=>.ok (ρ.set i (.sh d))
def rR{tgt:Expr}{t t':TG}(h:PG X tgt t)(w:∀v σ H Q,t' v σ H Q->t v σ H Q):PG X tgt t':=λpins s σ H v u Q I r q=>h pins s σ H v u Q I r (w v σ H Q q)
def eD{i:Nat}{x:Str}(hN:X.N.Nodup)(hi:X.N[i]?=some x)(hx:zM X.env.scope x)(hf:X.fn x=true∨X.env.scope.names.lookup x=some .local := by first|exact .inl rfl|exact .inr rfl|assumption):DG X E He H0e (.Name x pos) (dg i) :=
 ⟨rR (rS hN hi hx hf) λv σ H Q ⟨Ha,ρ,d,h,rp,q⟩=>q _ H Ha (aF.refl _) (h.put rp)⟩
def fH(K:W.Frag)(E:XK)(He H0e Hb:Hp)(tg:Ev->D->ax Ev)(s:am)(ds:ac)(D':fW)(i:Nat)(σ:L2.St)(H:Hp):Prop :=
 ∃Ha ρ,aF Hb Ha/\cW K He H0e Ha σ H ρ/\bK K E He H0e Ha (cA tg s (ds.drop i) ρ) D'
def fH.step{K:W.Frag}{Hb:Hp}{tg:Ev->D->ax Ev}{ds:ac}{D':fW}{i:Nat}{σ:L2.St}{H:Hp}{d:D}{v:V}(h:fH K E He H0e Hb tg s ds D' i σ H)(hd:ds[i]?=some d)(rv:Rep K Hb d v)
  (he:∀ρ,tg ρ d=.stuck∨∃ρ',tg ρ d=.ok ρ') :
  tG K He H0e tg v σ H λσ2 H2=>tS K E He H0e s { D' with nx:=fH K E He H0e Hb tg s ds D' (i+1),ct:=fH K E He H0e Hb tg s ds D' (i+1),bk:=D'.nx } σ2 H2:=by
 obtain⟨Ha,ρ,z,h,q⟩:=h;have hi:i<ds.length:=(List.getElem?_eq_some_iff.mp hd).1;have hdr:ds.drop i=d::ds.drop (i+1):=by
  rw[List.drop_eq_getElem_cons hi];rw[List.getElem?_eq_getElem hi]at hd;cases hd;rfl
 rw[hdr]at q;refine⟨Ha,ρ,d,h,rv.mono z,?_⟩;unfold cA at q;rcases he ρ with e1|⟨ρ1,e1⟩
 .rw[e1]at q;exact q.elim
 .rw[e1]at q ⊢
  intro σ' H' Ha' z' h';refine⟨Ha',ρ1,h',?_⟩;replace q:=bK.grow (r:=(s ρ1).bind λx=>match x with
   |.nx ρ2=>cA tg s (ds.drop (i+1)) ρ2
   |.ct ρ2=>cA tg s (ds.drop (i+1)) ρ2
   |.bk ρ2=>.ok (.nx ρ2)
   |.rt d=>.ok (.rt d)) q z'
  cases e2:s ρ1 with
  |stuck|exn x=>rw[e2]at q;exact q
  |ok r=>
   rw[e2]at q;cases r with|nx ρ2=>exact λσ3 H3 H03 z3 h3=>⟨H03,ρ2,(z.trans z').trans z3,h3,bK.grow (r:=cA tg s (ds.drop (i+1)) ρ2) q z3⟩|ct ρ2=>exact λσ3 H3 H03 z3 h3=>⟨H03,ρ2,(z.trans z').trans z3,h3,bK.grow (r:=cA tg s (ds.drop (i+1)) ρ2) q z3⟩|bk ρ2|rt d=>exact q
def fH.done{K:W.Frag}{Hb:Hp}{tg:Ev->D->ax Ev}{ds:ac}{D':fW}{σ:L2.St}{H:Hp}(h:fH K E He H0e Hb tg s ds D' ds.length σ H):D'.nx σ H:=by
 obtain⟨Ha,ρ,z,h,q⟩:=h;rw[List.drop_length]at q;unfold cA at q;exact q σ H Ha (aF.refl _) h
def lP(tg:Ev->D->ax Ev):Prop:=∀ρ d,tg ρ d=.stuck∨∃ρ',tg ρ d=.ok ρ'
def eI{i:Nat}:lP (dg i):=λρ d=>.inr ⟨_,rfl⟩
def kg(f:al)(tg:Ev->D->ax Ev)(s:am):am:=λρ=>(f ρ).bind λd=>match d with
 |.lst ds=>cA tg s ds ρ
 |_=>.stuck
def pf{tgt iter:Expr}{body:List Stmt}{tg:Ev->D->ax Ev}(hp:PassesOwn (model X.prog X.w) X.A X.env X.xe)(hc:X.calm=true)(hi:DE X E iter f)(hg:DG X E He H0e tgt tg)(ht:lP tg)(hb:tQ X E He H0e body s)
  (hs:∀x,foldedSetIterable iter X.env x=pure x:=by intro _;rfl):DS X E He H0e (.For tgt iter body [] pos) (kg f tg s):=by
 refine⟨?_⟩;refine cb (oj hp hc (rQ hi.o) hg.o hb.o hs) λD' σ H z9=>?_;obtain⟨Ha,ρ,h,q⟩:=z9;refine⟨Ha,ρ,h.g.sub,h.rd,?_⟩
 refine plain h q λd v H1 H01 _ g rp q1=>?_;cases d with
 |lst ds=>
  obtain⟨a,vs,rfl,hv,hr⟩:=aB.mp rp;refine⟨a,rfl,⟨vs,aF.sqL g.sub hv⟩,?_⟩;refine uK (K:=X.K) (a:=a) (g:=tG X.K He H0e tg) (tb:=tS X.K E He H0e s) (D:=D') (xs:=vs) (fH X.K E He H0e H01 tg s ds D') ⟨H01,ρ,aF.refl _,h.grow g,q1⟩ ?_ ?_ ?_
  .rintro i σ' H' _ ⟨Ha',ρ',z,h',_⟩
   exact aF.sqL (z.trans h'.g.sub) hv
  .intro i x σ' H' hx hI
   have hil:i<ds.length:=by rw[hr.length];exact(List.getElem?_eq_some_iff.mp hx).1
   obtain⟨u,e1,e2⟩:=hr.get (List.getElem?_eq_getElem hil);rw[hx]at e1;cases e1;exact hI.step (List.getElem?_eq_getElem hil) e2 λρ=>ht ρ _
  .intro σ' H' hI
   rw[←hr.length]at hI;exact hI.done
 |_=>exact q1.elim
def intsFrom(lo:Int)(n:Nat):ac:=(List.range n).map λ(k:Nat)=>D.int (lo+(k:Int))
def kU(f:al)(tg:Ev->D->ax Ev)(s:am):am:=λρ=>(f (ij ρ)).bind λd=>match d with
 |.int j=>if -4611686018427387904<=j/\j<4611686018427387904 then cA tg s (intsFrom 0 j.toNat) ρ else .stuck
 |_=>.stuck
def nN{tgt iter:Expr}{p pos2:Pos}{body:List Stmt}{tg:Ev->D->ax Ev}(hp:PassesOwn (model X.prog X.w) X.A X.env X.xe)(hc:X.calm=true)(hgl:Gl X "range")(hm:X.mg "range"=none)(hi:DE X E iter f)(hg:DG X E He H0e tgt tg)(ht:lP tg)(hb:tQ X E He H0e body s)
  (hst:starEach [iter] X.env=[(false,eval iter X.env)]:=by exact eP rfl)(hs:∀x,foldedSetIterable (.Call (.Name "range" p) [iter] [] pos2) X.env x=pure x:=by intro _;rfl):DS X E He H0e (.For tgt (.Call (.Name "range" p) [iter] [] pos2) body [] pos) (kU f tg s):=by
 refine⟨?_⟩;refine cb (oj hp hc (qM hgl hm (cQ hi.o fI hst) hst) hg.o hb.o hs) λD' σ H ⟨Ha,ρ,h,q⟩=>?_;refine⟨frz He Ha H,ij ρ,h.frz_le,h.looks,look h q λd v H1 J _ g rp q1=>?_⟩;cases d with
 |int j=>
  rw[aE.mp rp];replace q1:bK X.K E He H0e Ha (if -4611686018427387904<=j/\j<4611686018427387904 then cA tg s (intsFrom 0 j.toNat) ρ else .stuck) D':=q1
  by_cases hj:-4611686018427387904<=j/\j<4611686018427387904
  .rw[if_pos hj]at q1
   refine⟨j,rfl,by omega,by omega,?_⟩;have hlen:(intsFrom 0 j.toNat).length=j.toNat:=by unfold intsFrom;simp
   refine zm (lo:=0) (n:=j.toNat) (g:=tG X.K He H0e tg) (tb:=tS X.K E He H0e s) (D:=D') (fH X.K E He H0e Ha tg s (intsFrom 0 j.toNat) D') ⟨Ha,ρ,aF.refl _,h.same g.s,q1⟩ ?_ ?_
   .intro i σ' H' hlt hI
    refine hI.step (d:=.int (0+i)) ?_ (aE.mpr rfl) λρ=>ht ρ _;unfold intsFrom;simp[hlt]
   .intro σ' H' hI
    exact fH.done (ds:=intsFrom 0 j.toNat) (by rw[hlen];exact hI)
  .rw[if_neg hj]at q1;exact q1.elim
 |_=>exact q1.elim
noncomputable def cg(c:al) (s:am):Nat->am
 |0,_=>.stuck
 |n+1,ρ=>(c (ij ρ)).bind λx=>match x with
  |.bl b=>if b=true then(s ρ).bind λx=>match x with
    |.nx ρ2=>cg c s n ρ2
    |.ct ρ2=>cg c s n ρ2
    |.bk ρ2=>.ok (.nx ρ2)
    |.rt d=>.ok (.rt d)
   else .ok (.nx ρ)
  |_=>.stuck
def fZ(fuel:Ev->Nat)(c:al)(s:am):am:=λρ=>cg c s (fuel ρ) ρ
def lu(fuel:Ev->Nat){c:Expr}{body:List Stmt}{fc:al}(hp:PassesOwn (model X.prog X.w) X.A X.env X.xe)(hc:DT X E c fc)(hb:tQ X E He H0e body s):DS X E He H0e (.While c body [] pos) (fZ fuel fc s):=by
 refine⟨?_⟩;refine cb (AO hp hc.o hb.o) λD' σ H ⟨Ha,ρ,h,q⟩=>?_;refine⟨λm σ H=>∃Ha ρ,cW X.K He H0e Ha σ H ρ/\bK X.K E He H0e Ha (cg fc s m ρ) D',⟨fuel ρ,Ha,ρ,h,q⟩,?_⟩;rintro m σ1 H1 ⟨H01,ρ1,h1,q1⟩;cases m with
 |zero=>exact q1.elim
 |succ m=>
  refine⟨frz He H01 H1,ij ρ1,h1.frz_le,h1.looks,?_⟩;unfold cg at q1;refine Fu (k:=λb=>if b=true then(s ρ1).bind λx=>match x with
    |.nx ρ2=>cg fc s m ρ2
    |.ct ρ2=>cg fc s m ρ2
    |.bk ρ2=>.ok (.nx ρ2)
    |.rt d=>.ok (.rt d)
   else .ok (.nx ρ1)) h1 q1 λb H2 hs q2=>?_
  cases b with
  |false=>
   rw[if_neg Bool.false_ne_true]at q2 ⊢;exact q2 σ1 H2 H01 (aF.refl _) (h1.same hs)
  |true=>
   rw[if_pos rfl]at q2 ⊢;refine⟨λσ' H'=>∃m',m' < m+1/\∃Ha ρ,cW X.K He H0e Ha σ' H' ρ/\bK X.K E He H0e Ha (cg fc s m' ρ) D',λσ' H' z=>z,H01,ρ1,h1.same hs,?_⟩;cases e2:s ρ1 with
   |stuck|exn x=>rw[e2]at q2;exact q2
   |ok r=>
    rw[e2]at q2;cases r with|nx ρ2=>exact λσ3 H3 H03 z3 h3=>⟨m,Nat.lt_succ_self _,H03,ρ2,h3,bK.grow (r:=cg fc s m ρ2) q2 z3⟩|ct ρ2=>exact λσ3 H3 H03 z3 h3=>⟨m,Nat.lt_succ_self _,H03,ρ2,h3,bK.grow (r:=cg fc s m ρ2) q2 z3⟩|bk ρ2|rt d=>exact q2
end
def bT(n:Nat)(s:am)(ds:ac):ax D:=(s (ds.map Sl.sh++List.replicate (n-ds.length) .no)).bind λr=>match r with
 |.nx _=>.ok .non
 |.rt d=>.ok d
 |_=>.stuck
def ji{K:W.Frag}{Ha:Hp}{N:List Str}{ds:ac}{vs:ad}(h:Reps K Ha ds vs):ez K Ha (start N vs) (ds.map Sl.sh++List.replicate (N.length-ds.length) .no):=by
 intro i d e;have hl:=h.length
 by_cases hi:i<ds.length
 .rw[List.getElem?_append_left (by simpa using hi),List.getElem?_map]at e
  cases q:ds[i]? with
  |none=>rw[q]at e;cases e
  |some d'=>
   rw[q]at e;cases e;obtain⟨v,h1,h2⟩:=h.get q;refine⟨v,?_,h2⟩;unfold L2.start;rw[List.getElem?_append_left (by simp;omega),List.getElem?_map,h1];rfl
 .rw[List.getElem?_append_right (by simpa using hi),List.getElem?_replicate]at e
  split at e<;>cases e
def lZ{ds:ac}{n:Nat}(i j:Nat)(es:ac):(ds.map Sl.sh++List.replicate n Sl.no)[i]?≠some (.ox j es):=λe=>by
 have:=List.mem_of_getElem? e;rw[List.mem_append]at this;rcases this with h|h
 .obtain⟨_,_,h⟩:=List.mem_map.mp h;cases h
 .have:=List.eq_of_mem_replicate h;cases this
def kz{ds:ac}{n:Nat}{σ:L2.St}(i:Nat)(a:Addr)(e:(ds.map Sl.sh++List.replicate n Sl.no)[i]?=some (.pt a)):σ[i]?=some (some (.ref a)):=by
 have:=List.mem_of_getElem? e;rw[List.mem_append]at this;rcases this with h|h
 .obtain⟨_,_,h⟩:=List.mem_map.mp h;cases h
 .have:=List.eq_of_mem_replicate h;cases this
def zo{P:Program}{w:World}{K:W.Frag}{mg:Str->Option Value}{base:Heap}{x qual:Str}{st:Stmt}{f:Addr}{fd:FuncData}{N ps:List Str}{k:Nat}{s:am}(F:Fd K x qual st f fd)(S:gS N ps (defScope st))
  (hbody:∀(cdv:Value) (A:Around) (outer:List PySem.Env) (s0:Shared) (H Ha:Hp) (E:XK),dX k (A.deeper (envOfC qual (defScope st) s0.heap.objs.size f cdv)) ->
   tQ (nq CX0 P w K mg base N qual (defScope st) f cdv A outer s0 H E).nox E H Ha (defBody st) s):gE P w K mg base CX0 (k+1) f fd ps (spD K ps.length (bT N.length s)):=by
 have hpl:ps.length<=N.length:=by have:=congrArg List.length S.pre;rw[List.length_take]at this;omega
 refine F.ok S (λvs H Q E h=>h.1) λcdv A outer s0 H vs Q E hr h=>?_;obtain⟨hn,Ha,ds,hs,hv,q⟩:=h;refine⟨_,(hbody cdv A outer s0 H Ha E hr).o,Ha,ds.map Sl.sh++List.replicate (N.length-ds.length) .no,?_,?_⟩
 .refine⟨aW.refl hs,ji hv,λi d e=>?_,λi j d d' hij e=>?_,?_,OX.none lZ kz⟩
  .by_cases hi:i<ds.length
   .rw[List.getElem?_append_left (by simpa using hi),List.getElem?_map]at e
    cases q:ds[i]? with|none|some d'=>rw[q]at e;cases e
   .rw[List.getElem?_append_right (by simpa using hi),List.getElem?_replicate]at e
    split at e<;>cases e
  .by_cases hi:i<ds.length
   .rw[List.getElem?_append_left (by simpa using hi),List.getElem?_map]at e
    cases q:ds[i]? with|none|some d'=>rw[q]at e;cases e
   .rw[List.getElem?_append_right (by simpa using hi),List.getElem?_replicate]at e
    split at e<;>cases e
  .unfold L2.start
   have:=hv.length;simp only[List.length_append,List.length_map,List.length_replicate];omega
 .unfold bT at q
  cases e1:s (ds.map Sl.sh++List.replicate (N.length-ds.length) .no) with
  |stuck|exn x=>rw[e1]at q;exact q
  |ok r=>
   rw[e1]at q;cases r with|nx ρ'=>exact λσ' H' Ha' _ h'=>q .non H' Ha' h'.g (aT.mpr rfl)|rt d=>exact λv H' Ha' g rp=>q v H' Ha' g rp|bk ρ'|ct ρ'=>exact q.elim
mutual
def cL:D->D->Bool
 |.non,.non=>true
 |.bl a,.bl b=>a==b
 |.bl a,.int b=>(if a then 1 else 0)==b
 |.int a,.bl b=>a==(if b then 1 else 0)
 |.int a,.int b=>a==b
 |.str a,.str b=>a==b
 |.tup xs,.tup ys=>eqDs xs ys
 |.lst xs,.lst ys=>eqDs xs ys
 |_,_=>false
def eqDs:ac->ac->Bool
 |[],[]=>true
 |x::xs,y::ys=>cL x y&&eqDs xs ys
 |_,_=>false
end
def bb:Nat->D->Bool
 |_,.non=>true
 |_,.bl _=>true
 |_,.int _=>true
 |_,.str _=>true
 |n+1,.tup ds=>ds.all (bb n)
 |n+1,.lst ds=>ds.all (bb n)
 |_,_=>false
def iw{ds:ac}(h:∀d∈ds,cL d d=true):eqDs ds ds=true:=by
 induction ds with
 |nil=>simp[eqDs]
 |cons d r ih=>
  unfold eqDs;rw[h d List.mem_cons_self,ih λx hx=>h x (List.mem_cons_of_mem _ hx)];rfl
theorem gu:∀(n:Nat) (d:D),bb n d=true->cL d d=true
 |_,.non,_=>by simp[cL]
 |_,.bl b,_=>by simp[cL]
 |_,.int b,_=>by simp[cL]
 |_,.str b,_=>by simp[cL]
 |n+1,.tup ds,h=>by
  unfold bb at h;unfold cL;exact iw λd hd=>gu n d (List.all_eq_true.mp h d hd)
 |n+1,.lst ds,h=>by
  unfold bb at h;unfold cL;exact iw λd hd=>gu n d (List.all_eq_true.mp h d hd)
 |0,.tup ds,h=>by unfold bb at h;cases h
 |0,.lst ds,h=>by unfold bb at h;cases h
 |0,.dic ks ds,h=>by unfold bb at h;cases h
 |n+1,.dic ks ds,h=>by unfold bb at h;cases h
 |0,.exc x,h=>by unfold bb at h;cases h
 |0,.ob k x,h=>by unfold bb at h;cases h
 |n+1,.ob k x,h=>by unfold bb at h;cases h
 |n+1,.exc x,h=>by unfold bb at h;cases h
def Ey{xs ys:ac}:cL (.tup xs) (.tup ys)=eqDs xs ys:=by rw[cL]
def sP{xs ys:ac}:cL (.lst xs) (.lst ys)=eqDs xs ys:=by rw[cL]
theorem kH:∀(xs ys:ac),xs.length=ys.length->eqDs xs ys=(List.range xs.length).all λj=>cL (xs.getD j .non) (ys.getD j .non)
 |[],[],_=>by simp[eqDs]
 |x::xs,y::ys,h=>by
  have ih:=kH xs ys (by simpa using h);unfold eqDs;rw[ih,List.length_cons,List.range_succ_eq_map,List.all_cons,List.all_map];rfl
 |[],_::_,h=>by simp at h
 |_::_,[],h=>by simp at h
theorem pe:∀(xs ys:ac),xs.length≠ys.length->eqDs xs ys=false
 |[],[],h=>absurd rfl h
 |x::xs,y::ys,h=>by
  unfold eqDs;rw[pe xs ys (by simpa using h),Bool.and_false]
 |[],_::_,h=>by simp[eqDs]
 |_::_,[],h=>by simp[eqDs]
section
variable {X:Cx}{pins:List (Addr×Obj)}{σ:L2.St}{H:Hp}{s:Shared}
def bj(I:Inv X pins σ H s){ds:ac}{v:V}{u:Value}(r:Rep X.K H (.tup ds) v)(rv:bq v u):∃a vs its,v=.ref a/\u=.ref a/\fS X.K H a vs/\Reps X.K H ds vs/\bo vs its/\IsTup s.heap a its.toArray/\ds.length=its.length:=by
 obtain⟨a,vs,rfl,h1,h2⟩:=aH.mp r;obtain rfl:u=Value.ref a:=rv;obtain⟨its,h3,h4,_⟩:=I.tuple h1;exact⟨a,vs,its,rfl,rfl,h1,h2,h3,h4,h2.length.trans h3.length⟩
def ba(I:Inv X pins σ H s){ds:ac}{v:V}{u:Value}(r:Rep X.K H (.lst ds) v)(rv:bq v u):∃a vs its,v=.ref a/\u=.ref a/\dF X.K H a vs/\Reps X.K H ds vs/\bo vs its/\s.heap.IsList a its.toArray/\ds.length=its.length:=by
 obtain⟨a,vs,rfl,h1,h2⟩:=aB.mp r;obtain rfl:u=Value.ref a:=rv;obtain⟨its,h3,h4,_⟩:=I.list h1;exact⟨a,vs,its,rfl,rfl,h1,h2,h3,h4.isList,h2.length.trans h3.length⟩
theorem oa{n:Nat}(ih:∀(d d':D) (v:V),bb n d=true->bb n d'=true->Rep X.K H d v->Rep X.K H d' v->d=d'):∀(ds ds':ac) (vs:ad),ds.all (bb n)=true->ds'.all (bb n)=true->Reps X.K H ds vs->Reps X.K H ds' vs->ds=ds'
 |[],ds',vs,_,_,h,h'=>by
  rw[Reps.nil_iff.mp h]at h';cases ds' with|nil=>rfl|cons d r=>obtain⟨_,_,e,_⟩:=aD.mp h';cases e
 |d::ds,ds',vs,a,a',h,h'=>by
  obtain⟨v,r,rfl,h1,h2⟩:=aD.mp h;cases ds' with
  |nil=>cases Reps.nil_iff.mp h'
  |cons d' ds'=>
   obtain⟨v',r',e,h1',h2'⟩:=aD.mp h';cases e;rw[List.all_cons,Bool.and_eq_true]at a a';rw[ih d d' v a.1 a'.1 h1 h1',oa ih ds ds' r a.2 a'.2 h2 h2']
def Rep.inj(I:Inv X pins σ H s):∀(n:Nat) (d d':D) (v:V),bb n d=true->bb n d'=true->Rep X.K H d v->Rep X.K H d' v->d=d':=by
 have atom:∀(n:Nat) (d d':D) (v:V),(∀ds,d≠.tup ds)->(∀ds,d≠.lst ds)->bb n d=true->bb n d'=true->Rep X.K H d v->Rep X.K H d' v->d=d':=by
  intro n d d' v n1 n2 s1 s2 h h';have nd:∀m ks ds,bb m (.dic ks ds)=true->False:=λm ks ds h=>by cases m<;>(unfold bb at h;cases h)
  have nx:∀m x,bb m (.exc x)=true->False:=λm x h=>by cases m<;>(unfold bb at h;cases h)
  have nb:∀m k x,bb m (.ob k x)=true->False:=λm k x h=>by cases m<;>(unfold bb at h;cases h)
  cases d with
  |tup ds=>exact absurd rfl (n1 ds)|lst ds=>exact absurd rfl (n2 ds)|dic ks ds=>exact(nd _ _ _ s1).elim|exc x=>exact(nx _ _ s1).elim|ob k x=>exact(nb _ _ _ s1).elim
  |non=>
   rw[aT.mp h]at h';cases d' with|non=>rfl|bl b=>cases aK.mp h'|int b=>cases aE.mp h'|str b=>cases Rep.str_iff.mp h'|tup ds=>obtain⟨_,_,e,_⟩:=aH.mp h';cases e|lst ds=>obtain⟨_,_,e,_⟩:=aB.mp h';cases e|dic ks ds=>exact(nd _ _ _ s2).elim|exc x=>exact(nx _ _ s2).elim|ob k x=>exact(nb _ _ _ s2).elim
  |bl x=>
   rw[aK.mp h]at h';cases d' with|non=>cases aT.mp h'|bl b=>cases aK.mp h';rfl|int b=>cases aE.mp h'|str b=>cases Rep.str_iff.mp h'|tup ds=>obtain⟨_,_,e,_⟩:=aH.mp h';cases e|lst ds=>obtain⟨_,_,e,_⟩:=aB.mp h';cases e|dic ks ds=>exact(nd _ _ _ s2).elim|exc x=>exact(nx _ _ s2).elim|ob k x=>exact(nb _ _ _ s2).elim
  |int x=>
   rw[aE.mp h]at h';cases d' with|non=>cases aT.mp h'|bl b=>cases aK.mp h'|int b=>cases aE.mp h';rfl|str b=>cases Rep.str_iff.mp h'|tup ds=>obtain⟨_,_,e,_⟩:=aH.mp h';cases e|lst ds=>obtain⟨_,_,e,_⟩:=aB.mp h';cases e|dic ks ds=>exact(nd _ _ _ s2).elim|exc x=>exact(nx _ _ s2).elim|ob k x=>exact(nb _ _ _ s2).elim
  |str x=>
   rw[Rep.str_iff.mp h]at h';cases d' with|non=>cases aT.mp h'|bl b=>cases aK.mp h'|int b=>cases aE.mp h'|str b=>cases Rep.str_iff.mp h';rfl|tup ds=>obtain⟨_,_,e,_⟩:=aH.mp h';cases e|lst ds=>obtain⟨_,_,e,_⟩:=aB.mp h';cases e|dic ks ds=>exact(nd _ _ _ s2).elim|exc x=>exact(nx _ _ s2).elim|ob k x=>exact(nb _ _ _ s2).elim
 intro n
 induction n with
 |zero=>
  intro d d' v s1 s2 h h';exact atom 0 d d' v (λds e=>by subst e;unfold bb at s1;cases s1) (λds e=>by subst e;unfold bb at s1;cases s1) s1 s2 h h'
 |succ n ih=>
  intro d d' v s1 s2 h h'
  by_cases t1:∃ds,d=.tup ds
  .obtain⟨ds,rfl⟩:=t1
   by_cases t2:∃ds',d'=.tup ds'
   .obtain⟨ds',rfl⟩:=t2
    obtain⟨a,vs,rfl,h1,h2⟩:=aH.mp h;obtain⟨a',vs',e,h1',h2'⟩:=aH.mp h';cases e;rw[I.tuple_inj h1' h1]at h2';unfold bb at s1 s2;rw[oa ih ds ds' vs s1 s2 h2 h2']
   .by_cases t3:∃ds',d'=.lst ds'
    .obtain⟨ds',rfl⟩:=t3
     obtain⟨a0,_,ev,_,_⟩:=aH.mp h;subst ev;obtain⟨a,vs,its,ea,_,h1,h2,h3,h4,_⟩:=bj I h rfl;cases ea;obtain⟨a',vs',its',e,_,h1',h2',h3',h4',_⟩:=ba I h' rfl;cases e;exact absurd rfl (SeqAt.ne_of_list_tuple h4' h4)
    .exact(atom (n+1) d' _ v (λds e=>t2 ⟨ds,e⟩) (λds e=>t3 ⟨ds,e⟩) s2 s1 h' h).symm
  .by_cases t1':∃ds,d=.lst ds
   .obtain⟨ds,rfl⟩:=t1'
    by_cases t2:∃ds',d'=.lst ds'
    .obtain⟨ds',rfl⟩:=t2
     obtain⟨a,vs,rfl,h1,h2⟩:=aB.mp h;obtain⟨a',vs',e,h1',h2'⟩:=aB.mp h';cases e;rw[I.list_inj h1' h1]at h2';unfold bb at s1 s2;rw[oa ih ds ds' vs s1 s2 h2 h2']
    .by_cases t3:∃ds',d'=.tup ds'
     .obtain⟨ds',rfl⟩:=t3
      obtain⟨a0,_,ev,_,_⟩:=aB.mp h;subst ev;obtain⟨a,vs,its,ea,_,h1,h2,h3,h4,_⟩:=ba I h rfl;cases ea;obtain⟨a',vs',its',e,_,h1',h2',h3',h4',_⟩:=bj I h' rfl;cases e;exact absurd rfl (SeqAt.ne_of_list_tuple h4 h4')
     .exact(atom (n+1) d' _ v (λds e=>t3 ⟨ds,e⟩) (λds e=>t2 ⟨ds,e⟩) s2 s1 h' h).symm
   .exact atom (n+1) d d' v (λds e=>t1 ⟨ds,e⟩) (λds e=>t1' ⟨ds,e⟩) s1 s2 h h'
def uG{n:Nat}{A:Around}{xs ys:ac}{vs us:ad}{is js:List Value}
  (ih:∀(x y:D) (v u:V) (a b:Value),bb n x=true->bb n y=true->Rep X.K H x v->Rep X.K H y u->bq v a->bq u b->SeqAt.EqAt A.in1 s a b (cL x y))
  (sx:xs.all (bb n)=true)(sy:ys.all (bb n)=true)(rx:Reps X.K H xs vs)(ry:Reps X.K H ys us)(qx:bo vs is)(qy:bo us js) :
  ∀j (h1:j<is.toArray.size) (h2:j<js.toArray.size),SeqAt.EqAt A.in1 s is.toArray[j] js.toArray[j] (cL (xs.getD j .non) (ys.getD j .non)):=by
 intro j h1 h2;have lx:=rx.length;have ly:=ry.length;have kx:=qx.length;have ky:=qy.length;have h1':j<is.length:=by simpa using h1
 have h2':j<js.length:=by simpa using h2
 have hx:j<xs.length:=by omega
 have hy:j<ys.length:=by omega
 obtain⟨v,e1,r1⟩:=rx.get (List.getElem?_eq_getElem hx);obtain⟨u,e2,r2⟩:=ry.get (List.getElem?_eq_getElem hy);obtain⟨a,e3,r3⟩:=qx.get e1;obtain⟨b,e4,r4⟩:=qy.get e2;have ea:is.toArray[j]=a:=by
  rw[List.getElem?_eq_getElem h1']at e3;simpa using Option.some.inj e3
 have eb:js.toArray[j]=b:=by
  rw[List.getElem?_eq_getElem h2']at e4;simpa using Option.some.inj e4
 rw[ea,eb];have gx:xs.getD j .non=xs[j]:=by simp[List.getD,List.getElem?_eq_getElem hx]
 have gy:ys.getD j .non=ys[j]:=by simp[List.getD,List.getElem?_eq_getElem hy]
 rw[gx,gy];exact ih _ _ v u a b (List.all_eq_true.mp sx _ (List.getElem_mem hx)) (List.all_eq_true.mp sy _ (List.getElem_mem hy)) r1 r2 r3 r4
def uh(I:Inv X pins σ H s){A:Around}(hu:A.units<cLine){x y:D}{v u:V}{a b:Value}(rx:Rep X.K H x v)(ry:Rep X.K H y u)(qx:bq v a)(qy:bq u b)
  (n1:∀ds ds',¬(x=.lst ds/\y=.lst ds'))(n2:∀ds ds',¬(x=.tup ds/\y=.tup ds'))(d1:∀ks ds,x≠.dic ks ds)(d2:∀ks ds,y≠.dic ks ds)(x1:∀c,x≠.exc c)(x2:∀c,y≠.exc c)(o1:∀k c,x≠.ob k c)(o2:∀k c,y≠.ob k c) :
  SeqAt.RcAt A s a b (cL x y)/\SeqAt.EqAt A s a b (cL x y)/\SeqAt.RcNeAt A s a b (!(cL x y)):=by
 cases x with
 |non=>
  cases y with
  |non=>
   obtain rfl:=aT.mp rx;obtain rfl:a=Value.none:=qx;obtain rfl:=aT.mp ry;obtain rfl:b=Value.none:=qy;unfold cL;exact⟨SeqAt.RcAt.none_none ,SeqAt.EqAt.same _,SeqAt.RcNeAt.none_none ⟩
  |bl y=>
   obtain rfl:=aT.mp rx;obtain rfl:a=Value.none:=qx;obtain rfl:=aK.mp ry;obtain rfl:b=Value.bool _:=qy;unfold cL;exact⟨SeqAt.RcAt.none_bool _,SeqAt.EqAt.none_bool _,SeqAt.RcNeAt.none_bool _⟩
  |int y=>
   obtain rfl:=aT.mp rx;obtain rfl:a=Value.none:=qx;obtain rfl:=aE.mp ry;obtain⟨ty,rfl⟩:∃t,b=Value.int _ t:=qy;unfold cL;exact⟨SeqAt.RcAt.none_int _ _,SeqAt.EqAt.none_int _ _,SeqAt.RcNeAt.none_int _ _⟩
  |str y=>
   obtain rfl:=aT.mp rx;obtain rfl:a=Value.none:=qx;obtain rfl:=Rep.str_iff.mp ry;obtain⟨ty,rfl⟩:∃t,b=Value.str _ t:=qy;unfold cL;exact⟨SeqAt.RcAt.none_str _ _,SeqAt.EqAt.none_str _ _,SeqAt.RcNeAt.none_str _ _⟩
  |lst y=>
   obtain rfl:=aT.mp rx;obtain rfl:a=Value.none:=qx;obtain⟨ly,_,_,rfl,rfl,_,_,_,hy,_⟩:=ba I ry qy;unfold cL;exact⟨SeqAt.RcAt.none_list  hy hu,SeqAt.EqAt.none_list  hy hu,SeqAt.RcNeAt.none_list  hy hu⟩
  |tup y=>
   obtain rfl:=aT.mp rx;obtain rfl:a=Value.none:=qx;obtain⟨ly,_,_,rfl,rfl,_,_,_,hy,_⟩:=bj I ry qy;unfold cL;exact⟨SeqAt.RcAt.none_tuple  hy hu,SeqAt.EqAt.none_tuple  hy hu,SeqAt.RcNeAt.none_tuple  hy hu⟩
  |dic ks ds=>exact absurd rfl (d2 ks ds)|exc c=>exact absurd rfl (x2 c)|ob k c=>exact absurd rfl (o2 k c)
 |bl x=>
  cases y with
  |non=>
   obtain rfl:=aK.mp rx;obtain rfl:a=Value.bool _:=qx;obtain rfl:=aT.mp ry;obtain rfl:b=Value.none:=qy;unfold cL;exact⟨SeqAt.RcAt.bool_none _,SeqAt.EqAt.bool_none _,SeqAt.RcNeAt.bool_none _⟩
  |bl y=>
   obtain rfl:=aK.mp rx;obtain rfl:a=Value.bool _:=qx;obtain rfl:=aK.mp ry;obtain rfl:b=Value.bool _:=qy;unfold cL;exact⟨SeqAt.RcAt.bool_bool _ _,SeqAt.EqAt.bool_bool _ _,SeqAt.RcNeAt.bool_bool _ _⟩
  |int y=>
   obtain rfl:=aK.mp rx;obtain rfl:a=Value.bool _:=qx;obtain rfl:=aE.mp ry;obtain⟨ty,rfl⟩:∃t,b=Value.int _ t:=qy;unfold cL;exact⟨SeqAt.RcAt.bool_int _ _ _,SeqAt.EqAt.bool_int _ _ _,SeqAt.RcNeAt.bool_int _ _ _⟩
  |str y=>
   obtain rfl:=aK.mp rx;obtain rfl:a=Value.bool _:=qx;obtain rfl:=Rep.str_iff.mp ry;obtain⟨ty,rfl⟩:∃t,b=Value.str _ t:=qy;unfold cL;exact⟨SeqAt.RcAt.bool_str _ _ _,SeqAt.EqAt.bool_str _ _ _,SeqAt.RcNeAt.bool_str _ _ _⟩
  |lst y=>
   obtain rfl:=aK.mp rx;obtain rfl:a=Value.bool _:=qx;obtain⟨ly,_,_,rfl,rfl,_,_,_,hy,_⟩:=ba I ry qy;unfold cL;exact⟨SeqAt.RcAt.bool_list _ hy hu,SeqAt.EqAt.bool_list _ hy hu,SeqAt.RcNeAt.bool_list _ hy hu⟩
  |tup y=>
   obtain rfl:=aK.mp rx;obtain rfl:a=Value.bool _:=qx;obtain⟨ly,_,_,rfl,rfl,_,_,_,hy,_⟩:=bj I ry qy;unfold cL;exact⟨SeqAt.RcAt.bool_tuple _ hy hu,SeqAt.EqAt.bool_tuple _ hy hu,SeqAt.RcNeAt.bool_tuple _ hy hu⟩
  |dic ks ds=>exact absurd rfl (d2 ks ds)|exc c=>exact absurd rfl (x2 c)|ob k c=>exact absurd rfl (o2 k c)
 |int x=>
  cases y with
  |non=>
   obtain rfl:=aE.mp rx;obtain⟨tx,rfl⟩:∃t,a=Value.int _ t:=qx;obtain rfl:=aT.mp ry;obtain rfl:b=Value.none:=qy;unfold cL;exact⟨SeqAt.RcAt.int_none _ _,SeqAt.EqAt.int_none _ _,SeqAt.RcNeAt.int_none _ _⟩
  |bl y=>
   obtain rfl:=aE.mp rx;obtain⟨tx,rfl⟩:∃t,a=Value.int _ t:=qx;obtain rfl:=aK.mp ry;obtain rfl:b=Value.bool _:=qy;unfold cL;exact⟨SeqAt.RcAt.int_bool _ _ _,SeqAt.EqAt.int_bool _ _ _,SeqAt.RcNeAt.int_bool _ _ _⟩
  |int y=>
   obtain rfl:=aE.mp rx;obtain⟨tx,rfl⟩:∃t,a=Value.int _ t:=qx;obtain rfl:=aE.mp ry;obtain⟨ty,rfl⟩:∃t,b=Value.int _ t:=qy;unfold cL;exact⟨SeqAt.RcAt.int_int _ _ _ _,SeqAt.EqAt.int_int _ _ _ _,SeqAt.RcNeAt.int_int _ _ _ _⟩
  |str y=>
   obtain rfl:=aE.mp rx;obtain⟨tx,rfl⟩:∃t,a=Value.int _ t:=qx;obtain rfl:=Rep.str_iff.mp ry;obtain⟨ty,rfl⟩:∃t,b=Value.str _ t:=qy;unfold cL;exact⟨SeqAt.RcAt.int_str _ _ _ _,SeqAt.EqAt.int_str _ _ _ _,SeqAt.RcNeAt.int_str _ _ _ _⟩
  |lst y=>
   obtain rfl:=aE.mp rx;obtain⟨tx,rfl⟩:∃t,a=Value.int _ t:=qx;obtain⟨ly,_,_,rfl,rfl,_,_,_,hy,_⟩:=ba I ry qy;unfold cL;exact⟨SeqAt.RcAt.int_list _ _ hy hu,SeqAt.EqAt.int_list _ _ hy hu,SeqAt.RcNeAt.int_list _ _ hy hu⟩
  |tup y=>
   obtain rfl:=aE.mp rx;obtain⟨tx,rfl⟩:∃t,a=Value.int _ t:=qx;obtain⟨ly,_,_,rfl,rfl,_,_,_,hy,_⟩:=bj I ry qy;unfold cL;exact⟨SeqAt.RcAt.int_tuple _ _ hy hu,SeqAt.EqAt.int_tuple _ _ hy hu,SeqAt.RcNeAt.int_tuple _ _ hy hu⟩
  |dic ks ds=>exact absurd rfl (d2 ks ds)|exc c=>exact absurd rfl (x2 c)|ob k c=>exact absurd rfl (o2 k c)
 |str x=>
  cases y with
  |non=>
   obtain rfl:=Rep.str_iff.mp rx;obtain⟨tx,rfl⟩:∃t,a=Value.str _ t:=qx;obtain rfl:=aT.mp ry;obtain rfl:b=Value.none:=qy;unfold cL;exact⟨SeqAt.RcAt.str_none _ _,SeqAt.EqAt.str_none _ _,SeqAt.RcNeAt.str_none _ _⟩
  |bl y=>
   obtain rfl:=Rep.str_iff.mp rx;obtain⟨tx,rfl⟩:∃t,a=Value.str _ t:=qx;obtain rfl:=aK.mp ry;obtain rfl:b=Value.bool _:=qy;unfold cL;exact⟨SeqAt.RcAt.str_bool _ _ _,SeqAt.EqAt.str_bool _ _ _,SeqAt.RcNeAt.str_bool _ _ _⟩
  |int y=>
   obtain rfl:=Rep.str_iff.mp rx;obtain⟨tx,rfl⟩:∃t,a=Value.str _ t:=qx;obtain rfl:=aE.mp ry;obtain⟨ty,rfl⟩:∃t,b=Value.int _ t:=qy;unfold cL;exact⟨SeqAt.RcAt.str_int _ _ _ _,SeqAt.EqAt.str_int _ _ _ _,SeqAt.RcNeAt.str_int _ _ _ _⟩
  |str y=>
   obtain rfl:=Rep.str_iff.mp rx;obtain⟨tx,rfl⟩:∃t,a=Value.str _ t:=qx;obtain rfl:=Rep.str_iff.mp ry;obtain⟨ty,rfl⟩:∃t,b=Value.str _ t:=qy;unfold cL;exact⟨SeqAt.RcAt.str_str _ _ _ _,SeqAt.EqAt.str_str _ _ _ _,SeqAt.RcNeAt.str_str _ _ _ _⟩
  |lst y=>
   obtain rfl:=Rep.str_iff.mp rx;obtain⟨tx,rfl⟩:∃t,a=Value.str _ t:=qx;obtain⟨ly,_,_,rfl,rfl,_,_,_,hy,_⟩:=ba I ry qy;unfold cL;exact⟨SeqAt.RcAt.str_list _ _ hy hu,SeqAt.EqAt.str_list _ _ hy hu,SeqAt.RcNeAt.str_list _ _ hy hu⟩
  |tup y=>
   obtain rfl:=Rep.str_iff.mp rx;obtain⟨tx,rfl⟩:∃t,a=Value.str _ t:=qx;obtain⟨ly,_,_,rfl,rfl,_,_,_,hy,_⟩:=bj I ry qy;unfold cL;exact⟨SeqAt.RcAt.str_tuple _ _ hy hu,SeqAt.EqAt.str_tuple _ _ hy hu,SeqAt.RcNeAt.str_tuple _ _ hy hu⟩
  |dic ks ds=>exact absurd rfl (d2 ks ds)|exc c=>exact absurd rfl (x2 c)|ob k c=>exact absurd rfl (o2 k c)
 |lst x=>
  cases y with
  |non=>
   obtain⟨lx,_,_,rfl,rfl,_,_,_,hx,_⟩:=ba I rx qx;obtain rfl:=aT.mp ry;obtain rfl:b=Value.none:=qy;unfold cL;exact⟨SeqAt.RcAt.list_none  hx hu,SeqAt.EqAt.list_none  hx hu,SeqAt.RcNeAt.list_none  hx hu⟩
  |bl y=>
   obtain⟨lx,_,_,rfl,rfl,_,_,_,hx,_⟩:=ba I rx qx;obtain rfl:=aK.mp ry;obtain rfl:b=Value.bool _:=qy;unfold cL;exact⟨SeqAt.RcAt.list_bool _ hx hu,SeqAt.EqAt.list_bool _ hx hu,SeqAt.RcNeAt.list_bool _ hx hu⟩
  |int y=>
   obtain⟨lx,_,_,rfl,rfl,_,_,_,hx,_⟩:=ba I rx qx;obtain rfl:=aE.mp ry;obtain⟨ty,rfl⟩:∃t,b=Value.int _ t:=qy;unfold cL;exact⟨SeqAt.RcAt.list_int _ _ hx hu,SeqAt.EqAt.list_int _ _ hx hu,SeqAt.RcNeAt.list_int _ _ hx hu⟩
  |str y=>
   obtain⟨lx,_,_,rfl,rfl,_,_,_,hx,_⟩:=ba I rx qx;obtain rfl:=Rep.str_iff.mp ry;obtain⟨ty,rfl⟩:∃t,b=Value.str _ t:=qy;unfold cL;exact⟨SeqAt.RcAt.list_str _ _ hx hu,SeqAt.EqAt.list_str _ _ hx hu,SeqAt.RcNeAt.list_str _ _ hx hu⟩
  |lst y=>
   exact absurd ⟨rfl,rfl⟩ (n1 x y)
  |tup y=>
   obtain⟨lx,_,_,rfl,rfl,_,_,_,hx,_⟩:=ba I rx qx;obtain⟨ly,_,_,rfl,rfl,_,_,_,hy,_⟩:=bj I ry qy;unfold cL;exact⟨SeqAt.RcAt.list_tuple  hx hy hu,SeqAt.EqAt.list_tuple  hx hy hu,SeqAt.RcNeAt.list_tuple  hx hy hu⟩
  |dic ks ds=>exact absurd rfl (d2 ks ds)|exc c=>exact absurd rfl (x2 c)|ob k c=>exact absurd rfl (o2 k c)
 |tup x=>
  cases y with
  |non=>
   obtain⟨lx,_,_,rfl,rfl,_,_,_,hx,_⟩:=bj I rx qx;obtain rfl:=aT.mp ry;obtain rfl:b=Value.none:=qy;unfold cL;exact⟨SeqAt.RcAt.tuple_none  hx hu,SeqAt.EqAt.tuple_none  hx hu,SeqAt.RcNeAt.tuple_none  hx hu⟩
  |bl y=>
   obtain⟨lx,_,_,rfl,rfl,_,_,_,hx,_⟩:=bj I rx qx;obtain rfl:=aK.mp ry;obtain rfl:b=Value.bool _:=qy;unfold cL;exact⟨SeqAt.RcAt.tuple_bool _ hx hu,SeqAt.EqAt.tuple_bool _ hx hu,SeqAt.RcNeAt.tuple_bool _ hx hu⟩
  |int y=>
   obtain⟨lx,_,_,rfl,rfl,_,_,_,hx,_⟩:=bj I rx qx;obtain rfl:=aE.mp ry;obtain⟨ty,rfl⟩:∃t,b=Value.int _ t:=qy;unfold cL;exact⟨SeqAt.RcAt.tuple_int _ _ hx hu,SeqAt.EqAt.tuple_int _ _ hx hu,SeqAt.RcNeAt.tuple_int _ _ hx hu⟩
  |str y=>
   obtain⟨lx,_,_,rfl,rfl,_,_,_,hx,_⟩:=bj I rx qx;obtain rfl:=Rep.str_iff.mp ry;obtain⟨ty,rfl⟩:∃t,b=Value.str _ t:=qy;unfold cL;exact⟨SeqAt.RcAt.tuple_str _ _ hx hu,SeqAt.EqAt.tuple_str _ _ hx hu,SeqAt.RcNeAt.tuple_str _ _ hx hu⟩
  |lst y=>
   obtain⟨lx,_,_,rfl,rfl,_,_,_,hx,_⟩:=bj I rx qx;obtain⟨ly,_,_,rfl,rfl,_,_,_,hy,_⟩:=ba I ry qy;unfold cL;exact⟨SeqAt.RcAt.tuple_list  hx hy hu,SeqAt.EqAt.tuple_list  hx hy hu,SeqAt.RcNeAt.tuple_list  hx hy hu⟩
  |tup y=>
   exact absurd ⟨rfl,rfl⟩ (n2 x y)
  |dic ks ds=>exact absurd rfl (d2 ks ds)|exc c=>exact absurd rfl (x2 c)|ob k c=>exact absurd rfl (o2 k c)
 |dic ks ds=>exact absurd rfl (d1 ks ds)
 |exc c=>exact absurd rfl (x1 c)
 |ob k c=>exact absurd rfl (o1 k c)
def C0(I:Inv X pins σ H s):∀(n:Nat) (A:Around),A.units+n<cLine->∀(x y:D) (v u:V) (a b:Value),bb n x=true->bb n y=true->Rep X.K H x v->Rep X.K H y u->bq v a->bq u b ->
  SeqAt.RcAt A s a b (cL x y)/\SeqAt.EqAt A s a b (cL x y)/\SeqAt.RcNeAt A s a b (!(cL x y)):=by
 have nd:∀m ks ds,bb m (.dic ks ds)=true->False:=λm ks ds h=>by cases m<;>(unfold bb at h;cases h)
 have nx:∀m x,bb m (.exc x)=true->False:=λm x h=>by cases m<;>(unfold bb at h;cases h)
 have nb:∀m k x,bb m (.ob k x)=true->False:=λm k x h=>by cases m<;>(unfold bb at h;cases h)
 intro n
 induction n with
 |zero=>
  intro A hu x y v u a b sx sy rx ry qa qb;refine uh I (by omega) rx ry qa qb (λds ds' z=>?_) (λds ds' z=>?_) (λks ds z=>?_) (λks ds z=>?_) (λc z=>nx _ _ (z▸sx)) (λc z=>nx _ _ (z▸sy)) (λk c z=>nb _ _ _ (z▸sx)) (λk c z=>nb _ _ _ (z▸sy))
  .rw[z.1]at sx;unfold bb at sx;cases sx
  .rw[z.1]at sx;unfold bb at sx;cases sx
  .rw[z]at sx;exact nd _ _ _ sx
  .rw[z]at sy;exact nd _ _ _ sy
 |succ n ih=>
  intro A hu x y v u a b sx sy rx ry qa qb;have ih':∀(x y:D) (v u:V) (a b:Value),bb n x=true->bb n y=true->Rep X.K H x v->Rep X.K H y u->bq v a->bq u b->SeqAt.EqAt A.in1 s a b (cL x y) :=
   λx y v u a b s1 s2 r1 r2 q1 q2=>(ih A.in1 (by show A.units+1+n<cLine;omega) x y v u a b s1 s2 r1 r2 q1 q2).2.1
  by_cases t1:∃ds ds',x=.tup ds/\y=.tup ds'
  .obtain⟨xs,ys,rfl,rfl⟩:=t1
   obtain⟨l,vs,is,rfl,rfl,h1,h2,h3,h4,h5⟩:=bj I rx qa;obtain⟨m,us,js,rfl,rfl,k1,k2,k3,k4,k5⟩:=bj I ry qb;have hsx:=sx;have hsy:=sy;unfold bb at sx sy;have each:=uG (A:=A) ih' sx sy h2 k2 h3 k3;have eall:cL (.tup xs) (.tup ys)=((List.range (min is.toArray.size js.toArray.size)).all (λj=>cL (xs.getD j .non) (ys.getD j .non))&&is.toArray.size==js.toArray.size):=by
    rw[Ey];simp only[List.size_toArray,←h5,←k5]
    by_cases hl:xs.length=ys.length
    .rw[kH xs ys hl,←hl,Nat.min_self,beq_self_eq_true,Bool.and_true]
    .rw[pe xs ys hl,beq_eq_false_iff_ne.mpr hl,Bool.and_false]
   refine⟨?_,?_,?_⟩
   .rw[eall];exact SeqAt.RcAt.tuples h4 k4 (by omega) each
   .by_cases hlm:l=m
    .subst hlm
     rw[Rep.inj I (n+1) _ _ _ hsx hsy rx ry,gu (n+1) _ hsy];exact SeqAt.EqAt.same _
    .refine SeqAt.EqAt.of_refs hlm ?_
     rw[eall];exact SeqAt.RcAt.tuples h4 k4 (by omega) each
   .rw[eall];exact SeqAt.RcNeAt.tuples h4 k4 (by omega) each
  .by_cases t2:∃ds ds',x=.lst ds/\y=.lst ds'
   .obtain⟨xs,ys,rfl,rfl⟩:=t2
    obtain⟨l,vs,is,rfl,rfl,h1,h2,h3,h4,h5⟩:=ba I rx qa;obtain⟨m,us,js,rfl,rfl,k1,k2,k3,k4,k5⟩:=ba I ry qb;have hsx:=sx;have hsy:=sy;unfold bb at sx sy;have each:=uG (A:=A) ih' sx sy h2 k2 h3 k3
    by_cases hl:xs.length=ys.length
    .have hsz:is.toArray.size=js.toArray.size:=by simp only[List.size_toArray];omega
     have eall:cL (.lst xs) (.lst ys)=(List.range is.toArray.size).all (λj=>cL (xs.getD j .non) (ys.getD j .non)):=by
      rw[sP];simp only[List.size_toArray,←h5];exact kH xs ys hl
     refine⟨?_,?_,?_⟩
     .rw[eall];exact SeqAt.RcAt.lists h4 k4 hsz (by omega) each
     .by_cases hlm:l=m
      .subst hlm
       rw[Rep.inj I (n+1) _ _ _ hsx hsy rx ry,gu (n+1) _ hsy];exact SeqAt.EqAt.same _
      .refine SeqAt.EqAt.of_refs hlm ?_
       rw[eall];exact SeqAt.RcAt.lists h4 k4 hsz (by omega) each
     .rw[eall];exact SeqAt.RcNeAt.lists h4 k4 hsz (by omega) each
    .have hsz:(is.toArray.size != js.toArray.size)=true:=by simp only[List.size_toArray,bne_iff_ne,ne_eq];omega
     have eall:cL (.lst xs) (.lst ys)=false:=by rw[sP];exact pe xs ys hl
     rw[eall];refine⟨SeqAt.RcAt.lists_lengths h4 k4 hsz (by omega),?_,SeqAt.RcNeAt.lists_lengths h4 k4 hsz (by omega)⟩;refine SeqAt.EqAt.of_refs (λe=>?_) (SeqAt.RcAt.lists_lengths h4 k4 hsz (by omega));subst e;have:=Rep.inj I (n+1) _ _ _ hsx hsy rx ry;cases this;exact hl rfl
   .exact uh I (by omega) rx ry qa qb (λds ds' z=>t2 ⟨ds,ds',z⟩) (λds ds' z=>t1 ⟨ds,ds',z⟩) (λks ds z=>by rw[z]at sx;exact nd _ _ _ sx) (λks ds z=>by rw[z]at sy;exact nd _ _ _ sy) (λc z=>nx _ _ (z▸sx)) (λc z=>nx _ _ (z▸sy)) (λk c z=>nb _ _ _ (z▸sx)) (λk c z=>nb _ _ _ (z▸sy))
end
section
variable {X:Cx}{E:XK}
def fF(x y:D):ax D:=if bb 40 x=true/\bb 40 y=true then .ok (.bl (cL x y)) else .stuck
def ic(x y:D):ax D:=if bb 40 x=true/\bb 40 y=true then .ok (.bl (!(cL x y))) else .stuck
def Jt(K:W.Frag):R2:=λv u H Q=>∃x y,Rep K H x v/\Rep K H y u/\bb 40 x=true/\bb 40 y=true/\Q (.bl (cL x y)) H
def Jo(K:W.Frag):R2:=λv u H Q=>∃x y,Rep K H x v/\Rep K H y u/\bb 40 x=true/\bb 40 y=true/\Q (.bl (!(cL x y))) H
def c5(hu:X.A.units+64<cLine):fP X (compareOp .Eq) (Jt X.K):=by
 intro pins s σ H x y v u Q I rx ry h;obtain⟨d,d',h1,h2,s1,s2,q⟩:=h;exact(C0 I 40 X.A (by omega) d d' x y v u s1 s2 h1 h2 rx ry).1 _ _ _ _ ⟨.bl _,H,I,rfl,q⟩
def fJ(hu:X.A.units+64<cLine):fP X (compareOp .NotEq) (Jo X.K):=by
 intro pins s σ H x y v u Q I rx ry h;obtain⟨d,d',h1,h2,s1,s2,q⟩:=h;exact(C0 I 40 X.A (by omega) d d' x y v u s1 s2 h1 h2 rx ry).2.2 _ _ _ _ ⟨.bl _,H,I,rfl,q⟩
def eS:tP X.K E (Jt X.K) fF:=by
 intro x y v u H Ha Q hs r1 r2 q;unfold fF at q
 by_cases c:bb 40 x=true/\bb 40 y=true
 .rw[if_pos c]at q
  exact⟨x,y,r1.mono hs,r2.mono hs,c.1,c.2,q _ H Ha (aW.refl hs) (aK.mpr rfl)⟩
 .rw[if_neg c]at q;exact q.elim
def i8:tP X.K E (Jo X.K) ic:=by
 intro x y v u H Ha Q hs r1 r2 q;unfold ic at q
 by_cases c:bb 40 x=true/\bb 40 y=true
 .rw[if_pos c]at q
  exact⟨x,y,r1.mono hs,r2.mono hs,c.1,c.2,q _ H Ha (aW.refl hs) (aK.mpr rfl)⟩
 .rw[if_neg c]at q;exact q.elim
open Classical in
noncomputable def kh(K:W.Frag) (H:Hp) (ds:ac) (x:D) (u:Value):Bool :=
 if h:∃d,d∈ds/\∃v,Rep K H d v/\bq v u then cL h.choose x else false
def yc{pins:List (Addr×Obj)}{σ:L2.St}{H:Hp}{s:Shared}(I:Inv X pins σ H s){ds:ac}{x d:D}{v:V}{u:Value}(sd:ds.all (bb 40)=true)(hd:d∈ds)(r:Rep X.K H d v)(q:bq v u):kh X.K H ds x u=cL d x:=by
 have h:∃d,d∈ds/\∃v,Rep X.K H d v/\bq v u:=⟨d,hd,v,r,q⟩
 unfold kh;rw[dif_pos h];obtain⟨h1,v',h2,h3⟩:=h.choose_spec;have e:v'=v:=h3.inj q;subst e;rw[Rep.inj I 40 _ _ _ (List.all_eq_true.mp sd _ h1) (List.all_eq_true.mp sd _ hd) h2 r]
def vT(K:W.Frag)(neg:Bool):R2:=λv u H Q=>∃x ds,Rep K H x v/\(Rep K H (.lst ds) u∨Rep K H (.tup ds) u)/\bb 40 x=true/\ds.all (bb 40)=true/\Q (.bl (if neg then !(ds.any λd=>cL d x) else ds.any λd=>cL d x)) H
theorem jR{pins:List (Addr×Obj)}{σ:L2.St}{H:Hp}{s:Shared}(I:Inv X pins σ H s){x:D}{es:ac}(se:es.all (bb 40)=true):∀{ds:ac}{vs:ad}{us:List Value},(∀d∈ds,d∈es)->Reps X.K H ds vs->bo vs us->us.any (kh X.K H es x)=ds.any λd=>cL d x
 |[],_,_,_,h,q=>by
  rw[Reps.nil_iff.mp h]at q;cases q;rfl
 |d::ds,_,_,hm,h,q=>by
  obtain⟨v,r,rfl,h1,h2⟩:=aD.mp h;cases q with
  |cons q1 q2=>
   rw[List.any_cons,List.any_cons,yc I se (hm d List.mem_cons_self) h1 q1,jR I se (λx hx=>hm x (List.mem_cons_of_mem _ hx)) h2 q2]
theorem iy{pins:List (Addr×Obj)}{σ:L2.St}{H:Hp}{s:Shared}(I:Inv X pins σ H s)(hu:X.A.units+64<cLine){x:D}{v:V}{u:Value}(sx:bb 40 x=true)(rx:Rep X.K H x v)(qx:bq v u){es:ac}(se:es.all (bb 40)=true):∀{ds:ac}{vs:ad}{us:List Value},(∀d∈ds,d∈es)->Reps X.K H ds vs->bo vs us->∀y∈us,SeqAt.EqAt X.A.in1 s y u (kh X.K H es x y)
 |[],_,_,_,h,q=>λy hy=>by
  rw[Reps.nil_iff.mp h]at q;cases q;cases hy
 |d::ds,_,_,hm,h,q=>λy hy=>by
  obtain⟨w,r,rfl,h1,h2⟩:=aD.mp h;cases q with
  |cons q1 q2=>
   rcases List.mem_cons.mp hy with rfl|hy
   .rw[yc I se (hm d List.mem_cons_self) h1 q1]
    exact(C0 I 40 X.A.in1 (by show X.A.units+1+40<cLine;omega) d x w v _ u (List.all_eq_true.mp se _ (hm d List.mem_cons_self)) sx h1 rx q1 qx).2.1
   .exact iy I hu sx rx qx se (λx hx=>hm x (List.mem_cons_of_mem _ hx)) h2 q2 y hy
def GL(hu:X.A.units+64<cLine):fP X (compareOp .In) (vT X.K false):=by
 intro pins s σ H x y v u Q I rx ry h;obtain⟨d,ds,h1,h2,s1,s2,q⟩:=h;rcases h2 with h2|h2
 .obtain⟨a,vs,its,rfl,rfl,k1,k2,k3,k4,k5⟩:=ba I h2 ry
  refine SeqAt.in_listAt (kh X.K H ds d) k4 (λw hw=>iy I hu s1 h1 rx s2 (λ_ z=>z) k2 k3 w (by simpa using hw)) ⟨.bl _,H,I,rfl,?_⟩;rw[show its.toArray.any (kh X.K H ds d)=its.any (kh X.K H ds d) by simp,jR I s2 (λ_ z=>z) k2 k3];exact q
 .obtain⟨a,vs,its,rfl,rfl,k1,k2,k3,k4,k5⟩:=bj I h2 ry
  refine SeqAt.in_tupleAt (kh X.K H ds d) k4 (λw hw=>iy I hu s1 h1 rx s2 (λ_ z=>z) k2 k3 w (by simpa using hw)) ⟨.bl _,H,I,rfl,?_⟩;rw[show its.toArray.any (kh X.K H ds d)=its.any (kh X.K H ds d) by simp,jR I s2 (λ_ z=>z) k2 k3];exact q
def yQ(hu:X.A.units+64<cLine):fP X (compareOp .NotIn) (vT X.K true):=by
 intro pins s σ H x y v u Q I rx ry h;obtain⟨d,ds,h1,h2,s1,s2,q⟩:=h;rcases h2 with h2|h2
 .obtain⟨a,vs,its,rfl,rfl,k1,k2,k3,k4,k5⟩:=ba I h2 ry
  refine SeqAt.notIn_listAt (kh X.K H ds d) k4 (λw hw=>iy I hu s1 h1 rx s2 (λ_ z=>z) k2 k3 w (by simpa using hw)) ⟨.bl _,H,I,rfl,?_⟩;rw[show its.toArray.any (kh X.K H ds d)=its.any (kh X.K H ds d) by simp,jR I s2 (λ_ z=>z) k2 k3];exact q
 .obtain⟨a,vs,its,rfl,rfl,k1,k2,k3,k4,k5⟩:=bj I h2 ry
  refine SeqAt.notIn_tupleAt (kh X.K H ds d) k4 (λw hw=>iy I hu s1 h1 rx s2 (λ_ z=>z) k2 k3 w (by simpa using hw)) ⟨.bl _,H,I,rfl,?_⟩;rw[show its.toArray.any (kh X.K H ds d)=its.any (kh X.K H ds d) by simp,jR I s2 (λ_ z=>z) k2 k3];exact q
def KN(i j:Str):Bool:=!(Builtin.Str.occurrences j i 0 j.length 1).isEmpty
noncomputable def zj(x y:D):Option Bool:=match y with
 |.lst ds=>if bb 40 x=true/\ds.all (bb 40)=true then some (ds.any λd=>cL d x) else none
 |.tup ds=>if bb 40 x=true/\ds.all (bb 40)=true then some (ds.any λd=>cL d x) else none
 |.str j=>match x with
  |.str i=>some (KN i j)
  |_=>none
 |_=>none
def wO(x y:D):ax D:=match zj x y with
 |some b=>.ok (.bl b)
 |none=>.stuck
def bN(x y:D):ax D:=match zj x y with
 |some b=>.ok (.bl (!b))
 |none=>.stuck
def AI(neg:Bool):R2:=λx y H Q=>∃i j,x=.str i/\y=.str j/\Q (.bl (if neg then !(KN i j) else KN i j)) H
def xD(hu:X.A.units+64<cLine):fP X (compareOp .In) (λv u H Q=>vT X.K false v u H Q∨AI false v u H Q):=fP.or (GL hu) (by
 intro pins s σ H x y v u Q I rx ry h;obtain⟨i,j,rfl,rfl,q⟩:=h;exact yR pins s σ H _ _ v u Q I rx ry ⟨i,j,rfl,rfl,q⟩)
def eQ(hu:X.A.units+64<cLine):fP X (compareOp .NotIn) (λv u H Q=>vT X.K true v u H Q∨AI true v u H Q):=fP.or (yQ hu) (by
 intro pins s σ H x y v u Q I rx ry h;obtain⟨i,j,rfl,rfl,q⟩:=h;exact rW pins s σ H _ _ v u Q I rx ry ⟨i,j,rfl,rfl,q⟩)
def uw{neg:Bool}{x y:D}{v u:V}{H Ha:Hp}{Q:VK}(hs:aF Ha H)(r1:Rep X.K Ha x v)(r2:Rep X.K Ha y u)
  (q:post X.K E H Ha (match zj x y with|some b=>.ok (.bl (if neg then !b else b))|none=>.stuck) Q):vT X.K neg v u H Q∨AI neg v u H Q:=by
 cases y with
 |lst ds=>
  simp only[zj]at q
  by_cases c:bb 40 x=true/\ds.all (bb 40)=true
  .rw[if_pos c]at q
   exact .inl ⟨x,ds,r1.mono hs,.inl (r2.mono hs),c.1,c.2,q _ H Ha (aW.refl hs) (aK.mpr rfl)⟩
  .rw[if_neg c]at q;exact q.elim
 |tup ds=>
  simp only[zj]at q
  by_cases c:bb 40 x=true/\ds.all (bb 40)=true
  .rw[if_pos c]at q
   exact .inl ⟨x,ds,r1.mono hs,.inr (r2.mono hs),c.1,c.2,q _ H Ha (aW.refl hs) (aK.mpr rfl)⟩
  .rw[if_neg c]at q;exact q.elim
 |str j=>
  cases x with|str i=>exact .inr ⟨i,j,Rep.str_iff.mp r1,Rep.str_iff.mp r2,q _ H Ha (aW.refl hs) (aK.mpr rfl)⟩| _=>exact q.elim
 |_=>exact q.elim
def xG:tP X.K E (λv u H Q=>vT X.K false v u H Q∨AI false v u H Q) wO:=λx y v u H Ha Q hs r1 r2 q=>uw (neg:=false) (E:=E) hs r1 r2 (by
 unfold wO at q;cases e:zj x y with
 |none=>rw[e]at q;exact q
 |some b=>rw[e]at q;exact q)
def eR:tP X.K E (λv u H Q=>vT X.K true v u H Q∨AI true v u H Q) bN:=λx y v u H Ha Q hs r1 r2 q=>uw (neg:=true) (E:=E) hs r1 r2 (by
 unfold bN at q;cases e:zj x y with
 |none=>rw[e]at q;exact q
 |some b=>rw[e]at q;exact q)
end
@[irreducible] def B9:Nat:=2 ^ 9000
@[irreducible] def vD:Nat:=2 ^ 13500
@[irreducible] def Cq:Nat:=2 ^ 60000
theorem Cp:B9=2 ^ 9000:=by unfold B9;rfl
def tM:vD=2 ^ 13500:=by unfold vD;rfl
def xb:Cq=2 ^ 60000:=by unfold Cq;rfl
def oM{n k:Nat}(h:n<2 ^ k)(hk:0<k):n.log2<k:=by
 by_cases h0:n=0
 .rw[h0]
  have:Nat.log2 0=0:=by decide
  omega
 .exact(Nat.log2_lt h0).mpr h
def JO{x y:Int}(h:y.natAbs<B9):Builtin.divisionGoesByPylong x y=false:=by
 rw[Cp]at h;exact PyProof.noPylong_of_log2 (oM h (by omega))
def GR{x y:Int}(h:x.natAbs<vD):Builtin.divisionGoesByPylong x y=false:=by
 rw[tM]at h;have hx:x.natAbs.log2<13500:=oM h (by omega);show(decide ((if y==0 then 0 else y.natAbs.log2 / 30+1) > 300)&&decide ((if x==0 then 0 else x.natAbs.log2 / 30+1) > (if y==0 then 0 else y.natAbs.log2 / 30+1)+150))=false;have k:(if x==0 then 0 else x.natAbs.log2 / 30+1)<=450:=by
  by_cases hx0:(x==0)=true
  .rw[if_pos hx0];omega
  .rw[if_neg hx0];omega
 by_cases c:(if y==0 then 0 else y.natAbs.log2 / 30+1) > 300
 .rw[Bool.and_eq_false_iff];right;exact decide_eq_false (by omega)
 .rw[Bool.and_eq_false_iff];left;exact decide_eq_false c
def gz(i j:Int):Bool:=decide (j≠0)&&(decide (j.natAbs<B9)||decide (i.natAbs<vD))
def fE(i j:Int):Bool:=decide (i.natAbs<Cq)&&decide (j.natAbs<Cq)
def gz.ok{i j:Int}(h:gz i j=true):j≠0/\Builtin.divisionGoesByPylong i j=false:=by
 unfold gz at h;rw[Bool.and_eq_true,Bool.or_eq_true]at h;refine⟨of_decide_eq_true h.1,?_⟩;rcases h.2 with h|h
 .exact JO (of_decide_eq_true h)
 .exact GR (of_decide_eq_true h)
def fE.ok{i j:Int}(h:fE i j=true):IntMulOk i j:=by
 unfold fE at h;rw[Bool.and_eq_true]at h;have h1:=of_decide_eq_true h.1;have h2:=of_decide_eq_true h.2;rw[xb]at h1 h2;exact PyProof.Rows.mulOk_of_bits (m:=60000) (n:=60000) (PySem.intBits_le_iff.mpr h1) (PySem.intBits_le_iff.mpr h2) (by decide)
section
variable {X:Cx}{E:XK}{e a b c:Expr}{es:List Expr}{f g k:al}{fa:Ev->ax (ac)}{pos:Pos}
def bG{K:W.Frag}{H Ha:Hp}{d:D}{v:V}{Q:VK}(hs:aF Ha H)(q:post K E H Ha (.ok d) Q)(r:Rep K Ha d v):Q v H:=q v H Ha (aW.refl hs) r
def sE(c:Int->Int->Bool)(g:Int->Int->D)(x y:D):ax D:=match x,y with
 |.int i,.int j=>if c i j=true then .ok (g i j) else .stuck
 |_,_=>.stuck
def sv{C:Int->Int->Prop}{c:Int->Int->Bool}{gv:Int->Int->V}{g:Int->Int->D}(hc:∀i j,c i j=true->C i j)(hg:∀K H i j,Rep K H (g i j) (gv i j)):tP X.K E (rI C gv) (sE c g):=by
 intro x y v u H Ha Q hs r1 r2 q;unfold sE at q;cases x with
 |int i=>
  cases y with
  |int j=>
   by_cases h:c i j=true
   .simp only[if_pos h]at q
    exact⟨i,j,aE.mp r1,aE.mp r2,hc i j h,bG hs q (hg _ _ i j)⟩
   .simp only[if_neg h]at q;exact q.elim
  |_=>exact q.elim
 |_=>exact q.elim
def dQ{gv:Int->Int->V}{g:Int->Int->D}(hg:∀K H i j,Rep K H (g i j) (gv i j)):tP X.K E (AJ gv) (sE (λ_ _=>true) g):=by
 intro x y v u H Ha Q hs r1 r2 q;unfold sE at q;cases x with
 |int i=>
  cases y with|int j=>simp only[if_pos]at q;exact⟨i,j,aE.mp r1,aE.mp r2,bG hs q (hg _ _ i j)⟩| _=>exact q.elim
 |_=>exact q.elim
def ri{K:W.Frag}{H:Hp}(n:Int):Rep K H (.int n) (.int n):=aE.mpr rfl
def rb{K:W.Frag}{H:Hp}(n:Bool):Rep K H (.bl n) (.bl n):=aK.mpr rfl
abbrev lE:=sE (λ_ _=>true) λi j=>.int (i-j)
abbrev sY:=sE gz λi j=>.int (i.fdiv j)
abbrev du:=sE (λ_ j=>decide (j≠0)) λi j=>.int (i.fmod j)
abbrev qt:=sE (λi j=>decide (0<=j)&&decide (j<=1000000)&&decide (i.natAbs<18446744073709551616)) λi j=>.int (i ^ j.toNat)
abbrev FC:=sE (λ_ _=>true) λi j=>.bl (decide (i<j))
abbrev IF:=sE (λ_ _=>true) λi j=>.bl (decide (i<=j))
abbrev Ks:=sE (λ_ _=>true) λi j=>.bl (decide (j<i))
abbrev KP:=sE (λ_ _=>true) λi j=>.bl (decide (j<=i))
def Dt:fP X (binaryOp .Mult) (rI IntMulOk λi j=>.int (i*j)):=JK λ_ _ _ _ _ _ _ hc q=>mul_int q hc
def Dv:fP X (binaryOp .FloorDiv) (rI (λi j=>j≠0/\Builtin.divisionGoesByPylong i j=false) λi j=>.int (i.fdiv j)):=JK λ_ _ _ _ _ _ _ hc q=>floordiv_int hc.1 q (.inl hc.2)
def sV(ha:DE X E a f)(hb:DE X E b g):DE X E (.BinOp a .Sub b pos) (aa f g lE):=mQ GG (dQ λ_ _ _ _=>ri _) ha hb
def pq(ha:DE X E a f)(hb:DE X E b g):DE X E (.BinOp a .FloorDiv b pos) (aa f g sY):=mQ Dv (sv (λ_ _ h=>gz.ok h) λ_ _ _ _=>ri _) ha hb
def cO(ha:DE X E a f)(hb:DE X E b g):DE X E (.BinOp a .Mod b pos) (aa f g du):=mQ Du (sv (λ_ _ h=>of_decide_eq_true h) λ_ _ _ _=>ri _) ha hb
def pk(ha:DE X E a f)(hb:DE X E b g):DE X E (.BinOp a .Pow b pos) (aa f g qt):=mQ GJ (sv (λi j h=>by
 rw[Bool.and_eq_true,Bool.and_eq_true]at h;exact⟨of_decide_eq_true h.1.1,of_decide_eq_true h.1.2,of_decide_eq_true h.2⟩) λ_ _ _ _=>ri _) ha hb
def nm{op:CmpOp}{b:Expr}(h1:op≠.In:=by decide)(h2:op≠.NotIn:=by decide):behindInMarks op b=false:=Bl _ h1 h2
def qu(x:D):ax D:=match x with
 |.int i=>.ok (.int (-i))
 |_=>.stuck
def wN(ha:DE X E a f):DE X E (.UnaryOp .USub a pos) (aS f qu):=Kp vH (by
 intro x v H Ha Q hs r q;cases x with
 |int i=>exact⟨i,aE.mp r,bG hs q (ri _)⟩
 |_=>exact q.elim) ha
def xF:fP X (binaryOp .Add) (λx y H Q=>∃l b xs zs,x=.ref l/\y=.ref b/\dF X.K H l xs/\dF X.K H b zs/\xs.length+zs.length<=sizeLine/\∀p,H p=none->Q (.ref p) (upd H p (.lst (xs++zs)))):=by
 intro pins s σ H x y v u Q I rx ry h;obtain⟨l,b,xs,zs,rfl,rfl,hH,hB,hz,q⟩:=h;cases rx;cases ry;obtain⟨its,r,pl,z⟩:=I.list hH;obtain⟨its2,r2,pl2,z2⟩:=I.list hB;obtain⟨⟨cls,dd,data,sl⟩,ho,hc,n,hd⟩:=pl.isList;obtain⟨⟨cls2,dd2,data2,sl2⟩,ho2,hc2,n2,hd2⟩:=pl2.isList;simp only at hc hd hc2 hd2;subst hc hd hc2 hd2;have e:its.toArray++its2.toArray=(its++its2).toArray:=by simp
 have l1:=r.length;have l2:=r2.length;refine concat_meets ⟨_,ho,rfl⟩ ⟨_,ho2,rfl⟩ noFill_list_add seq_list_add PySem.F.slot_list_add PySem.F.entry_list_add (PySem.F.args_list_add_2 _ _) (list_addW l b its.toArray its2.toArray n n2 dd dd2 sl sl2 (by simp only[List.size_toArray];omega)) ⟨ho,ho2,?_⟩;rw[e];exact⟨.ref _,_,I.lnew (t':=s.toks) (r.append r2) (by rw[List.length_append];omega),rfl,q _ I.fresh⟩
noncomputable def bC(x y:D):ax D:=match x,y with
 |.int i,.int j=>.ok (.int (i+j))
 |.str i,.str j=>if i.length+j.length<=line then .ok (.str (i++j)) else .stuck
 |.lst ds,.lst es=>if ds.length+es.length<=line then .ok (.lst (ds++es)) else .stuck
 |.tup ds,.tup es=>if ds.isEmpty=false/\ds.length+es.length<=line then .ok (.tup (ds++es)) else .stuck
 |_,_=>.stuck
def bH(ha:DE X E a f)(hb:DE X E b g):DE X E (.BinOp a .Add b pos) (aa f g bC):=mQ (fP.or GO (fP.or wa (fP.or xF Dw))) (by
 intro x y v u H Ha Q hs r1 r2 q;unfold bC at q;cases x with
 |int i=>
  cases y with|int j=>exact .inl ⟨i,j,aE.mp r1,aE.mp r2,bG hs q (ri _)⟩| _=>exact q.elim
 |str i=>
  cases y with
  |str j=>
   by_cases h:i.length+j.length<=line
   .simp only[if_pos h]at q
    exact .inr (.inl ⟨i,j,Rep.str_iff.mp r1,Rep.str_iff.mp r2,eB h,bG hs q (Rep.str_iff.mpr rfl)⟩)
   .simp only[if_neg h]at q;exact q.elim
  |_=>exact q.elim
 |lst ds=>
  cases y with
  |lst es=>
   by_cases h:ds.length+es.length<=line
   .simp only[if_pos h]at q
    obtain⟨l,vs,rfl,h1,h2⟩:=aB.mp r1;obtain⟨m,us,rfl,k1,k2⟩:=aB.mp r2;refine .inr (.inr (.inl ⟨l,m,vs,us,rfl,rfl,aF.sqL hs h1,aF.sqL hs k1,by rw[←h2.length,←k2.length];exact eB h,λp hp=>?_⟩));exact q _ _ _ (aO hs hp) (aB.mpr ⟨p,_,rfl,dF.of aG,(h2.app k2).mono (aO hs hp).z⟩)
   .simp only[if_neg h]at q;exact q.elim
  |_=>exact q.elim
 |tup ds=>
  cases y with
  |tup es=>
   by_cases h:ds.isEmpty=false/\ds.length+es.length<=line
   .simp only[if_pos h]at q
    obtain⟨l,vs,rfl,h1,h2⟩:=aH.mp r1;obtain⟨m,us,rfl,k1,k2⟩:=aH.mp r2;refine .inr (.inr (.inr ⟨l,m,vs,us,rfl,rfl,aF.sqT hs h1,aF.sqT hs k1,λz=>?_,by rw[←h2.length,←k2.length];exact eB h.2,λz=>?_,λz p hp=>?_⟩))
    .have:=h2.length
     rw[z]at this;have e:ds=[]:=List.length_eq_zero_iff.mp this;rw[e]at h;exact absurd h.1 (by decide)
    .have:=k2.length
     rw[z]at this;have e:es=[]:=List.length_eq_zero_iff.mp this;rw[e,List.append_nil]at q;exact bG hs q r1
    .exact q _ _ _ (aO hs hp) (aH.mpr ⟨p,_,rfl,fS.of aG,(h2.app k2).mono (aO hs hp).z⟩)
   .simp only[if_neg h]at q;exact q.elim
  |_=>exact q.elim
 |_=>exact q.elim) ha hb
noncomputable def aJ(x y:D):ax D:=match y with
 |.int i=>match x with
  |.lst ds=>match atI ds i with
   |some d=>.ok d
   |none=>.stuck
  |.tup ds=>match atI ds i with
   |some d=>.ok d
   |none=>.stuck
  |.str z=>if z.length<=line then match atI z.cps.toList i with
   |some c=>.ok (.str ⟨#[c]⟩)
   |none=>.stuck else .stuck
  |_=>.stuck
 |_=>.stuck
def Reps.atI{K:W.Frag}{H:Hp}{ds:ac}{vs:ad}{i:Int}{d:D}(h:Reps K H ds vs)(e:atI ds i=some d):∃v,L2.atI vs i=some v/\Rep K H d v:=by
 unfold L2.atI at e ⊢;rw[←h.length];cases q:Fw ds.length i with
 |none=>rw[q]at e;cases e
 |some j=>
  rw[q]at e;exact h.get e
def JM:tP X.K E (Ma X.K) aJ:=by
 intro x y v u H Ha Q hs r1 r2 q;unfold aJ at q;cases y with
 |int i=>
  cases x with
  |lst ds=>
   obtain⟨l,vs,rfl,h1,h2⟩:=aB.mp r1;cases e:atI ds i with
   |none=>simp only[e]at q;exact q.elim
   |some d=>
    simp only[e]at q;obtain⟨w,e1,e2⟩:=h2.atI e;exact .inl ⟨l,vs,i,w,rfl,aE.mp r2,aF.sqL hs h1,e1,bG hs q e2⟩
  |tup ds=>
   obtain⟨l,vs,rfl,h1,h2⟩:=aH.mp r1;cases e:atI ds i with
   |none=>simp only[e]at q;exact q.elim
   |some d=>
    simp only[e]at q;obtain⟨w,e1,e2⟩:=h2.atI e;exact .inr (.inl ⟨l,vs,i,w,rfl,aE.mp r2,aF.sqT hs h1,e1,bG hs q e2⟩)
  |str z=>
   by_cases hz:z.length<=line
   .simp only[if_pos hz]at q
    cases e:atI z.cps.toList i with
    |none=>simp only[e]at q;exact q.elim
    |some c=>
     simp only[e]at q;exact .inr (.inr ⟨z,i,c,Rep.str_iff.mp r1,aE.mp r2,eB hz,e,bG hs q (Rep.str_iff.mpr rfl)⟩)
   .simp only[if_neg hz]at q;exact q.elim
  |_=>exact q.elim
 |_=>exact q.elim
def ay(ha:DE X E a f)(hb:DE X E b g)(hs:lT b:=by intro _ _;rfl):DE X E (.Subscript a b pos) (aa f g aJ):=Kr G3 JM ha hb hs
def dH:Ev->ax (Option Int):=λ_=>.ok none
def bZ(f:al):Ev->ax (Option Int):=λρ=>(f ρ).bind λx=>match x with
 |.int i=>.ok (some i)
 |_=>.stuck
def Lk(K:W.Frag)(E:XK)(f:Ev->ax (Option Int)):TO:=λσ H Q=>∃Ha ρ,aF Ha H/\ez K Ha σ ρ/\match f ρ with
 |.ok o=>∀H' Ha',aW H Ha H' Ha'->Q o H'
 |.exn x=>∀C ox H' Ha',aW H Ha H' Ha'->rE K Ha' x C ox->E C ox H'
 |.stuck=>False
structure DO (X:Cx) (E:XK) (e:Option Expr) (f:Ev->ax (Option Int)):Prop where
 o:PO X e (Lk X.K E f)
def xy{eo:Option Expr}{t t':TO}(h:PO X eo t)(w:∀σ H Q,t' σ H Q->t σ H Q):PO X eo t':=λpins s σ H Q I q=>h pins s σ H Q I (w σ H Q q)
def fV:DO X E none dH:=⟨xy De λσ H Q ⟨Ha,ρ,hs,hr,q⟩=>q H Ha (aW.refl hs)⟩
def cw(ha:DE X E a f):DO X E (some a) (bZ f):=by
 refine⟨?_⟩;refine xy (Dd ha.o) λσ H Q z9=>?_;obtain⟨Ha,ρ,hs,hr,q⟩:=z9;refine⟨Ha,ρ,hs,hr,?_⟩
 unfold bZ at q;cases e1:f ρ with
 |stuck|exn x=>rw[e1]at q;exact q
 |ok d=>
  rw[e1]at q;intro v H1 H01 g1 r1;cases d with|int i=>exact⟨i,aE.mp r1,q H1 H01 g1⟩| _=>exact q.elim
def jL(xs:ac)(lo hi:Option Int):ac:=(xs.drop (HT.sIx xs.length 0 lo)).take (HT.sIx xs.length xs.length hi-HT.sIx xs.length 0 lo)
def Reps.cut{K:W.Frag}{H:Hp}{ds:ac}{vs:ad}(h:Reps K H ds vs)(lo hi:Option Int):Reps K H (jL ds lo hi) (va vs lo hi):=by
 unfold jL va;rw[←h.length];exact(h.drop _).take _
def t9{r:V->Option Int->Option Int->Hp->VK->Prop}{lo hi:Ev->ax (Option Int)}{m:D->Option Int->Option Int->ax D}
  (ho:∀x v l h H Ha Q,aF Ha H->Rep X.K Ha x v->post X.K E H Ha (m x l h) Q->r v l h H Q)(σ:L2.St)(H:Hp)(Q:VK)
  (h:tD X.K E (λρ=>(f ρ).bind λx=>(lo ρ).bind λl=>(hi ρ).bind λh=>m x l h) σ H Q):L4 r (tD X.K E f) (Lk X.K E lo) (Lk X.K E hi) σ H Q:=by
 obtain⟨Ha,ρ,hs,hr,q⟩:=h;refine⟨Ha,ρ,hs,hr,?_⟩;replace q:post X.K E H Ha ((f ρ).bind λx=>(lo ρ).bind λl=>(hi ρ).bind λh=>m x l h) Q:=q;cases e1:f ρ with
 |stuck|exn x=>rw[e1]at q;exact q
 |ok x=>
  rw[e1]at q;intro v H1 H01 g1 r1;refine⟨H01,ρ,g1.sub,hr.mono g1.z,?_⟩;replace q:post X.K E H Ha ((lo ρ).bind λl=>(hi ρ).bind λh=>m x l h) Q:=q;replace q:=q.grow g1;cases e2:lo ρ with
  |stuck|exn x=>rw[e2]at q;exact q
  |ok l=>
   rw[e2]at q;intro H2 H02 g2;refine⟨H02,ρ,g2.sub,(hr.mono g1.z).mono g2.z,?_⟩;replace q:post X.K E H1 H01 ((hi ρ).bind λh=>m x l h) Q:=q;replace q:=q.grow g2;cases e3:hi ρ with
   |stuck|exn x=>rw[e3]at q;exact q
   |ok h=>
    rw[e3]at q;intro H3 H03 g3;exact ho x v l h H3 H03 Q g3.sub ((r1.mono g2.z).mono g3.z) (post.grow (r:=m x l h) q g3)
def m1(m:D->ax D)(ds:ac):ax D:=match ds with
 |[x]=>m x
 |_=>.stuck
def m2(m:D->D->ax D)(ds:ac):ax D:=match ds with
 |[x,y]=>m x y
 |_=>.stuck
def pJ{r:ad->Hp->VK->Prop}{m:D->ax D}(h:∀x v H Ha Q,aF Ha H->Rep X.K Ha x v->post X.K E H Ha (m x) Q->r [v] H Q):iG X E r (m1 m):=by
 intro ds vs H Ha Q hs hr q;unfold m1 at q
 match ds,hr,q with
 |[x],hr,q=>
  obtain⟨v,r',rfl,h1,h2⟩:=aD.mp hr;rw[Reps.nil_iff.mp h2];exact h x v H Ha Q hs h1 q
 |[],_,q=>exact q.elim
 |_::_::_,_,q=>exact q.elim
def Kw{r:ad->Hp->VK->Prop}{m:D->D->ax D}(h:∀x y v u H Ha Q,aF Ha H->Rep X.K Ha x v->Rep X.K Ha y u->post X.K E H Ha (m x y) Q->r [v,u] H Q):iG X E r (m2 m):=by
 intro ds vs H Ha Q hs hr q;unfold m2 at q
 match ds,hr,q with
 |[x,y],hr,q=>
  obtain⟨v,r',rfl,h1,h2⟩:=aD.mp hr;obtain⟨u,r'',rfl,h3,h4⟩:=aD.mp h2;rw[Reps.nil_iff.mp h4];exact h x y v u H Ha Q hs h1 h3 q
 |[],_,q=>exact q.elim
 |[_],_,q=>exact q.elim
 |_::_::_::_,_,q=>exact q.elim
def u6(x:D):ax D:=match x with
 |.int i=>.ok (.int (if i<0 then -i else i))
 |_=>.stuck
def eO(x:D):ax D:=match x with
 |.lst ds=>.ok (.int ds.length)
 |.tup ds=>.ok (.int ds.length)
 |.str z=>if z.length<=line then .ok (.int z.length) else .stuck
 |_=>.stuck
def mi(x:D):ax D:=match x with
 |.int i=>.ok (.int i)
 |.bl b=>.ok (.int (if b then 1 else 0))
 |_=>.stuck
def iA(x:D):ax D:=match x with
 |.lst ds=>.ok (.lst ds)
 |.tup ds=>.ok (.lst ds)
 |_=>.stuck
def pG:iG X E (λxs H Q=>∃i,xs=[.int i]/\Q (.int (if i<0 then -i else i)) H) (m1 u6):=pJ λx v H Ha Q hs r q=>by
 cases x with|int i=>exact⟨i,by rw[aE.mp r],bG hs q (ri _)⟩| _=>exact q.elim
def dm:iG X E (λxs H Q=>∃x n,xs=[x]/\KA X.K x H n/\Q (.int n) H) (m1 eO):=pJ λx v H Ha Q hs r q=>by
 cases x with
 |lst ds=>
  obtain⟨p,vs,rfl,h1,h2⟩:=aB.mp r;refine⟨_,vs.length,rfl,.inl ⟨vs,aF.sqL hs h1,rfl⟩,?_⟩;rw[←h2.length];exact bG hs q (ri _)
 |tup ds=>
  obtain⟨p,vs,rfl,h1,h2⟩:=aH.mp r;refine⟨_,vs.length,rfl,.inr ⟨vs,aF.sqT hs h1,rfl⟩,?_⟩;rw[←h2.length];exact bG hs q (ri _)
 |str z=>
  unfold eO at q
  by_cases hz:z.length<=line
  .simp only[if_pos hz]at q
   rw[Rep.str_iff.mp r];exact⟨_,z.length,rfl,⟨eB hz,rfl⟩,bG hs q (ri _)⟩
  .simp only[if_neg hz]at q;exact q.elim
 |_=>exact q.elim
def Ij:iG X E (λxs H Q=>(∃i,xs=[.int i]/\Q (.int i) H)∨∃k,xs=[.bl k]/\Q (.int (if k then 1 else 0)) H) (m1 mi):=pJ λx v H Ha Q hs r q=>by
 cases x with|int i=>exact .inl ⟨i,by rw[aE.mp r],bG hs q (ri _)⟩|bl i=>exact .inr ⟨i,by rw[aK.mp r],bG hs q (ri _)⟩| _=>exact q.elim
def EW:iG X E (λxs H Q=>∃p ys,xs=[.ref p]/\(dF X.K H p ys∨fS X.K H p ys)/\∀l,H l=none->Q (.ref l) (upd H l (.lst ys))) (m1 iA):=pJ λx v H Ha Q hs r q=>by
 cases x with
 |lst ds=>
  obtain⟨p,vs,rfl,h1,h2⟩:=aB.mp r;exact⟨p,vs,rfl,.inl (aF.sqL hs h1),λn hn=>q _ _ _ (aO hs hn) (aB.mpr ⟨n,_,rfl,dF.of aG,h2.mono (aO hs hn).z⟩)⟩
 |tup ds=>
  obtain⟨p,vs,rfl,h1,h2⟩:=aH.mp r;exact⟨p,vs,rfl,.inr (aF.sqT hs h1),λn hn=>q _ _ _ (aO hs hn) (aB.mpr ⟨n,_,rfl,dF.of aG,h2.mono (aO hs hn).z⟩)⟩
 |_=>exact q.elim
def jI{T:String}{r:ad->Hp->VK->Prop}{m:ac->ax D}{x:Str}{p:Pos}(hc:gT X (.type T) r)(hd:iG X E r m)(hg:Gl X x)(hm:X.mg x=none)(hv:bootBuiltins x=some (.type T))(ha:DA X E (e::es) fa)(hn:x≠"__name__":=by decide)(hdb:(x==("__debug__":Str))=false:=by decide)
  (he:starEach (e::es) X.env=(false,eval e X.env)::starEach es X.env:=by exact aY rfl)(hpl:(backTo pos (starEach es X.env)).any (·.1)=false:=by exact bY rfl):DE X E (.Call (.Name x p) (e::es) [] pos) (ai fa m) :=
 ⟨aZ (qO hc hg hm hv ha.o hn hdb he hpl) (j9 hd)⟩
def yg{x:Expr}{p:Pos}(hg:Gl X "list")(hm:X.mg "list"=none)(ha:DA X E [x] fa)(he:starEach [x] X.env=(false,eval x X.env)::starEach [] X.env:=by exact aY rfl)(hpl:(backTo pos (starEach [] X.env)).any (·.1)=false:=by exact bY rfl) :
  DF X E (.Call (.Name "list" p) [x] [] pos) (ai fa (m1 iA)):=by
 refine⟨?_⟩;refine aZ (qO lF hg hm PyProof.Rows.Boot.«list» ha.o (by decide) (by decide) he hpl) λσ H Q h=>?_;obtain⟨Ha,ρ,hs,hr,q⟩:=h;refine⟨Ha,ρ,hs,hr,?_⟩;unfold ai at q;cases e1:fa ρ with
 |stuck|exn x=>rw[e1]at q;exact q
 |ok ds=>
  rw[e1]at q;intro vs H1 H01 g1 r1;have fin:∀(es:ac) (us:ad) (p:Addr),m1 iA ds=.ok (.lst es)->H1 p=none->Reps X.K H01 es us->Q (.ref p) (upd H1 p (.lst us)):=λes us p hm hp hu=>by
   have h0:H01 p=none:=g1.sub.free hp;have q':∀p vs H' Ha',aW H Ha H' Ha'->H p=none->Ha' p=none->H' p=some (.lst vs)->Reps X.K Ha' es vs->Q (.ref p) H':=by
    have q2:match m1 iA ds with
     |.ok (.lst ds)=>∀p vs H' Ha',aW H Ha H' Ha'->H p=none->Ha' p=none->H' p=some (.lst vs)->Reps X.K Ha' ds vs->Q (.ref p) H'
     |.ok _=>False
     |.exn x=>∀C ox H' Ha',aW H Ha H' Ha'->rE X.K Ha' x C ox->E C ox H'
     |.stuck=>False:=q
    rw[hm]at q2;exact q2
   refine q' p us _ H01 (g1.trans ⟨λb o q=>by rw[aC (bu q hp)];exact q,aF.refl _,λb o q=>?_,λa h1 h2=>absurd h2 h1⟩) (g1.s.free hp) h0 aG hu;rw[aC (by intro z;subst z;rw[h0]at q;cases q)];exact g1.sub _ _ q
  have q2:match m1 iA ds with
     |.ok (.lst ds)=>∀p vs H' Ha',aW H Ha H' Ha'->H p=none->Ha' p=none->H' p=some (.lst vs)->Reps X.K Ha' ds vs->Q (.ref p) H'
     |.ok _=>False
     |.exn x=>∀C ox H' Ha',aW H Ha H' Ha'->rE X.K Ha' x C ox->E C ox H'
     |.stuck=>False:=q
  match ds,r1,q2,fin with
  |[],_,q2,_=>exact q2.elim
  |_::_::_,_,q2,_=>exact q2.elim
  |[x],r1,q2,fin=>
   obtain⟨v,r',rfl,h1,h2⟩:=aD.mp r1;rw[Reps.nil_iff.mp h2];cases x with
   |lst ds=>
    obtain⟨p,vs,rfl,k1,k2⟩:=aB.mp h1;exact⟨p,vs,rfl,.inl (aF.sqL g1.sub k1),λn hn=>fin ds vs n rfl hn k2⟩
   |tup ds=>
    obtain⟨p,vs,rfl,k1,k2⟩:=aH.mp h1;exact⟨p,vs,rfl,.inr (aF.sqT g1.sub k1),λn hn=>fin ds vs n rfl hn k2⟩
   |_=>exact q2.elim
def BC:D->Bool
 |.non=>true
 |_=>false
def kK(x y:D):ax D:=match y with
 |.non=>.ok (.bl (BC x))
 |_=>.stuck
def gA(x y:D):ax D:=match y with
 |.non=>.ok (.bl (!(BC x)))
 |_=>.stuck
def Rep.is_non{K:W.Frag}{H:Hp}{x:D}{v:V}(r:Rep K H x v):decide (v=.non)=BC x:=by
 cases x with|non=>rw[aT.mp r];rfl|bl b=>rw[aK.mp r];rfl|int b=>rw[aE.mp r];rfl|str b=>rw[Rep.str_iff.mp r];rfl|tup ds=>obtain⟨_,_,e,_⟩:=aH.mp r;rw[e];rfl|lst ds=>obtain⟨_,_,e,_⟩:=aB.mp r;rw[e];rfl|dic ks ds=>rw[Rep]at r;obtain⟨_,_,_,e,_⟩:=r;rw[e];rfl|exc x=>obtain⟨_,_,_,e,_⟩:=gR.mp r;rw[e];rfl|ob k x=>obtain⟨_,_,e,_⟩:=bL.mp r;rw[e];rfl
def su:tP X.K E (λx y H Q=>y=.non/\Q (.bl (decide (x=.non))) H) kK:=by
 intro x y v u H Ha Q hs r1 r2 q;unfold kK at q;cases y with|non=>exact⟨aT.mp r2,by rw[r1.is_non];exact bG hs q (rb _)⟩| _=>exact q.elim
def sr:tP X.K E (λx y H Q=>y=.non/\Q (.bl (!decide (x=.non))) H) gA:=by
 intro x y v u H Ha Q hs r1 r2 q;unfold gA at q;cases y with
 |non=>
  refine⟨aT.mp r2,?_⟩;rw[r1.is_non];exact bG hs q (rb _)
 |_=>exact q.elim
noncomputable def tN:D->String
 |.non=>"NoneType"
 |.bl _=>"bool"
 |.int _=>"int"
 |.str _=>"str"
 |.tup _=>"tuple"
 |.lst _=>"list"
 |.dic _ _=>"dict"
 |.exc _=>"<exc>"
 |.ob (.ins _ _) _=>"<exc>"
 |.ob (.dint _) _=>"dict"
 |.ob (.exf _ _) _=>"<exc>"
 |.ob .pl _=>"list"
def cG(T:String)(x:D):ax D:=.ok (.bl (tN x==T||(tN x=="bool"&&T=="int")))
def jd(K:W.Frag)(T:String):Prop:=∀S,S∈["NoneType","bool","int","str","tuple","list","dict"]->W.kitOne K (.type S) (.type T)=some (S==T||(S=="bool"&&T=="int"))
def BB{pins:List (Addr×Obj)}{σ:L2.St}{H:Hp}{s:Shared}{A:Around}{Q:Value->Shared->Prop}{x:D}{v:V}{u:Value}{T:String}(I:Inv X pins σ H s)(r:Rep X.K H x v)(q:bq v u)(hk:jd X.K T)(hT:T∈iW)(h:∀tk,Q (.bool (tN x==T||(tN x=="bool"&&T=="int"))) { s with toks:=tk }) :
  wpAny (model X.prog X.w) A (call (.builtin "isinstance") [u,.type T]) Q X.xe s:=by
 cases x with
 |non=>rw[aT.mp r]at q;exact ir I q .non (hk _ (by simp)) h|bl b=>rw[aK.mp r]at q;exact ir I q (.bl b) (hk _ (by simp)) h|int b=>rw[aE.mp r]at q;exact ir I q (.int b) (hk _ (by simp)) h|str b=>rw[Rep.str_iff.mp r]at q;exact ir I q (.str b) (hk _ (by simp)) h
 |tup ds=>
  obtain⟨a,vs,its,rfl,rfl,h1,h2,h3,h4,_⟩:=bj I r q;obtain⟨o,k1,k2,_⟩:=h4;exact W.kia_one W.kitx_tuple I.kIn ⟨o,k1,k2⟩ (hk _ (by simp)) (λz=>nomatch z) h
 |lst ds=>
  obtain⟨a,vs,its,rfl,rfl,h1,h2,h3,h4,_⟩:=ba I r q;obtain⟨o,k1,k2,_⟩:=h4;exact W.kia_one W.kitx_list I.kIn ⟨o,k1,k2⟩ (hk _ (by simp)) (λz=>nomatch z) h
 |dic ks ds=>
  rw[Rep]at r;obtain⟨a,kvs,vs,rfl,h1,h2,_⟩:=r;cases (show u=Value.ref a from q);obtain⟨_,_,vs',_,p⟩:=h1.ok I.hok;obtain⟨o,es,ep,k1,k2,_⟩:=p;exact W.kia_one W.kitx_dict I.kIn ⟨o,k1,k2.1⟩ (hk _ (by simp)) (λz=>nomatch z) h
 |exc x=>
  obtain⟨a,C,dc,rfl,hc,h1⟩:=gR.mp r;cases (show u=Value.ref a from q);obtain⟨p,_,_⟩:=h1.ok I.hok;have e:(tN (.exc x)==T||(tN (.exc x)=="bool"&&T=="int"))=false:=by
   have:∀T∈iW,(tN (.exc x)==T||(tN (.exc x)=="bool"&&T=="int"))=false:=by show ∀T∈iW,("<exc>"==T||("<exc>"=="bool"&&T=="int"))=false;decide
   exact this T hT
  rw[e]at h;exact W.kia_one (uE hc.ek hc.ek.isCls) I.kIn p (hc.bt T hT) (λz=>nomatch z) h
 |ob k xs=>
  obtain⟨a,vs,rfl,h1,_⟩:=bL.mp r;cases (show u=Value.ref a from q);cases k with
  |exf c ks=>
   obtain⟨C,dx,fs,hc,h2,_⟩:=h1;obtain⟨p,_,_⟩:=h2.ok I.hok;have e:(tN (.ob (.exf c ks) xs)==T||(tN (.ob (.exf c ks) xs)=="bool"&&T=="int"))=false:=by
    have:∀T∈iW,("<exc>"==T||("<exc>"=="bool"&&T=="int"))=false:=by decide
    exact this T hT
   rw[e]at h;exact W.kia_one (uE hc.ek hc.ek.isCls) I.kIn p (hc.bt T hT) (λz=>nomatch z) h
  |ins c ks=>
   obtain⟨C,dx,_,hc,h2,_⟩:=h1;obtain⟨mA,O,_⟩:=xR I.hok h2;obtain⟨od,O',_⟩:=O.look;have e:(tN (.ob (.ins c ks) xs)==T||(tN (.ob (.ins c ks) xs)=="bool"&&T=="int"))=false:=by
    have:∀T∈iW,(tN (.ob (.ins c ks) xs)==T||(tN (.ob (.ins c ks) xs)=="bool"&&T=="int"))=false:=by show ∀T∈iW,("<exc>"==T||("<exc>"=="bool"&&T=="int"))=false;decide
    exact this T hT
   rw[e]at h;exact W.kia_one (W.kitx_own (hc.cls.get _) hc.cls.hd hc.gc hc.gn hc.tk hc.mo) I.kIn O' (hc.bt T hT) (λz=>nomatch z) h
  |dint ks=>
   obtain⟨kvs,h2,_⟩:=h1;obtain⟨_,_,vs',_,p⟩:=h2.ok I.hok;obtain⟨o,es,ep,k1,k2,_⟩:=p;exact W.kia_one W.kitx_dict I.kIn ⟨o,k1,k2.1⟩ (hk _ (by simp)) (λz=>nomatch z) h
  |pl=>exact ir I (show bq (.ref a) (Value.ref a) from rfl) (.lst h1) (hk _ (by simp)) h
def bz{T:String}{x:Str}{p1 p2:Pos}(hk:jd X.K T)(hgi:Gl X "isinstance")(hmi:X.mg "isinstance"=none)(hg:Gl X x)(hm:X.mg x=none)(hv:bootBuiltins x=some (.type T))(ha:DE X E a f)
  (hn:x≠"__name__":=by decide)(hdb:(x==("__debug__":Str))=false:=by decide)(hT:T∈iW:=by decide)
  (he:starEach [a,.Name x p2] X.env=(false,eval a X.env)::starEach [.Name x p2] X.env:=by exact aY rfl)(he2:starEach [.Name x p2] X.env=(false,eval (.Name x p2) X.env)::starEach [] X.env:=by exact aY rfl)(hpl:(backTo pos (starEach [.Name x p2] X.env)).any (·.1)=false:=by exact bY rfl) :
  DE X E (.Call (.Name "isinstance" p1) [a,.Name x p2] [] pos) (aS f (cG T)):=by
 refine⟨?_⟩;refine aZ (oz (r:=λvs H Q=>∃d v,vs=[v,.ty T]/\Rep X.K H d v/\Q (.bl (tN d==T||(tN d=="bool"&&T=="int"))) H) ?_ hgi hmi PyProof.Rows.Boot.«isinstance» (cQ ha.o (cQ (xA (v:=.ty T) hg hm hv rfl hn hdb) fI he2) he) (by decide) (by decide) he hpl) λσ H Q ⟨Ha,ρ,hs,hr,q⟩=>⟨Ha,ρ,hs,hr,?_⟩
 .intro pins s σ H xs us Q I r h
  obtain⟨d,v,rfl,h1,q⟩:=h;cases r with
  |cons r1 r2=>
   cases r2 with
   |cons r3 r4=>
    cases r4;rename_i u1 u2;obtain rfl:u2=Value.type T:=r3;exact BB I h1 r1 hk hT λtk=>⟨.bl _,H,I.tok _,rfl,q⟩
 .unfold aS at q
  cases e1:f ρ with
  |stuck|exn x=>rw[e1]at q;exact q
  |ok d=>
   rw[e1]at q;intro v H1 H01 g1 r1;exact⟨d,v,rfl,r1.mono g1.sub,q _ H1 H01 g1 (rb _)⟩
end
theorem qY{prog:Program}{w:World}{A:Around}{E:Value->Shared->Prop}{it t:Addr}{items:Array Value}(hne:t≠it):∀(n i:Nat) (s:Shared) (Q:List Value->Shared->Prop),s.heap.IsListIter it t i->s.heap.IsList t items->i+n<=items.size ->
  (∀h',h'.IsListIter it t (i+n)->Heap.SameBut it s.heap h'->Q ((items.toList.drop i).take n) { s with heap:=h' })->wpAny (model prog w) A (draw (.ref it) n) Q E s
 |0,i,s,Q,hit,_,_,hQ=>by
  show wpAny _ _ (pure []) Q E s;exact wpAny_pure (by simpa using hQ s.heap hit (Heap.SameBut.refl ..))
 |n+1,i,s,Q,hit,ht,hle,hQ=>by
  have hlt:i<items.size:=by omega
  show wpAny _ _ (pyNext (.ref it) >>= _) Q E s;refine wpAny_bind (wpAny_pyNext_list_item hit ht (x:=items[i]) (by simp[hlt]) λh₁ hit₁ hs₁=>?_);have ht₁:h₁.IsList t items:=by
   obtain⟨o,k1,k2⟩:=ht;exact⟨o,(hs₁.2 t hne).trans k1,k2⟩
  refine wpAny_bind (wpAny_holding (qY hne n (i+1) _ _ hit₁ ht₁ (by omega) λhV hit₂ hs₂=>wpAny_pure ?_));have hd:items.toList.drop i=items[i]::items.toList.drop (i+1):=by simp[List.drop_eq_getElem_cons,hlt]
  have:=hQ hV (by rw[show i+(n+1)=i+1+n by omega];exact hit₂) (hs₁.trans hs₂);rw[hd,List.take_succ_cons]at this;exact this
def lX{prog:Program}{w:World}{A:Around}{E:Value->Shared->Prop}{s:Shared}{t:Addr}{items:Array Value}{Q:List Value->Shared->Prop}(hh:A.handled=none)(ht:s.heap.IsList t items)
  (hQ:∀h',Heap.ExtBut s.heap.objs.size s.heap h'->Q items.toList { s with heap:=h' }):wpAny (model prog w) A (unpackItems (.ref t) items.size none) Q E s:=by
 have hlt:t≠s.heap.objs.size:=by obtain⟨o,ho,_⟩:=ht;exact Nat.ne_of_lt (Heap.lt_size ho)
 unfold unpackItems;refine wpAny_bind ?_
 .unfold notIterableAtAll
  refine wpAny_bind (wpAny_specialOf ht.typeIs slot_list_iter.lookup ?_);refine wpAny_pure ?_;simp only[Bool.false_eq_true,if_false];refine wpAny_bind (wpAny_holding (wpAny_pyIter_list ht ?_));have ht0:(s.heap.push { cls:=.type "list_iterator",data:=.fields #[.ref t,.int 0 0] }).IsList t items:=by
   obtain⟨o,k1,k2⟩:=ht;exact⟨o,Heap.get?_push_of_some _ k1,k2⟩
  refine wpAny_bind (wpAny_holding (qY hlt items.size 0 _ _ ⟨_,Heap.get?_push_size _ rfl,rfl,rfl⟩ ht0 (by omega) λh₁ hit₁ hs₁=>?_));have hall:List.take items.size (List.drop 0 items.toList)=items.toList:=by
   rw[List.drop_zero];exact List.take_of_length_le (by simp)
  rw[hall];rw[if_neg (by simp)];have ht₁:h₁.IsList t items:=by
   obtain⟨o,k1,k2⟩:=ht0;exact⟨o,(hs₁.2 t hlt).trans k1,k2⟩
  refine wpAny_bind (wpAny_holding (wpAny_pyNext_list_end hh hit₁ ht₁ (by simp) λhV he₂=>?_));simp only[Option.isSome_none,Bool.false_eq_true,if_false];refine wpAny_pure (hQ hV λb o hb e=>he₂ b o hb (hs₁.extBut b o hb (Heap.get?_push_of_some _ e)))
def vQ(σ:L2.St):bi->ad->L2.St
 |i::is,v::vs=>vQ (σ.set i (some v)) is vs
 |_,_=>σ
def cS(ρ:Ev):bi->ac->Ev
 |i::is,d::ds=>cS (ρ.set i (.sh d)) is ds
 |_,_=>ρ
theorem cW.putAll{K:W.Frag}{He H0e Ha H:Hp}:∀{is:bi}{ds:ac}{vs:ad}{σ:L2.St}{ρ:Ev},cW K He H0e Ha σ H ρ->Reps K Ha ds vs->cW K He H0e Ha (vQ σ is vs) H (cS ρ is ds)
 |[],_,_,_,_,h,_=>by unfold vQ cS;exact h
 |_::_,[],_,_,_,h,r=>by rw[Reps.nil_iff.mp r];unfold vQ cS;exact h
 |i::is,d::ds,_,_,_,h,r=>by
  obtain⟨v,vs,rfl,h1,h2⟩:=aD.mp r;unfold vQ cS;exact cW.putAll (h.put h1) h2
section
variable {X:Cx}{E:XK}{He H0e:Hp}{e a b:Expr}{es:List Expr}{f g:al}{fa:Ev->ax (ac)}{pos:Pos}{is:bi}
def Iw(is:bi):Cr:=λvs σ H Q=>vs.length=is.length/\Q (vQ σ is vs) H
def um{t t':Cr}(h:zK X es t)(w:∀vs σ H Q,t' vs σ H Q->t vs σ H Q):zK X es t':=λpins s σ H vs us Q I r q=>h pins s σ H vs us Q I r (w vs σ H Q q)
def dD:zK X [] (Iw []):=um Dk λvs σ H Q z9=>by
 obtain⟨h,q⟩:=z9;have e:vs=[]:=List.length_eq_zero_iff.mp h;subst e;exact⟨rfl,q⟩
def aX{i:Nat}{x:Str}{p:Pos}(hN:X.N.Nodup)(hi:X.N[i]?=some x)(hx:zM X.env.scope x)(h:zK X es (Iw is))(hf:X.fn x=true∨X.env.scope.names.lookup x=some .local := by first|exact .inl rfl|exact .inr rfl|assumption)
  (hs:(assignEach (.Name x p::es) X.env).map (·.2)=assign (.Name x p) X.env::(assignEach es X.env).map (·.2):=by rfl):zK X (.Name x p::es) (Iw (i::is)) :=
 um (AX (rS hN hi hx hf) h hs) λvs σ H Q z9=>by
  obtain⟨h,q⟩:=z9;cases vs with|nil=>simp at h|cons v vs=>exact⟨v,vs,rfl,by simpa using h,q⟩
def Dl{k:Nat}{t:Cr}{n:Nat}(hc:X.calm=true)(h:zK X es t)
  (hn:(assignEach es X.env).length=n:=by rfl)(hst:(assignEach es X.env).findIdx? (·.1)=none:=by rfl):PG X (.Tuple es k pos) (λv σ H Q=>∃a xs,v=.ref a/\dF X.K H a xs/\xs.length=n/\t xs σ H Q):=by
 intro pins s σ H v u Q I r hw;obtain⟨a,xs,e1,hq,hl,hw⟩:=hw;subst e1;cases r;obtain⟨its,rv,ht,hz⟩:=I.list hq;rw[assign_Tuple];refine wpAny_bind (wpAny_standAt ?_);unfold unpack;rw[hn,hst];have hsz:n=its.toArray.size:=by rw[List.size_toArray,←rv.length,hl]
 rw[hsz];refine wpAny_bind (wpAny_holding (lX (I.ok.hd hc) ht.isList λh' hx=>?_));have I1:Inv X pins σ H { s with heap:=h' }:=I.kept (t':=s.toks) λb o e=>hx b o (Nat.ne_of_lt (Heap.lt_size e)) e;exact h pins _ σ H xs _ Q I1 (by simpa using rv) hw
def JC{tgt:Expr}{t t':TG}(h:PG X tgt t)(h':PG X tgt t'):PG X tgt (λv σ H Q=>t v σ H Q∨t' v σ H Q):=λpins s σ H v u Q I r q=>q.elim (h pins s σ H v u Q I r) (h' pins s σ H v u Q I r)
def AY{k:Nat}(hc:X.calm=true)(h:zK X es (Iw is))(hn:(assignEach es X.env).length=is.length:=by rfl)(hst:(assignEach es X.env).findIdx? (·.1)=none:=by rfl) :
  PG X (.Tuple es k pos) (λv σ H Q=>∃a xs,v=.ref a/\(fS X.K H a xs∨dF X.K H a xs)/\xs.length=is.length/\Q (vQ σ is xs) H) :=
 rR (JC (Gz hc h hn hst) (Dl hc h hn hst)) λv σ H Q ⟨a,xs,e,hq,hl,q⟩=>hq.elim (λz=>.inl ⟨a,xs,e,z,hl,hl,q⟩) λz=>.inr ⟨a,xs,e,z,hl,hl,q⟩
def gH(n:Nat)(d:D):Option (ac):=match d with
 |.tup ds=>if ds.length=n then some ds else none
 |.lst ds=>if ds.length=n then some ds else none
 |_=>none
def mI{K:W.Frag}{H:Hp}{n:Nat}{d:D}{ds:ac}{v:V}(h:gH n d=some ds)(r:Rep K H d v):∃a vs,v=.ref a/\(fS K H a vs∨dF K H a vs)/\vs.length=n/\Reps K H ds vs:=by
 unfold gH at h;cases d with
 |tup es=>
  by_cases c:es.length=n
  .simp only[if_pos c]at h;cases h
   obtain⟨a,vs,rfl,h1,h2⟩:=aH.mp r;exact⟨a,vs,rfl,.inl h1,by rw[←h2.length];exact c,h2⟩
  .simp only[if_neg c]at h;cases h
 |lst es=>
  by_cases c:es.length=n
  .simp only[if_pos c]at h;cases h
   obtain⟨a,vs,rfl,h1,h2⟩:=aB.mp r;exact⟨a,vs,rfl,.inr h1,by rw[←h2.length];exact c,h2⟩
  .simp only[if_neg c]at h;cases h
 |_=>cases h
def ub{K:W.Frag}{H H':Hp}{a:Addr}{vs:ad}(hs:aF H H')(h:fS K H a vs∨dF K H a vs):fS K H' a vs∨dF K H' a vs:=h.elim (λz=>.inl (aF.sqT hs z)) λz=>.inr (aF.sqL hs z)
def cD(is:bi):Ev->D->ax Ev:=λρ d=>match gH is.length d with
 |some ds=>.ok (cS ρ is ds)
 |none=>.stuck
def eG:lP (cD is):=λρ d=>by
 unfold cD;cases gH is.length d with|none=>exact .inl rfl|some ds=>exact .inr ⟨_,rfl⟩
def fb{k:Nat}(hc:X.calm=true)(h:zK X es (Iw is))(hn:(assignEach es X.env).length=is.length:=by rfl)(hst:(assignEach es X.env).findIdx? (·.1)=none:=by rfl):DG X E He H0e (.Tuple es k pos) (cD is) :=
 ⟨rR (AY hc h hn hst) λv σ H Q z9=>by
  obtain⟨Ha,ρ,d,h,rp,q⟩:=z9;unfold cD at q;cases e1:gH is.length d with
  |none=>rw[e1]at q;exact q.elim
  |some ds=>
   rw[e1]at q;obtain⟨a,vs,rfl,k1,k2,k3⟩:=mI e1 rp;exact⟨a,vs,rfl,ub h.g.sub k1,k2,q _ H Ha (aF.refl _) (h.putAll k3)⟩⟩
def Ax(i j:Nat)(fa:Ev->ax (ac)):am:=λρ=>(fa ρ).bind λds=>match ds with
 |[x,y]=>.ok (.nx ((ρ.set i (.sh x)).set j (.sh y)))
 |_=>.stuck
def HY{i j:Nat}{x y:Str}{px py pt pt2:Pos}{kt k2}(hc:X.calm=true)(hN:X.N.Nodup)(hi:X.N[i]?=some x)(hj:X.N[j]?=some y)(hij:i≠j)
  (hx:X.env.scope.names.lookup x=some .local)(hy:X.env.scope.names.lookup y=some .local)(ha:DA X E [a,b] fa)
  (hw:swappedStores [.Tuple [.Name x px,.Name y py] kt pt] (.Tuple [a,b] k2 pt2) X.env=pure (some [x,y]))
  (hs:swapsWithSole [.Tuple [.Name x px,.Name y py] kt pt] (.Tuple [a,b] k2 pt2) pos.line X.env=pure false:=by rfl) :
  DS X E He H0e (.Assign [.Tuple [.Name x px,.Name y py] kt pt] (.Tuple [a,b] k2 pt2) pos) (Ax i j fa):=by
 refine⟨?_⟩;refine cb (Gs hc hN hi hj hij hx hy ha.o hw hs) λD σ H z9=>?_;obtain⟨Ha,ρ,h,q⟩:=z9;refine⟨Ha,ρ,h.g.sub,h.rd,?_⟩
 unfold Ax at q;cases e1:fa ρ with
 |stuck=>rw[e1]at q;exact q|exn x=>rw[e1]at q;exact λC ox H' Ha' g ex=>q C ox H' Ha' (h.g.trans g) ex
 |ok ds=>
  rw[e1]at q;intro vs H1 H01 g1 r1
  match ds,r1,q with
  |[x,y],r1,q=>
   obtain⟨v,r',rfl,h1,h2⟩:=aD.mp r1;obtain⟨u,r'',rfl,h3,h4⟩:=aD.mp h2;rw[Reps.nil_iff.mp h4];exact⟨v,u,rfl,q _ H1 H01 g1.z (((h.grow g1).put h1).put h3)⟩
  |[],_,q=>exact q.elim
  |[_],_,q=>exact q.elim
  |_::_::_::_,_,q=>exact q.elim
end
def oN{K:W.Frag}:jd K "int":=by
 intro S hS;simp only[List.mem_cons,List.mem_nil_iff,or_false]at hS;rcases hS with rfl|rfl|rfl|rfl|rfl|rfl|rfl<;>first|rfl|decide +kernel
def mM{K:W.Frag}:jd K "bool":=by
 intro S hS;simp only[List.mem_cons,List.mem_nil_iff,or_false]at hS;rcases hS with rfl|rfl|rfl|rfl|rfl|rfl|rfl<;>first|rfl|decide +kernel
def gr{K:W.Frag}:jd K "str":=by
 intro S hS;simp only[List.mem_cons,List.mem_nil_iff,or_false]at hS;rcases hS with rfl|rfl|rfl|rfl|rfl|rfl|rfl<;>first|rfl|decide +kernel
def dU{K:W.Frag}:jd K "tuple":=by
 intro S hS;simp only[List.mem_cons,List.mem_nil_iff,or_false]at hS;rcases hS with rfl|rfl|rfl|rfl|rfl|rfl|rfl<;>first|rfl|decide +kernel
def eK{K:W.Frag}:jd K "list":=by
 intro S hS;simp only[List.mem_cons,List.mem_nil_iff,or_false]at hS;rcases hS with rfl|rfl|rfl|rfl|rfl|rfl|rfl<;>first|rfl|decide +kernel
def uF{K:W.Frag}:jd K "dict":=by
 intro S hS;simp only[List.mem_cons,List.mem_nil_iff,or_false]at hS;rcases hS with rfl|rfl|rfl|rfl|rfl|rfl|rfl<;>first|rfl|decide +kernel
section
variable {X:Cx}{E:XK}{He H0e:Hp}{e a b c:Expr}{f g h:al}{pos:Pos}
def dv(i:Nat){x:Str}(hN:X.N[i]?=some x:=by rfl)(hv:zI X.env.scope x:=by first|exact Or.inl rfl|exact Or.inr (Or.inl rfl)|exact Or.inr (Or.inr rfl))(hd:(x==("__debug__":Str))=false:=by decide)
  (hcd:(x==("__classdict__":Str))=false:=by decide):DE X E (.Name x pos) (ae i):=Ia hN hv hd hcd
def tK(K:W.Frag)(mg:Str->Option Value)(x:Str)(d:D):Prop:=∃v u,mg x=some u/\bq v u/\∀H,Rep K H d v
def bc{x:Str}{d:D}(k:tK X.K X.mg x d)(hg:Gl X x)(hd:(x==("__debug__":Str))=false:=by decide):DE X E (.Name x pos) (dC d):=by
 obtain⟨v,u,h1,h2,h3⟩:=k;exact EL hg h1 h2 h3 hd
def dS{K:W.Frag}{mg:Str->Option Value}{x:Str}{i:Int}{t:Tok}(h:mg x=some (.int i t)):tK K mg x (.int i):=⟨.int i,_,h,⟨t,rfl⟩,λ_=>ri _⟩
def DP{K:W.Frag}{mg:Str->Option Value}{x:Str}{i:Str}{t:Tok}(h:mg x=some (.str i t)):tK K mg x (.str i):=⟨.str i,_,h,⟨t,rfl⟩,λ_=>Rep.str_iff.mpr rfl⟩
def DN{K:W.Frag}{mg:Str->Option Value}{x:Str}{a:Addr}{od:Option Addr}{its:Array Value}{n:Nat}{sl:Array (Option Value)}{ds:ac}{vs:ad}(h:mg x=some (.ref a))(l:K.lookup a=some ⟨.type "tuple",od,.seq its n,sl⟩)
  (hv:bo vs its.toList)(hz:its.size<=sizeLine)(hd:∀H,Reps K H ds vs):tK K mg x (.tup ds):=⟨.ref a,_,h,rfl,λH=>aH.mpr ⟨a,vs,rfl,.inr ⟨_,its,n,l,rfl,rfl,hz,hv⟩,hd H⟩⟩
def jK(op op':D->D->ax D)(f g h:al):al:=λρ=>(f ρ).bind λx=>(g ρ).bind λy=>(op x y).bind λz=>match z with
 |.bl true=>(h ρ).bind λw=>op' y w
 |.bl false=>.ok (.bl false)
 |_=>.stuck
def vv(r:R2)(o:D->D->ax D):Prop:=∀(K:W.Frag) (x y:D) (v u:V) (H Ha:Hp) (Q:VK) (d:D),aF Ha H->Rep K Ha x v->Rep K Ha y u->o x y=.ok d->(∀w,Rep K Ha d w->Q w H)->r v u H Q
def jV{gv:Int->Int->V}{g:Int->Int->D}(hg:∀K H i j,Rep K H (g i j) (gv i j)):vv (AJ gv) (sE (λ_ _=>true) g):=by
 intro K x y v u H Ha Q d hs r1 r2 e q;unfold sE at e;cases x with
 |int i=>
  cases y with|int j=>simp only[if_pos]at e;cases e;exact⟨i,j,aE.mp r1,aE.mp r2,q _ (hg _ _ i j)⟩| _=>cases e
 |_=>cases e
def vy(o:D->D->ax D):Prop:=∀x y,∀z,o x y≠.exn z
def vb{r r':R2}{o o':D->D->ax D}(p:vv r o)(p':vv r' o')(n:vy o)(n':vy o')(σ:L2.St)(H:Hp)(Q:VK)(q:tD X.K E (jK o o' f g h) σ H Q) :
  Ao r r' (tD X.K E f) (tD X.K E g) (tD X.K E h) σ H Q:=by
 obtain⟨Ha,ρ,hs,hr,q⟩:=q;refine⟨Ha,ρ,hs,hr,?_⟩;unfold jK at q;cases e1:f ρ with
 |stuck|exn x=>rw[e1]at q;exact q
 |ok x=>
  rw[e1]at q;intro v H1 H01 g1 r1;refine⟨H01,ρ,g1.sub,hr.mono g1.z,?_⟩;replace q:=post.grow (r:=(g ρ).bind λy=>(o x y).bind λz=>match z with
   |.bl true=>(h ρ).bind λw=>o' y w
   |.bl false=>.ok (.bl false)
   |_=>.stuck) q g1
  cases e2:g ρ with
  |stuck|exn x=>rw[e2]at q;exact q
  |ok y=>
   rw[e2]at q;intro u H2 H02 g2 r2;replace q:=post.grow (r:=(o x y).bind λz=>match z with
    |.bl true=>(h ρ).bind λw=>o' y w
    |.bl false=>.ok (.bl false)
    |_=>.stuck) q g2
   cases e3:o x y with
   |stuck=>rw[e3]at q;exact q.elim|exn z=>exact absurd e3 (n x y z)
   |ok z=>
    rw[e3]at q;refine p X.K x y v u H2 H02 _ z g2.sub (r1.mono g2.z) r2 e3 λw rw'=>?_;cases z with
    |bl b=>
     rw[aK.mp rw'];refine⟨b,rfl,?_⟩;cases b with
     |false=>rw[if_neg Bool.false_ne_true];exact q _ H2 H02 (aW.refl g2.sub) (rb _)
     |true=>
      rw[if_pos rfl];refine⟨H02,ρ,g2.sub,(hr.mono g1.z).mono g2.z,?_⟩;replace q:post X.K E H2 H02 ((h ρ).bind λw=>o' y w) Q:=q;cases e4:h ρ with
      |stuck|exn x=>rw[e4]at q;exact q
      |ok w2=>
       rw[e4]at q;intro v3 H3 H03 g3 r3;replace q:=post.grow (r:=o' y w2) q g3;cases e5:o' y w2 with
       |stuck=>rw[e5]at q;exact q.elim|exn z=>exact absurd e5 (n' y w2 z)
       |ok d=>
        rw[e5]at q;exact p' X.K y w2 u v3 H3 H03 Q d g3.sub (r2.mono g3.z) r3 e5 λw3 r5=>q w3 H3 H03 (aW.refl g3.sub) r5
    |_=>exact q.elim
def uR{op op':CmpOp}{r r':R2}{o o':D->D->ax D}(ho:fP X (compareOp op) r)(ho':fP X (compareOp op') r')(p:vv r o)(p':vv r' o')(n:vy o)(n':vy o')(ha:DE X E a f)(hb:DE X E b g)(hc:DE X E c h)
  (hm:lastMarks [op,op'] [b,c]=false:=by with_unfolding_all rfl):DT X E (.Compare a [op,op'] [b,c] pos) (jK o o' f g h):=by
 refine⟨?_⟩;refine nC (AN ho ho' ha.o hb.o hc.o hm) λσ H Q q=>?_;have w:tD X.K E (jK o o' f g h) σ H λx H'=>∃k,x=.bl k/\Q k H':=by
  obtain⟨Ha,ρ,hs,hr,q⟩:=q;refine⟨Ha,ρ,hs,hr,?_⟩;cases e1:jK o o' f g h ρ with
  |stuck|exn x=>rw[e1]at q;exact q
  |ok d=>
   rw[e1]at q;intro v H1 H01 g1 r1;cases d with|bl b=>rw[aK.mp r1];exact⟨b,rfl,q H1 H01 g1⟩| _=>exact q.elim
 exact vb p p' n n' σ H _ w
def jW{c:Int->Int->Bool}{g:Int->Int->D}:vy (sE c g):=by
 intro x y z;unfold sE;cases x<;>cases y<;>simp<;>split<;>simp
end
def nG(i:Nat):Ev->Nat:=λρ=>match ρ[i]? with
 |some (.sh (.int j))=>j.natAbs+1
 |_=>0
section
variable {X:Cx}{E:XK}{a b:Expr}{f g:al}{pos:Pos}
def bI(x y:D):ax D:=match x,y with
 |.int i,.int j=>if fE i j=true then .ok (.int (i*j)) else .stuck
 |_,_=>.stuck
def dk(ha:DE X E a f)(hb:DE X E b g):DE X E (.BinOp a .Mult b pos) (aa f g bI):=mQ Dt (by
 intro x y v u H Ha Q hs r1 r2 q;unfold bI at q;cases x with
 |int i=>
  cases y with
  |int j=>
   by_cases h:fE i j=true
   .simp only[if_pos h]at q
    exact⟨i,j,aE.mp r1,aE.mp r2,fE.ok h,bG hs q (ri _)⟩
   .simp only[if_neg h]at q;exact q.elim
  |_=>exact q.elim
 |_=>exact q.elim) ha hb
end
def Hg(K:W.Frag)(tg:Ev->D->ax Ev):TG:=λv σ H Q=>∃He H0e,tG K He H0e tg v σ H Q
theorem Reps.rep{K:W.Frag}{H:Hp}{ds:ac}{vs:ad}(h:Reps K H ds vs):∀k:Nat,Reps K H (List.replicate k ds).flatten (List.replicate k vs).flatten
 |0=>by simp;exact Reps.nil
 |k+1=>by
  rw[List.replicate_succ,List.replicate_succ,List.flatten_cons,List.flatten_cons];exact h.app (Reps.rep h k)
section
variable {X:Cx}{E:XK}{a b:Expr}{f g:al}{pos:Pos}
def ES(x y:D):ax D:=match x,y with
 |.lst ds,.int k=>if ds.length*k.toNat<=line/\-9223372036854775808<=k/\k<9223372036854775808 then .ok (.lst (List.replicate k.toNat ds).flatten) else .stuck
 |_,_=>.stuck
def nc(f g:al):al:=λρ=>(f ρ).bind λx=>match x with
 |.lst ds=>(g ρ).bind λy=>ES (.lst ds) y
 |_=>.stuck
def ph(ha:DF X E a f)(hb:DE X E b g):DE X E (.BinOp a .Mult b pos) (nc f g):=by
 refine⟨?_⟩;refine aZ (A3 GI ha.o hb.o) λσ H Q z9=>?_;obtain⟨Ha,ρ,hs,hr,q⟩:=z9;refine⟨Ha,ρ,hs,hr,?_⟩
 unfold nc at q;cases e1:f ρ with
 |stuck|exn x=>rw[e1]at q;exact q
 |ok x=>
  rw[e1]at q;cases x with
  |lst ds=>
   replace q:post X.K E H Ha ((g ρ).bind λy=>ES (.lst ds) y) Q:=q;intro p vs H1 H01 g1 hp h0 hv rp;refine⟨H01,ρ,g1.sub,hr.mono g1.z,?_⟩;replace q:=q.grow g1;cases e2:g ρ with
   |stuck|exn x=>rw[e2]at q;exact q
   |ok y=>
    rw[e2]at q;intro u H2 H02 g2 r2;replace q:=post.grow (r:=ES (.lst ds) y) q g2;cases y with
    |int k=>
     unfold ES at q
     by_cases c:ds.length*k.toNat<=line/\-9223372036854775808<=k/\k<9223372036854775808
     .simp only[if_pos c]at q
      refine⟨p,k,vs,rfl,aE.mp r2,g2.s _ _ hv,by omega,by omega,by rw[←rp.length];exact eB c.1,λn hn=>?_⟩;exact q _ _ _ (aO g2.sub hn) (aB.mpr ⟨n,_,rfl,dF.of aG,((rp.mono g2.z).rep _).mono (aO g2.sub hn).z⟩)
     .simp only[if_neg c]at q;exact q.elim
    |_=>exact q.elim
  |_=>exact q.elim
end
def gV:ac->Option (List Str)
 |[]=>some []
 |.str x::r=>(gV r).map (x::·)
 |_=>none
theorem t6{K:W.Frag}{H:Hp}:∀{ds:ac}{ys:List Str}{vs:ad}{us:List Value},gV ds=some ys->Reps K H ds vs->bo vs us->StrsAre us ys
 |[],ys,vs,us,h,r,q=>by
  cases h;rw[Reps.nil_iff.mp r]at q;cases q;exact .nil
 |d::ds,ys,vs,us,h,r,q=>by
  obtain⟨v,r',rfl,h1,h2⟩:=aD.mp r;cases q with
  |cons q1 q2=>
   cases d with
   |str x=>
    unfold gV at h;cases e:gV ds with
    |none=>rw[e]at h;cases h
    |some zs=>
     rw[e]at h;cases h;rw[Rep.str_iff.mp h1]at q1;obtain⟨t,rfl⟩:=q1;exact .cons _ _ (t6 e h2 q2)
   |_=>cases h
section
variable {X:Cx}{E:XK}{o e:Expr}{fo:al}{fa:Ev->ax (ac)}
def gK(z:Str)(ys:List Str):Bool:=decide (z.length<=16)&&decide ((ys.map (·.length)).sum+ys.length<=1048576)
def Jp(K:W.Frag):V->ad->Hp->VK->Prop:=λx xs H Q=>∃z p ds ys,x=.str z/\xs=[.ref p]/\Rep K H (.lst ds) (.ref p)/\gV ds=some ys/\gK z ys=true/\Q (.str (Txt.join z ys)) H
def DH:LP X "str.join" (Jp X.K):=by
 intro pins s σ H x xs v us Q I rx rs h;obtain⟨z,p,ds,ys,rfl,rfl,hr,hy,hf,q⟩:=h;obtain⟨t,rfl⟩:=rx;obtain⟨u,rfl,ru⟩:=rs.one;obtain⟨a,vs,its,ea,rfl,h1,h2,h3,h4,_⟩:=ba I hr ru;unfold gK at hf;rw[Bool.and_eq_true]at hf;exact join_listW h4 (by simpa using t6 hy h2 h3) (of_decide_eq_true hf.1) (of_decide_eq_true hf.2) λt' k=>⟨.str (Txt.join z ys),H,I.tok _,⟨_,rfl⟩,q⟩
def oP(z:Str)(xs:ac):ax D:=match xs with
 |[.lst ds]=>match gV ds with
  |some ys=>if gK z ys=true then .ok (.str (Txt.join z ys)) else .stuck
  |none=>.stuck
 |_=>.stuck
def uX(fo:al)(fa:Ev->ax (ac)):al:=λρ=>(fo ρ).bind λx=>match x with
 |.str z=>(fa ρ).bind λxs=>oP z xs
 |_=>.stuck
def EJ{apos cpos:Pos}(ho:DE X E o fo)(ha:DA X E [e] fa)
  (hbase:attributeBase o "join" X.env (eval o X.env)=eval o X.env:=by rfl)
  (hfew:((backTo cpos (starEach [e] X.env)).all (λx=>!x.1)&&(backToKw cpos (keywordEach [] X.env)).all (λx=>x.1.isSome)
  &&decide ([e].length+([]:List Keyword).length+(if([]:List Keyword).isEmpty then 0 else 1)<30))=true:=by exact oX rfl)
  (hline:(apos.endLine==cpos.line)=true:=by rfl) (hs:starEach [e] X.env=(false,eval e X.env)::starEach [] X.env:=by exact aY rfl) (hplain:(backTo cpos (starEach [] X.env)).any (·.1)=false:=by exact bY rfl) :
  DE X E (.Call (.Attribute o "join" apos) [e] [] cpos) (uX fo fa):=by
 refine⟨?_⟩;refine aZ (Ba PySem.F.plainAttrs_str PySem.F.slot_str_join PySem.F.type_str_join DH ho.o ha.o hbase hfew hline hs hplain) λσ H Q z9=>?_;obtain⟨Ha,ρ,hs,hr,q⟩:=z9;refine⟨Ha,ρ,hs,hr,?_⟩
 unfold uX at q;cases e1:fo ρ with
 |stuck|exn x=>rw[e1]at q;exact q
 |ok x=>
  rw[e1]at q;intro v H1 H01 g1 r1;cases x with
  |str z=>
   rw[Rep.str_iff.mp r1];refine⟨rfl,H01,ρ,g1.sub,hr.mono g1.z,?_⟩;replace q:=post.grow (r:=(fa ρ).bind λxs=>oP z xs) q g1;cases e2:fa ρ with
   |stuck|exn x=>rw[e2]at q;exact q
   |ok xs=>
    rw[e2]at q;intro us H2 H02 g2 r2;replace q:=post.grow (r:=oP z xs) q g2;unfold oP at q
    match xs,r2,q with
    |[.lst ds],r2,q=>
     obtain⟨w,r',rfl,k1,k2⟩:=aD.mp r2;rw[Reps.nil_iff.mp k2];obtain⟨p,vs,rfl,k3,k4⟩:=aB.mp k1;cases e3:gV ds with
     |none=>simp only[e3]at q;exact q.elim
     |some ys=>
      simp only[e3]at q
      by_cases c:gK z ys=true
      .rw[if_pos c]at q
       exact⟨z,p,ds,ys,rfl,rfl,k1.mono g2.sub,e3,c,bG g2.sub q (Rep.str_iff.mpr rfl)⟩
      .rw[if_neg c]at q;exact q.elim
    |[],_,q=>exact q.elim
    |d1::_::_,_,q=>cases d1<;>exact False.elim q
    |[.non],_,q=>exact q.elim
    |[.bl _],_,q=>exact q.elim
    |[.int _],_,q=>exact q.elim
    |[.str _],_,q=>exact q.elim
    |[.tup _],_,q=>exact q.elim
    |[.dic _ _],_,q=>exact q.elim
    |[.exc _],_,q=>exact q.elim
    |[.ob _ _],_,q=>exact q.elim
  |_=>exact q.elim
end
section
variable {X:Cx}{E:XK}{a:Expr}{f:al}{pos:Pos}
def Lr:V->Option Int->Option Int->Hp->VK->Prop:=λx lo hi H Q=>∃z,x=.str z/\z.length<=sizeLine/\Q (.str (Txt.slice z lo hi)) H
def Gf:Cs X Lr:=by
 intro pins s σ H x v vl vu lo hi sl Q I rx hs pl pu h;obtain⟨z,rfl,hz,q⟩:=h;obtain⟨t,rfl⟩:=rx;have fin:∀t' k,EP X pins σ Q (.str (Txt.slice z lo hi) t') { s with toks:=k }:=λt' k=>⟨.str (Txt.slice z lo hi),H,I.tok _,⟨_,rfl⟩,q⟩
 refine⟨"str",_,PySem.F.slot_str_getitem.lookup,typeIs_str s z t,?_⟩;cases pl with
 |none=>
  cases pu with|none=>exact wpAny_getItem_str_slice (l:=none) (u:=none) (st:=none) hs rfl (post_val_or_str ⟨Nat.le_trans (Txt.slice_le z _ _) hz,fin⟩)|int j uj=>exact wpAny_getItem_str_slice (l:=none) (u:=some (j,uj)) (st:=none) hs rfl (post_val_or_str ⟨Nat.le_trans (Txt.slice_le z _ _) hz,fin⟩)
 |int i ui=>
  cases pu with|none=>exact wpAny_getItem_str_slice (l:=some (i,ui)) (u:=none) (st:=none) hs rfl (post_val_or_str ⟨Nat.le_trans (Txt.slice_le z _ _) hz,fin⟩)|int j uj=>exact wpAny_getItem_str_slice (l:=some (i,ui)) (u:=some (j,uj)) (st:=none) hs rfl (post_val_or_str ⟨Nat.le_trans (Txt.slice_le z _ _) hz,fin⟩)
noncomputable def n8(x:D) (l h:Option Int):ax D:=match x with
 |.lst ds=>.ok (.lst (jL ds l h))
 |.str z=>if z.length<=line then .ok (.str (Txt.slice z l h)) else .stuck
 |.tup ds=>if HT.sIx ds.length 0 l=0/\HT.sIx ds.length ds.length h=ds.length then .stuck else .ok (.tup (jL ds l h))
 |_=>.stuck
def eV(f:al)(lo hi:Ev->ax (Option Int)):al:=λρ=>(f ρ).bind λx=>(lo ρ).bind λl=>(hi ρ).bind λh=>n8 x l h
def cm{lo hi:Option Expr}{p2:Pos}{fl fh:Ev->ax (Option Int)}(ha:DE X E a f)(hl:DO X E lo fl)(hh:DO X E hi fh):DE X E (.Subscript a (.Slice lo hi none p2) pos) (eV f fl fh) :=
 ⟨aZ (A1 (Cs.or CV (Cs.or Gf Ge)) ha.o hl.o hh.o) (t9 (m:=n8) λx v l h H Ha Q hs r q=>by
  cases x with
  |lst ds=>
   obtain⟨p,vs,rfl,h1,h2⟩:=aB.mp r;exact .inl ⟨p,vs,rfl,aF.sqL hs h1,λn hn=>q _ _ _ (aO hs hn) (aB.mpr ⟨n,_,rfl,dF.of aG,(h2.cut l h).mono (aO hs hn).z⟩)⟩
  |str z=>
   unfold n8 at q
   by_cases c:z.length<=line
   .simp only[if_pos c]at q
    exact .inr (.inl ⟨z,Rep.str_iff.mp r,eB c,bG hs q (Rep.str_iff.mpr rfl)⟩)
   .simp only[if_neg c]at q;exact q.elim
  |tup ds=>
   unfold n8 at q
   by_cases c:HT.sIx ds.length 0 l=0/\HT.sIx ds.length ds.length h=ds.length
   .simp only[if_pos c]at q;exact q.elim
   .simp only[if_neg c]at q
    obtain⟨p,vs,rfl,h1,h2⟩:=aH.mp r;exact .inr (.inr ⟨p,vs,rfl,aF.sqT hs h1,by rw[←h2.length];exact c,λn hn=>q _ _ _ (aO hs hn) (aH.mpr ⟨n,_,rfl,fS.of aG,(h2.cut l h).mono (aO hs hn).z⟩)⟩)
  |_=>exact q.elim)⟩
end
def LU(z:Str):It:=⟨λi _=>i<z.cps.size,λi H x H'=>H'=H/\∃c,z.cps[i]?=some c/\x=.str ⟨#[c]⟩,λi _=>z.cps.size<=i⟩
def vL{P:Program}{w:World}{K:W.Frag}{tg:Expr}(z:Str)(t:Tok)(it:Addr):qz P w K tg (LU z) [it] it (λi h=>h.IsStrIter it "str_ascii_iterator" z t i) where
 mem:=by simp
 obj:=λi h st b hb=>by
  have e:b=it:=by simpa using hb
  subst e;obtain⟨o,e,c,d⟩:=st;exact⟨o,e,λv z=>by rw[d]at z;cases z⟩
 keep:=λi h h' st k=>let ⟨o,ho,r⟩:=st;⟨o,k it (by simp) o ho,r⟩
 item:=by
  intro X hP hw hK hc i pins s σ H E I hf st hg;subst hP hw hK;have hg':i<z.cps.size:=hg;obtain⟨f0,f1,f2,f3,f4,f5⟩:=hf it (by simp);refine wpAny_pyNext_ascii_item st (c:=z.cps[i]) (by simp[hg']) λh' st' sb=>?_;have I1:Inv X pins σ H { s with heap:=h',toks:=s.toks+1 }:=I.turned (t':=s.toks+1) (λb o hb e=>(sb.2 b hb).trans e) f0 f1 f3 f4 f5;obtain⟨o,e,c,d⟩:=id st';exact⟨_,rfl,uI (s:={ s with heap:=h',toks:=s.toks+1 }) e c d (by decide) ⟨.str ⟨#[z.cps[i]]⟩,H,I1,⟨_,rfl⟩,⟨rfl,_,by simp[hg'],rfl⟩,st',λb hb=>(hf b hb).1⟩⟩
 done:=by
  intro X hP hw hK hc i pins s σ H E I hf st hg;subst hP hw hK;have hg':z.cps.size<=i:=hg;obtain⟨f0,f1,f2,f3,f4,f5⟩:=hf it (by simp);exact wpAny_pyNext_ascii_end (I.ok.hd hc) st (by simp[hg']) λh' eb=>⟨rfl,I.turned (t':=s.toks) (λb o hb e=>eb b o hb e) f0 f1 f3 f4 f5⟩
 self:=λ_ _ _ _ _ st h=>wpAny_pyIter_striter_ascii st h
def yw{P:Program}{w:World}{K:W.Frag}{tg:Expr}(z:Str)(t:Tok)(it:Addr):qz P w K tg (LU z) [it] it (λi h=>h.IsStrIter it "str_iterator" z t i) where
 mem:=by simp
 obj:=λi h st b hb=>by
  have e:b=it:=by simpa using hb
  subst e;obtain⟨o,e,c,d⟩:=st;exact⟨o,e,λv z=>by rw[d]at z;cases z⟩
 keep:=λi h h' st k=>let ⟨o,ho,r⟩:=st;⟨o,k it (by simp) o ho,r⟩
 item:=by
  intro X hP hw hK hc i pins s σ H E I hf st hg;subst hP hw hK;have hg':i<z.cps.size:=hg;obtain⟨f0,f1,f2,f3,f4,f5⟩:=hf it (by simp);refine wpAny_pyNext_wide_item st (c:=z.cps[i]) (by simp[hg']) λh' st' sb=>?_;have I1:Inv X pins σ H { s with heap:=h',toks:=s.toks+1 }:=I.turned (t':=s.toks+1) (λb o hb e=>(sb.2 b hb).trans e) f0 f1 f3 f4 f5;obtain⟨o,e,c,d⟩:=id st';exact⟨_,rfl,uI (s:={ s with heap:=h',toks:=s.toks+1 }) e c d (by decide) ⟨.str ⟨#[z.cps[i]]⟩,H,I1,⟨_,rfl⟩,⟨rfl,_,by simp[hg'],rfl⟩,st',λb hb=>(hf b hb).1⟩⟩
 done:=by
  intro X hP hw hK hc i pins s σ H E I hf st hg;subst hP hw hK;have hg':z.cps.size<=i:=hg;obtain⟨f0,f1,f2,f3,f4,f5⟩:=hf it (by simp);exact wpAny_pyNext_wide_end (I.ok.hd hc) st (by simp[hg']) λh' eb=>⟨rfl,I.turned (t':=s.toks) (λb o hb e=>eb b o hb e) f0 f1 f3 f4 f5⟩
 self:=λ_ _ _ _ _ st h=>wpAny_pyIter_striter_wide st h
def LD(tl:TE):TI:=λσ H R=>tl σ H λx H1=>∃z,x=.str z/\R (LU z) H1
def Gy{X:Cx}{tg l:Expr}{tl:TE}(hl:PE X l tl):PI X tg l (LD tl):=by
 intro pins s σ H R I h;refine cR (hl pins s σ H _ I h) λv s1 ⟨x,H1,I1,r1,q1⟩=>?_;obtain⟨z,rfl,q⟩:=q1;obtain⟨t,rfl⟩:=r1;have fpo:∀b∈[s1.heap.objs.size],mB X pins H1 b:=λb hb=>by
  have e:b=s1.heap.objs.size:=by simpa using hb
  subst e;exact I1.fpOk (Nat.le_refl _) (I1.hok.fresh (Nat.le_refl _))
 cases ha:z.cps.all (· < 128) with|false=>exact wpAny_pyIter_wide ha ⟨s1.heap.objs.size,[s1.heap.objs.size],_,_,H1,rfl,I1.kept (t':=s1.toks) λb o e=>Heap.get?_push_of_some _ e,yw z t _,⟨_,Heap.get?_push_size _ rfl,rfl,rfl⟩,fpo,q⟩|true=>exact wpAny_pyIter_ascii ha ⟨s1.heap.objs.size,[s1.heap.objs.size],_,_,H1,rfl,I1.kept (t':=s1.toks) λb o e=>Heap.get?_push_of_some _ e,vL z t _,⟨_,Heap.get?_push_size _ rfl,rfl,rfl⟩,fpo,q⟩
def jl(z:Str):ac:=z.cps.toList.map λc=>.str ⟨#[c]⟩
def kB(z:Str):(jl z).length=z.cps.size:=by unfold jl;simp
section
variable {X:Cx}{E:XK}
def Jx(K:W.Frag):ad->Hp->VK->Prop:=λxs H Q=>∃(p:Addr) (bs:List Bool),xs=[.ref p]/\dF K H p (bs.map V.bl)/\Q (.bl (bs.all id)) H
theorem rA:∀bs:List Bool,(List.range bs.length).all (λi=>bs.getD i false)=bs.all id
 |[]=>rfl
 |b::r=>by
  rw[List.length_cons,List.range_succ_eq_map,List.all_cons,List.all_map,List.all_cons,←rA r];rfl
def vh(hc:X.calm=true):gT X (.builtin "all") (Jx X.K):=by
 intro pins s σ H xs us Q I r h;obtain⟨p,bs,rfl,hq,q⟩:=h;obtain⟨u,rfl,rx⟩:=mE r;cases rx;obtain⟨its,rv,pl,hz⟩:=I.list hq;have hlen:=rv.length;rw[List.length_map]at hlen;have hne:p≠s.heap.objs.size:=Nat.ne_of_lt pl.lt;refine call_all_walk (wpAny_pyIter_list pl.isList ?_);have pl2:(s.heap.push { cls:=.type "list_iterator",data:=.fields #[.ref p,.int 0 0] }).IsList p its.toArray:=by
  obtain⟨o,k1,k2⟩:=pl.isList;exact⟨o,Heap.get?_push_of_some _ k1,k2⟩
 refine⟨s.heap.objs.size,_,_,_,_,_,λi=>bs.getD i false,rfl,Walks.list (A:=X.A.in1) (I.ok.hd hc) s.heap.objs.size p hne its.toArray,⟨⟨_,Heap.get?_push_size _ rfl,rfl,rfl⟩,pl2⟩,?_,λh' tk hk=>?_⟩
 .intro i v s' Q' E' hv hQ
  have hv':its[i]?=some v:=by simpa using hv
  have hi:i<its.length:=(List.getElem?_eq_some_iff.mp hv').1;obtain⟨w,e1,e2⟩:=rv.get (show(bs.map V.bl)[i]?=some (V.bl (bs.getD i false)) by
   rw[List.getElem?_map,List.getElem?_eq_getElem (by omega)];simp[List.getD,List.getElem?_eq_getElem (show i<bs.length by omega)])
  rw[hv']at e1;cases e1;obtain rfl:v=Value.bool _:=e2;exact wpAny_truthy_bool hQ
 .have hall:(List.range its.toArray.size).all (λi=>bs.getD i false)=bs.all id:=by
   rw[List.size_toArray,←hlen];exact rA bs
  rw[hall];exact⟨.bl _,H,I.kept (t':=tk) (λb o e=>hk b o (by simp only[List.mem_singleton];exact Nat.ne_of_lt (Heap.lt_size e)) (Heap.get?_push_of_some _ e)),rfl,q⟩
def fq:ac->Option (List Bool)
 |[]=>some []
 |.bl b::r=>(fq r).map (b::·)
 |_=>none
theorem rh{K:W.Frag}{H:Hp}:∀{ds:ac}{bs:List Bool}{vs:ad},fq ds=some bs->Reps K H ds vs->vs=bs.map V.bl
 |[],bs,vs,h,r=>by cases h;exact Reps.nil_iff.mp r
 |d::ds,bs,vs,h,r=>by
  obtain⟨v,r',rfl,h1,h2⟩:=aD.mp r;cases d with
  |bl x=>
   unfold fq at h;cases e:fq ds with
   |none=>rw[e]at h;cases h
   |some zs=>
    rw[e]at h;cases h;rw[aK.mp h1,rh e h2];rfl
  |_=>cases h
def u0(x:D):ax D:=match x with
 |.lst ds=>match fq ds with
  |some bs=>.ok (.bl (bs.all id))
  |none=>.stuck
 |_=>.stuck
def Cg:iG X E (Jx X.K) (m1 u0):=pJ λx v H Ha Q hs r q=>by
 cases x with
 |lst ds=>
  unfold u0 at q;obtain⟨p,vs,rfl,h1,h2⟩:=aB.mp r;cases e:fq ds with
  |none=>simp only[e]at q;exact q.elim
  |some bs=>
   simp only[e]at q;exact⟨p,bs,rfl,by rw[←rh e h2];exact aF.sqL hs h1,bG hs q (rb _)⟩
 |_=>exact q.elim
end
end DL
namespace L2
open PySem PySem.Spec PyProof.Rows
section
variable {κ:Type}[DecidableEq κ]
def m7(kvs:List (κ×V))(k:κ):Option V:=(kvs.find? λkv=>decide (kv.1=k)).map (·.2)
def jr(kvs:List (κ×V))(k:κ)(v:V):List (κ×V) :=
 if(kvs.any λkv=>decide (kv.1=k))=true then kvs.map (λkv=>if kv.1=k then(kv.1,v) else kv) else kvs++[(k,v)]
def kN{p:κ×V}{r:List (κ×V)}{k:κ}(e:p.1=k):m7 (p::r) k=some p.2:=by simp[m7,List.find?_cons,e]
def jg{p:κ×V}{r:List (κ×V)}{k:κ}(e:¬p.1=k):m7 (p::r) k=m7 r k:=by simp[m7,List.find?_cons,e]
theorem tV(k:κ):∀kvs:List (κ×V),(kvs.any λkv=>decide (kv.1=k))=(m7 kvs k).isSome
 |[]=>rfl
 |p::r=>by
  rw[List.any_cons]
  by_cases e:p.1=k
  .simp only[kN e,decide_eq_true e,Bool.true_or,Option.isSome_some]
  .rw[jg e,decide_eq_false e,Bool.false_or];exact tV k r
def jD(kvs:List (κ×V))(k:κ)(v:V):(jr kvs k v).length<=kvs.length+1:=by
 unfold jr;split
 .rw[List.length_map];omega
 .rw[List.length_append,List.length_cons,List.length_nil];omega
def pU.isSome_eq{o:Option V}{u:Option Value}(r:pU o u):o.isSome=u.isSome:=by
 cases o with
 |none=>cases u with
  |none=>rfl
  |some _=>exact(show False from r).elim
 |some _=>cases u with
  |none=>exact(show False from r).elim
  |some _=>rfl
def KV.val{kvs:List (κ×V)}{vs:List (κ×Value)}(r:KV kvs vs)(k:κ):pU (m7 kvs k) (valueAt vs k):=by
 unfold KV at r
 induction r with
 |nil=>exact True.intro
 |@cons p q ps qs h t ih=>
  obtain⟨h1,h2⟩:=h
  by_cases e:p.1=k
  .have e':q.1=k:=h1.symm.trans e
   have b:valueAt (q::qs) k=some q.2:=by simp[valueAt,List.find?_cons,e']
   rw[kN e,b];exact h2
  .have e':¬q.1=k:=λz=>e (h1.trans z)
   have b:valueAt (q::qs) k=valueAt qs k:=by simp[valueAt,List.find?_cons,e']
   rw[jg e,b];exact ih
def KV.any{kvs:List (κ×V)}{vs:List (κ×Value)}(r:KV kvs vs)(k:κ):(kvs.any λkv=>decide (kv.1=k))=vs.any λkv=>decide (kv.1=k):=by
 unfold KV at r
 induction r with|nil=>rfl|cons h t ih=>rw[List.any_cons,List.any_cons,ih,h.1]
def KV.repl{kvs:List (κ×V)}{vs:List (κ×Value)}(r:KV kvs vs)(k:κ){y:V}{u:Value}(ry:bq y u) :
  KV (kvs.map λkv=>if kv.1=k then(kv.1,y) else kv) (vs.map λkv=>if kv.1=k then(kv.1,u) else kv):=by
 unfold KV at r ⊢
 induction r with
 |nil=>exact .nil
 |@cons p q ps qs h t ih=>
  rw[List.map_cons,List.map_cons];refine .cons ?_ ih;obtain⟨h1,h2⟩:=h
  by_cases e:p.1=k
  .rw[if_pos e,if_pos (h1.symm.trans e)];exact⟨h1,ry⟩
  .rw[if_neg e,if_neg (λz=>e (h1.trans z))];exact⟨h1,h2⟩
def KV.put{kvs:List (κ×V)}{vs:List (κ×Value)}(r:KV kvs vs)(k:κ){y:V}{u:Value}(ry:bq y u):KV (jr kvs k y) (stored vs k u):=by
 unfold jr stored;rw[r.any k]
 by_cases e:(vs.any λkv=>decide (kv.1=k))=true
 .rw[if_pos e,if_pos e];exact r.repl k ry
 .rw[if_neg e,if_neg e];exact Paired.snoc r ⟨rfl,ry⟩
def KV.length{kvs:List (κ×V)}{vs:List (κ×Value)}(r:KV kvs vs):kvs.length=vs.length:=Paired.length r
end
def qT{P:Program}{w:World}{k:cq}{u:Value}(r:bq (kV k) u):(ck P w).is k u=true:=by
 cases k with|inl i=>obtain⟨t,e⟩:=(show ∃t,u=Value.int i t from r);subst e;exact uB P w i t|inr x=>obtain⟨t,e⟩:=(show ∃t,u=Value.str x t from r);subst e;exact uA P w x t
theorem qU{P:Program}{w:World}:∀{ks:List cq}{us:List Value},bo (ks.map kV) us->ItemsAre (ck P w) ks us
 |[],_,r=>by rw[List.map_nil]at r;cases r;exact .nil
 |k::ks,_,r=>by
  rw[List.map_cons]at r;cases r with|cons h t=>exact .cons (qT h) (qU t)
abbrev KT(H:Hp):List (List cq×V)->List (List cq×Addr×Value)->Prop:=Paired λp q=>p.1=q.1/\H q.2.1=some (.tup (p.1.map kV))/\bq p.2 q.2.2
def KT.val{H:Hp}{kvs:List (List cq×V)}{xs:List (List cq×Addr×Value)}(r:KT H kvs xs)(k:List cq):pU (m7 kvs k) ((atKey xs k).map (·.2)):=by
 induction r with
 |nil=>exact True.intro
 |@cons p q ps qs h t ih=>
  obtain⟨h1,_,h2⟩:=h
  by_cases e:p.1=k
  .have e':q.1=k:=h1.symm.trans e
   have b:atKey (q::qs) k=some q.2:=by simp[atKey,List.find?_cons,e']
   rw[kN e,b];exact h2
  .have e':¬q.1=k:=λz=>e (h1.trans z)
   have b:atKey (q::qs) k=atKey qs k:=by simp[atKey,List.find?_cons,e']
   rw[jg e,b];exact ih
def KT.repl{H:Hp}{kvs:List (List cq×V)}{xs:List (List cq×Addr×Value)}(r:KT H kvs xs)(k:List cq){y:V}{u:Value}(ry:bq y u) :
  KT H (kvs.map λkv=>if kv.1=k then(kv.1,y) else kv) (xs.map (putAt k u)):=by
 induction r with
 |nil=>exact .nil
 |@cons p q ps qs h t ih=>
  rw[List.map_cons,List.map_cons];refine .cons ?_ ih;obtain⟨h1,h2,h3⟩:=h;unfold putAt
  by_cases e:p.1=k
  .rw[if_pos e,if_pos (h1.symm.trans e)];exact⟨h1,h2,ry⟩
  .rw[if_neg e,if_neg (λz=>e (h1.trans z))];exact⟨h1,h2,h3⟩
def KT.put{H:Hp}{kvs:List (List cq×V)}{xs:List (List cq×Addr×Value)}(r:KT H kvs xs)(k:List cq){b:Addr}{y:V}{u:Value}(hb:H b=some (.tup (k.map kV)))(ry:bq y u) :
  KT H (jr kvs k y) (storedH xs k b u):=by
 have e:(kvs.any λkv=>decide (kv.1=k))=(atKey xs k).isSome:=by
  rw[tV,(r.val k).isSome_eq,Option.isSome_map]
 unfold jr storedH;rw[e]
 by_cases q:(atKey xs k).isSome=true
 .rw[if_pos q,if_pos q];exact r.repl k ry
 .rw[if_neg q,if_neg q];exact Paired.snoc r ⟨rfl,hb,ry⟩
def KT.keeps{H H':Hp}{kvs:List (List cq×V)}{xs:List (List cq×Addr×Value)}(r:KT H kvs xs)(ht:∀b ys,H b=some (.tup ys)->H' b=some (.tup ys)):KT H' kvs xs :=
 jT r λ_ _ z=>⟨z.1,ht _ _ z.2.1,z.2.2⟩
section
variable {P:Program}{w:World}{H:Hp}{h:Heap}{a:Addr}
def Fo{u:HO}(ok:ka P w H h)(e:Rd H a u):bJ P w H h a u:=e.ok ok
def qZ{kvs:List (cq×V)}(ok:ka P w H h)(e:Rd H a (.dK kvs)):kvs.length<=sizeLine/\(a==sysModules)=false/\∃vs,KV kvs vs/\h.DictOf (ck P w) a vs :=
 show bJ P w H h a (.dK kvs) from Fo ok e
def B3{kvs:List (cq×V)}(ok:ka P w H h)(e:H a=some (.dK kvs)):kvs.length<=sizeLine/\(a==sysModules)=false/\∃vs,KV kvs vs/\h.DictOf (ck P w) a vs:=qZ ok (.inl e)
def oO{ks:List cq}(ok:ka P w H h)(e:H a=some (.tup (ks.map kV))):(tupleKind (ck P w)).is h ks a:=by
 obtain⟨_,its,r,o,h1,h2,n,h3⟩:=(show bJ P w H h a (.tup (ks.map kV)) from ok a _ e)
 exact⟨o,its.toArray,n,h1,h2,h3,by simpa using qU r⟩
def uQ{kvs:List (List cq×V)}(ok:ka P w H h)(e:Rd H a (.dT kvs)):kvs.length<=sizeLine/\(a==sysModules)=false /\
  ∃xs,KT H kvs xs/\h.DictOfH (tupleKind (ck P w)) a xs:=by
 obtain⟨z,y,xs,r,o,es,ep,h1,h2,h3,h4,h5⟩:=(show bJ P w H h a (.dT kvs) from Fo ok e)
 refine⟨z,y,xs,r,o,es,ep,h1,h2,h3,h4,λx hx=>?_,h5⟩;have all:∀{l:List (List cq×V)}{m:List (List cq×Addr×Value)},KT H l m->∀x∈m,(tupleKind (ck P w)).is h x.1 x.2.1:=by
  intro l m q
  induction q with
  |nil=>intro x hx;exact nomatch hx
  |@cons p q ps qs hq t ih=>
   intro x hx;rcases List.mem_cons.mp hx with e|hx
   .subst e
    exact oO ok (by rw[←hq.1];exact hq.2.1)
   .exact ih x hx
 exact all r x hx
def Kn{kvs:List (List cq×V)}(ok:ka P w H h)(e:H a=some (.dT kvs)):kvs.length<=sizeLine/\(a==sysModules)=false /\
  ∃xs,KT H kvs xs/\h.DictOfH (tupleKind (ck P w)) a xs:=uQ ok (.inl e)
end
def tL(H:Hp)(a:Addr)(y:V)(r:Option V):Prop :=
 (∃kvs k,Rd H a (.dK kvs)/\y=kV k/\r=m7 kvs k)∨∃kvs k b,Rd H a (.dT kvs)/\y=.ref b/\H b=some (.tup (k.map kV))/\r=m7 kvs k
noncomputable def zO(H:Hp) (a:Addr) (y v:V) (H':Hp):Prop :=
 (∃kvs k,H a=some (.dK kvs)/\y=kV k/\kvs.length<sizeLine/\H'=upd H a (.dK (jr kvs k v))) ∨
 ∃kvs k b,H a=some (.dT kvs)/\y=.ref b/\H b=some (.tup (k.map kV))/\kvs.length<sizeLine/\H'=upd H a (.dT (jr kvs k v))
theorem zO.k{H:Hp}{a:Addr}{kvs:List (cq×V)}{k:cq}{v:V}(e:H a=some (.dK kvs))(hl:kvs.length<sizeLine):zO H a (kV k) v (upd H a (.dK (jr kvs k v))):=.inl ⟨kvs,k,e,rfl,hl,rfl⟩
section
variable {X:Cx}{pins:List (Addr×Obj)}{σ:St}{H:Hp}{s:Shared}{a:Addr}{y v:V}{u r:Value}{o:Option V}{A:Around}{E:Value->Shared->Prop}
def Inv.big(I:Inv X pins σ H s):sysModules<s.heap.objs.size:=by
 have h:mainGlobals<s.heap.objs.size:=(I.mod.glob.keeps I.bk).lt;exact Nat.lt_trans (by decide) h
def zx{Q:Value->Shared->Prop}(hu:A.units+1<cLine)(I:Inv X pins σ H s)(g:tL H a y (some v))(ry:bq y u)(h:∀w' s',Inv X pins σ H s'->bq v w'->Q w' s') :
  wpAny (model X.prog X.w) A (getItem (.ref a) u) Q E s:=by
 rcases g with⟨kvs,k,e,ey,l⟩|⟨kvs,k,b,e,ey,eb,l⟩
 .subst ey
  obtain⟨z,hd,vs,rel,dd⟩:=qZ I.hok e;obtain⟨w',hw,rw'⟩:=pU.some_of (v:=v) (o:=valueAt vs k) (by rw[l];exact rel.val k);exact wpAny_getItem_of (qT ry) dd.mapOf hw (h w' _ (I.tok _) rw')
 .subst ey
  cases (show u=Value.ref b from ry);obtain⟨z,hd,xs,rel,dd⟩:=uQ I.hok e;obtain⟨w',hw,rw'⟩:=pU.some_of (v:=v) (o:=(atKey xs k).map (·.2)) (by rw[l];exact rel.val k);obtain⟨p,hp,hp2⟩:=Option.map_eq_some_iff.mp hw;refine wpAny_getItem_heap (tupleKind_room_in1 hu) (oO I.hok eb) dd hp ?_;rw[hp2];exact h w' _ (I.tok _) rw'
def LK{Q:Value->Shared->Prop}(hu:A.units+1<cLine)(I:Inv X pins σ H s)(g:tL H a y o)(ry:bq y u)(h:∀s',Inv X pins σ H s'->Q (.bool o.isSome) s') :
  wpAny (model X.prog X.w) A (compareOp .In u (.ref a)) Q E s:=by
 rcases g with⟨kvs,k,e,ey,l⟩|⟨kvs,k,b,e,ey,eb,l⟩
 .subst ey
  obtain⟨z,hd,vs,rel,dd⟩:=qZ I.hok e;refine wpAny_in_of (qT ry) hd dd.mapOf ?_;rw[←(rel.val k).isSome_eq,←l];exact h _ (I.tok _)
 .subst ey
  cases (show u=Value.ref b from ry);obtain⟨z,hd,xs,rel,dd⟩:=uQ I.hok e;refine wpAny_in_heap (tupleKind_room_in1 hu) (oO I.hok eb) hd dd ?_;have q:=(rel.val k).isSome_eq;rw[Option.isSome_map]at q;rw[←q,←l];exact h _ (I.tok _)
def EO{Q:Value->Shared->Prop}(hu:A.units+1<cLine)(I:Inv X pins σ H s)(g:tL H a y o)(ry:bq y u)(h:∀s',Inv X pins σ H s'->Q (.bool (!o.isSome)) s') :
  wpAny (model X.prog X.w) A (compareOp .NotIn u (.ref a)) Q E s:=by
 rcases g with⟨kvs,k,e,ey,l⟩|⟨kvs,k,b,e,ey,eb,l⟩
 .subst ey
  obtain⟨z,hd,vs,rel,dd⟩:=qZ I.hok e;refine wpAny_notIn_of (qT ry) hd dd.mapOf ?_;rw[←(rel.val k).isSome_eq,←l];exact h _ (I.tok _)
 .subst ey
  cases (show u=Value.ref b from ry);obtain⟨z,hd,xs,rel,dd⟩:=uQ I.hok e;refine wpAny_notIn_heap (tupleKind_room_in1 hu) (oO I.hok eb) hd dd ?_;have q:=(rel.val k).isSome_eq;rw[Option.isSome_map]at q;rw[←q,←l];exact h _ (I.tok _)
def nP{h':Heap}{t':Nat}{ob:HO}(I:Inv X pins σ H s)(mu:Kz (H a))(hs:Heap.SameBut a s.heap h')(he:∃q,h'.get? a=some q)(new:bJ X.prog X.w (upd H a ob) h' a ob) :
  Inv X pins σ (upd H a ob) { s with heap:=h',toks:=t' } :=
 I.write (x:=a) (e:=a) mu (.inl rfl) (λb q hb z=>(hs.2 b hb).trans z) he new
def sS{P:Program}{w:World}{H':Hp}{h':Heap}{kvs:List (cq×V)}{vs:List (cq×Value)}(z:kvs.length<=sizeLine)(hd:(a==sysModules)=false)(rel:KV kvs vs)(dd:h'.DictOf (ck P w) a vs) :
  bJ P w H' h' a (.dK kvs):=⟨z,hd,vs,rel,dd⟩
def zw{H':Hp}{Q:Unit->Shared->Prop}(hu:A.units+1<cLine)(I:Inv X pins σ H s)(g:zO H a y v H')(ry:bq y u)(rv:bq v r)(h:∀s',Inv X pins σ H' s'->Q () s') :
  wpAny (model X.prog X.w) A (setItem (.ref a) u r) Q E s:=by
 rcases g with⟨kvs,k,e,ey,l,eH⟩|⟨kvs,k,b,e,ey,eb,l,eH⟩
 .subst ey eH
  obtain⟨z,hd,vs,rel,dd⟩:=B3 I.hok e;have hz:vs.length<=sizeLine:=by rw[←rel.length];exact z
  have hl:(jr kvs k v).length<=sizeLine:=by have:=jD kvs k v;omega
  refine wpAny_setItem_pairs (hsz:=hz) (qT ry) dd λh' dd' hs=>h _ ?_;have he:∃q,h'.get? a=some q:=let ⟨q,_,_,hq,_⟩:=dd';⟨q,hq⟩;exact nP I (by rw[e];exact True.intro) hs he (sS hl hd (rel.put k rv) dd')
 .subst ey eH
  cases (show u=Value.ref b from ry);obtain⟨z,hd,xs,rel,dd⟩:=Kn I.hok e;have hz:xs.length<=sizeLine:=by rw[←Paired.length rel];exact z
  have hl:(jr kvs k v).length<=sizeLine:=by have:=jD kvs k v;omega
  refine wpAny_setItem_heap (hsz:=hz) (tupleKind_room_in1 hu) (oO I.hok eb) dd λh' dd' hs=>h _ ?_;obtain⟨q,es,ep,hq,h2,h3,h4,_,h5⟩:=dd';refine nP I (by rw[e];exact True.intro) hs ⟨q,hq⟩ ⟨hl,hd,_,(rel.put k eb rv).keeps λc ys ec=>?_,q,es,ep,hq,h2,h3,h4,h5⟩;rw[aC (JP ec e (λz=>nomatch z))];exact ec
end
section
variable {X:Cx}{pins:List (Addr×Obj)}{σ:St}{H:Hp}{s:Shared}{a:Addr}{kvs:List (cq×V)}{k:cq}{u:Value}{A:Around}{E:Value->Shared->Prop}
def ER{Q:Value->Shared->Prop}(I:Inv X pins σ H s)(e:H a=some (.dK kvs))(h:∀s',Inv X pins σ (upd H a (.dK [])) s'->Q .none s'):wpAny (model X.prog X.w) A (call (.builtin "dict.clear") [.ref a]) Q E s:=by
 obtain⟨z,hd,vs,rel,dd⟩:=B3 I.hok e;refine call_meetsIn PySem.F.slot_dict_clear dd.typeIs PySem.F.entry_dict_clear (PySem.F.args_dict_clear_1 _) (meets_dict_clear (ck X.prog X.w) a) ⟨vs,dd,by rw[←rel.length];exact z,λh' dd' hs=>h _ ?_⟩;have he:∃q,h'.get? a=some q:=let ⟨q,_,_,hq,_⟩:=dd';⟨q,hq⟩;exact nP (t':=s.toks) I (by rw[e];exact True.intro) hs he (sS (Nat.zero_le _) hd .nil dd')
end
def Ir(i:Expr):Prop:=∀ov iv,subscripted i false ov iv=operate [ov,iv] (getItem ov iv)
def CS{prog:Program}{w:World}{A:Around}{E:Value->Shared->Prop}{s:Shared}{env:Env}{value slice:Expr}{pos:Pos}{T id:String}{Q:Value->Shared->Prop}
  (hl:typeLookup (.type T) "__getitem__"=pure (some (.builtin id)))(hs:Ir slice)
  (h:wpAny (model prog w) A (eval value env) (λo sg=>wpAny (model prog w) A (eval slice env) (λi si=>si.TypeIs o T/\wpAny (model prog w) A (getItem o i) Q E si) E sg) E s) :
  wpAny (model prog w) A (eval (.Subscript value slice pos) env) Q E s:=by
 refine Subscript_ (wpAny_mono h (λo sg h₁=>wpAny_mono h₁ (λi si hV=>?_) λ_ _ x=>x) λ_ _ x=>x);obtain⟨hT,hV⟩:=hV;unfold subscriptTail;refine wpAny_bind ?_;rw[getitemInPython_of_ne hT.not_modules];refine wpAny_bind (wpAny_specialOf hT hl ?_);have fin:wpAny (model prog w) A (subscripted slice false o i) (λr sj=>wpAny (model prog w) A (letTemporaryGo value o r >>= λ_=>pure r) Q E sj) E si:=by
  rw[hs o i];exact wpAny_operating (wpAny_mono hV (λr sj hW=>wpAny_bind (wpAny_letTemporaryGo (wpAny_pure hW))) λ_ _ x=>x)
 first
  |exact wpAny_pure (wpAny_bind fin)
  |exact wpAny_bind (wpAny_pure (wpAny_bind fin))
  |exact wpAny_bind fin
def uV{X:Cx}{pins:List (Addr×Obj)}{σ:St}{H:Hp}{s:Shared}{a:Addr}{y:V}{o:Option V}(I:Inv X pins σ H s)(g:tL H a y o):s.TypeIs (.ref a) "dict":=by
 rcases g with⟨kvs,k,e,_,_⟩|⟨kvs,k,b,e,_,_,_⟩
 .obtain⟨_,_,vs,_,dd⟩:=qZ I.hok e
  exact dd.typeIs
 .obtain⟨_,_,xs,_,dd⟩:=uQ I.hok e
  exact dd.typeIs
def I0(td ty:TE):TE:=λσ H Q=>td σ H λx H1=>ty σ H1 λy H2=>∃a v,x=.ref a/\tL H2 a y (some v)/\Q v H2
def Jk(td ty tv:TE):TS:=λD σ H=>tv σ H λv H1=>td σ H1 λx H2=>ty σ H2 λy H3=>∃a H4,x=.ref a/\zO H3 a y v H4/\D.nx σ H4
section
variable {X:Cx}{o i e value:Expr}{pos pos' tpos:Pos}{td ty tv:TE}
def Dq(hu:X.A.units+1<cLine)(ho:PE X o td)(hi:PE X i ty)(hs:Ir i):PE X (.Subscript o i pos) (I0 td ty):=by
 intro pins s σ H Q I h;refine CS PySem.F.slot_dict_getitem.lookup hs (cR (ho pins s σ H _ I h) λu s1 ⟨x,H1,I1,rx,q1⟩=>cR (hi pins s1 σ H1 _ I1 q1) λiv s2 z9=>?_);obtain⟨y,H2,I2,ry,a,v,ex,g,q2⟩:=z9;subst ex;obtain rfl:u=Value.ref a:=rx;exact⟨uV I2 g,zx hu I2 g ry λw' s3 I3 rw'=>⟨v,H2,I3,rw',q2⟩⟩
def C8(hu:X.A.units+1<cLine)(ho:PE X o td)(hi:PE X i ty)(hv:PE X value tv)(hs:swapsWith value (some (.Subscript o i pos')) pos.line X.env=pure false) :
  PS X (.Assign [.Subscript o i pos'] value pos) (Jk td ty tv):=by
 intro pins s σ H D I h;refine wpAny_Assign_Subscript (cR (hv pins s σ H _ I h) λr s1 ⟨v,H1,I1,rv,q1⟩=>cR (ho pins s1 σ H1 _ I1 q1) λu s2 ⟨x,H2,I2,rx,q2⟩=>cR (hi pins s2 σ H2 _ I2 q2) λiv s3 z9=>?_) hs;obtain⟨y,H3,I3,ry,a,H4,ex,g,q3⟩:=z9;subst ex;obtain rfl:u=Value.ref a:=rx;exact zw hu I3 g ry rv λs4 I4=>⟨σ,H4,I4,q3⟩
end
def uU{P:Program}{w:World}{H:Hp}(h:Heap)(hb:sysModules<h.objs.size):bJ P w H (h.push { cls:=.type "dict",data:=.dict #[] }) h.objs.size (.dK []) :=
 ⟨Nat.zero_le _,beq_eq_false_iff_ne.mpr (Ne.symm (Nat.ne_of_lt hb)),[],.nil,Heap.DictOf.new h⟩
def F5:TE:=λ_ H Q=>∀p,H p=none->Q (.ref p) (upd H p (.dK []))
section
variable {X:Cx}{pos:Pos}
def A8:PE X (.Dict [] [] pos) F5:=λpins s σ H Q I h=>
 wpAny_Dict_empty ⟨.ref s.heap.objs.size,_,I.laid (a:=s.heap.objs.size) (o:=.dK []) (t':=s.toks) (λ_ _ q=>Heap.get?_push_of_some _ q) (Nat.le_refl _) (uU s.heap I.big),rfl,h _ (I.hok.fresh (Nat.le_refl _))⟩
end
def vN:List (TE×TE)->St->Hp->(List (V×V)->Hp->Prop)->Prop
 |[],_,H,Q=>Q [] H
 |(tk,tv)::r,σ,H,Q=>tk σ H λx H1=>tv σ H1 λy H2=>vN r σ H2 λps H3=>Q ((x,y)::ps) H3
abbrev VV:List (V×V)->List (Value×Value)->Prop:=Paired λp q=>bq p.1 q.1/\bq p.2 q.2
noncomputable def KY(X:Cx) (pos:Pos) (keys:List (Option Expr)) (values:List Expr) (trs:List (TE×TE)):Prop :=
 ∀(pins:List (Addr×Obj)) (s:Shared) (σ:St) (H:Hp) (Q:List (V×V)->Hp->Prop),Inv X pins σ H s->vN trs σ H Q ->
  wpAny (model X.prog X.w) X.A (evalPairs (pairTrees keys values X.env pos)) (λvs s'=>∃ps H',Inv X pins σ H' s'/\VV ps vs/\Q ps H') X.xe s
def Dc{X:Cx}{pos:Pos}:KY X pos [] [] []:=λpins s σ H Q I h=>pairTrees_nil_walk ⟨[],H,I,.nil,h⟩
def AR{X:Cx}{pos:Pos}{k v:Expr}{ks:List (Option Expr)}{vs:List Expr}{tk tv:TE}{trs:List (TE×TE)}(hk:PE X k tk)(hv:PE X v tv)(hr:KY X pos ks vs trs) :
  KY X pos (some k::ks) (v::vs) ((tk,tv)::trs):=λpins s σ H Q I h=>
 pairTrees_cons_walk (cR (hk pins s σ H _ I h) λu s1 ⟨x,H1,I1,rx,q1⟩=>cR (hv pins s1 σ H1 _ I1 q1) λw2 s2 ⟨y,H2,I2,ry,q2⟩ =>
  cR (hr pins s2 σ H2 _ I2 q2) λws s3 ⟨ps,H3,I3,rel,q3⟩=>⟨(x,y)::ps,H3,I3,.cons ⟨rx,ry⟩ rel,q3⟩)
def oH(kvs more:List (cq×V)):List (cq×V):=more.foldl (λacc kv=>jr acc kv.1 kv.2) kvs
def KV.merge:∀{more:List (cq×V)}{rs:List (cq×Value)}{kvs:List (cq×V)}{vs:List (cq×Value)},KV more rs->KV kvs vs->KV (oH kvs more) (merged vs rs):=by
 intro more rs kvs vs r;unfold KV at r
 induction r generalizing kvs vs with
 |nil=>intro q;exact q
 |@cons p q ps qs h t ih=>
  intro r0;have e:KV (jr kvs p.1 p.2) (stored vs q.1 q.2):=by
   have:=r0.put p.1 h.2;rw[←h.1];exact this
  exact ih e
theorem km:∀(more kvs:List (cq×V)),(oH kvs more).length<=kvs.length+more.length
 |[],kvs=>by show kvs.length<=kvs.length+0;omega
 |p::r,kvs=>by
  have h1:=km r (jr kvs p.1 p.2);have h2:=jD kvs p.1 p.2;show(oH (jr kvs p.1 p.2) r).length<=_;rw[List.length_cons];omega
theorem pH{P:Program}{w:World}:∀{kvs:List (cq×V)}{ws:List (Value×Value)},VV (kvs.map λkv=>(kV kv.1,kv.2)) ws->∃rs,Carries (ck P w) ws rs/\KV kvs rs
 |[],_,r=>by rw[List.map_nil]at r;cases r;exact⟨[],True.intro,.nil⟩
 |p::kvs,_,r=>by
  rw[List.map_cons]at r;cases r with
  |@cons a b as bs h t=>
   obtain⟨rs,c,q⟩:=pH (P:=P) (w:=w) t;obtain⟨b1,b2⟩:=b;exact⟨(p.1,b2)::rs,⟨qT h.1,rfl,c⟩,.cons ⟨rfl,h.2⟩ q⟩
def IZ(trs:List (TE×TE)):TE:=λσ H Q=>∀p,H p=none->vN trs σ (upd H p (.dK [])) λps H2=>H2 p=some (.dK [])/\∃kvs:List (cq×V),ps=kvs.map (λkv=>(kV kv.1,kv.2))/\kvs.length<=15/\Q (.ref p) (upd H2 p (.dK (oH [] kvs)))
def Dp{X:Cx}{pos:Pos}{keys:List (Option Expr)}{values:List Expr}{trs:List (TE×TE)}(h:KY X pos keys values trs)(hall:keys.all (·.isSome)=true)(hl:keys.length=values.length)(h0:keys≠[])
  (h15:keys.length<=15):PE X (.Dict keys values pos) (IZ trs):=by
 intro pins s σ H Q I q;have hn:=I.hok.fresh (Nat.le_refl s.heap.objs.size);have I1:=I.laid (a:=s.heap.objs.size) (o:=.dK []) (h':=s.heap.push { cls:=.type "dict",data:=.dict #[] }) (t':=s.toks) (λ_ _ q=>Heap.get?_push_of_some _ q) (Nat.le_refl _) (uU s.heap I.big);refine wpAny_Dict_walk (knd:=ck X.prog X.w) hall hl h0 h15 (cR (h pins _ σ _ _ I1 (q _ hn)) λws s2 ⟨ps,H2,I2,rel,e,kvs,ep,lk,q2⟩=>?_);subst ep;obtain⟨rs,c,rk⟩:=pH (P:=X.prog) (w:=X.w) rel;obtain⟨z,hd,vs0,r0,dd⟩:=B3 I2.hok e;cases r0;refine⟨rs,c,dd,λh' dd' hs=>⟨.ref s.heap.objs.size,_,?_,rfl,q2⟩⟩;have hz:(oH [] kvs).length<=sizeLine:=by
  have h1:=km kvs [];rw[List.length_nil]at h1;rw[sizeLine_eq];omega
 have he:∃q,h'.get? s.heap.objs.size=some q:=let ⟨q,_,_,hq,_⟩:=dd';⟨q,hq⟩;exact nP I2 (by rw[e];exact True.intro) hs he (sS hz hd (rk.merge .nil) dd')
section
variable {X:Cx}{pins:List (Addr×Obj)}{σ:St}{H:Hp}{s:Shared}{a:Addr}{kvs:List (cq×V)}{A:Around}{E:Value->Shared->Prop}
def Cd{Q:Value->Shared->Prop}(I:Inv X pins σ H s)(e:Rd H a (.dK kvs))(h:∀p s',H p=none->Inv X pins σ (upd H p (.dK kvs)) s'->Q (.ref p) s'):wpAny (model X.prog X.w) A (call (.type "dict") [.ref a]) Q E s:=by
 obtain⟨z,hd,vs,rel,dd⟩:=qZ I.hok e;refine kt_call_dict hd dd (by rw[←rel.length];exact z) λh' dd' hs=>?_;refine h _ _ (I.hok.fresh (Nat.le_refl _)) (I.laid (a:=s.heap.objs.size) (o:=.dK kvs) (t':=s.toks) (λb q hq=>?_) (Nat.le_refl _) (sS z (beq_eq_false_iff_ne.mpr (Ne.symm (Nat.ne_of_lt I.big))) rel dd'));exact(hs.2 b (Nat.ne_of_lt (Heap.lt_size hq))).trans (Heap.get?_push_of_some _ hq)
end
end L2
namespace DL
open PySem PySem.Spec PyProof.Rows L2
def mZ{K:W.Frag}{H:Hp}{ks:List Str}{ds:ac}{v:V}:Rep K H (.dic ks ds) v↔∃a kvs vs,v=.ref a/\Rd H a (.dK kvs)/\kvs=(ks.map Sum.inr).zip vs/\ks.length=vs.length/\Reps K H ds vs:=by rw[Rep]
section
variable {X:Cx}{E:XK}{e:Expr}{f:al}{pos p1:Pos}
def dOne(x:Str)(d:D):ax D:=.ok (.dic [x] [d])
end
def gZ(cells:List (Str×Addr)):List (Str×NameKind)->List (Str×Addr)->List (Str×Addr)
 |[],acc=>acc
 |(n,k)::r,acc=>if(k==NameKind.free)=true then gZ cells r ((n,(cells.lookup n).getD 0)::acc) else gZ cells r acc
def qw{scope:Scope}{env:PySem.Env}(h:∀x∈scope.names,x.2=.free->∃c,env.cells.lookup x.1=some c):closureFor scope env=pure (gZ env.cells scope.names []):=by
 simp only[closureFor];have key:∀(names:List (Str×NameKind)) (acc:List (Str×Addr)),(∀x∈names,x.2=.free->∃c,env.cells.lookup x.1=some c) ->
   (forIn names acc λ(x:Str×NameKind) (z:List (Str×Addr))=>
      if(x.snd==NameKind.free)=true then do
       let y ←cellOf env x.fst
       pure (ForInStep.yield ((x.fst,y)::z))
      else(pure (ForInStep.yield z):Sem _))=pure (gZ env.cells names acc):=by
  intro names
  induction names with
  |nil=>intro acc _;rfl
  |cons x r ih=>
   intro acc hh;obtain⟨n,k⟩:=x;rw[List.forIn_cons]
   by_cases hk:(k==NameKind.free)=true
   .obtain⟨c,hc⟩:=hh (n,k) List.mem_cons_self (by simpa using hk)
    have hcell:cellOf env n=pure c:=by unfold cellOf;rw[show env.cells.lookup n=some c from hc]
    simp only[hk,if_true];rw[hcell];have:=ih ((n,c)::acc) (λy hy=>hh y (List.mem_cons_of_mem _ hy));rw[show gZ env.cells ((n,k)::r) acc=gZ env.cells r ((n,c)::acc) by
     show(if(k==NameKind.free)=true then _ else _)=_;rw[if_pos hk,show env.cells.lookup n=some c from hc];rfl]
    rw[←this];rfl
   .have:=ih acc (λy hy=>hh y (List.mem_cons_of_mem _ hy))
    rw[if_neg hk];rw[show gZ env.cells ((n,k)::r) acc=gZ env.cells r acc by
     show(if(k==NameKind.free)=true then _ else _)=_;rw[if_neg hk]]
    rw[←this];rfl
 rw[key _ _ h];rfl
theorem pD{cells:List (Str×Addr)}:∀{names:List (Str×NameKind)}{acc:List (Str×Addr)}{x:Str}{c:Addr},(∀y∈names,y.2=.free->∃c,cells.lookup y.1=some c) ->
  (gZ cells names acc).lookup x=some c->acc.lookup x=some c∨cells.lookup x=some c
 |[],acc,x,c,_,h=>.inl h
 |(n,k)::r,acc,x,c,hh,h=>by
  unfold gZ at h
  by_cases hk:(k==NameKind.free)=true
  .rw[if_pos hk]at h
   obtain⟨d,hd⟩:=hh (n,k) List.mem_cons_self (by simpa using hk);rcases pD (λy hy=>hh y (List.mem_cons_of_mem _ hy)) h with h|h
   .rw[List.lookup_cons]at h
    cases e:x==n with
    |true=>
     rw[e]at h;rw[show cells.lookup n=some d from hd]at h;cases h;rw[eq_of_beq e];exact .inr hd
    |false=>rw[e]at h;exact .inl h
   .exact .inr h
  .rw[if_neg hk]at h
   exact pD (λy hy=>hh y (List.mem_cons_of_mem _ hy)) h
theorem mL{α:Type}{x:Str}:∀{l:List (Str×α)},(∃v,(x,v)∈l)->∃v,l.lookup x=some v
 |[],⟨v,h⟩=>by cases h
 |(n,w)::r,⟨v,h⟩=>by
  rw[List.lookup_cons];cases e:x==n with
  |true=>exact⟨w,rfl⟩
  |false=>
   rcases List.mem_cons.mp h with h|h
   .cases h;simp at e
   .exact mL ⟨v,h⟩
theorem pF{cells:List (Str×Addr)}{x:Str}{c:Addr}:∀{names:List (Str×NameKind)}{acc:List (Str×Addr)},(x,c)∈acc->(x,c)∈gZ cells names acc
 |[],acc,h=>h
 |(n,k)::r,acc,h=>by
  unfold gZ
  by_cases hk:(k==NameKind.free)=true
  .rw[if_pos hk];exact pF (List.mem_cons_of_mem _ h)
  .rw[if_neg hk];exact pF h
def pE{cells:List (Str×Addr)}{x:Str}:∀{names:List (Str×NameKind)}{acc:List (Str×Addr)},(x,NameKind.free)∈names->∃c,(gZ cells names acc).lookup x=some c:=by
 intro names
 induction names with
 |nil=>intro acc h;cases h
 |cons y r ih=>
  intro acc h;obtain⟨n,k⟩:=y;unfold gZ;rcases List.mem_cons.mp h with h|h
  .cases h
   rw[if_pos (by rfl)];exact mL ⟨_,pF List.mem_cons_self⟩
  .by_cases hk:(k==NameKind.free)=true
   .rw[if_pos hk];exact ih h
   .rw[if_neg hk];exact ih h
noncomputable def eM(X:Cx) (N:List Str) (scope:Scope) (s:Shared) (H:Hp) (C:Addr) (fp:List Addr) (pn:List (Addr×Obj)):Cx :=
 { X with N:=N,sf:=s,Ha:=H,env:=compEnvC scope (gZ X.env.cells scope.names []) C X.env,outer:=X.stack,stack:=X.stack,ex:=fp,fn:=λ_=>false,pn:=pn,xe:=λ_ _=>False }
def lG(n:Nat)(fr:bi)(σ:L2.St):L2.St:=List.replicate n none++fr.map λ(i:Nat)=>(σ[i]?).getD none
noncomputable def Cm(X:Cx) (N:List Str) (n:Nat) (fr:bi) (scope:Scope):Prop :=
 N.length=n+fr.length/\((N.drop n).zip fr).all (λp=>X.N[p.2]?==some p.1&&X.env.scope.names.lookup p.1==some .cell&&scope.names.lookup p.1==some .free&&(relabel scope X.env).names.lookup p.1==some .cell)=true
theorem Cm.at{X:Cx}{N:List Str}{n:Nat}{fr:bi}{scope:Scope}(h:Cm X N n fr scope){k:Nat}{x:Str}{v:V}{σ:L2.St}(hx:N[k]?=some x)(hv:(lG n fr σ)[k]?=some (some v)) :
  ∃i:Nat,X.N[i]?=some x/\σ[i]?=some (some v)/\X.env.scope.names.lookup x=some .cell/\scope.names.lookup x=some .free/\(relabel scope X.env).names.lookup x=some .cell:=by
 unfold lG at hv
 by_cases hk:k<n
 .rw[List.getElem?_append_left (by simpa using hk),List.getElem?_replicate,if_pos hk]at hv
  cases hv
 .rw[List.getElem?_append_right (by simpa using hk),List.length_replicate,List.getElem?_map]at hv
  cases hi:fr[k-n]? with
  |none=>rw[hi]at hv;cases hv
  |some i=>
   rw[hi]at hv;have hz:((N.drop n).zip fr)[k-n]?=some (x,i):=by
    rw[List.getElem?_zip_eq_some];exact⟨by rw[List.getElem?_drop,show n+(k-n)=k by omega];exact hx,hi⟩
   have:=List.all_eq_true.mp h.2 _ (List.mem_of_getElem? hz);simp only[Bool.and_eq_true,beq_iff_eq]at this;refine⟨i,this.1.1.1,?_,this.1.1.2,this.1.2,this.2⟩;simp only[Option.map_some,Option.some.injEq]at hv;cases hs:σ[i]? with|none=>rw[hs]at hv;cases hv|some u=>rw[hs]at hv;exact congrArg some hv
noncomputable def Ky(X:Cx) (ifs:List Expr) (t:TT):Prop :=
 ∀(pins:List (Addr×Obj)) (s:Shared) (σ:L2.St) (H:Hp) (Q:Bool->Hp->Prop),Inv X pins σ H s->t σ H Q ->
  wpAny (model X.prog X.w) X.A (forIn ifs true λc r=>if r=true then do let ok ←isTrue c X.env (eval c X.env);pure (ForInStep.yield ok) else pure (ForInStep.yield r)) (TP X pins σ Q) X.xe s
def K4:TT:=λ_ H Q=>Q true H
def Dg{X:Cx}:Ky X [] K4:=λ_ _ _ H _ I h=>wpAny_tests_nil ⟨H,I,h⟩
def Df{X:Cx}{c:Expr}{t:TT}(h:PT X c t):Ky X [c] t:=λpins s σ H Q I q=>wpAny_tests_one (h pins s σ H Q I q)
theorem pA{prog:Program}{w:World}{A:Around}{R:Result->Shared->Prop}{s:Shared}{elt target iter:Expr}{ifs:List Expr}{scope:Scope}{pos:Pos}{it acc:Value}{env:PySem.Env}(I:Nat->Shared->Prop)
  (turn:∀n s,I n s->wpAny (model prog w) A (pyNext it) (λr sg=>match r with
   |none=>R (.ok .next) sg
   |some v=>wpAny (model prog w) A (letOwnedTupleGo target it v) (λ_ sg'=>wpAny (model prog w) A (assign target env v) (λ_ si=>
     wpAny (model prog w) A (forIn ifs true λc r=>if r=true then do let ok ←isTrue c env (eval c env);pure (ForInStep.yield ok) else pure (ForInStep.yield r)) (λok sj=>
      if ok=true then wpAny (model prog w) A (eval elt env) (λx sk=>
       wpAny (model prog w) A (call (.builtin "list.append") [acc,x]) (λ_ sn=>∃m,m<n/\I m sn) (λ_ _=>False) sk) (λ_ _=>False) sj
      else ∃m,m<n/\I m sj) (λ_ _=>False) si) (λ_ _=>False) sg') (λ_ _=>False) sg) (λ_ _=>False) s)
  (n:Nat) (h:I n s) :
  codeAny (model prog w) A (.compLoop (.ListComp elt [⟨target,iter,ifs,0⟩] scope pos) 0 it acc env) R s:=by
 refine codeAny_loop rfl I (λn s hI=>?_) n h;show wpAny _ A ((compTurn (.ListComp elt [⟨target,iter,ifs,0⟩] scope pos) 0 it acc env).onRaise (λx=>do noteFrame x env;theTreesLotGoes x)) _ _ s;refine wpAny_noted ?_;rw[compTurn_list];refine wpAny_bind (wpAny_standAt (wpAny_bind (wpAny_mono (turn n s hI) (λr sg h₁=>?_) λ_ _ h'=>h'.elim)));cases r with
 |none=>exact wpAny_pure h₁
 |some v=>
  refine wpAny_bind (wpAny_mono h₁ (λ_ sg' h₁'=>?_) λ_ _ h'=>h'.elim);refine wpAny_bind (wpAny_mono h₁' (λ_ si hV=>wpAny_bind (wpAny_mono hV (λok sj hW=>?_) λ_ _ h'=>h'.elim)) λ_ _ h'=>h'.elim);cases ok with
  |false=>exact wpAny_pure ⟨rfl,hW⟩
  |true=>
   exact wpAny_bind (wpAny_bind (wpAny_mono hW (λx sk hX=>wpAny_bind (wpAny_mono hX (λ_ sn h₅=>wpAny_pure (wpAny_pure ⟨rfl,h₅⟩)) λ_ _ h'=>h'.elim)) λ_ _ h'=>h'.elim))
noncomputable def vM(n:Nat) (fr:bi) (g:TG) (tt:TT) (te:TE) (J:It) (σ:L2.St) (H1:Hp) (Q:VK):Prop:=∀D,H1 D=none->∃W:Nat->Nat->ad->L2.St->Hp->Prop,(∃m,W 0 m [] (lG n fr σ) (upd H1 D (.lst []))) /\
 ∀i m ys σ' H',W i m ys σ' H'->H' D=some (.lst ys)/\((J.stop i H'/\Q (.ref D) H')∨(J.go i H'/\ys.length<sizeLine/\∀x H2,J.yld i H' x H2->g x σ' H2 λσ3 H3=>tt σ3 H3 λb H4=>
  if b=true then te σ3 H4 λy H5=>H5 D=some (.lst ys)/\∃m',m' < m/\W (i+1) m' (ys++[y]) σ3 (upd H5 D (.lst (ys++[y])))
  else ∃m',m' < m/\W (i+1) m' ys σ3 H4))
def zA{X:Cx}{tg iter elt:Expr}{ifs:List Expr}{scope:Scope}{pos:Pos}{N:List Str}{n:Nat}{fr:bi}{g:TG}{tt:TT}{te:TE}(hc:X.calm=true)(hfr:Cm X N n fr scope)
  (hcell:∀x∈scope.names,x.2≠.cell)(hfree:∀x∈scope.names,x.2=.free->X.env.scope.names.lookup x.1=some .cell)(hkind:scope.kind=.function)
  (blk:∀s H C fp pn,PG (eM X N scope s H C fp pn) tg g/\Ky (eM X N scope s H C fp pn) ifs tt/\PE (eM X N scope s H C fp pn) elt te)
  {pins:List (Addr×Obj)}{σ:L2.St}{s2:Shared}{Q:VK}{itv:Value}{RR:Value->Addr->Result->Shared->Prop}
  (h2:LO X pins σ tg (λJ H1=>vM n fr g tt te J σ H1 Q) itv s2)
  (fin:∀(Da C:Addr) (s6:Shared) (H5:Hp) (m:Str->Option Value),Inv X pins σ H5 s6->s6.heap.Ns C m->mB X pins H5 C->Q (.ref Da) H5->RR (.ref Da) C (.ok .next) s6) :
  wpAny (model X.prog X.w) X.A (newList []) (λacc sj=>wpAny (model X.prog X.w) X.A (newFunctionEnv scope X.env.globals (gZ X.env.cells scope.names []) [] X.env.qual none .none (some X.env)) (λcenv sk=>
   codeAny (model X.prog X.w) X.A (.compStart (.ListComp elt [⟨tg,iter,ifs,0⟩] scope pos) 0 itv acc { cenv with scope:=relabel scope X.env }) (RR acc cenv.locals) sk) X.xe sj) X.xe s2:=by
 obtain⟨it,fp,tn,J,H2,e,I2,T,st2,f2,q⟩:=h2;subst e;have hD:H2 s2.heap.objs.size=none:=I2.fresh;refine wpAny_newObj_type ?_;have I3:Inv X pins σ (upd H2 s2.heap.objs.size (.lst [])) { s2 with heap:=s2.heap.push { cls:=.type "list",data:=.seq ([]:List Value).toArray } }:=I2.lnew (t':=s2.toks) (its:=[]) .nil (Nat.zero_le _);obtain⟨W,⟨m0,w0⟩,turn⟩:=q s2.heap.objs.size hD;generalize hs3:({ s2 with heap:=s2.heap.push { cls:=.type "list",data:=.seq ([]:List Value).toArray } }:Shared)=s3 at I3 ⊢;have hs3h:s3.heap=s2.heap.push { cls:=.type "list",data:=.seq ([]:List Value).toArray }:=by rw[←hs3]
 have hDs:s2.heap.objs.size<s3.heap.objs.size:=by rw[hs3h,Heap.size_push];exact Nat.lt_succ_self _
 have fpl:∀b∈fp,b<s2.heap.objs.size:=λb hb=>by
  obtain⟨o,ho,_⟩:=T.obj _ _ st2 b hb;exact Heap.lt_size ho
 have kept3:∀b o,s2.heap.get? b=some o->s3.heap.get? b=some o:=λb o e=>by rw[hs3h];exact Heap.get?_push_of_some _ e
 have st3:tn 0 s3.heap:=T.keep _ _ _ st2 λb _ o e=>kept3 b o e;generalize hDa:s2.heap.objs.size=Da at *;generalize hH3:upd H2 Da (.lst [])=H3 at *;have fr3:∀b∈fp,H3 b=none:=λb hb=>by rw[←hH3,aC (Nat.ne_of_lt (fpl b hb))];exact(f2 b hb).1
 have cls:∀x c,(gZ X.env.cells scope.names []).lookup x=some c->X.env.cells.lookup x=some c:=λx c e=>by
  rcases pD (λy hy hf=>I3.ok.has y.1 (.inl (hfree y hy hf))) e with e|e
  .cases e
  .exact e
 refine wpAny_newFunctionEnv hcell (by intro y hy;simp at hy) (λh4 ns4 sb4=>?_) hkind;have k4:∀b o,s3.heap.get? b=some o->h4.get? b=some o:=λb o e=>(sb4.2 b (Nat.ne_of_lt (Heap.lt_size e))).trans (Heap.get?_push_of_some _ e);generalize hC:s3.heap.objs.size=C at *;have hCn:H3 C=none:=I3.hok.fresh (by rw[hC];exact Nat.le_refl _);have ltC:∀b o,s3.heap.get? b=some o->b≠C:=λb o e=>by rw[←hC];exact Nat.ne_of_lt (Heap.lt_size e)
 have cellC:∀x c,X.env.cells.lookup x=some c->c≠C:=λx c e=>by
  obtain⟨v,o,ho,_⟩:=I3.cell x c e;exact ltC c o ho
 have fpC:∀b∈fp,b≠C:=λb hb=>by
  have:=fpl b hb;exact Nat.ne_of_lt (Nat.lt_trans this hDs)
 show codeAny (model X.prog X.w) X.A (.compStart (.ListComp elt [⟨tg,iter,ifs,0⟩] scope pos) 0 (.ref it) (.ref Da) (compEnvC scope (gZ X.env.cells scope.names []) C X.env)) _ _;generalize hs4:({ s3 with heap:=h4,toks:=s3.toks+([]:List (Str×Value)).length }:Shared)=s4;have hs4h:s4.heap=h4:=by rw[←hs4]
 have ok:(eM X N scope s3 H3 C fp (X.pn++pins)).Ok:=by
  refine⟨I3.ok.mod,hkind,I3.ok.glob,I3.ok.blt,Nat.le_of_eq hC,λx y c e1 e2=>I3.ok.inj x y c (cls x c e1) (cls y c e2),λx e=>?_,λx c e=>?_,λ_=>I3.ok.hd hc,I3.ok.frames,.inl rfl,λb hb=>⟨fpC b hb,λx c e=>(f2 b hb).2.2.2.2.1 x c (cls x c e)⟩,I3.bs,Nat.le_trans I3.ok.bsz I3.sz,λb o e hb=>?_,λb hb z=>?_,I3.stack,I3.stkFree⟩
  .have mm:∀k:NameKind,(relabel scope X.env).names.lookup x=some k->(k=.cell∨k=.free)->(x,NameKind.free)∈scope.names:=λk hk hk2=>by
    have hm:=PySem.mem_of_lookup hk;obtain⟨⟨n',k'⟩,hm1,hm2⟩:=List.mem_map.mp hm;dsimp only at hm2;split at hm2
    .rename_i hcnd
     cases hm2;simp only[Bool.and_eq_true,beq_iff_eq]at hcnd;rw[hcnd.1.1]at hm1;exact hm1
    .cases hm2
     rcases hk2 with rfl|rfl
     .exact absurd rfl (hcell _ hm1)
     .exact hm1
   rcases e with e|e
   .exact pE (mm _ e (.inl rfl))
   .exact pE (mm _ e (.inr rfl))
  .cases e
  .rcases(f2 b hb).2.2.2.1 with z|z
   .exact I3.ok.noex b o e z
   .exact absurd (Nat.lt_of_lt_of_le (Heap.lt_size e) (Nat.le_trans I3.ok.bsz z)) (Nat.lt_irrefl _)
  .rcases List.mem_cons.mp (I3.stkSub b z) with z|z
   .exact(f2 b hb).2.1 z
   .exact(f2 b hb).2.2.1 z
 have I4:Inv (eM X N scope s3 H3 C fp (X.pn++pins)) [] (lG n fr σ) H3 s4:=by
  refine⟨ok,by rw[←hs4];rfl,by rw[←hs4];exact I3.bare,by rw[hs4h];exact Un.kept k4,⟨_,by rw[hs4h];exact ns4,λi x v h1 h2 h3=>?_⟩,λx c e=>?_,hCn,λx c e=>I3.freeC x c (cls x c e),λp hp=>?_,by rw[hs4h];exact I3.hok.kept k4,?_⟩
  .obtain⟨j,j1,j2,j3,j4,j5⟩:=hfr.at h1 h2
   obtain⟨m,hn,hl⟩:=I3.loc;obtain⟨u,ru,l⟩:=hl j x v j1 j2 (.inr (.inl j3));refine⟨u,ru,.inr ⟨.inl j5,?_⟩⟩;rcases l with⟨z,_⟩|⟨_,c,z1,z2⟩
   .rw[show X.env.kindOf x=X.env.scope.names.lookup x from rfl,j3]at z;cases z
   .obtain⟨c',hc'⟩:=pE (cells:=X.env.cells) (names:=scope.names) (acc:=[]) (PySem.mem_of_lookup j4)
    have:=cls x c' hc';rw[z1]at this;cases this;obtain⟨oc,q1,q2⟩:=z2;exact⟨c,hc',oc,by rw[hs4h];exact k4 _ _ q1,q2⟩
  .obtain⟨v,oc,q1,q2⟩:=I3.cell x c (cls x c e)
   exact⟨v,oc,by rw[hs4h];exact k4 _ _ q1,q2⟩
  .rw[List.append_nil]at hp
   obtain⟨p1,p2,p3,p4,p5⟩:=I3.pin p hp;refine⟨by rw[hs4h];exact k4 _ _ p1,p2,ltC _ _ p1,λz=>?_,p5⟩;rcases List.mem_cons.mp (I3.stkSub _ z) with z|z
   .exact p3 z
   .exact p4 z
  .show(lG n fr σ).length=N.length
   unfold lG;rw[List.length_append,List.length_replicate,List.length_map,hfr.1]
 have st4:tn 0 s4.heap:=by rw[hs4h];exact T.keep _ _ _ st3 λb _ o e=>k4 b o e
 have stat:∀{H':Hp},(∀b∈fp,H' b=none)->∀b∈fp,mB (eM X N scope s3 H3 C fp (X.pn++pins)) [] H' b:=λhn b hb=>by
  refine⟨hn b hb,fpC b hb,λz=>?_,.inl hb,λx c e=>(f2 b hb).2.2.2.2.1 x c (cls x c e),λp hp=>?_⟩
  .rcases List.mem_cons.mp (I3.stkSub b z) with z|z
   .exact(f2 b hb).2.1 z
   .exact(f2 b hb).2.2.1 z
  .rw[List.append_nil]at hp
   exact(f2 b hb).2.2.2.2.2 p hp
 have loop:codeAny (model X.prog X.w) X.A (.compLoop (.ListComp elt [⟨tg,iter,ifs,0⟩] scope pos) 0 (.ref it) (.ref Da) (compEnvC scope (gZ X.env.cells scope.names []) C X.env)) (RR (.ref Da) C) s4:=by
  refine pA (λn s'=>∃i ys σ' H',Inv (eM X N scope s3 H3 C fp (X.pn++pins)) [] σ' H' s'/\tn i s'.heap/\(∀b∈fp,H' b=none)/\W i n ys σ' H') ?_ m0 ⟨0,[],_,H3,I4,st4,fr3,w0⟩;rintro k s5 ⟨i,ys,σ5,H5,I5,st5,fr5,w5⟩;obtain⟨hDl,ways⟩:=turn i k ys σ5 H5 w5;rcases ways with⟨stop,fin'⟩|⟨go,hz,step⟩
  .refine cR (T.done (eM X N scope s3 H3 C fp (X.pn++pins)) rfl rfl rfl hc i [] s5 σ5 H5 (λ_ _=>False) I5 (stat fr5) st5 stop) λr s6 ⟨hr,I6⟩=>?_
   subst hr;obtain⟨mm,nsm,_⟩:=I6.loc;have free6:H5 C=none:=I6.free;have hok:ka X.prog X.w H5 s6.heap:=I6.hok;have un:Un (zP X.stack) fp H3 H5 s3.heap s6.heap:=I6.base;have IX:Inv X pins σ H5 s6:=I3.call' (s':=s6) (ch:=fp) I6.os un hok I6.bare (λb hb=>⟨(f2 b hb).2.2.2.1,(f2 b hb).2.1,(f2 b hb).2.2.2.2.1,(f2 b hb).2.2.2.2.2⟩);have fC:mB X pins H5 C:=I3.fpOk (b:=C) (H':=H5) (by rw[hC];exact Nat.le_refl _) free6;exact fin Da C s6 H5 mm IX nsm fC fin'
  .refine cR (T.item (eM X N scope s3 H3 C fp (X.pn++pins)) rfl rfl rfl hc i [] s5 σ5 H5 (λ_ _=>False) I5 (stat fr5) st5 go) λr s6 ⟨u,hr,h6⟩=>?_
   subst hr;refine cR h6 λ_ s7 ⟨x,H7,I7,r7,y7,st7,fr7⟩=>?_;have I7':=I7.pinned (stat fr7) (T.obj _ _ st7);refine cR ((blk s3 H3 C fp (X.pn++pins)).1 _ s7 σ5 H7 x u _ I7' r7 (step x H7 y7)) λ_ s8 ⟨σ8,H8,I8,q8⟩=>?_;refine cR ((blk s3 H3 C fp (X.pn++pins)).2.1 _ s8 σ8 H8 _ I8 q8) λb s8b ⟨H8b,I8b,q8b⟩=>?_;have back:∀{σ':L2.St}{H':Hp}{s':Shared},L2.Inv (eM X N scope s3 H3 C fp (X.pn++pins)) (([]:List (Addr×Obj))++ou fp s7.heap) σ' H' s'->tn (i+1) s'.heap/\∀b∈fp,H' b=none:=λ{σ' H' s'} I'=>by
    refine⟨T.keep _ _ _ st7 λb hb o e=>(I'.pin (b,o) (List.mem_append_right _ (List.mem_append_right _ (iI hb e)))).1,λb hb=>?_⟩;obtain⟨o,e,d⟩:=T.obj _ _ st7 b hb;exact(I'.pin (b,o) (List.mem_append_right _ (List.mem_append_right _ (iI hb e)))).2.1
   cases b with
   |false=>
    rw[if_neg Bool.false_ne_true]at q8b ⊢;obtain⟨m',hm,w9⟩:=q8b;exact⟨m',hm,i+1,ys,σ8,_,I8b.unpinned,(back I8b).1,(back I8b).2,w9⟩
   |true=>
    rw[if_pos rfl]at q8b ⊢;refine cR ((blk s3 H3 C fp (X.pn++pins)).2.2 _ s8b σ8 H8b _ I8b q8b) λy s9 ⟨yv,H9,I9,r9,hD9,m',hm,w9⟩=>?_;refine cR (ma (X:=eM X N scope s3 H3 C fp (X.pn++pins)) _ s9 σ8 H9 (.ref Da) [yv] (.ref Da) [y] (λv H'=>H'=upd H9 Da (.lst (ys++[yv]))) I9 rfl (.cons r9 .nil) ⟨Da,ys,yv,rfl,rfl,hD9,hz,rfl⟩) λ_ s10 ⟨v10,H10,I10,_,e10⟩=>?_;subst e10;exact⟨m',hm,i+1,ys++[yv],σ8,_,I10.unpinned,(back I10).1,(back I10).2,w9⟩
 exact codeAny_compStart_list loop (T.self _ 0 _ _ _ st4 loop)
structure Fc (K:W.Frag) (ds:ac) (J:It) (Ha:Hp):Prop where
 go:∀(i:Nat) (H' Ha':Hp),aF Ha Ha'->aF Ha' H'->i<ds.length->J.go i H'
 yld:∀(i:Nat) (H' Ha':Hp) (x:V) (H2:Hp) (d:D),aF Ha Ha'->aF Ha' H'->ds[i]?=some d->J.yld i H' x H2->∃H₀2,aW H' Ha' H2 H₀2/\Rep K H₀2 d x
 stop:∀(i:Nat) (H' Ha':Hp),aF Ha Ha'->aF Ha' H'->ds.length<=i->J.stop i H'
noncomputable def Ms(K:W.Frag) (E:XK) (src:Ev->ax (ac)):TI:=λσ H R=>∃Ha ρ,aF Ha H/\ez K Ha σ ρ/\match src ρ with
 |.ok ds=>∀J H' Ha',aW H Ha H' Ha'->Fc K ds J Ha'->R J H'
 |.exn x=>∀C ox H' Ha',aW H Ha H' Ha'->rE K Ha' x C ox->E C ox H'
 |.stuck=>False
structure DI (X:Cx) (E:XK) (tg iter:Expr) (src:Ev->ax (ac)):Prop where
 o:PI X tg iter (Ms X.K E src)
def k6{X:Cx}{tg iter:Expr}{t t':TI}(h:PI X tg iter t)(w:∀σ H R,t' σ H R->t σ H R):PI X tg iter t':=λpins s σ H R I q=>h pins s σ H R I (w σ H R q)
def vO(f:al):Ev->ax (ac):=λρ=>(f ρ).bind λd=>match d with
 |.lst ds=>.ok ds
 |_=>.stuck
def CT(f:al):Ev->ax (ac):=λρ=>(f ρ).bind λd=>match d with
 |.str z=>.ok (jl z)
 |_=>.stuck
def t7(f:al):Ev->ax (ac):=λρ=>(f ρ).bind λd=>match d with
 |.int j=>if -4611686018427387904<=j/\j<4611686018427387904 then .ok (intsFrom 0 j.toNat) else .stuck
 |_=>.stuck
section
variable {X:Cx}{E:XK}{tg e a b:Expr}{f g:al}
def sU(h:DE X E e f):DI X E tg e (vO f):=by
 refine⟨k6 (rQ h.o) λσ H R z9=>?_⟩;obtain⟨Ha,ρ,hs,hr,q⟩:=z9;refine⟨Ha,ρ,hs,hr,?_⟩;unfold vO at q;cases e1:f ρ with
 |stuck|exn x=>rw[e1]at q;exact q
 |ok d=>
  rw[e1]at q;intro v H1 H01 g1 r1;cases d with
  |lst ds=>
   obtain⟨p,vs,rfl,hv,hrv⟩:=aB.mp r1;refine⟨p,rfl,⟨vs,aF.sqL g1.sub hv⟩,q _ H1 H01 g1 ⟨λi H' Ha' s1 s2 hi=>?_,λi H' Ha' x H2 d s1 s2 hd hy=>?_,λi H' Ha' s1 s2 hi=>?_⟩⟩
   .exact⟨vs,vs[i]'(by rw[←hrv.length];exact hi),aF.sqL (s1.trans s2) hv,by simp⟩
   .obtain⟨rfl,hy⟩:=hy
    obtain⟨u,k1,k2⟩:=hrv.get hd;have:=hy vs (aF.sqL (s1.trans s2) hv);rw[k1]at this;cases this;exact⟨Ha',aW.refl s2,k2.mono s1⟩
   .exact⟨vs,aF.sqL (s1.trans s2) hv,by rw[←hrv.length];exact hi⟩
  |_=>exact q.elim
def H0(h:DE X E e f):DI X E tg e (CT f):=by
 refine⟨k6 (Gy h.o) λσ H R z9=>?_⟩;obtain⟨Ha,ρ,hs,hr,q⟩:=z9;refine⟨Ha,ρ,hs,hr,?_⟩;unfold CT at q;cases e1:f ρ with
 |stuck|exn x=>rw[e1]at q;exact q
 |ok d=>
  rw[e1]at q;intro v H1 H01 g1 r1;cases d with
  |str z=>
   refine⟨z,Rep.str_iff.mp r1,q _ H1 H01 g1 ⟨λi H' Ha' s1 s2 hi=>?_,λi H' Ha' x H2 d s1 s2 hd hy=>?_,λi H' Ha' s1 s2 hi=>?_⟩⟩
   .rw[kB]at hi;exact hi
   .obtain⟨rfl,c,hc,rfl⟩:=hy
    have:d=.str ⟨#[c]⟩:=by
     unfold jl at hd;rw[List.getElem?_map]at hd;have h2:z.cps.toList[i]?=some c:=by simpa using hc
     rw[h2]at hd;cases hd;rfl
    subst this;exact⟨Ha',aW.refl s2,Rep.str_iff.mpr rfl⟩
   .rw[kB]at hi;exact hi
  |_=>exact q.elim
def zf{K:W.Frag}{lo:Int}{n:Nat}{H:Hp}:Fc K (intsFrom lo n) (vA lo n) H:=by
 have hl:(intsFrom lo n).length=n:=by unfold intsFrom;simp
 refine⟨λi H' Ha' _ _ hi=>?_,λi H' Ha' x H2 d s1 s2 hd hy=>?_,λi H' Ha' _ _ hi=>?_⟩
 .rw[hl]at hi;exact hi
 .obtain⟨rfl,rfl⟩:=hy
  have:d=.int (lo+i):=by
   unfold intsFrom at hd;rw[List.getElem?_map]at hd;cases e:(List.range n)[i]? with
   |none=>rw[e]at hd;cases hd
   |some k=>
    rw[e]at hd;have hk:k=i:=by
     obtain⟨h1,h2⟩:=List.getElem?_eq_some_iff.mp e;simpa using h2.symm
    subst hk;cases hd;rfl
  subst this;exact⟨Ha',aW.refl s2,aE.mpr rfl⟩
 .rw[hl]at hi;exact hi
def zu{p pos:Pos}(hg:Gl X "range")(hm:X.mg "range"=none)(h:DE X E a f)(hn:Fs a=true:=by exact rfl):DI X E tg (.Call (.Name "range" p) [a] [] pos) (t7 f):=by
 refine⟨k6 (qM hg hm (cQ h.o fI (eP hn)) (eP hn)) λσ H R z9=>?_⟩;obtain⟨Ha,ρ,hs,hr,q⟩:=z9;refine⟨Ha,ρ,hs,hr,?_⟩;unfold t7 at q;cases e1:f ρ with
 |stuck|exn x=>rw[e1]at q;exact q
 |ok d=>
  rw[e1]at q;intro v H1 H01 g1 r1;cases d with
  |int j=>
   replace q:match (if -4611686018427387904<=j/\j<4611686018427387904 then ax.ok (intsFrom 0 j.toNat) else .stuck) with
    |.ok ds=>∀J H' Ha',aW H Ha H' Ha'->Fc X.K ds J Ha'->R J H'
    |.exn x=>∀C ox H' Ha',aW H Ha H' Ha'->rE X.K Ha' x C ox->E C ox H'
    |.stuck=>False:=q
   by_cases hj:-4611686018427387904<=j/\j<4611686018427387904
   .rw[if_pos hj]at q
    rw[aE.mp r1];exact⟨j,rfl,hj.1,hj.2,q _ H1 H01 g1 zf⟩
   .rw[if_neg hj]at q;exact q.elim
  |_=>exact q.elim
end
def gG(src:Ev->ax (ac))(tg:Ev->D->ax Ev)(s:am):am:=λρ=>(src ρ).bind λds=>cA tg s ds ρ
section
variable {X:Cx}{E:XK}{He H0e:Hp}{st:Stmt}{s:am}{pos:Pos}
def m4{K:W.Frag}{Hb Ha:Hp}{tg:Ev->D->ax Ev}{ds:ac}{D':fW}{i:Nat}{σ:L2.St}{H:Hp}{d:D}{v:V}{ρ:Ev}(z:aF Hb Ha)(h:cW K He H0e Ha σ H ρ)(q:bK K E He H0e Ha (cA tg s (ds.drop i) ρ) D')(hd:ds[i]?=some d)(rv:Rep K Ha d v)
  (he:∀ρ,tg ρ d=.stuck∨∃ρ',tg ρ d=.ok ρ') :
  tG K He H0e tg v σ H λσ2 H2=>tS K E He H0e s { D' with nx:=fH K E He H0e Hb tg s ds D' (i+1),ct:=fH K E He H0e Hb tg s ds D' (i+1),bk:=D'.nx } σ2 H2:=by
 have hi:i<ds.length:=(List.getElem?_eq_some_iff.mp hd).1;have hdr:ds.drop i=d::ds.drop (i+1):=by
  rw[List.drop_eq_getElem_cons hi];rw[List.getElem?_eq_getElem hi]at hd;cases hd;rfl
 rw[hdr]at q;refine⟨Ha,ρ,d,h,rv,?_⟩;unfold cA at q;rcases he ρ with e1|⟨ρ1,e1⟩
 .rw[e1]at q;exact q.elim
 .rw[e1]at q ⊢
  intro σ' H' Ha' z' h';refine⟨Ha',ρ1,h',?_⟩;replace q:=bK.grow (r:=(s ρ1).bind λx=>match x with
   |.nx ρ2=>cA tg s (ds.drop (i+1)) ρ2
   |.ct ρ2=>cA tg s (ds.drop (i+1)) ρ2
   |.bk ρ2=>.ok (.nx ρ2)
   |.rt d=>.ok (.rt d)) q z'
  cases e2:s ρ1 with
  |stuck|exn x=>rw[e2]at q;exact q
  |ok r=>
   rw[e2]at q;cases r with|nx ρ2=>exact λσ3 H3 H03 z3 h3=>⟨H03,ρ2,(z.trans z').trans z3,h3,bK.grow (r:=cA tg s (ds.drop (i+1)) ρ2) q z3⟩|ct ρ2=>exact λσ3 H3 H03 z3 h3=>⟨H03,ρ2,(z.trans z').trans z3,h3,bK.grow (r:=cA tg s (ds.drop (i+1)) ρ2) q z3⟩|bk ρ2|rt d=>exact q
def lA{tgt iter:Expr}{body:List Stmt}{tg:Ev->D->ax Ev}{src:Ev->ax (ac)}(hp:PassesOwn (model X.prog X.w) X.A X.env X.xe)(hc:X.calm=true)(hi:DI X E tgt iter src)(hg:DG X E He H0e tgt tg)(ht:lP tg)(hb:tQ X E He H0e body s)
  (hs:∀x,foldedSetIterable iter X.env x=pure x:=by intro _;rfl):DS X E He H0e (.For tgt iter body [] pos) (gG src tg s):=by
 refine⟨cb (oj hp hc hi.o hg.o hb.o hs) λD' σ H z9=>?_⟩;obtain⟨Ha,ρ,h,q⟩:=z9;refine⟨Ha,ρ,h.g.sub,h.rd,?_⟩;unfold gG at q;cases e1:src ρ with
 |stuck=>rw[e1]at q;exact q|exn x=>rw[e1]at q;exact λC ox H' Ha' g r=>q C ox H' Ha' (h.g.trans g) r
 |ok ds=>
  rw[e1]at q;intro J H1 H01 g it;have q1:bK X.K E He H0e H01 (cA tg s ds ρ) D':=bK.grow (r:=cA tg s ds ρ) q g.z;refine⟨λi m σ' H'=>m+i=ds.length/\fH X.K E He H0e H01 tg s ds D' i σ' H',⟨ds.length,rfl,H01,ρ,aF.refl _,h.grow g,q1⟩,?_⟩;rintro i m σ' H' ⟨hm,Ha',ρ',z,h',hq⟩
  by_cases hlt:i<ds.length
  .refine .inr ⟨it.go i H' Ha' z h'.g.sub hlt,λσ2 H2=>fH X.K E He H0e H01 tg s ds D' (i+1) σ2 H2,λσ2 H2 hl=>⟨m-1,by omega,by omega,hl⟩,λx H2 hy=>?_⟩
   obtain⟨H₀2,g2,rp⟩:=it.yld i H' Ha' x H2 ds[i] z h'.g.sub (List.getElem?_eq_getElem hlt) hy;exact m4 (z.trans g2.z) (h'.grow g2) (bK.grow (r:=cA tg s (ds.drop i) ρ') hq g2.z) (List.getElem?_eq_getElem hlt) rp λρ=>ht ρ _
  .have e:i=ds.length:=by omega
   refine .inl ⟨it.stop i H' Ha' z h'.g.sub (by omega),?_⟩;subst e;exact fH.done ⟨Ha',ρ',z,h',hq⟩
end
def lV(f:al):Prop:=∀ρ d,f ρ=.ok d->∃ds,d=.lst ds
def tY{K:W.Frag}{E:XK}{f:al}(hf:lV f){σ:L2.St}{H:Hp}{Q:VK}(h:tD K E f σ H Q):tF K E f σ H Q:=by
 obtain⟨Ha,ρ,hs,hr,q⟩:=h;refine⟨Ha,ρ,hs,hr,?_⟩;cases e1:f ρ with
 |stuck|exn x=>rw[e1]at q;exact q
 |ok d=>
  obtain⟨ds,rfl⟩:=hf ρ d e1;rw[e1]at q;intro p vs H' Ha' g hp h0 hv rp;have n0:Ha p=none:=hs.free hp;refine q (.ref p) H' (upd Ha' p (.lst vs)) ⟨g.s,λb o e=>?_,λb o e=>?_,λb k1 k2=>?_⟩ (aB.mpr ⟨p,vs,rfl,dF.of aG,rp.mono λb o e=>?_⟩)
  .rw[aC (by intro z;subst z;rw[n0]at e;cases e)];exact g.z _ _ e
  .by_cases hb:b=p
   .subst hb;rw[aG]at e;cases e;exact hv
   .rw[aC hb]at e;exact g.sub _ _ e
  .by_cases hb:b=p
   .subst hb;exact hp
   .rw[aC hb]at k1;exact g.nw b k1 k2
  .rw[aC (by intro z;subst z;rw[h0]at e;cases e)];exact e
def Cb{X:Cx}{E:XK}{e:Expr}{f:al}(hf:lV f)(h:DF X E e f):DE X E e f:=⟨aZ h.o λσ H Q q=>tY hf q⟩
def dw(n:Nat)(fr:bi)(ρ:Ev):Ev:=List.replicate n .no++fr.map λ(i:Nat)=>match ρ[i]? with
 |some (.sh d)=>.sh d
 |_=>.no
noncomputable def bX(b:Ev) (tg:Ev->D->ax Ev) (tt fe:al):ac->ax (ac)
 |[]=>.ok []
 |d::r=>(tg b d).bind λρ1=>(tt ρ1).bind λt=>match t with
  |.bl true=>(fe ρ1).bind λx=>(bX b tg tt fe r).bind λxs=>.ok (x::xs)
  |.bl false=>bX b tg tt fe r
  |_=>.stuck
def dE(n:Nat)(fr:bi)(src:Ev->ax (ac))(tg:Ev->D->ax Ev)(tt fe:al):al:=λρ=>(src ρ).bind λds=>
 if ds.length<=line then match bX (dw n fr ρ) tg tt fe ds with
  |.ok es=>.ok (.lst es)
  |_=>.stuck
 else .stuck
def j6{n:Nat}{fr:bi}{src:Ev->ax (ac)}{tg:Ev->D->ax Ev}{tt fe:al}:lV (dE n fr src tg tt fe):=λρ d h=>by
 unfold dE at h;cases e1:src ρ with
 |stuck|exn x=>rw[e1]at h;cases h
 |ok ds=>
  rw[e1]at h;replace h:(if ds.length<=line then match bX (dw n fr ρ) tg tt fe ds with
   |.ok es=>ax.ok (D.lst es)
   |_=>.stuck else .stuck)=.ok d:=h
  split at h
  .split at h
   .cases h;exact⟨_,rfl⟩
   .cases h
  .cases h
def iU{b:Ev}{tg:Ev->D->ax Ev}{tt fe:al}{d:D}{r es:ac}(h:bX b tg tt fe (d::r)=.ok es) :
  ∃ρ1 t,tg b d=.ok ρ1/\tt ρ1=.ok (.bl t)/\((t=true/\∃x xs,fe ρ1=.ok x/\bX b tg tt fe r=.ok xs/\es=x::xs)∨(t=false/\bX b tg tt fe r=.ok es)):=by
 unfold bX at h;cases e1:tg b d with
 |stuck|exn z=>rw[e1]at h;cases h
 |ok ρ1=>
  rw[e1]at h;replace h:((tt ρ1).bind λt=>match t with
   |.bl true=>(fe ρ1).bind λx=>(bX b tg tt fe r).bind λxs=>ax.ok (x::xs)
   |.bl false=>bX b tg tt fe r
   |_=>.stuck)=.ok es:=h
  cases e2:tt ρ1 with
  |stuck|exn z=>rw[e2]at h;cases h
  |ok t=>
   rw[e2]at h;cases t with
   |bl t=>
    cases t with
    |true=>
     replace h:((fe ρ1).bind λx=>(bX b tg tt fe r).bind λxs=>ax.ok (x::xs))=.ok es:=h;cases e3:fe ρ1 with
     |stuck|exn z=>rw[e3]at h;cases h
     |ok x=>
      rw[e3]at h;replace h:((bX b tg tt fe r).bind λxs=>ax.ok (x::xs))=.ok es:=h;cases e4:bX b tg tt fe r with|stuck|exn z=>rw[e4]at h;cases h|ok xs=>rw[e4]at h;cases h;exact⟨ρ1,true,rfl,e2,.inl ⟨rfl,x,xs,e3,rfl,rfl⟩⟩
    |false=>exact⟨ρ1,false,rfl,e2,.inr ⟨rfl,h⟩⟩
   |_=>cases h
def iC{b:Ev}{tg:Ev->D->ax Ev}{tt fe:al}{d x:D}{r:ac}{ρ1:Ev}(h1:tg b d=.ok ρ1)(h2:tt ρ1=.ok (.bl true))(h3:fe ρ1=.ok x):bX b tg tt fe (d::r)=(bX b tg tt fe r).bind λxs=>.ok (x::xs):=by
 rw[bX,h1];simp only[ax.bind,h2,h3]
def pB{b:Ev}{tg:Ev->D->ax Ev}{tt fe:al}{d:D}{r:ac}{ρ1:Ev}(h1:tg b d=.ok ρ1)(h2:tt ρ1=.ok (.bl false)):bX b tg tt fe (d::r)=bX b tg tt fe r:=by
 rw[bX,h1];simp only[ax.bind,h2]
theorem ml{b:Ev}{tg:Ev->D->ax Ev}{tt fe:al}:∀{r q es:ac},bX b tg tt fe (r++q)=.ok es->∃e1 e2,bX b tg tt fe r=.ok e1/\bX b tg tt fe q=.ok e2/\es=e1++e2
 |[],q,es,h=>⟨[],es,rfl,h,rfl⟩
 |d::r,q,es,h=>by
  obtain⟨ρ1,t,h1,h2,h3⟩:=iU h;rcases h3 with⟨rfl,x,xs,h3,h4,rfl⟩|⟨rfl,h4⟩
  .obtain⟨e1,e2,k1,k2,rfl⟩:=ml h4
   refine⟨x::e1,e2,?_,k2,rfl⟩;rw[iC h1 h2 h3,k1];rfl
  .obtain⟨e1,e2,k1,k2,rfl⟩:=ml h4
   refine⟨e1,e2,?_,k2,rfl⟩;rw[pB h1 h2];exact k1
theorem iT{b:Ev}{tg:Ev->D->ax Ev}{tt fe:al}:∀{r q e1 e2:ac},bX b tg tt fe r=.ok e1->bX b tg tt fe q=.ok e2->bX b tg tt fe (r++q)=.ok (e1++e2)
 |[],q,e1,e2,h,h'=>by cases h;exact h'
 |d::r,q,e1,e2,h,h'=>by
  obtain⟨ρ1,t,h1,h2,h3⟩:=iU h;show bX b tg tt fe (d::(r++q))=_;rcases h3 with⟨rfl,x,xs,h3,h4,rfl⟩|⟨rfl,h4⟩
  .rw[iC h1 h2 h3,iT h4 h'];rfl
  .rw[pB h1 h2];exact iT h4 h'
theorem pC{b:Ev}{tg:Ev->D->ax Ev}{tt fe:al}:∀{r es:ac},bX b tg tt fe r=.ok es->es.length<=r.length
 |[],es,h=>by cases h;exact Nat.le_refl _
 |d::r,es,h=>by
  obtain⟨ρ1,t,h1,h2,h3⟩:=iU h;rcases h3 with⟨rfl,x,xs,h3,h4,rfl⟩|⟨rfl,h4⟩
  .exact Nat.succ_le_succ (pC h4)
  .exact Nat.le_succ_of_le (pC h4)
def Ck(n:Nat)(tg:Ev->D->ax Ev):Prop:=∀ρ d ρ',tg ρ d=.ok ρ'->ρ'.length=ρ.length/\∀(k:Nat),n<=k->ρ'[k]?=ρ[k]?
def kP{i n:Nat}(h:i<n):Ck n (dg i):=λρ d ρ' e=>by
 cases e;exact⟨by simp,λk hk=>by rw[List.getElem?_set_ne (by omega)]⟩
theorem kT{n:Nat}:∀{is:bi}{ds:ac}{ρ:Ev},(is.all λi=>decide (i<n))=true->(cS ρ is ds).length=ρ.length/\∀(k:Nat),n<=k->(cS ρ is ds)[k]?=ρ[k]?
 |[],ds,ρ,_=>by unfold cS;exact⟨rfl,λ_ _=>rfl⟩
 |i::is,[],ρ,_=>by unfold cS;exact⟨rfl,λ_ _=>rfl⟩
 |i::is,d::ds,ρ,h=>by
  rw[List.all_cons,Bool.and_eq_true,decide_eq_true_eq]at h;unfold cS;obtain⟨h1,h2⟩:=kT (ds:=ds) (ρ:=ρ.set i (.sh d)) h.2;exact⟨by rw[h1];simp,λk hk=>by rw[h2 k hk,List.getElem?_set_ne (by omega)]⟩
def jh{n:Nat}{is:bi}(h:(is.all λi=>decide (i<n))=true):Ck n (cD is):=λρ d ρ' e=>by
 unfold cD at e;cases hp:gH is.length d with|none=>rw[hp]at e;cases e|some ds=>rw[hp]at e;cases e;exact kT h
def wV{K:W.Frag}{Ha:Hp}{σ:L2.St}{ρ:Ev}{n:Nat}{fr:bi}(h:ez K Ha σ ρ):ez K Ha (lG n fr σ) (dw n fr ρ):=λi d e=>by
 unfold dw at e;unfold lG
 by_cases hi:i<n
 .rw[List.getElem?_append_left (by simpa using hi),List.getElem?_replicate,if_pos hi]at e
  cases e
 .rw[List.getElem?_append_right (by simpa using hi),List.length_replicate,List.getElem?_map]at e ⊢
  cases hf:fr[i-n]? with
  |none=>rw[hf]at e;cases e
  |some j=>
   rw[hf]at e;simp only[Option.map_some,Option.some.injEq]at e ⊢;cases hj:ρ[j]? with
   |none=>rw[hj]at e;cases e
   |some s=>
    rw[hj]at e;cases s with
    |sh d'=>
     cases e;obtain⟨v,h1,h2⟩:=h j d hj;exact⟨v,by rw[h1];rfl,h2⟩
    |_=>cases e
def EZ{n:Nat}{fr:bi}{ρ:Ev}{k:Nat}(h:k<n):(dw n fr ρ)[k]?=some .no:=by
 unfold dw;rw[List.getElem?_append_left (by simpa using h),List.getElem?_replicate,if_pos h]
def Ci{n:Nat}{fr:bi}{ρ:Ev}(i j:Nat)(es:ac):(dw n fr ρ)[i]?≠some (.ox j es):=λe=>by
 unfold dw at e
 by_cases hj:i<n
 .rw[List.getElem?_append_left (by simpa using hj),List.getElem?_replicate,if_pos hj]at e;cases e
 .rw[List.getElem?_append_right (by simpa using hj),List.getElem?_map]at e
  cases hf:fr[i-(List.replicate n Sl.no).length]? with
  |none=>rw[hf]at e;cases e
  |some z=>
   rw[hf]at e;simp only[Option.map_some,Option.some.injEq]at e;split at e<;>cases e
def zF{n:Nat}{fr:bi}{ρ:Ev}{σ:L2.St}(i:Nat)(a:Addr)(e:(dw n fr ρ)[i]?=some (.pt a)):σ[i]?=some (some (.ref a)):=by
 unfold dw at e
 by_cases hj:i<n
 .rw[List.getElem?_append_left (by simpa using hj),List.getElem?_replicate,if_pos hj]at e;cases e
 .rw[List.getElem?_append_right (by simpa using hj),List.getElem?_map]at e
  cases hf:fr[i-(List.replicate n Sl.no).length]? with
  |none=>rw[hf]at e;cases e
  |some z=>
   rw[hf]at e;simp only[Option.map_some,Option.some.injEq]at e;split at e<;>cases e
def vj{n:Nat}{fr:bi}{ρ:Ev}:(dw n fr ρ).length=n+fr.length:=by unfold dw;simp
def wR{K:W.Frag}{E:XK}{n:Nat}{fr:bi}{tg:Ev->D->ax Ev}{tt fe:al}{σ:L2.St}{ρ:Ev}{H Ha H1 H01:Hp}{ds es:ac}{J:It}{Q:VK}(hsame:aF Ha H)(g1:aW H Ha H1 H01)(it:Fc K ds J H01)(hl:ds.length<=line)
  (e2:bX (dw n fr ρ) tg tt fe ds=.ok es)(hr:ez K H01 σ ρ)(hok:Ck n tg)
  (q:∀p vs H' Ha',aW H Ha H' Ha'->H p=none->Ha' p=none->H' p=some (.lst vs)->Reps K Ha' es vs->Q (.ref p) H') :
  vM n fr (Hg K tg) (Iy K E tt) (tD K E fe) J σ H1 Q:=by
 intro Da hDa;have h0D:H01 Da=none:=g1.sub.free hDa;refine⟨λi m ys σ' H'=>m=ds.length-i/\i<=ds.length/\σ'.length=n+fr.length/\∃Ha',aW H1 H01 H' Ha'/\Ha' Da=none/\H' Da=some (.lst ys)/\ez K Ha' σ' (dw n fr ρ)/\∃es1,bX (dw n fr ρ) tg tt fe (ds.take i)=.ok es1/\Reps K Ha' es1 ys,
  ⟨ds.length,by simp,Nat.zero_le _,by unfold lG;simp,H01,?_,h0D,aG,wV hr,[],rfl,Reps.nil⟩,?_⟩
 .refine⟨λb o e=>by rw[aC (bu e hDa)];exact e,aF.refl _,λb o e=>?_,λb k1 k2=>absurd k2 k1⟩
  rw[aC (by intro z;subst z;rw[h0D]at e;cases e)];exact g1.sub _ _ e
 .rintro i m ys σ' H' ⟨rfl,hile,hsl,Ha',gg,hD0,hDl,hrd,es1,hes1,hys⟩
  refine⟨hDl,?_⟩
  by_cases hlt:i<ds.length
  .refine .inr ⟨it.go i H' Ha' gg.z gg.sub hlt,?_,?_⟩
   .rw[←hys.length]
    have:=pC hes1;rw[List.length_take]at this;have h2:line<sizeLine:=by decide
    omega
   .intro x H2 hy
    obtain⟨H₀2,g2,rp⟩:=it.yld i H' Ha' x H2 ds[i] gg.z gg.sub (List.getElem?_eq_getElem hlt) hy;have hsplit:ds=ds.take i++(ds[i]::ds.drop (i+1)):=by rw[←List.drop_eq_getElem_cons hlt,List.take_append_drop]
    rw[hsplit]at e2;obtain⟨a1,a2,k1,k2,k3⟩:=ml e2;rw[hes1]at k1;cases k1;obtain⟨ρ1,t,t1,t2,t3⟩:=iU k2;have hn2:H₀2 Da=none:=by
     cases qq:H₀2 Da with|none=>rfl|some o=>have:=g2.nw Da (by rw[qq];simp) hD0;rw[hDl]at this;cases this
    have hD2:H2 Da=some (.lst ys):=g2.s _ _ hDl;refine⟨H2,H₀2,H₀2,dw n fr ρ,ds[i],⟨aW.refl g2.sub,hrd.mono g2.z,λj d' e=>?_,λj k d1 d2 _ e=>?_,by rw[vj,hsl],OX.none Ci zF⟩,rp,?_⟩
    .unfold dw at e
     by_cases hj:j<n
     .rw[List.getElem?_append_left (by simpa using hj),List.getElem?_replicate,if_pos hj]at e;cases e
     .rw[List.getElem?_append_right (by simpa using hj),List.getElem?_map]at e
      cases hf:fr[j-(List.replicate n Sl.no).length]? with
      |none=>rw[hf]at e;cases e
      |some z=>
       rw[hf]at e;simp only[Option.map_some,Option.some.injEq]at e;split at e<;>cases e
    .unfold dw at e
     by_cases hj:j<n
     .rw[List.getElem?_append_left (by simpa using hj),List.getElem?_replicate,if_pos hj]at e;cases e
     .rw[List.getElem?_append_right (by simpa using hj),List.getElem?_map]at e
      cases hf:fr[j-(List.replicate n Sl.no).length]? with
      |none=>rw[hf]at e;cases e
      |some z=>
       rw[hf]at e;simp only[Option.map_some,Option.some.injEq]at e;split at e<;>cases e
    .rw[t1]
     intro σ3 H3 H03 z3 s3;have hrl:=hok _ _ _ t1;have hσ3:σ3.length=n+fr.length:=by rw[←s3.ln,hrl.1,vj]
     have back:∀{Hx:Hp},aF H03 Hx->ez K Hx σ3 (dw n fr ρ):=λ{Hx} sx k d e=>by
      by_cases hk:k<n
      .rw[EZ hk]at e;cases e
      .rw[←hrl.2 k (by omega)]at e
       obtain⟨v,h1,h2⟩:=s3.rd k d e;exact⟨v,h1,h2.mono sx⟩
     have n3:H03 Da=none:=by
      cases qq:H03 Da with|none=>rfl|some o=>have:=s3.g.nw Da (by rw[qq];simp) hn2;rw[hD2]at this;cases this
     have hD3:H3 Da=some (.lst ys):=s3.g.s _ _ hD2;refine⟨H03,ρ1,s3.g.sub,s3.rd,?_⟩;rw[t2];intro H4 H04 g4;have hD4:H4 Da=some (.lst ys):=g4.s _ _ hD3;have n4:H04 Da=none:=by
      cases qq:H04 Da with|none=>rfl|some o=>have:=g4.nw Da (by rw[qq];simp) n3;rw[hD3]at this;cases this
     have htake:ds.take (i+1)=ds.take i++[ds[i]]:=by rw[List.take_add_one,List.getElem?_eq_getElem hlt];rfl
     have g04:=(gg.trans g2).trans (s3.g.trans g4);rcases t3 with⟨rfl,y,xs,t3,t4,_⟩|⟨rfl,t4⟩
     .rw[if_pos rfl]
      refine⟨H04,ρ1,g4.sub,s3.rd.mono g4.z,?_⟩;rw[t3];intro yv H5 H05 g5 ry;have hD5:H5 Da=some (.lst ys):=g5.s _ _ hD4;have n5:H05 Da=none:=by
       cases qq:H05 Da with|none=>rfl|some o=>have:=g5.nw Da (by rw[qq];simp) n4;rw[hD4]at this;cases this
      have gall:=g04.trans g5;refine⟨hD5,ds.length-(i+1),by omega,rfl,hlt,hσ3,H05,⟨λb o e=>?_,gall.z,λb o e=>?_,gall.nw⟩,n5,aG,back (g4.z.trans g5.z),es1++[y],?_,?_⟩
      .rw[aC (bu e hDa)];exact gall.s _ _ e
      .rw[aC (by intro z;subst z;rw[n5]at e;cases e)];exact gall.sub _ _ e
      .rw[htake]
       refine iT hes1 ?_;rw[iC t1 t2 t3];rfl
      .exact(hys.mono ((g2.z.trans s3.g.z).trans (g4.z.trans g5.z))).app (Reps.cons ry Reps.nil)
     .rw[if_neg Bool.false_ne_true]
      refine⟨ds.length-(i+1),by omega,rfl,hlt,hσ3,H04,g04,n4,hD4,back g4.z,es1,?_,hys.mono ((g2.z.trans s3.g.z).trans g4.z)⟩;rw[htake];rw[show es1=es1++[] by simp];refine iT hes1 ?_;rw[pB t1 t2];rfl
  .have hi2:i=ds.length:=by omega
   refine .inl ⟨it.stop i H' Ha' gg.z gg.sub (by omega),?_⟩;rw[hi2,List.take_length]at hes1;rw[e2]at hes1;cases hes1;exact q Da ys H' Ha' (g1.trans gg) (g1.s.free hDa) hD0 hDl hys
structure K0 (X:Cx) (E:XK) (ifs:List Expr) (f:al):Prop where
 o:Ky X ifs (Iy X.K E f)
def mYes:al:=λ_=>.ok (.bl true)
def iM{X:Cx}{E:XK}:K0 X E [] mYes:=⟨λpins s σ H Q I ⟨Ha,ρ,hs,hr,q⟩=>Dg pins s σ H Q I (q H Ha (aW.refl hs))⟩
def ye{X:Cx}{E:XK}{c:Expr}{f:al}(h:DT X E c f):K0 X E [c] f:=⟨Df h.o⟩
structure IH (X:Cx) (E:XK) (e:Expr) (f:al):Prop where
 ev:PE X e (tF X.K E f)
 st:∀{i:Nat}{x:Str}{pos' spos:Pos},X.N.Nodup->X.N[i]?=some x->X.env.scope.names.lookup x=some .local -> swapsWith e (some (.Name x pos')) spos.line X.env=pure true->PS X (.Assign [.Name x pos'] e spos) (F8 (tF X.K E f) (BG i))
def My{X:Cx}{E:XK}{tgt iter elt:Expr}{ifs:List Expr}{scope:Scope}{pos:Pos}(N:List Str)(n:Nat)(fr:bi){src:Ev->ax (ac)}{tg:Ev->D->ax Ev}{tt fe:al}(hc:X.calm=true)(hi:DI X E tgt iter src)(hok:Ck n tg)
  (blk:∀s H C fp pn,(∀He H0e,DG (eM X N scope s H C fp pn) E He H0e tgt tg)/\K0 (eM X N scope s H C fp pn) E ifs tt/\DE (eM X N scope s H C fp pn) E elt fe)
  (hfr:Cm X N n fr scope)(hcell:∀x∈scope.names,x.2≠.cell)(hfree:∀x∈scope.names,x.2=.free->X.env.scope.names.lookup x.1=some .cell)(hkind:scope.kind=.function)(hnames:∀x∈scope.names,x.2=.local -> scope.names.lookup x.1=some .local)
  (hs:∀x,foldedSetIterable iter X.env x=pure x:=by intro _;rfl):IH X E (.ListComp elt [⟨tgt,iter,ifs,0⟩] scope pos) (dE n fr src tg tt fe):=by
 have blk':∀s H C fp pn,PG (eM X N scope s H C fp pn) tgt (Hg X.K tg)/\Ky (eM X N scope s H C fp pn) ifs (Iy X.K E tt)/\PE (eM X N scope s H C fp pn) elt (tD X.K E fe):=λs H C fp pn=>
  ⟨λpins s' σ' H' v u Q' I r ⟨He,H0e,q'⟩=>((blk s H C fp pn).1 He H0e).o pins s' σ' H' v u Q' I r q',(blk s H C fp pn).2.1.o,(blk s H C fp pn).2.2.o⟩
 have first:∀{pins:List (Addr×Obj)}{s:Shared}{σ:L2.St}{H:Hp}{Q:VK}{RR:Value->Addr->Result->Shared->Prop},L2.Inv X pins σ H s->tF X.K E (dE n fr src tg tt fe) σ H Q ->
   (∀(Da C:Addr) (s6:Shared) (H5:Hp) (m:Str->Option Value),L2.Inv X pins σ H5 s6->s6.heap.Ns C m->mB X pins H5 C->Q (.ref Da) H5->RR (.ref Da) C (.ok .next) s6) ->
   wpAny (model X.prog X.w) X.A (eval iter X.env) (λx sg=>wpAny (model X.prog X.w) X.A (pyIter x) (λit si=>wpAny (model X.prog X.w) X.A (newList []) (λacc sj=>
    wpAny (model X.prog X.w) X.A (newFunctionEnv scope X.env.globals (gZ X.env.cells scope.names []) [] X.env.qual none .none (some X.env)) (λcenv sk=>
     codeAny (model X.prog X.w) X.A (.compStart (.ListComp elt [⟨tgt,iter,ifs,0⟩] scope pos) 0 it acc { cenv with scope:=relabel scope X.env }) (RR acc cenv.locals) sk) X.xe sj) X.xe si) X.xe sg) X.xe s:=by
  intro pins s σ H Q RR I ⟨Ha,ρ,hsame,hr,q⟩ fin;refine cR (hi.o pins s σ H (λJ H1=>vM n fr (Hg X.K tg) (Iy X.K E tt) (tD X.K E fe) J σ H1 Q) I ⟨Ha,ρ,hsame,hr,?_⟩) λv s1 h1=>cR h1 λitv s2 h2=>zA (N:=N) hc hfr hcell hfree hkind blk' h2 fin;unfold dE at q;cases e1:src ρ with
  |stuck|exn x=>rw[e1]at q;exact q
  |ok ds=>
   rw[e1]at q;intro J H1 H01 g1 it;replace q:match (if ds.length<=line then match bX (dw n fr ρ) tg tt fe ds with
     |.ok es=>ax.ok (D.lst es)
     |_=>.stuck else .stuck) with
    |.ok (.lst ds)=>∀p vs H' Ha',aW H Ha H' Ha'->H p=none->Ha' p=none->H' p=some (.lst vs)->Reps X.K Ha' ds vs->Q (.ref p) H'
    |.ok _=>False
    |.exn x=>∀C ox H' Ha',aW H Ha H' Ha'->rE X.K Ha' x C ox->E C ox H'
    |.stuck=>False:=q
   by_cases hl:ds.length<=line
   .rw[if_pos hl]at q
    cases e2:bX (dw n fr ρ) tg tt fe ds with
    |stuck|exn x=>rw[e2]at q;exact q.elim
    |ok es=>
     rw[e2]at q;exact wR hsame g1 it hl e2 (hr.mono g1.z) hok q
   .rw[if_neg hl]at q;exact q.elim
 have hcl:∀{pins:List (Addr×Obj)}{s:Shared}{σ:L2.St}{H:Hp},L2.Inv X pins σ H s->closureFor scope X.env=pure (gZ X.env.cells scope.names []):=λ{pins s σ H} I=>qw λy hy hf=>I.ok.has y.1 (.inl (hfree y hy hf));refine⟨λpins s σ H Q I h=>?_,λ{i x pos' spos} hN hi' hx hsw pins s σ H D' I h=>?_⟩
 .rw[eval_ListComp]
  refine wpAny_comprehension_free (use:=none) rfl hs (hcl I) hkind hnames (first (RR:=λacc C=>compPost (model X.prog X.w) X.A X.xe none (EP X pins σ Q) acc C) I h λDa C s6 H5 m I6 ns fC q=>?_);refine⟨m,ns,λh' sb=>⟨.ref Da,H5,?_,rfl,q⟩⟩;exact I6.turned (t':=s6.toks) (it:=C) (λb o hb e=>(sb.2 b hb).trans e) fC.1 fC.2.1 fC.2.2.2.1 fC.2.2.2.2.1 fC.2.2.2.2.2
 .rw[exec_Assign_Name_used _ _ _ _ hsw]
  refine wpAny_bind (wpAny_standAt (wpAny_bind ?_));show wpAny _ X.A (do let _ ←comprehension (.ListComp elt [⟨tgt,iter,ifs,0⟩] scope pos) scope X.env _ (newList []) false (eval iter X.env) (some (assign (.Name x pos') X.env))) _ _ s;refine wpAny_bind (wpAny_mono (wpAny_comprehension_free (use:=some (assign (.Name x pos') X.env)) (Q:=λ_ s'=>SP X pins D' .next s') rfl hs (hcl I) hkind hnames
   (first (RR:=λacc C=>compPost (model X.prog X.w) X.A X.xe (some (assign (.Name x pos') X.env)) (λ_ s'=>SP X pins D' .next s') acc C) I h λDa C s6 H5 m I6 ns fC q=>?_)) (λ_ s' hq=>wpAny_pure (wpAny_pure hq)) λ_ _ e=>e)
  show wpAny _ X.A (assign (.Name x pos') X.env (.ref Da)) _ _ _;refine wpAny_assign_Name (qF (v:=.ref Da) I6 hN hi' (.inl hx) rfl (λs' I' z9=>?_) (.inr hx));obtain⟨a,sb,ha⟩:=z9;have hCa:C≠a:=by
   rcases ha with rfl|ha
   .exact fC.2.1
   .exact λz=>fC.2.2.2.2.1 x a ha z.symm
  refine⟨m,ns.sameBut sb hCa,λh' sb'=>⟨_,H5,?_,q⟩⟩;exact I'.turned (t':=s'.toks) (it:=C) (λb o hb e=>(sb'.2 b hb).trans e) fC.1 fC.2.1 fC.2.2.2.1 fC.2.2.2.2.1 fC.2.2.2.2.2
def FA{X:Cx}{E:XK}{e:Expr}{f:al}(h:IH X E e f):DF X E e f:=⟨h.ev⟩
def yi{X:Cx}{E:XK}{e:Expr}{n:Nat}{fr:bi}{src:Ev->ax (ac)}{tg:Ev->D->ax Ev}{tt fe:al}(h:IH X E e (dE n fr src tg tt fe)):DE X E e (dE n fr src tg tt fe):=Cb j6 (FA h)
section
variable {X:Cx}{E:XK}{He H0e:Hp}{e:Expr}{f:al}{s:am}{pos:Pos}{st:Stmt}
def unown(i:Nat)(ρ:Ev):Ev:=match ρ[i]? with
 |some (.ow d)=>ρ.set i (.sh d)
 |_=>ρ
def ue(i:Nat)(s:am):am:=λρ=>s (unown i ρ)
def cW.unown{K:W.Frag}{Ha H:Hp}{σ:L2.St}{ρ:Ev}(h:cW K He H0e Ha σ H ρ)(i:Nat):∃Ha',aF Ha Ha'/\cW K He H0e Ha' σ H (DL.unown i ρ):=by
 unfold DL.unown;cases e:ρ[i]? with
 |none=>exact⟨Ha,aF.refl _,h⟩
 |some s=>
  cases s with
  |no|sh d|ox j ds|pt a=>exact⟨Ha,aF.refl _,h⟩
  |ow d=>
   obtain⟨a,k1,k2,k3,k4⟩:=h.ow i d e;obtain⟨o,h5,hrep⟩:∃o,H a=some o/\∀Hb,aF Ha Hb->Hb a=some o->Rep K Hb d (.ref a):=by
    cases d with
    |lst ds=>obtain⟨vs,h5,h6⟩:=k4;exact⟨_,h5,λHb z e=>aB.mpr ⟨a,vs,rfl,dF.of e,h6.mono z⟩⟩
    |dic ks ds=>obtain⟨vs,h5,hl,h6⟩:=k4;exact⟨_,h5,λHb z e=>by rw[Rep];exact⟨a,_,vs,rfl,.inl e,rfl,hl,h6.mono z⟩⟩
    |ob kk ds=>
     cases kk with|dint ks=>obtain⟨vs,h5,hl,h6⟩:=k4;exact⟨_,h5,λHb z e=>by exact bL.mpr ⟨a,vs,rfl,⟨_,.inl e,rfl,hl⟩,h6.mono z⟩⟩| _=>exact k4.elim
    |_=>exact k4.elim
   have z:aF Ha (upd Ha a o):=λb o' q=>by rw[aC (by intro z;subst z;rw[k3]at q;cases q)];exact q
   have h':cW K He H0e (upd Ha a o) σ H (ρ.set i .no):=by
    have nset:∀(j:Nat) (s:Sl),(ρ.set i .no)[j]?=some s->s≠.no->j≠i/\ρ[j]?=some s:=λj s q hs=>by
     by_cases hj:i=j
     .subst hj
      rw[List.getElem?_set_self']at q;rw[e]at q;cases q;exact absurd rfl hs
     .rw[List.getElem?_set_ne hj]at q;exact⟨λz=>hj z.symm,q⟩
    refine⟨⟨h.g.s,h.g.z.trans z,λb o' q=>?_,λb q1 q2=>?_⟩,λj d' q=>?_,λj d' q=>?_,λj k d1 d2 hn q1 q2=>?_,by simp[h.ln],h.ex.upd (λj s q=>?_) z (λb us _ eb=>eb) λq us _ q0 hq hd=>?_⟩
    rotate_left 5
    .by_cases hs:s=.no
     .exact .inr (.inr (.inl hs))
     .exact .inl ⟨(nset j s q hs).2,rfl⟩
    .have hq':q≠a:=by
      intro zz;subst zz;exact hd i _ e k1
     exact⟨hq,by rw[aC hq'];exact q0⟩
    .by_cases hb:b=a
     .subst hb;rw[aG]at q;cases q;exact h5
     .rw[aC hb]at q;exact h.g.sub _ _ q
    .by_cases hb:b=a
     .subst hb;exact k2
     .rw[aC hb]at q1;exact h.g.nw b q1 q2
    .obtain⟨hj,q⟩:=nset j _ q (λz=>nomatch z)
     obtain⟨v,q1,q2⟩:=h.rd j d' q;exact⟨v,q1,q2.mono z⟩
    .obtain⟨hj,q⟩:=nset j _ q (λz=>nomatch z)
     obtain⟨b,q1,q2,q3,q4⟩:=h.ow j d' q;have hb:b≠a:=by
      intro zz;subst zz;exact h.ap j i d' d hj q e (by rw[q1,k1])
     refine⟨b,q1,q2,by rw[aC hb];exact q3,?_⟩;cases d' with
     |lst ds'=>obtain⟨vs',h7,h8⟩:=q4;exact⟨vs',h7,h8.mono z⟩|dic ks' ds'=>obtain⟨vs',h7,hl,h8⟩:=q4;exact⟨vs',h7,hl,h8.mono z⟩
     |ob kk ds'=>
      cases kk with|dint ks'=>obtain⟨vs',h7,hl,h8⟩:=q4;exact⟨vs',h7,hl,h8.mono z⟩| _=>exact q4.elim
     |_=>exact q4.elim
    .obtain⟨_,q1⟩:=nset j _ q1 (λz=>nomatch z)
     obtain⟨_,q2⟩:=nset k _ q2 (λz=>nomatch z);exact h.ap j k d1 d2 hn q1 q2
   refine⟨_,z,?_⟩;have hp:=h'.put (i:=i) (d:=d) (v:=.ref a) (hrep _ z aG);rw[List.set_set]at hp;have hσ:σ.set i (some (V.ref a))=σ:=by
    apply List.ext_getElem?;intro k
    by_cases hk:i=k
    .subst hk
     obtain⟨hil,_⟩:=List.getElem?_eq_some_iff.mp k1;rw[List.getElem?_set_self hil,k1]
    .rw[List.getElem?_set_ne hk]
   rw[hσ]at hp;exact hp
def wK(i:Nat)(h:DS X E He H0e st s):DS X E He H0e st (ue i s):=⟨cb h.o λD' σ H z9=>by
 obtain⟨Ha,ρ,hr,q⟩:=z9;obtain⟨Ha',z,hr'⟩:=hr.unown i;exact⟨Ha',DL.unown i ρ,hr',bK.grow (r:=s (DL.unown i ρ)) q z⟩⟩
end
def sW{X:Cx}{E:XK}{tgt iter elt:Expr}{ifs:List Expr}{scope:Scope}{pos:Pos}(N:List Str)(n:Nat)(fr:bi){src:Ev->ax (ac)}{tg:Ev->D->ax Ev}{tt fe:al}(hc:X.calm=true)(hi:DI X E tgt iter src)(hok:Ck n tg)
  (blk:∀s H C fp pn,(∀He H0e,DG (eM X N scope s H C fp pn) E He H0e tgt tg)/\K0 (eM X N scope s H C fp pn) E ifs tt/\DE (eM X N scope s H C fp pn) E elt fe)
  (hfr:Cm X N n fr scope)(hcell:(scope.names.all λx=>!(x.2==.cell))=true)(hfree:(scope.names.all λx=>!(x.2==.free)||(X.env.scope.names.lookup x.1==some .cell))=true)(hkind:scope.kind=.function)
  (hnames:(scope.names.all λx=>!(x.2==.local)||(scope.names.lookup x.1==some .local))=true)
  (hs:∀x,foldedSetIterable iter X.env x=pure x:=by intro _;rfl):IH X E (.ListComp elt [⟨tgt,iter,ifs,0⟩] scope pos) (dE n fr src tg tt fe):=by
 refine My N n fr hc hi hok blk hfr (λx hx z=>?_) (λx hx z=>?_) hkind (λx hx z=>?_) hs
 .have:=List.all_eq_true.mp hcell x hx
  rw[z]at this;simp at this
 .have:=List.all_eq_true.mp hfree x hx
  rw[z]at this;simpa using this
 .have:=List.all_eq_true.mp hnames x hx
  rw[z]at this;simpa using this
def sR{X:Cx}{E:XK}{He H0e:Hp}{e:Expr}{f:al}{pos:Pos}{i:Nat}{x:Str}{pos':Pos}(hN:X.N.Nodup)(hi:X.N[i]?=some x)(hx:X.env.scope.names.lookup x=some .local)(hl:lV f)(he:IH X E e f)(hs:swapsWith e (some (.Name x pos')) pos.line X.env=pure true:=by rfl):DS X E He H0e (.Assign [.Name x pos'] e pos) (aV i f):=by
 refine⟨cb (he.st hN hi hx hs) λD σ H ⟨Ha,ρ,h,q⟩=>?_⟩;refine tY hl ⟨Ha,ρ,h.g.sub,h.rd,?_⟩;refine plain h q λd v H' Ha' _ g rp q'=>?_;exact q' _ H' Ha' (aF.refl _) ((h.grow g).put rp)
end DL
namespace Com
open PySem L2 DL
def wW:am :=
 (aq (bh (dN (aS (ae 0) (cG "int")) (bR (aS (ae 0) (cG "bool")))))
 ak)
def m_is_whole:ac->ax D:=bT 1 wW
noncomputable def dW:am :=
 (aq (aV 2 (ai (af (ae 0) aA) (m1 u6)))
 (aq (aV 3 (ai (af (ae 1) aA) (m1 u6)))
 (aq (fZ (nG 3) (aa (ae 3) (dC (.int 0)) ic)
 (aq (aV 4 (aa (ae 2) (ae 3) du))
 (aq (aV 2 (ae 3))
 (aq (aV 3 (ae 4))
 ak))))
 (aq (bh (ae 2))
 ak))))
def m_common_divisor:ac->ax D:=bT 5 dW
noncomputable def nR:am :=
 (aq (cP (gY (bR (ai (af (ae 0) aA) m_is_whole)) (bR (ai (af (ae 1) aA) m_is_whole)))
 (aq cX
 ak)
 ak)
 (aq (cP (aa (ae 1) (dC (.int 0)) fF)
 (aq cX
 ak)
 ak)
 (aq (aV 2 (ai (af (ae 0) (af (ae 1) aA)) m_common_divisor))
 (aq (cP (aa (ae 1) (dC (.int 0)) FC)
 (aq (aV 2 (aS (ae 2) qu))
 ak)
 ak)
 (aq (bh (ai (af (aa (ae 0) (ae 2) sY) (af (aa (ae 1) (ae 2) sY) aA)) df))
 ak)))))
def m_ratio:ac->ax D:=bT 3 nR
def FF{α β:Type}{a:α}{f:α->ax β}:(ax.ok a).bind f=f a:=rfl
def jo{s t:am}{ρ ρ':Ev}(h:s ρ=.ok (.nx ρ')):aq s t ρ=t ρ':=by unfold aq;rw[h];rfl
def Av{s t:am}{ρ:Ev}{d:D}(h:s ρ=.ok (.rt d)):aq s t ρ=.ok (.rt d):=by unfold aq;rw[h];rfl
def Ji{s:am}{ρ ρ':Ev}(h:s ρ=.ok (.nx ρ')):aq s ak ρ=.ok (.nx ρ'):=by unfold aq;rw[h];rfl
def Au{i:Nat}{f:al}{ρ:Ev}{d:D}(h:f ρ=.ok d):aV i f ρ=.ok (.nx (ρ.set i (.sh d))):=by unfold aV;rw[h];rfl
def AB{f:al}{ρ:Ev}{d:D}(h:f (ij ρ)=.ok d):bh f ρ=.ok (.rt d):=by unfold bh;rw[h];rfl
def G8{c:al}{s t:am}{ρ:Ev}(h:c (ij ρ)=.ok (.bl false)):cP c s t ρ=t ρ:=by unfold cP;rw[h];rfl
def Bn{i j:Int}:ic (.int i) (.int j)=.ok (.bl (!(i==j))):=by unfold ic;rw[if_pos ⟨rfl,rfl⟩,cL]
def BY{i j:Int}:fF (.int i) (.int j)=.ok (.bl (i==j)):=by unfold fF;rw[if_pos ⟨rfl,rfl⟩,cL]
def vt{f:al}{fa:Ev->ax (ac)}{ρ:Ev}{x:D}{xs:ac}(h:f ρ=.ok x)(h':fa ρ=.ok xs):af f fa ρ=.ok (x::xs):=by unfold af;rw[h,FF,h'];rfl
def pO{f g:al}{op:D->D->ax D}{ρ:Ev}{x y:D}(h:f ρ=.ok x)(h':g ρ=.ok y):aa f g op ρ=op x y:=by unfold aa;rw[h,FF,h'];rfl
def vi{fa:Ev->ax (ac)}{m:ac->ax D}{ρ:Ev}{xs:ac}(h:fa ρ=.ok xs):ai fa m ρ=m xs:=by unfold ai;rw[h];rfl
def wg{a b:Int}(h:b≠0):du (.int a) (.int b)=.ok (.int (a.fmod b)):=by
 show(if decide (b≠0)=true then ax.ok (D.int (a.fmod b)) else .stuck)=_;rw[if_pos (decide_eq_true h)]
def B4{a b:Int}(h:gz a b=true):sY (.int a) (.int b)=.ok (.int (a.fdiv b)):=by
 show(if gz a b=true then ax.ok (D.int (a.fdiv b)) else .stuck)=_;rw[if_pos h]
def uJ(a b:Int):Int.gcd b (a.fmod b)=Int.gcd a b:=by
 rw[Int.fmod_def,Int.gcd_sub_mul_left_right,Int.gcd_comm]
def DX{a b:Int}(h:b≠0):(a.fmod b).natAbs<b.natAbs:=by
 rcases Int.lt_or_gt_of_ne h with hb|hb
 .have h1:=Int.fmod_lt_of_pos (-a) (show 0 < -b by omega)
  have h2:=Int.fmod_nonneg_of_pos (-a) (show 0 < -b by omega);rw[Int.neg_fmod_neg]at h1 h2;omega
 .have h1:=Int.fmod_lt_of_pos a hb
  have h2:=Int.fmod_nonneg_of_pos a hb;omega
theorem mU:∀(n:Nat) (x y:D) (a b:Int) (r:Sl),0<=a->0<=b->b.natAbs<n->∃r',
  cg (aa (ae 3) (dC (.int 0)) ic) (aq (aV 4 (aa (ae 2) (ae 3) du)) (aq (aV 2 (ae 3)) (aq (aV 3 (ae 4)) ak))) n [.sh x,.sh y,.sh (.int a),.sh (.int b),r]=.ok (.nx [.sh x,.sh y,.sh (.int (Int.gcd a b)),.sh (.int 0),r'])
 |0,_,_,a,b,_,_,_,h=>absurd h (Nat.not_lt_zero _)
 |n+1,x,y,a,b,r,ha,hb0,h=>by
  unfold cg;have c:∀r,(aa (ae 3) (dC (.int 0)) ic) (ij [.sh x,.sh y,.sh (.int a),.sh (.int b),r])=.ok (.bl (!(b==0))):=λr=>Bn;rw[c]
  by_cases hb:b=0
  .subst hb
   refine⟨r,?_⟩;have e:((Int.gcd a 0:Nat):Int)=a:=by simp;omega
   rw[e];rfl
  .have e:(!(b==0))=true:=by simp[hb]
   have hp:0<b:=by omega
   obtain⟨r',h2⟩:=mU n x y b (a.fmod b) (.sh (.int (a.fmod b))) hb0 (Int.fmod_nonneg_of_pos a hp) (by have:=DX (a:=a) hb;omega);refine⟨r',?_⟩;rw[uJ]at h2;rw[←h2,e];have st:(aq (aV 4 (aa (ae 2) (ae 3) du)) (aq (aV 2 (ae 3)) (aq (aV 3 (ae 4)) ak))) [.sh x,.sh y,.sh (.int a),.sh (.int b),r]=.ok (.nx [.sh x,.sh y,.sh (.int b),.sh (.int (a.fmod b)),.sh (.int (a.fmod b))]):=by
    have m:(aa (ae 2) (ae 3) du) [.sh x,.sh y,.sh (.int a),.sh (.int b),r]=.ok (.int (a.fmod b)):=by
     exact wg hb
    rw[jo (Au m)];rfl
   show(ax.bind _ _)=_;rw[st];rfl
def mj(a b:Int):m_common_divisor [.int a,.int b]=.ok (.int (Int.gcd a b)):=by
 have e:∀i:Int,(if i<0 then -i else i)=(i.natAbs:Int):=λi=>by split<;>omega
 obtain⟨r',h⟩:=mU ((b.natAbs:Int).natAbs+1) (.int a) (.int b) a.natAbs b.natAbs .no (Int.natCast_nonneg _) (Int.natCast_nonneg _) (Nat.lt_succ_self _);have hg:Int.gcd (a.natAbs:Int) (b.natAbs:Int)=Int.gcd a b:=by simp[Int.gcd]
 rw[hg]at h;have r:dW [.sh (.int a),.sh (.int b),.no,.no,.no]=.ok (.rt (.int (Int.gcd a b))):=by
  unfold dW;rw[jo (ρ':=[.sh (.int a),.sh (.int b),.sh (.int (a.natAbs:Int)),.no,.no]) (by rw[←e a];rfl)];rw[jo (ρ':=[.sh (.int a),.sh (.int b),.sh (.int (a.natAbs:Int)),.sh (.int (b.natAbs:Int)),.no]) (by rw[←e b];rfl)];have w:fZ (nG 3) (aa (ae 3) (dC (.int 0)) ic) (aq (aV 4 (aa (ae 2) (ae 3) du)) (aq (aV 2 (ae 3)) (aq (aV 3 (ae 4)) ak))) [.sh (.int a),.sh (.int b),.sh (.int (a.natAbs:Int)),.sh (.int (b.natAbs:Int)),.no]=.ok (.nx [.sh (.int a),.sh (.int b),.sh (.int (Int.gcd a b)),.sh (.int 0),r']):=h;rw[jo w];exact Av (AB rfl)
 show(dW [.sh (.int a),.sh (.int b),.no,.no,.no]).bind _=_;rw[r];rfl
def vW:(2:Nat) ^ 64<=Cq:=by rw[xb];exact Nat.pow_le_pow_right (by decide) (by decide)
def Bs{i:Int}(h:i.natAbs<18446744073709551616):i.natAbs<Cq:=Nat.lt_of_lt_of_le h vW
def iq{i j:Int}(h:i.natAbs<18446744073709551616)(h':j.natAbs<18446744073709551616):fE i j=true:=by
 unfold fE;rw[Bool.and_eq_true];exact⟨decide_eq_true (Bs h),decide_eq_true (Bs h')⟩
def fK{i j:Int}(h:i.natAbs<Cq)(h':j.natAbs<Cq):fE i j=true:=by
 unfold fE;rw[Bool.and_eq_true];exact⟨decide_eq_true h,decide_eq_true h'⟩
def Ko{i j:Int}(h0:j≠0)(h:j.natAbs<B9):gz i j=true:=by
 unfold gz;rw[Bool.and_eq_true,Bool.or_eq_true];exact⟨decide_eq_true h0,.inl (decide_eq_true h)⟩
def sT{i j:Int}(h0:j≠0)(h:i.natAbs<vD):gz i j=true:=by
 unfold gz;rw[Bool.and_eq_true,Bool.or_eq_true];exact⟨decide_eq_true h0,.inr (decide_eq_true h)⟩
def eZ{ds:ac}{k:Nat}{d:D}(h:ds[k]?=some d):aJ (.lst ds) (.int (k:Int))=.ok d:=by
 unfold aJ;simp only[eE h]
def dM{a b:Int}(hb:0<b):0<=a.fmod b/\a.fmod b<b:=⟨Int.fmod_nonneg_of_pos a hb,Int.fmod_lt_of_pos a hb⟩
def zi{n k:Nat}(h:k<n):(DL.intsFrom 0 n).drop k=.int (k:Int)::(DL.intsFrom 0 n).drop (k+1):=by
 have hl:(DL.intsFrom 0 n).length=n:=by unfold DL.intsFrom;simp
 rw[List.drop_eq_getElem_cons (by rw[hl];exact h)]
 congr 1
 unfold DL.intsFrom;simp
def BD{n:Nat}:(DL.intsFrom 0 n).drop n=[]:=by
 have hl:(DL.intsFrom 0 n).length=n:=by unfold DL.intsFrom;simp
 exact List.drop_eq_nil_of_le (by omega)
def xW{tg:Ev->D->ax Ev}{s:am}{d:D}{r:ac}{ρ ρ1 ρ2:Ev}(h1:tg ρ d=.ok ρ1)(h2:s ρ1=.ok (.nx ρ2)):cA tg s (d::r) ρ=cA tg s r ρ2:=by
 rw[cA,h1,FF,h2,FF]
def JV:D->Bool
 |.int _=>true
 |_=>false
def gL(d:D):m_is_whole [d]=.ok (.bl (JV d)):=by cases d<;>first|rfl|(rename_i k _;cases k<;>rfl)
def lg{a g:Int}(hg:0<g):a.fdiv g=a / g:=Int.fdiv_eq_ediv_of_nonneg a (by omega)
def nF{a b:Int}(h:b≠0):0<(Int.gcd a b:Int):=by
 have:=Int.gcd_pos_of_ne_zero_right a h;omega
def AF{a b:Int}(hb:0<b)(h1:a.natAbs<vD)(h2:b.natAbs<vD):m_ratio [.int a,.int b]=.ok (.tup [.int (a / Int.gcd a b),.int (b / Int.gcd a b)]):=by
 have hg:=nF (a:=a) (b:=b) (by omega);have r:nR [.sh (.int a),.sh (.int b),.no]=.ok (.rt (.tup [.int (a / Int.gcd a b),.int (b / Int.gcd a b)])):=by
  unfold nR;rw[jo (ρ':=[.sh (.int a),.sh (.int b),.no]) (G8 (t:=ak) rfl)];rw[jo (ρ':=[.sh (.int a),.sh (.int b),.no]) (G8 (t:=ak) ((pO (x:=.int b) (y:=.int 0) rfl rfl).trans (BY.trans (by rw[beq_eq_false_iff_ne.mpr (by omega)]))))];rw[jo (ρ':=[.sh (.int a),.sh (.int b),.sh (.int (Int.gcd a b))]) (Au ((vi (xs:=[.int a,.int b]) rfl).trans (mj a b)))];rw[jo (ρ':=[.sh (.int a),.sh (.int b),.sh (.int (Int.gcd a b))]) (G8 (t:=ak) (by
   show ax.ok (D.bl (decide (b<0)))=_;rw[decide_eq_false (by omega)]))]
  refine Av (AB ?_);refine(vi (xs:=[.int (a / Int.gcd a b),.int (b / Int.gcd a b)]) (vt ?_ (vt ?_ rfl))).trans rfl
  .rw[←lg hg]
   exact(pO (x:=.int a) (y:=.int (Int.gcd a b)) rfl rfl).trans (B4 (sT (by omega) h1))
  .rw[←lg hg]
   exact(pO (x:=.int b) (y:=.int (Int.gcd a b)) rfl rfl).trans (B4 (sT (by omega) h2))
 show(nR [.sh (.int a),.sh (.int b),.no]).bind _=_;rw[r];rfl
def LH(p q:Int):D:=.tup [.int p,.int q]
end Com
open Com
namespace Com
open PySem L2 DL
abbrev dP:=Int×Int
def fr(x:dP):D:=LH x.1 x.2
def rB:Nat:=1000000000000000000000000000000000000000000000000000000000000
def E9:rB<=vD:=by rw[tM];exact Nat.le_trans (show rB<=2 ^ 200 by decide) (Nat.pow_le_pow_right (by decide) (by decide))
def yq:vD<=Cq:=by rw[tM,xb];exact Nat.pow_le_pow_right (by decide) (by decide)
structure Low (x:dP):Prop where
 q1:1<=x.2
 g1:Int.gcd x.1 x.2=1
structure je (x:dP):Prop extends Low x where
 pN:x.1.natAbs<rB
 qN:x.2.natAbs<rB
def er(a b:Int):dP:=(a / Int.gcd a b,b / Int.gcd a b)
def fT{a b:Int}(hb:0<b):Low (er a b):=by
 have hg:=nF (a:=a) (b:=b) (by omega);refine⟨?_,Int.gcd_ediv_gcd_ediv_gcd (by omega)⟩;have:=Int.ediv_gcd_ne_zero_if_ne_zero_right a (show b≠0 by omega);have h2:0<=b / (Int.gcd a b:Int):=Int.ediv_nonneg (by omega) (by omega);show 1<=b / (Int.gcd a b:Int);omega
def DK{a b:Int}:(er a b).1*b=a*(er a b).2:=by
 unfold er;obtain⟨x,hx⟩:=Int.gcd_dvd_left a b;obtain⟨y,hy⟩:=Int.gcd_dvd_right a b
 by_cases hg:(Int.gcd a b:Int)=0
 .simp only[hg,Int.ediv_zero,Int.zero_mul,Int.mul_zero]
 .generalize hG:(Int.gcd a b:Int)=G at *
  have e1:a / G=x:=by rw[hx];exact Int.mul_ediv_cancel_left x hg
  have e2:b / G=y:=by rw[hy];exact Int.mul_ediv_cancel_left y hg
  show a / G*b=a*(b / G);rw[e1,e2]
  calc x*b=x*(G*y):=by rw[←hy]
   _=G*x*y:=by grind
   _=a*y:=by rw[←hx]
def xO{a b:Int}:(er a b).1.natAbs<=a.natAbs:=Int.natAbs_ediv_le_natAbs _ _
def xN{a b:Int}:(er a b).2.natAbs<=b.natAbs:=Int.natAbs_ediv_le_natAbs _ _
def oJ{x y:dP}(hx:Low x)(hy:Low y)(h:x.1*y.2=y.1*x.2):x=y:=by
 have d1:x.2∣y.2:=by
  have:x.2∣x.1*y.2:=⟨y.1,by rw[h];exact Int.mul_comm _ _⟩
  rw[←Int.dvd_gcd_mul_iff_dvd_mul,Int.gcd_comm,hx.g1]at this;simpa using this
 have d2:y.2∣x.2:=by
  have:y.2∣y.1*x.2:=⟨x.1,by rw[←h];exact Int.mul_comm _ _⟩
  rw[←Int.dvd_gcd_mul_iff_dvd_mul,Int.gcd_comm,hy.g1]at this;simpa using this
 have e:x.2=y.2:=Int.dvd_antisymm (by have:=hx.q1;omega) (by have:=hy.q1;omega) d1 d2;have e1:x.1=y.1:=by
  rw[e]at h;exact Int.eq_of_mul_eq_mul_right (by have:=hy.q1;omega) h
 exact Prod.ext e1 e
def AE{a b:Int}(hb:0<b)(h1:a.natAbs<vD)(h2:b.natAbs<vD):m_ratio [.int a,.int b]=.ok (fr (er a b)):=AF hb h1 h2
def Bt{a b:Int}(hb:0<b)(h1:a.natAbs<rB)(h2:b.natAbs<rB):je (er a b):=⟨fT hb,Nat.lt_of_le_of_lt xO h1,Nat.lt_of_le_of_lt xN h2⟩
def flt(x y:dP):Bool:=decide (x.1*y.2<y.1*x.2)
def aQ{α:Type}{a b:α}(h:a=b):a=b:=h
def Gh(t:am)(r:Fl):ax Fl:=match r with
 |.nx ρ'=>t ρ'
 |r=>.ok r
def Jh(i:Nat)(ρ:Ev)(d:D):ax Fl:=.ok (.nx (ρ.set i (.sh d)))
def Jm(d:D):ax Fl:=.ok (.rt d)
def Fz(ρ:Ev)(_:D):ax Fl:=.ok (.nx ρ)
def LA(s t:am)(ρ:Ev)(x:D):ax Fl:=match x with
 |.bl b=>if b=true then s ρ else t ρ
 |_=>.stuck
def JI(i:Nat)(ρ:Ev)(d:D):ax Fl:=match d with
 |.lst ds=>.ok (.nx (ρ.set i (.ow (.lst ds))))
 |_=>.stuck
def JH(s:Option Sl)(k:ac->ax Fl):ax Fl:=match s with
 |some (.ow (.lst ds))=>k ds
 |_=>.stuck
def Kx(i:Nat)(ρ:Ev)(ds:ac)(d:D):ax Fl:=if ds.length<line then .ok (.nx (ρ.set i (.ow (.lst (ds++[d]))))) else .stuck
def JF(i j:Nat)(ρ:Ev)(ds:ac):ax Fl:=match ds with
 |[x,y]=>.ok (.nx ((ρ.set i (.sh x)).set j (.sh y)))
 |_=>.stuck
def k2(g:al)(op:D->D->ax D)(ρ:Ev)(x:D):ax D:=(g ρ).bind (op x)
def wQ(x:D)(xs:ac):ax (ac):=.ok (x::xs)
def FE(fa:Ev->ax (ac))(ρ:Ev)(x:D):ax (ac):=(fa ρ).bind (wQ x)
def Im(g:al)(ρ:Ev)(x:D):ax D:=match x with
 |.bl true=>g ρ
 |.bl false=>.ok (.bl false)
 |_=>.stuck
def Lw(g:al)(ρ:Ev)(x:D):ax D:=match x with
 |.bl true=>.ok (.bl true)
 |.bl false=>g ρ
 |_=>.stuck
def JN(x:D):ax D:=match x with
 |.bl b=>.ok (.bl (!b))
 |_=>.stuck
def G7(f g:al)(ρ:Ev)(x:D):ax D:=match x with
 |.bl true=>f ρ
 |.bl false=>g ρ
 |_=>.stuck
def IK(s:Option Sl):ax D:=match s with
 |some (.sh d)=>.ok d
 |_=>.stuck
def Ar(s:Sl):Sl:=match s with
 |.ow d=>.sh d
 |.ox _ ds=>.sh (.tup ds)
 |x=>x
def yI(r:Fl):ax D:=match r with
 |.nx _=>.ok .non
 |.rt d=>.ok d
 |_=>.stuck
def Mb(x:D):ax (Option Int):=match x with
 |.int i=>.ok (some i)
 |_=>.stuck
def ua(x:D)(l:Option Int)(h:Option Int):ax D:=n8 x l h
def Lo(hi:Ev->ax (Option Int))(ρ:Ev)(x:D)(l:Option Int):ax D:=(hi ρ).bind (ua x l)
def Jg(lo hi:Ev->ax (Option Int))(ρ:Ev)(x:D):ax D:=(lo ρ).bind (Lo hi ρ x)
def J5(tg:Ev->D->ax Ev)(s:am)(ρ:Ev)(d:D):ax Fl:=match d with
 |.lst ds=>cA tg s ds ρ
 |_=>.stuck
def EV(op':D->D->ax D)(h:al)(ρ:Ev)(y z:D):ax D:=match z with
 |.bl true=>(h ρ).bind (op' y)
 |.bl false=>.ok (.bl false)
 |_=>.stuck
def Ih(op op':D->D->ax D)(h:al)(ρ:Ev)(x y:D):ax D:=(op x y).bind (EV op' h ρ y)
def Mf(op op':D->D->ax D)(g h:al)(ρ:Ev)(x:D):ax D:=(g ρ).bind (Ih op op' h ρ x)
section
variable {s t:am}{f g h:al}{fa:Ev->ax (ac)}{ρ r:Ev}{i j:Nat}{d x y:D}{ds xs:ac}{op op':D->D->ax D}{a b:Int}
def uM{α β:Type}{a:α}{k:α->ax β}:(ax.ok a).bind k=k a:=aQ rfl
def o8:aq s t ρ=(s ρ).bind (Gh t):=aQ rfl
def sN:Gh t (.nx ρ)=t ρ:=aQ rfl
def D8:Gh t (.rt d)=.ok (.rt d):=aQ rfl
def xY:ak ρ=.ok (.nx ρ):=aQ rfl
def wB:aV i f ρ=(f ρ).bind (Jh i ρ):=aQ rfl
def D7:Jh i ρ d=.ok (.nx (ρ.set i (.sh d))):=aQ rfl
def Hu:bh f ρ=(f (ij ρ)).bind Jm:=aQ rfl
def Eb:Jm d=.ok (.rt d):=aQ rfl
def Et:f9 f ρ=(f (ij ρ)).bind (Fz ρ):=aQ rfl
def BR:Fz ρ d=.ok (.nx ρ):=aQ rfl
def Kg:cP f s t ρ=(f (ij ρ)).bind (LA s t ρ):=aQ rfl
def HJ:LA s t ρ (.bl true)=s ρ:=aQ rfl
def HI:LA s t ρ (.bl false)=t ρ:=aQ rfl
def Hw:jq i f ρ=(f ρ).bind (JI i ρ):=aQ rfl
def Ee:JI i ρ (.lst ds)=.ok (.nx (ρ.set i (.ow (.lst ds)))):=aQ rfl
def HQ:bW i f ρ=JH ρ[i]? λds=>(f ρ).bind (Kx i ρ ds):=aQ rfl
def Ed{k:ac->ax Fl}:JH (some (.ow (.lst ds))) k=k ds:=aQ rfl
def dh(h:decide (ds.length<=999)=true):Kx i ρ ds d=.ok (.nx (ρ.set i (.ow (.lst (ds++[d]))))):=if_pos (Nat.lt_of_le_of_lt (of_decide_eq_true h) (by decide))
def HK:ue i s ρ=s (unown i ρ):=aQ rfl
def Hv:Ax i j fa ρ=(fa ρ).bind (JF i j ρ):=aQ rfl
def Ec:JF i j ρ [x,y]=.ok (.nx ((ρ.set i (.sh x)).set j (.sh y))):=aQ rfl
def Kl{o:D->ax D}:aS f o ρ=(f ρ).bind o:=aQ rfl
def BX:aa f g op ρ=(f ρ).bind (k2 g op ρ):=aQ rfl
def HP:k2 g op ρ x=(g ρ).bind (op x):=aQ rfl
def BW{m:ac->ax D}:ai fa m ρ=(fa ρ).bind m:=aQ rfl
def HC:aA ρ=.ok []:=aQ rfl
def ll:af f fa ρ=(f ρ).bind (FE fa ρ):=aQ rfl
def pd:FE fa ρ x=(fa ρ).bind (wQ x):=aQ rfl
def BU:wQ x xs=.ok (x::xs):=aQ rfl
def HR:dN f g ρ=(f ρ).bind (Im g ρ):=aQ rfl
def Ew:Im g ρ (.bl true)=g ρ:=aQ rfl
def Eu:Im g ρ (.bl false)=.ok (.bl false):=aQ rfl
def Kb:gY f g ρ=(f ρ).bind (Lw g ρ):=aQ rfl
def HA:Lw g ρ (.bl true)=.ok (.bl true):=aQ rfl
def Hz:Lw g ρ (.bl false)=g ρ:=aQ rfl
def HB:bR f ρ=(f ρ).bind JN:=aQ rfl
def Ef{c:Bool}:JN (.bl c)=.ok (.bl (!c)):=aQ rfl
def HH:IG h f g ρ=(h ρ).bind (G7 f g ρ):=aQ rfl
def Er:G7 f g ρ (.bl true)=f ρ:=aQ rfl
def Ep:G7 f g ρ (.bl false)=g ρ:=aQ rfl
def Hj:ae i ρ=IK ρ[i]?:=aQ rfl
def DZ:IK (some (.sh d))=.ok d:=aQ rfl
def LJ:dC d ρ=.ok d:=aQ rfl
def D5:ij []=[]:=aQ rfl
def Hs{c:Sl}:ij (c::r)=Ar c::ij r:=aQ rfl
def D4:Ar (.ow d)=.sh d:=aQ rfl
def D1:Ar (.ox j ds)=.sh (.tup ds):=aQ rfl
def D3:Ar (.sh d)=.sh d:=aQ rfl
def D2:Ar .no=.no:=aQ rfl
def wC{n:Nat}:bT n s ds=(s (ds.map Sl.sh++List.replicate (n-ds.length) .no)).bind yI:=aQ rfl
def Ea:yI (.rt d)=.ok d:=aQ rfl
def D9:yI (.nx ρ)=.ok .non:=aQ rfl
def Ka:bZ f ρ=(f ρ).bind Mb:=aQ rfl
def Hy:Mb (.int a)=.ok (some a):=aQ rfl
def Kc:dH ρ=.ok none:=aQ rfl
def J8{lo hi:Ev->ax (Option Int)}:eV f lo hi ρ=(f ρ).bind (Jg lo hi ρ):=aQ rfl
def Hr{lo hi:Ev->ax (Option Int)}:Jg lo hi ρ x=(lo ρ).bind (Lo hi ρ x):=aQ rfl
def Hq{hi:Ev->ax (Option Int)}{l:Option Int}:Lo hi ρ x l=(hi ρ).bind (ua x l):=aQ rfl
def Ho{l l':Option Int}:ua (.lst ds) l l'=.ok (.lst (jL ds l l')):=aQ rfl
def BQ{tg:Ev->D->ax Ev}:kg f tg s ρ=(f ρ).bind (J5 tg s ρ):=aQ rfl
def Es{tg:Ev->D->ax Ev}:J5 tg s ρ (.lst ds)=cA tg s ds ρ:=aQ rfl
def BV:jK op op' f g h ρ=(f ρ).bind (Mf op op' g h ρ):=aQ rfl
def Kh:Mf op op' g h ρ x=(g ρ).bind (Ih op op' h ρ x):=aQ rfl
def HN:Ih op op' h ρ x y=(op x y).bind (EV op' h ρ y):=aQ rfl
def HM:EV op' h ρ y (.bl true)=(h ρ).bind (op' y):=aQ rfl
def HL:EV op' h ρ y (.bl false)=.ok (.bl false):=aQ rfl
def HG{o:Int->Int->D}:sE (λ_ _=>true) o (.int a) (.int b)=.ok (o a b):=aQ rfl
def HS:bC (.int a) (.int b)=.ok (.int (a+b)):=aQ rfl
def lp{es:ac}(h:decide (ds.length+es.length<=1000)=true):bC (.lst ds) (.lst es)=.ok (.lst (ds++es)):=if_pos (Nat.le_trans (of_decide_eq_true h) (by decide))
def HD:qu (.int a)=.ok (.int (-a)):=aQ rfl
def Kf{m:D->ax D}:m1 m [x]=m x:=aQ rfl
def Ke{m:D->D->ax D}:m2 m [x,y]=m x y:=aQ rfl
def Eh:eO (.lst ds)=.ok (.int ds.length):=aQ rfl
def Eg:eO (.tup ds)=.ok (.int ds.length):=aQ rfl
def Hn(h:decide (ds.length<=1000)=true):df ds=.ok (.tup ds):=if_pos (Nat.le_trans (of_decide_eq_true h) (by decide))
def HF(h:decide (ds.length<=1000)=true):bM ds=.ok (.lst ds):=if_pos (Nat.le_trans (of_decide_eq_true h) (by decide))
def pb:cG "bool" (.int a)=.ok (.bl false):=aQ rfl
def qr:cG "int" (.int a)=.ok (.bl true):=aQ rfl
def qp:cG "str" (.int a)=.ok (.bl false):=aQ rfl
def qo{z:Str}:cG "str" (.str z)=.ok (.bl true):=aQ rfl
def nj:cG "tuple" (.tup ds)=.ok (.bl true):=aQ rfl
def o9:cG "list" (.lst ds)=.ok (.bl true):=aQ rfl
def uO:gA (.non) .non=.ok (.bl false):=aQ rfl
def wG:kK (.int a) .non=.ok (.bl false):=aQ rfl
def wF{z:Str}:kK (.str z) .non=.ok (.bl false):=aQ rfl
def wD:kK (.tup ds) .non=.ok (.bl false):=aQ rfl
def uN:gA (.tup ds) .non=.ok (.bl true):=aQ rfl
def cT(h:fE a b=true):bI (.int a) (.int b)=.ok (.int (a*b)):=if_pos h
def HE(h:(b==0)=false):du (.int a) (.int b)=.ok (.int (a.fmod b)):=wg (λz=>by rw[z]at h;cases h)
def wH(h:gz a b=true):sY (.int a) (.int b)=.ok (.int (a.fdiv b)):=if_pos h
def J9{is:bi}:cS ρ (i::is) (d::ds)=cS (ρ.set i (.sh d)) is ds:=aQ rfl
def Ht:cS ρ [] ds=ρ:=aQ rfl
def K2(i:Nat)(ρ:Ev)(s:Option Sl):Ev:=match s with
 |some (.ow d)=>ρ.set i (.sh d)
 |_=>ρ
def J7:unown i ρ=K2 i ρ ρ[i]?:=aQ rfl
def Hl:K2 i ρ (some (.ow d))=ρ.set i (.sh d):=aQ rfl
def Hk:K2 i ρ (some (.sh d))=ρ:=aQ rfl
def ya{x0:D}:aJ (.lst (x0::xs)) (.int 0)=.ok x0:=by
 unfold aJ;simp only[show atI (x0::xs) 0=some x0 from eE (j:=0) rfl]
def En{x0:D}:aJ (.tup (x0::xs)) (.int 0)=.ok x0:=by
 unfold aJ;simp only[show atI (x0::xs) 0=some x0 from eE (j:=0) rfl]
def xZ{x0 x1:D}:aJ (.lst (x0::x1::xs)) (.int 1)=.ok x1:=by
 unfold aJ;simp only[show atI (x0::x1::xs) 1=some x1 from eE (j:=1) rfl]
def Em{x0 x1:D}:aJ (.tup (x0::x1::xs)) (.int 1)=.ok x1:=by
 unfold aJ;simp only[show atI (x0::x1::xs) 1=some x1 from eE (j:=1) rfl]
def Eo{x0 x1 x2:D}:aJ (.lst (x0::x1::x2::xs)) (.int 2)=.ok x2:=by
 unfold aJ;simp only[show atI (x0::x1::x2::xs) 2=some x2 from eE (j:=2) rfl]
def El{x0 x1 x2:D}:aJ (.tup (x0::x1::x2::xs)) (.int 2)=.ok x2:=by
 unfold aJ;simp only[show atI (x0::x1::x2::xs) 2=some x2 from eE (j:=2) rfl]
def Ek{x0 x1 x2 x3:D}:aJ (.tup (x0::x1::x2::x3::xs)) (.int 3)=.ok x3:=by
 unfold aJ;simp only[show atI (x0::x1::x2::x3::xs) 3=some x3 from eE (j:=3) rfl]
def Ej{x0 x1 x2 x3 x4:D}:aJ (.tup (x0::x1::x2::x3::x4::xs)) (.int 4)=.ok x4:=by
 unfold aJ;simp only[show atI (x0::x1::x2::x3::x4::xs) 4=some x4 from eE (j:=4) rfl]
def Kk:((2:Nat):Int)=2:=aQ rfl
def Kj:((4:Nat):Int)=4:=aQ rfl
def Ki:((5:Nat):Int)=5:=aQ rfl
end
def Fv(fa:Ev->ax (ac))(ρ:Ev)(x:D):ax D:=match x with
 |.str z=>(fa ρ).bind (oP z)
 |_=>.stuck
def Ei{f:al}{fa:Ev->ax (ac)}{ρ:Ev}:uX f fa ρ=(f ρ).bind (Fv fa ρ):=aQ rfl
def BO{fa:Ev->ax (ac)}{ρ:Ev}{z:Str}:Fv fa ρ (.str z)=(fa ρ).bind (oP z):=aQ rfl
end Com
def bU{a b:Prop}(x:a)(y:b):a/\b:=⟨x,y⟩
def KG:=(bU (bU (bU (bU (bU (bU @uM (bU @o8 @sN)) (bU @D8 (bU @xY @wB))) (bU (bU @D7 (bU @Hu @Eb)) (bU (bU @Et @BR) (bU @Kg @HJ)))) (bU (bU (bU @HI (bU @Hw @Ee)) (bU (bU @HQ @Ed) (bU @HK @Hv))) (bU (bU @Ec (bU @Kl @BX)) (bU (bU @HP @BW) (bU @HC @ll))))) (bU (bU (bU (bU @pd (bU @BU @HR)) (bU @Ew (bU @Eu @Kb))) (bU (bU @HA (bU @Hz @HB)) (bU (bU @Ef @HH) (bU @Er @Ep)))) (bU (bU (bU @Hj (bU @DZ @LJ)) (bU (bU @D5 @Hs) (bU @D4 @D3))) (bU (bU @D2 (bU @wC @Ea)) (bU (bU @D9 @Ka) (bU @Hy @Kc)))))) (bU (bU (bU (bU (bU @J8 (bU @Hr @Hq)) (bU @Ho (bU @BQ @Es))) (bU (bU @BV (bU @Kh @HN)) (bU (bU @HM @HL) (bU @HG @HS)))) (bU (bU (bU @HD (bU @Kf @Ke)) (bU (bU @Eh @Eg) (bU @BY @Bn))) (bU (bU @Hn (bU @HF @lp)) (bU (bU @dh @HE) (bU @J9 @Ht))))) (bU (bU (bU (bU @J7 (bU @Hl @Hk)) (bU @ya (bU @xZ @Eo))) (bU (bU @En (bU @Em @El)) (bU (bU @Ek @Ej) (bU @pb @qr)))) (bU (bU (bU @qp (bU @qo @nj)) (bU (bU @o9 @uO) (bU @wG @wF))) (bU (bU @wD (bU @uN @Kk)) (bU (bU @Kj @Ki) (bU @Ei @BO)))))))
local macro_rules|`(tactic|open_line with[$xs,*])=>`(tactic|simp only[KG,List.map_cons,List.map_nil,List.length_cons,List.length_nil,List.replicate_succ,List.replicate_zero,List.nil_append,List.cons_append,List.getElem?_cons_zero,List.getElem?_cons_succ,List.set_cons_zero,List.set_cons_succ,Nat.sub_zero,Nat.reduceSub,Nat.reduceAdd,Nat.add_zero,Nat.zero_add,Bool.not_true,Bool.not_false,decide_true,decide_false,Nat.reduceLeDiff,Nat.reduceBEq,Int.reduceBEq,beq_self_eq_true,DL.dOne,DL.mYes,Int.reduceLT,Int.reduceLE,Int.reduceSub,Int.reduceAdd,Int.reduceMul,Int.reduceNeg,Int.reduceToNat,Bool.and_self,$[$xs:term],*])
namespace Com
open PySem L2 DL
noncomputable def iF:am :=
 (aq (cP (gY (bR (aS (ae 0) (cG "str"))) (bR (jK IF IF (dC (.int 1)) (ai (af (ae 0) aA) (m1 eO)) (dC (.int 8)))))
 (aq (bh (dC (.bl false)))
 ak)
 ak)
 (aq (bh (ai (af (dE 1 [] (CT (ae 0)) (dg 0) mYes (aa (ae 0) (dC (.str "abcdefghijklmnopqrstuvwxyz")) wO)) aA) (m1 u0)))
 ak))
def m_is_name:ac->ax D:=bT 1 iF
noncomputable def dO:am :=
 (aq (cP (gY (bR (aS (ae 0) (cG "tuple"))) (aa (ai (af (ae 0) aA) (m1 eO)) (dC (.int 2)) ic))
 (aq (bh (dC (.bl false)))
 ak)
 ak)
 (aq (cP (gY (bR (ai (af (aa (ae 0) (dC (.int 0)) aJ) aA) m_is_whole)) (bR (ai (af (aa (ae 0) (dC (.int 1)) aJ) aA) m_is_whole)))
 (aq (bh (dC (.bl false)))
 ak)
 ak)
 (aq (bh (dN (aa (aa (ae 0) (dC (.int 1)) aJ) (dC (.int 1)) KP) (aa (ai (af (aa (ae 0) (dC (.int 0)) aJ) (af (aa (ae 0) (dC (.int 1)) aJ) aA)) m_common_divisor) (dC (.int 1)) fF)))
 ak)))
def m_is_ratio:ac->ax D:=bT 1 dO
def MD:Str:="abcdefghijklmnopqrstuvwxyz"
def oR(c:Nat):Bool:=KN ⟨#[c]⟩ MD
def nameB(z:Str):Bool:=decide (1<=z.length)&&(decide (z.length<=8)&&z.cps.toList.all oR)
def JQ:D->Bool
 |.str z=>nameB z
 |_=>false
def KO:D->Bool
 |.str z=>decide (z.length<=line)
 |_=>true
theorem rg{b:Ev}{tg:Ev->D->ax Ev}{tt fe:al}{F:D->D}:∀{ds:ac},(∀d∈ds,∃ρ1,tg b d=.ok ρ1/\tt ρ1=.ok (.bl true)/\fe ρ1=.ok (F d))->bX b tg tt fe ds=.ok (ds.map F)
 |[],_=>rfl
 |d::r,h=>by
  obtain⟨ρ1,h1,h2,h3⟩:=h d List.mem_cons_self;rw[iC h1 h2 h3,rg (λe he=>h e (List.mem_cons_of_mem _ he))];rfl
theorem mW{α:Type}(F:α->Bool):∀(cs:List α),fq (cs.map λc=>D.bl (F c))=some (cs.map F)
 |[]=>rfl
 |c::r=>by
  show(fq (r.map λc=>D.bl (F c))).map (F c::·)=_;rw[mW F r];rfl
def we{z:Str}(hz:z.length<=line):dE 1 [] (CT (ae 0)) (dg 0) mYes (aa (ae 0) (dC (.str "abcdefghijklmnopqrstuvwxyz")) wO) [.sh (.str z)]=.ok (.lst (z.cps.toList.map λc=>.bl (oR c))):=by
 have hl:(jl z).length<=line:=by rw[kB];exact hz
 unfold dE;show(if(jl z).length<=line then _ else _)=_;rw[if_pos hl];have:bX (dw 1 [] [.sh (.str z)]) (dg 0) mYes (aa (ae 0) (dC (.str "abcdefghijklmnopqrstuvwxyz")) wO) (jl z)=.ok (z.cps.toList.map λc=>D.bl (oR c)):=by
  unfold jl
  induction z.cps.toList with
  |nil=>rfl
  |cons c r ih=>
   rw[List.map_cons,iC (x:=.bl (oR c)) rfl rfl rfl,ih];rfl
 rw[this]
def wu{d:D}(h:KO d=true):m_is_name [d]=.ok (.bl (JQ d)):=by
 cases d with
 |str z=>
  have hz:z.length<=line:=of_decide_eq_true h;have hlen:eO (.str z)=.ok (.int z.length):=if_pos hz;show bT 1 iF _=.ok (.bl (nameB z));unfold nameB
  by_cases h1:1<=z.length
  .by_cases h8:z.length<=8
   .have e1:decide ((1:Int)<=(z.length:Int))=true:=decide_eq_true (by omega)
    have e2:decide ((z.length:Int)<=8)=true:=decide_eq_true (by omega);open_line with[iF,hlen,e1,e2,we hz,u0,mW,decide_eq_true h1,decide_eq_true h8,Bool.true_and]
    simp[List.all_map,Function.comp_def]
   .have e1:decide ((1:Int)<=(z.length:Int))=true:=decide_eq_true (by omega)
    have e2:decide ((z.length:Int)<=8)=false:=decide_eq_false (by omega);open_line with[iF,hlen,e1,e2,decide_eq_true h1,decide_eq_false h8,Bool.false_and,Bool.and_false]
  .have e1:decide ((1:Int)<=(z.length:Int))=false:=decide_eq_false (by omega)
   open_line with[iF,hlen,e1,decide_eq_false h1,Bool.false_and]
 |ob k _=>cases k<;>rfl
 |_=>rfl
def og:D->Bool
 |.tup [.int p,.int q]=>decide (1<=q)&&(Int.gcd p q==1)
 |_=>false
def HU{g:Nat}:((g:Int)==1)=(g==1):=by
 cases h:(g==1) with
 |true=>rw[eq_of_beq h];rfl
 |false=>
  have:g≠1:=λz=>by rw[z]at h;cases h
  exact beq_eq_false_iff_ne.mpr (by omega)
def FV{xs:ac}:(∃x y,xs=[x,y])∨xs.length≠2:=by
 match xs with
 |[]=>exact .inr (by decide)
 |[x]=>exact .inr (by simp)
 |[x,y]=>exact .inl ⟨x,y,rfl⟩
 |x::y::z::r=>exact .inr (by simp)
theorem AD:∀{xs:ac},xs.length≠2->og (.tup xs)=false
 |[],_=>rfl
 |[x],_=>by cases x<;>rfl
 |[x,y],h=>absurd rfl h
 |x::y::z::r,_=>by cases x<;>cases y<;>rfl
def vS{x y:D}:og (.tup [x,y])=(JV x&&(JV y&&og (.tup [x,y]))):=by
 cases x<;>cases y<;>rfl
def sD(d:D):m_is_ratio [d]=.ok (.bl (og d)):=by
 cases d with
 |tup xs=>
  rcases FV (xs:=xs) with⟨x,y,rfl⟩|h
  .rw[vS]
   show bT 1 dO _=_;cases hx:JV x with
   |false=>open_line with[dO,gL,hx,Bool.false_and]
   |true=>
    cases hy:JV y with
    |false=>open_line with[dO,gL,hx,hy,Bool.false_and,Bool.true_and]
    |true=>
     cases x<;>first|(cases hx;done)|skip
     cases y<;>first|(cases hy;done)|skip
     rename_i p q;show _=ax.ok (D.bl (decide (1<=q)&&(Int.gcd p q==1)))
     by_cases hq:1<=q
     .open_line with[dO,gL,hx,hy,mj,Bool.true_and,decide_eq_true hq,HU]
     .open_line with[dO,gL,hx,hy,mj,Bool.true_and,decide_eq_false hq,Bool.false_and]
  .have e2:((xs.length:Int)==2)=false:=beq_eq_false_iff_ne.mpr (by omega)
   rw[AD h];show bT 1 dO _=_;open_line with[dO,e2]
 |ob k _=>cases k<;>rfl
 |_=>rfl
def Fi{sz:List Int}(h:(sz.all λs=>decide (0<s)&&decide (s<=(rB:Int)))=true):∀s∈sz,0<s/\s.natAbs<B9:=λs hs=>by
 have:=List.all_eq_true.mp h s hs;simp only[Bool.and_eq_true,decide_eq_true_eq]at this;refine⟨this.1,Nat.lt_of_le_of_lt (show s.natAbs<=rB by omega) ?_⟩;exact Nat.lt_of_lt_of_le (show rB<2 ^ 200 by decide) (by rw[Cp];exact Nat.pow_le_pow_right (by decide) (by decide))
def j0{α:Type}{F:α->D}{xs:List α}{lo hi:Option Int}:jL (xs.map F) lo hi=((xs.drop (HT.sIx xs.length 0 lo)).take (HT.sIx xs.length xs.length hi-HT.sIx xs.length 0 lo)).map F:=by
 unfold jL;rw[List.length_map,←List.map_drop,←List.map_take]
end Com
namespace DL
open PySem PySem.Spec PyProof.Rows L2
structure FI (k:Nat) (A:Around):Prop where
 dp:A.depth+3*k+5<recursionLimit
 un:A.units+16*k+200<cLine
def dX.h{k:Nat}{A:Around}(r:dX k A):FI k A:=⟨r.dp,r.un⟩
structure Mi (P:Program) (w:World) (K:W.Frag) (mg:Str->Option Value) (base:Heap) (k:Nat) (f:Addr) (fd:FuncData) (ps:List Str) (sp:Sp):Prop where
 len:∀vs H Q E,sp vs H Q E->vs.length=ps.length
 run:∀(A:Around) (outer:List PySem.Env) (s:Shared) (H:Hp) (args:Args) (us:List Value) (vs:ad) (Q:VK) (E:XK),FI k A->Cn P w K mg base A outer s H->BindsTo s fd args (ps.zip us)->bo vs us->sp vs H Q E ->
  codeAny (model P w) A (.call (.ref f) args) (CR CX0 outer P w H s Q E) s
def Mi.ok{P:Program}{w:World}{K:W.Frag}{mg:Str->Option Value}{base:Heap}{k:Nat}{f:Addr}{fd:FuncData}{ps:List Str}{sp:Sp}(F:Mi P w K mg base k f fd ps sp):gE P w K mg base CX0 k f fd ps sp :=
 ⟨F.len,λA outer s H args us vs Q E hr=>F.run A outer s H args us vs Q E (dX.h hr)⟩
section
variable {X:Cx}{pins:List (Addr×Obj)}{σ:L2.St}{H:Hp}{s:Shared}{h':Heap}
def jU{t':Nat}{fp:List Addr}{T:Addr}{xs:ad}(I:Inv X pins σ H s)(k:∀b o,b∉fp->s.heap.get? b=some o->h'.get? b=some o)(hf:∀b∈fp,mB X pins H b)(hT:s.heap.objs.size<=T)
  (new:bJ X.prog X.w (upd H T (.tup xs)) h' T (.tup xs)):Inv X pins σ (upd H T (.tup xs)) { s with heap:=h',toks:=t' }:=by
 have hn:H T=none:=I.hok.fresh hT;have nit:∀b u,H b=some u->b∉fp:=λb u e z=>by rw[(hf b z).1]at e;cases e
 refine I.step (g':=s.gens) (d':=s.drawn) (ch:=fp) (λb hb=>?_) (λb o _ _ hc e _=>k b o hc e) (λb o _ _ hc e _=>⟨o.slots,k b o hc e⟩) (λb o _ e n=>?_)
  (λb o hc e=>⟨o,k b o hc e⟩) (λb xs e=>by rw[aC (bu e hn)];exact e) (λb o u e=>by rw[aC (bu e hn)];exact e) (λb ps e=>⟨#[],by rw[aC (bu e hn),e];simp⟩) (λm hm=>?_) (λb u e=>?_) I.bare
 .obtain⟨_,f1,_,f3,f4,f5⟩:=hf b hb
  exact⟨f3,f1,f4,f5⟩
 .rw[aC (Nat.ne_of_lt (Nat.lt_of_lt_of_le (Heap.lt_size e) hT))];exact n
 .obtain⟨o,es,ep,ho,r⟩:=hm
  exact⟨o,es,ep,k _ o (λz=>(hf _ z).2.1 rfl) ho,r⟩
 .by_cases hb:b=T
  .subst hb;rw[aG]at e;cases e;exact new
  .rw[aC hb]at e
   refine(I.hok b u e).stay (λc v hc q=>k c v ?_ q) (λc q=>by rw[aC (bu q hn)];exact q) λc xs q=>by rw[aC (bu q hn)];exact q
   rcases hc with z|z
   .rw[z];exact nit b u e
   .exact nit c _ z
def nA{t':Nat}{fp:List Addr}(I:Inv X pins σ H s)(k:∀b o,b∉fp->s.heap.get? b=some o->h'.get? b=some o)(hf:∀b∈fp,mB X pins H b):Inv X pins σ H { s with heap:=h',toks:=t' }:=by
 have nit:∀b u,H b=some u->b∉fp:=λb u e z=>by rw[(hf b z).1]at e;cases e
 refine I.step (g':=s.gens) (d':=s.drawn) (ch:=fp) (λb hb=>?_) (λb o _ _ hc e _=>k b o hc e) (λb o _ _ hc e _=>⟨o.slots,k b o hc e⟩) (λb o _ e n=>n)
  (λb o hc e=>⟨o,k b o hc e⟩) (λb xs e=>e) (λb o u e=>e) (λb ps e=>⟨#[],by rw[e];simp⟩) (λm hm=>?_) (λb u e=>?_) I.bare
 .obtain⟨_,f1,_,f3,f4,f5⟩:=hf b hb
  exact⟨f3,f1,f4,f5⟩
 .obtain⟨o,es,ep,ho,r⟩:=hm
  exact⟨o,es,ep,k _ o (λz=>(hf _ z).2.1 rfl) ho,r⟩
 .refine(I.hok b u e).stay (λc v hc q=>k c v ?_ q) (λ_ q=>q) λ_ _ q=>q
  rcases hc with z|z
  .rw[z];exact nit b u e
  .exact nit c _ z
end
def Mh(K:W.Frag)(a:Addr):It :=
 ⟨λi H=>∃xs x,dF K H a xs/\xs[i]?=some x,λi H x H'=>∃p y,H p=none/\x=.ref p/\(∀xs,dF K H a xs->xs[i]?=some y)/\H'=upd H p (.tup [.int i,y]),λi H=>∃xs,dF K H a xs/\xs.length<=i⟩
def yz{P:Program}{w:World}{K:W.Frag}{elts:List Expr}{k:Nat}{pos:Pos}(a it e:Addr)(hne:e≠it)(hae:a≠e)(hai:a≠it) :
  qz P w K (.Tuple elts k pos) (Mh K a) [e,it] e (λi h=>(∃old,IsEnum h e it i old)/\h.IsListIter it a i) where
 mem:=by simp
 obj:=λi h st b hb=>by
  obtain⟨⟨old,he⟩,o,h1,h2,h3⟩:=st;rcases List.mem_cons.mp hb with rfl|hb
  .exact⟨_,he,λv z=>by cases z⟩
  .rcases List.mem_cons.mp hb with rfl|hb
   .exact⟨o,h1,λv z=>by rw[h3]at z;cases z⟩
   .cases hb
 keep:=λi h h' st k=>by
  obtain⟨⟨old,he⟩,hi⟩:=st;exact⟨⟨old,k e (by simp) _ he⟩,hi.at λo y=>k it (by simp) o y⟩
 item:=by
  intro X hP hw hK hc i pins s σ H E I hf st hg;subst hP hw hK;obtain⟨xs,x,hq,hx⟩:=hg;obtain⟨its,rv,p,hz⟩:=I.list hq;obtain⟨u,hu,ru⟩:=rv.get hx;have W:=WalksT.enumerate (prog:=X.prog) (w:=X.w) (I.ok.hd hc) e it a hne hae hai its.toArray;have hil:i<its.toArray.size:=by simpa using (List.getElem?_eq_some_iff.mp hu).1
  refine W.item i s _ _ hil ⟨st.1,st.2,p.isList⟩ λT vals h' tk hPt hT hTup hMid hk=>?_;refine⟨_,rfl,W.go elts k pos i T _ _ _ hMid λh'' st'' hk''=>?_⟩;obtain⟨t,y,hy,rfl⟩:=hPt;have hyu:y=u:=by
   have:its[i]?=some y:=by simpa using hy
   rw[hu]at this;cases this;rfl
  subst hyu;obtain⟨o,ho,hr⟩:=hTup;have ho':=hk'' T o (W.apart i T _ hMid) ho;refine⟨.ref T,upd H T (.tup [.int i,x]),jU (s:=s) (h':=h'') (t':=tk) I (λb o hb e=>hk'' b o hb (hk b o hb e)) hf hT ⟨by show 2<=sizeLine;decide,[.int i t,y],.cons ⟨t,rfl⟩ (.cons ru .nil),o,ho',hr⟩,rfl,⟨T,x,I.hok.fresh hT,rfl,λys hy=>by rw[I.list_inj hy hq];exact hx,rfl⟩,⟨st''.1,st''.2.1⟩,λb hb=>?_⟩;have hb0:=(hf b hb).1;obtain⟨ob,hob,_⟩:∃o,s.heap.get? b=some o/\∀v,o.data≠.cell v:=by
   obtain⟨⟨old,he⟩,o,h1,h2,h3⟩:=st;rcases List.mem_cons.mp hb with rfl|hb
   .exact⟨_,he,λv z=>by cases z⟩
   .rcases List.mem_cons.mp hb with rfl|hb
    .exact⟨o,h1,λv z=>by rw[h3]at z;cases z⟩
    .cases hb
  rw[aC (Nat.ne_of_lt (Nat.lt_of_lt_of_le (Heap.lt_size hob) hT))];exact hb0
 done:=by
  intro X hP hw hK hc i pins s σ H E I hf st hg;subst hP hw hK;obtain⟨xs,hq,hx⟩:=hg;obtain⟨its,rv,p,hz⟩:=I.list hq;have hl:=rv.length;obtain⟨⟨old,he⟩,hi⟩:=st;exact wpAny_pyNext_enum_end (I.ok.hd hc) he hi p.isList (by simp;omega) λh' hx=>⟨rfl,nA (t':=s.toks) I (λb o hb e=>hx b o (λz=>hb (by simp[z])) e) hf⟩
 self:=λ_ _ _ _ _ st h=>by
  obtain⟨⟨old,he⟩,_⟩:=st;exact wpAny_pyIter_enum he h
section
variable {X:Cx}{E:XK}{elts:List Expr}{k:Nat}{tp:Pos}{e a b:Expr}{f g:al}
def J1(K:W.Frag)(ta:TA):TI:=λσ H R=>ta σ H λvs H1=>∃a,vs=[.ref a]/\(∃xs,dF K H1 a xs)/\R (Mh K a) H1
def Dj{ta:TA}{p pos:Pos}(hg:Gl X "enumerate")(hm:X.mg "enumerate"=none)(ha:PA X [a] ta)(hs:starEach [a] X.env=[(false,eval a X.env)]:=by rfl):PI X (.Tuple elts k tp) (.Call (.Name "enumerate" p) [a] [] pos) (J1 X.K ta):=by
 intro pins s σ H R I h;refine Call_ (jE I hg hm PyProof.Rows.Boot.«enumerate» (PyProof.Rows.callWith_type1 (cR (ha pos pins s σ H _ I h) λus s1 z9=>?_) hs rfl));obtain⟨vs,H1,I1,r1,q1⟩:=z9;obtain⟨l,e,⟨xs,hq⟩,q⟩:=q1;subst e;cases r1 with
 |cons r rr=>
  cases rr;cases r;obtain⟨its,rv,p,hz⟩:=I1.list hq;have hlt:l<s1.heap.objs.size:=by obtain⟨o,n,e,_⟩:=p;exact Heap.lt_size e
  refine call_enumerate_list p.isList λh' he hi hsz hk=>?_;refine wpAny_pyIter_enum he ?_;refine⟨s1.heap.objs.size+1,[s1.heap.objs.size+1,s1.heap.objs.size],_,_,H1,rfl,I1.kept (t':=s1.toks) hk,yz l s1.heap.objs.size (s1.heap.objs.size+1) (Nat.succ_ne_self _) (Nat.ne_of_lt (Nat.lt_succ_of_lt hlt)) (Nat.ne_of_lt hlt),⟨⟨_,he⟩,hi⟩,λb hb=>?_,q⟩;have hb':s1.heap.objs.size<=b:=by
   rcases List.mem_cons.mp hb with rfl|hb
   .omega
   .rcases List.mem_cons.mp hb with rfl|hb
    .exact Nat.le_refl _
    .cases hb
  exact I1.fpOk hb' (I1.hok.fresh hb')
def bw(n:Nat):ac->ac
 |[]=>[]
 |d::ds=>.tup [.int n,d]::bw (n+1) ds
theorem numbered_len:∀(ds:ac) (n:Nat),(bw n ds).length=ds.length
 |[],_=>rfl
 |d::ds,n=>by simp[bw,numbered_len ds]
theorem c6:∀(ds:ac) (n i:Nat),(bw n ds)[i]?=(ds[i]?).map λd=>D.tup [.int (n+i:Nat),d]
 |[],_,_=>by simp[bw]
 |d::ds,n,0=>by simp[bw]
 |d::ds,n,i+1=>by simp only[bw,List.getElem?_cons_succ];rw[c6 ds (n+1) i,show n+1+i=n+(i+1) by omega]
def ke(f:al):Ev->ax (ac):=λρ=>(f ρ).bind λd=>match d with
 |.lst ds=>.ok (bw 0 ds)
 |_=>.stuck
def rJ{K:W.Frag}{H Ha:Hp}{p:Addr}{vs:ad}{ds:ac}(hs:aF Ha H)(hp:H p=none)(r:Reps K Ha ds vs):∃H₀2,aW H Ha (upd H p (.tup vs)) H₀2/\Rep K H₀2 (.tup ds) (.ref p) :=
 ⟨upd Ha p (.tup vs),aO hs hp,aH.mpr ⟨p,vs,rfl,fS.of aG,r.mono (aO (o:=.tup vs) hs hp).z⟩⟩
def gN{p pos:Pos}(hg:Gl X "enumerate")(hm:X.mg "enumerate"=none)(h:DE X E a f)(hn:Fs a=true:=by exact rfl):DI X E (.Tuple elts k tp) (.Call (.Name "enumerate" p) [a] [] pos) (ke f):=by
 refine⟨k6 (Dj hg hm (cQ h.o fI (eP hn)) (eP hn)) λσ H R z9=>?_⟩;obtain⟨Ha,ρ,hs,hr,q⟩:=z9;refine⟨Ha,ρ,hs,hr,?_⟩;unfold ke at q;cases e1:f ρ with
 |stuck|exn x=>rw[e1]at q;exact q
 |ok d=>
  rw[e1]at q;intro v H1 H01 g1 r1;cases d with
  |lst ds=>
   obtain⟨l,vs,rfl,hv,hrv⟩:=aB.mp r1;refine⟨l,rfl,⟨vs,aF.sqL g1.sub hv⟩,q _ H1 H01 g1 ⟨λi H' Ha' s1 s2 hi=>?_,λi H' Ha' x H2 d s1 s2 hd hy=>?_,λi H' Ha' s1 s2 hi=>?_⟩⟩
   .rw[numbered_len]at hi
    exact⟨vs,vs[i]'(by rw[←hrv.length];exact hi),aF.sqL (s1.trans s2) hv,by simp⟩
   .obtain⟨p,y,hp,rfl,hy,rfl⟩:=hy
    rw[c6]at hd;cases ei:ds[i]? with
    |none=>rw[ei]at hd;cases hd
    |some d'=>
     rw[ei]at hd;cases hd;obtain⟨u,k1,k2⟩:=hrv.get ei;have:=hy vs (aF.sqL (s1.trans s2) hv);rw[k1]at this;cases this;exact rJ s2 hp (Reps.cons (aE.mpr (by simp)) (Reps.cons (k2.mono s1) Reps.nil))
   .rw[numbered_len]at hi
    exact⟨vs,aF.sqL (s1.trans s2) hv,by rw[←hrv.length];exact hi⟩
  |_=>exact q.elim
end
noncomputable def Mg(K:W.Frag) (a b:Addr):It :=
 ⟨λi H=>∃xs ys x y,dF K H a xs/\dF K H b ys/\xs[i]?=some x/\ys[i]?=some y,λi H x H'=>∃p y z,H p=none/\x=.ref p/\(∀xs,dF K H a xs->xs[i]?=some y)/\(∀xs,dF K H b xs->xs[i]?=some z)/\H'=upd H p (.tup [y,z]),
  λi H=>∃xs ys,dF K H a xs/\dF K H b ys/\min xs.length ys.length<=i⟩
def Ac{P:Program}{w:World}{K:W.Frag}{elts:List Expr}{k:Nat}{pos:Pos}(z TI TO i1 i2 a b:Addr)(D:ZipApart z TI TO i1 i2 a b) :
  qz P w K (.Tuple elts k pos) (Mg K a b) [z,TI,TO,i1,i2] z (λi h=>IsZip h z TI TO .none/\IsPair h TI (.ref i1) (.ref i2)/\(∃a b,IsPair h TO a b)/\h.IsListIter i1 a i/\h.IsListIter i2 b i) where
 mem:=by simp
 obj:=λi h st b hb=>by
  obtain⟨hz,hTI,⟨a',b',hTO⟩,⟨o1,e1,c1,d1⟩,⟨o2,e2,c2,d2⟩⟩:=st;simp only[List.mem_cons,List.not_mem_nil,or_false]at hb;rcases hb with rfl|rfl|rfl|rfl|rfl
  .exact⟨_,hz,λv z=>by cases z⟩
  .exact⟨_,hTI,λv z=>by cases z⟩
  .exact⟨_,hTO,λv z=>by cases z⟩
  .exact⟨_,e1,λv z=>by rw[d1]at z;cases z⟩
  .exact⟨_,e2,λv z=>by rw[d2]at z;cases z⟩
 keep:=λi h h' st k=>by
  obtain⟨hz,hTI,⟨a',b',hTO⟩,h1,h2⟩:=st;exact⟨k z (by simp) _ hz,k TI (by simp) _ hTI,⟨a',b',k TO (by simp) _ hTO⟩,h1.at λo y=>k i1 (by simp) o y,h2.at λo y=>k i2 (by simp) o y⟩
 item:=by
  intro X hP hw hK hc i pins s σ H E I hf st hg;subst hP hw hK;obtain⟨xs,ys,x,y,hqx,hqy,hx,hy⟩:=hg;obtain⟨its,rv,p,hz⟩:=I.list hqx;obtain⟨jts,rw_,p',hz'⟩:=I.list hqy;obtain⟨u,hu,ru⟩:=rv.get hx;obtain⟨u',hu',ru'⟩:=rw_.get hy;have W:=WalksT.zip2 (prog:=X.prog) (w:=X.w) (I.ok.hd hc) z TI TO i1 i2 a b D its.toArray jts.toArray;have hil:i<min its.toArray.size jts.toArray.size:=by
   have h1:=(List.getElem?_eq_some_iff.mp hu).1;have h2:=(List.getElem?_eq_some_iff.mp hu').1;simp only[List.size_toArray];omega
  have sub:∀b,b∉[z,TI,TO,i1,i2]->b∉[z,TO,i1,i2]:=λb hb hc=>hb (by simp only[List.mem_cons,List.not_mem_nil,or_false]at hc ⊢;rcases hc with h|h|h|h<;>simp[h]);refine W.item i s _ _ hil ⟨st.1,st.2.1,st.2.2.1,st.2.2.2.1,st.2.2.2.2,p.isList,p'.isList⟩ λT vals h' tk hPt hT hTup hMid hk=>?_;refine⟨_,rfl,W.go elts k pos i T _ _ _ hMid λh'' st'' hk''=>?_⟩;obtain⟨v,v',hv,hv',rfl⟩:=hPt;have hyu:v=u:=by
   have:its[i]?=some v:=by simpa using hv
   rw[hu]at this;cases this;rfl
  have hyu':v'=u':=by
   have:jts[i]?=some v':=by simpa using hv'
   rw[hu']at this;cases this;rfl
  subst hyu hyu';obtain⟨o,ho,hr⟩:=hTup;have ho':=hk'' T o (W.apart i T _ hMid) ho;refine⟨.ref T,upd H T (.tup [x,y]),jU (s:=s) (h':=h'') (t':=tk) I (λb o hb e=>hk'' b o (sub b hb) (hk b o (sub b hb) e)) hf hT ⟨by show 2<=sizeLine;decide,[v,v'],.cons ru (.cons ru' .nil),o,ho',hr⟩,rfl,⟨T,x,y,I.hok.fresh hT,rfl,λys hy'=>by rw[I.list_inj hy' hqx];exact hx,λys hy'=>by rw[I.list_inj hy' hqy];exact hy,rfl⟩,
   ⟨st''.1,st''.2.1,st''.2.2.1,st''.2.2.2.1,st''.2.2.2.2.1⟩,λb hb=>?_⟩
  have hb0:=(hf b hb).1;obtain⟨ob,hob⟩:∃o,s.heap.get? b=some o:=by
   obtain⟨hz,hTI,⟨a',b',hTO⟩,⟨o1,e1,c1,d1⟩,⟨o2,e2,c2,d2⟩⟩:=st;simp only[List.mem_cons,List.not_mem_nil,or_false]at hb;rcases hb with rfl|rfl|rfl|rfl|rfl
   .exact⟨_,hz⟩
   .exact⟨_,hTI⟩
   .exact⟨_,hTO⟩
   .exact⟨_,e1⟩
   .exact⟨_,e2⟩
  rw[aC (Nat.ne_of_lt (Nat.lt_of_lt_of_le (Heap.lt_size hob) hT))];exact hb0
 done:=by
  intro X hP hw hK hc i pins s σ H E I hf st hg;subst hP hw hK;obtain⟨xs,ys,hqx,hqy,hx⟩:=hg;obtain⟨its,rv,p,hz⟩:=I.list hqx;obtain⟨jts,rw_,p',hz'⟩:=I.list hqy;have hl:=rv.length;have hl':=rw_.length;obtain⟨hz,hTI,⟨a',b',hTO⟩,h1,h2⟩:=st;refine wpAny_pyNext_zip_end (I.ok.hd hc) D hz hTI hTO h1 h2 p.isList p'.isList ?_ λh' hk=>⟨rfl,nA (t':=s.toks) I (λc o hb e=>hk c o (λx=>hb (by simp[x])) (λx=>hb (by simp[x])) (λx=>hb (by simp[x])) (λx=>hb (by simp[x])) e) hf⟩
  by_cases hle:xs.length<=ys.length
  .left;simp;omega
  .right;simp;omega
 self:=λ_ _ _ _ _ st h=>by
  obtain⟨hz,_⟩:=st;exact wpAny_pyIter_zip hz h
section
variable {X:Cx}{E:XK}{elts:List Expr}{k:Nat}{tp:Pos}{e a b:Expr}{f g:al}
def cZ:ac->ac->ac
 |d::ds,e::es=>.tup [d,e]::cZ ds es
 |_,_=>[]
theorem gh:∀(ds es:ac),(cZ ds es).length=min ds.length es.length
 |[],_=>by simp[cZ]
 |_::_,[]=>by simp[cZ]
 |d::ds,e::es=>by simp[cZ,gh ds es]
theorem kD:∀(ds es:ac) (i:Nat) (d:D),(cZ ds es)[i]?=some d->∃x y,ds[i]?=some x/\es[i]?=some y/\d=.tup [x,y]
 |[],_,_,_,h=>by simp[cZ]at h
 |_::_,[],_,_,h=>by simp[cZ]at h
 |d::ds,e::es,0,_,h=>by simp[cZ]at h;exact⟨d,e,rfl,rfl,h.symm⟩
 |d::ds,e::es,i+1,_,h=>by
  simp only[cZ,List.getElem?_cons_succ]at h;obtain⟨x,y,h1,h2,h3⟩:=kD ds es i _ h;exact⟨x,y,by simpa using h1,by simpa using h2,h3⟩
end
section
variable {X:Cx}{E:XK}{e a b o:Expr}{es:List Expr}{fe fo:al}{fa:Ev->ax (ac)}{pos:Pos}
def G6:ac->Option (List Int)
 |[]=>some []
 |.int x::r=>(G6 r).map (x::·)
 |_=>none
def JW(a:Int):List Int->List Int
 |[]=>[a]
 |b::l=>if a<=b then a::b::l else b::JW a l
def Je:List Int->List Int
 |[]=>[]
 |a::l=>JW a (Je l)
end
end DL
namespace Com
open PySem L2 DL
def Fy(tg:Ev->D->ax Ev)(s:am)(ρ:Ev)(ds:ac):ax Fl:=cA tg s ds ρ
def Fm(d:D):ax (ac):=match d with
 |.lst ds=>.ok (bw 0 ds)
 |_=>.stuck
def Fj(d:D):ax (ac):=match d with
 |.lst ds=>.ok ds
 |_=>.stuck
def ja(n:Nat)(fr:bi)(tg:Ev->D->ax Ev)(tt fe:al)(ρ:Ev)(ds:ac):ax D:=if ds.length<=line then match bX (dw n fr ρ) tg tt fe ds with
  |.ok es=>.ok (.lst es)
  |_=>.stuck
 else .stuck
def xV(tg:Ev->D->ax Ev)(s:am)(ρ:Ev)(d:D):ax Fl:=match d with
 |.int j=>if -4611686018427387904<=j/\j<4611686018427387904 then cA tg s (intsFrom 0 j.toNat) ρ else .stuck
 |_=>.stuck
section
variable {s t:am}{f g h:al}{src:Ev->ax (ac)}{fa:Ev->ax (ac)}{ρ r:Ev}{i j n:Nat}{d x y:D}{ds es xs:ac}{a b:Int}{tg:Ev->D->ax Ev}{tt fe:al}{fr:bi}
def sO:gG src tg s ρ=(src ρ).bind (Fy tg s ρ):=aQ rfl
def BP:Fy tg s ρ ds=cA tg s ds ρ:=aQ rfl
def sL:ke f ρ=(f ρ).bind Fm:=aQ rfl
def o6:Fm (.lst ds)=.ok (bw 0 ds):=aQ rfl
def D0:vO f ρ=(f ρ).bind Fj:=aQ rfl
def BN:Fj (.lst ds)=.ok ds:=aQ rfl
def fU:dE n fr src tg tt fe ρ=(src ρ).bind (ja n fr tg tt fe ρ):=aQ rfl
def uP{is:bi}(h:(ds.length==is.length)=true):cD is ρ (.tup ds)=.ok (cS ρ is ds):=by
 show(match (if ds.length=is.length then some ds else none) with|some ds=>ax.ok (cS ρ is ds)|none=>.stuck)=_;rw[if_pos (eq_of_beq h)]
def lh:kU f tg s ρ=(f (ij ρ)).bind (xV tg s ρ):=aQ rfl
def k9{k:Nat}(h:k<=1000000):xV tg s ρ (.int (k:Int))=cA tg s (intsFrom 0 k) ρ:=by
 unfold xV;dsimp only;rw[if_pos ⟨by omega,by omega⟩,Int.toNat_natCast]
def iK:qt (.int 10) (.int 18)=.ok (.int 1000000000000000000):=aQ rfl
def iB{F:D->D}(hl:ds.length<=1000000)(h:∀d∈ds,∃ρ1,tg (dw n fr ρ) d=.ok ρ1/\tt ρ1=.ok (.bl true)/\fe ρ1=.ok (F d)):ja n fr tg tt fe ρ ds=.ok (.lst (ds.map F)):=by
 unfold ja;rw[if_pos (show ds.length<=line from hl),rg h]
theorem mV{B:Ev}{F:D->D}{p:D->Bool}:∀{ds:ac},(∀d∈ds,∃ρ1,tg B d=.ok ρ1/\tt ρ1=.ok (.bl (p d))/\(p d=true->fe ρ1=.ok (F d)))->bX B tg tt fe ds=.ok ((ds.filter p).map F)
 |[],_=>rfl
 |d::ds,h=>by
  obtain⟨ρ1,h1,h2,h3⟩:=h d List.mem_cons_self;have ih:=mV (ds:=ds) λd hd=>h d (List.mem_cons_of_mem _ hd);unfold bX;rw[h1,FF,h2,FF];cases hp:p d with
  |true=>
   show(fe ρ1).bind _=_;rw[h3 hp,FF,ih,FF,List.filter_cons_of_pos hp];rfl
  |false=>
   show bX B tg tt fe ds=_;rw[ih,List.filter_cons_of_neg (by rw[hp];decide)]
def mT{F:D->D}{p:D->Bool}(hl:ds.length<=1000000)(h:∀d∈ds,∃ρ1,tg (dw n fr ρ) d=.ok ρ1/\tt ρ1=.ok (.bl (p d))/\(p d=true->fe ρ1=.ok (F d))):ja n fr tg tt fe ρ ds=.ok (.lst ((ds.filter p).map F)):=by
 unfold ja;rw[if_pos (show ds.length<=line from hl),mV h]
end
def Fb:rB<=2 ^ 200:=by decide
def un(s x:dP):dP:=(s.1*x.2+x.1*s.2,s.2*x.2)
end Com
def LY:=(bU (bU (bU @D1 @sO) (bU @BP (bU @sL @o6))) (bU (bU @D0 (bU @BN @fU)) (bU @uP (bU @lh @iK))))
local macro_rules|`(tactic|open_line with[$xs,*])=>`(tactic|simp only[KG,LY,List.map_cons,List.map_nil,List.length_cons,List.length_nil,List.replicate_succ,List.replicate_zero,List.nil_append,List.cons_append,List.getElem?_cons_zero,List.getElem?_cons_succ,List.set_cons_zero,List.set_cons_succ,Nat.sub_zero,Nat.reduceSub,Nat.reduceAdd,Nat.add_zero,Nat.zero_add,Bool.not_true,Bool.not_false,decide_true,decide_false,Nat.reduceLeDiff,Nat.reduceBEq,Int.reduceBEq,beq_self_eq_true,DL.dOne,DL.mYes,Int.reduceLT,Int.reduceLE,Int.reduceSub,Int.reduceAdd,Int.reduceMul,Int.reduceNeg,Int.reduceToNat,Bool.and_self,$[$xs:term],*])
namespace Com
open PySem L2 DL
def iJ{a b:Int}(ha:0<=a)(hb:0<b):0<=(er a b).1:=Int.ediv_nonneg ha (by omega)
def DJ{a:Int}(h0:0<=a)(h1:a<(rB:Int)):a.natAbs<vD:=Nat.lt_of_lt_of_le (show a.natAbs<rB by omega) E9
def nH{i:Nat}{body:am}(P:Nat->Ev->Prop){n:Nat}(h:∀k,k<n->∀ρ,P k ρ->∃ρ2,body (ρ.set i (.sh (.int (k:Int))))=.ok (.nx ρ2)/\P (k+1) ρ2){ρ:Ev}(h0:P 0 ρ):∃ρ',cA (dg i) body (intsFrom 0 n) ρ=.ok (.nx ρ')/\P n ρ':=by
 have key:∀(m k:Nat) (ρ:Ev),k+m=n->P k ρ->∃ρ',cA (dg i) body ((intsFrom 0 n).drop k) ρ=.ok (.nx ρ')/\P n ρ':=by
  intro m
  induction m with
  |zero=>
   intro k ρ hk hp;have:k=n:=by omega
   subst this;rw[BD];exact⟨ρ,rfl,hp⟩
  |succ m ih=>
   intro k ρ hk hp;obtain⟨ρ2,h1,h2⟩:=h k (by omega) ρ hp;rw[zi (by omega),xW (tg:=dg i) rfl h1];exact ih (k+1) ρ2 (by omega) h2
 exact key n 0 ρ (by omega) h0
def eC{tg:Ev->D->ax Ev}{body:am}{ds:ac}(P:Nat->Ev->Prop)(h:∀k d,ds[k]?=some d->∀ρ,P k ρ->∃ρ1 ρ2,tg ρ d=.ok ρ1/\body ρ1=.ok (.nx ρ2)/\P (k+1) ρ2){ρ:Ev}(h0:P 0 ρ):∃ρ',cA tg body ds ρ=.ok (.nx ρ')/\P ds.length ρ':=by
 have key:∀(m k:Nat) (ρ:Ev),k+m=ds.length->P k ρ->∃ρ',cA tg body (ds.drop k) ρ=.ok (.nx ρ')/\P ds.length ρ':=by
  intro m
  induction m with
  |zero=>
   intro k ρ hk hp;have:k=ds.length:=by omega
   subst this;rw[List.drop_length];exact⟨ρ,rfl,hp⟩
  |succ m ih=>
   intro k ρ hk hp;have hlt:k<ds.length:=by omega
   obtain⟨ρ1,ρ2,h1,h2,h3⟩:=h k ds[k] (List.getElem?_eq_getElem hlt) ρ hp;rw[List.drop_eq_getElem_cons hlt,xW h1 h2];exact ih (k+1) ρ2 (by omega) h3
 exact key ds.length 0 ρ (by omega) h0
structure Drawn (sz vs:List Int):Prop where
 len:vs.length=sz.length
 bnd:∀(i:Nat) (v s:Int),vs[i]?=some v->sz[i]?=some s->0<=v/\v<s
def Drawn.at{sz vs:List Int}(W:Drawn sz vs)(i:Nat){s:Int}(h:sz[i]?=some s):∃v,vs[i]?=some v/\(0<=v/\v<s)/\aJ (.lst (vs.map D.int)) (.int (i:Int))=.ok (.int v):=by
 have hi:i<vs.length:=by rw[W.len];exact(List.getElem?_eq_some_iff.mp h).1
 refine⟨vs[i],List.getElem?_eq_getElem hi,W.bnd i _ _ (List.getElem?_eq_getElem hi) h,eZ ?_⟩;rw[List.getElem?_map,List.getElem?_eq_getElem hi];rfl
def Drawn.ix{sz vs:List Int}(W:Drawn sz vs)(k:Int)(i:Nat){s:Int}(hk:k=(i:Int))(h:sz[i]?=some s):∃v,vs[i]?=some v/\(0<=v/\v<s)/\aJ (.lst (vs.map D.int)) (.int k)=.ok (.int v):=by
 subst hk;exact W.at i h
def E4:("abcdefghijklmnopqrstuvwxyz":Str).cps.toList=(List.range 26).map (97 + ·):=by decide +kernel
def w4:∀n,n<26->oR (97+n)=true:=by decide +kernel
def wZ{v:Int}(h0:0<=v)(h1:v<26):aJ (.str "abcdefghijklmnopqrstuvwxyz") (.int v)=.ok (.str ⟨#[97+v.toNat]⟩):=by
 obtain⟨n,rfl⟩:=Int.eq_ofNat_of_zero_le h0;have hn:n<26:=by omega
 have e:atI ("abcdefghijklmnopqrstuvwxyz":Str).cps.toList ((n:Nat):Int)=some (97+n):=eE (by rw[E4];simp[hn]);show(if("abcdefghijklmnopqrstuvwxyz":Str).length<=line then(match atI ("abcdefghijklmnopqrstuvwxyz":Str).cps.toList ((n:Nat):Int) with|some c=>ax.ok (D.str ⟨#[c]⟩)|none=>.stuck) else .stuck)=_;rw[if_pos (by decide),e];rfl
theorem xQ:∀cs:bi,Str.join "" (cs.map λc=>(⟨#[c]⟩:Str))=⟨cs.toArray⟩
 |[]=>rfl
 |[c]=>rfl
 |c::d::cs=>by
  show(⟨#[c]⟩:Str)++""++Str.join "" ((d::cs).map λc=>(⟨#[c]⟩:Str))=_;rw[xQ (d::cs)];apply Str.ext';show(#[c]++("":Str).cps)++(d::cs).toArray=_;have:("":Str).cps=#[]:=rfl;rw[this];simp
theorem xj:∀cs:bi,gV (cs.map λc=>D.str ⟨#[c]⟩)=some (cs.map λc=>(⟨#[c]⟩:Str))
 |[]=>rfl
 |c::cs=>by
  show(gV (cs.map λc=>D.str ⟨#[c]⟩)).map _=_;rw[xj cs];rfl
def wo{cs:bi}(h:cs.length<=1000):oP "" [.lst (cs.map λc=>D.str ⟨#[c]⟩)]=.ok (.str ⟨cs.toArray⟩):=by
 have KO:gK "" (cs.map λc=>(⟨#[c]⟩:Str))=true:=by
  unfold gK;have e:((cs.map λc=>(⟨#[c]⟩:Str)).map (·.length)).sum=cs.length:=by
   clear h
   induction cs with
   |nil=>rfl
   |cons c cs ih=>
    simp only[List.map_cons,List.sum_cons,List.length_cons,ih];show 1+cs.length=_;omega
  rw[e,Bool.and_eq_true];exact⟨by decide,decide_eq_true (by rw[List.length_map];omega)⟩
 show(match gV (cs.map λc=>D.str ⟨#[c]⟩) with|some ys=>if gK "" ys=true then ax.ok (D.str (Txt.join "" ys)) else .stuck|none=>.stuck)=_;rw[xj];show(if gK "" _=true then ax.ok (D.str (Txt.join "" _)) else .stuck)=_;rw[if_pos KO];show ax.ok (D.str (Builtin.Str.glued "" _))=_;rw[StrLaws.glued_eq_join,xQ]
def n6{cs:bi}{b:Nat}(hb:b<=cs.length):Txt.slice ⟨cs.toArray⟩ none (some (b:Int))=⟨(cs.take b).toArray⟩:=by
 have:=StrLaws.sliceText_to (x:=⟨cs.toArray⟩) (j:=(b:Int)) ⟨by omega,by simpa using hb⟩;refine Eq.trans this ?_;simp
structure lU (zs:List Str):Prop where
 nd:zs.Nodup
 nm:∀z∈zs,nameB z=true
def vq{x y:Str}(h:x.length+y.length<=1000):bC (.str x) (.str y)=.ok (.str (x++y)):=if_pos (Nat.le_trans h (by decide))
def rf(a b:bi):(⟨a.toArray⟩:Str)++⟨b.toArray⟩=⟨(a++b).toArray⟩:=by
 apply Str.ext';show a.toArray++b.toArray=_;simp
def Ig(a:bi):(⟨a.toArray⟩:Str).length=a.length:=by show a.toArray.size=_;simp
def xn{z:Str}{l h:Option Int}(hz:z.length<=1000):ua (.str z) l h=.ok (.str (Txt.slice z l h)):=by
 show(if z.length<=line then _ else _)=_;rw[if_pos (Nat.le_trans hz (by decide))]
structure lR where
 a:Str
 b:Str
 w:Str
 l:dP
 o:Option dP
def aI:Option dP->D
 |none=>.non
 |some x=>fr x
def aL(t:lR):D:=.tup [.str t.a,.str t.b,.str t.w,fr t.l,aI t.o]
structure jc (zs:List Str) (t:lR):Prop where
 a:t.a∈zs
 b:t.b∈zs
 ne:t.a≠t.b
 w:t.w="one"∨t.w="both"
 l:je t.l
 l0:0<=t.l.1
 o:∀x,t.o=some x->je x/\0<x.1
def IP{α:Type}{vs:List α}{i:Nat}{a b c:α}(h0:vs[i]?=some a)(h1:vs[i+1]?=some b)(h2:vs[i+2]?=some c):(vs.drop i).take 3=[a,b,c]:=by
 apply List.ext_getElem?;intro j;rcases j with _|_|_|j
 .rw[List.getElem?_take_of_lt (by decide),List.getElem?_drop];simpa using h0
 .rw[List.getElem?_take_of_lt (by decide),List.getElem?_drop];simpa using h1
 .rw[List.getElem?_take_of_lt (by decide),List.getElem?_drop];simpa using h2
 .rw[List.getElem?_eq_none (by simp;omega)];simp
def u9{vs:List Int}{a b:Nat}{x y:Int}(hx:x=(a:Int))(hy:y=(b:Int))(h:b<=vs.length)(hab:a<=b):jL (vs.map D.int) (some x) (some y)=((vs.drop a).take (b-a)).map D.int:=by
 subst hx hy;rw[j0,HT.sIx_nat,HT.sIx_nat,Nat.min_eq_left h,Nat.min_eq_left (Nat.le_trans hab h)]
def Ku{vs:List Int}{i:Nat}{x y:Int}{a b c:Int}(hx:x=(i:Int))(hy:y=((i+3:Nat):Int))(h0:vs[i]?=some a)(h1:vs[i+1]?=some b)(h2:vs[i+2]?=some c):jL (vs.map D.int) (some x) (some y)=[.int a,.int b,.int c]:=by
 have hl:i+3<=vs.length:=by have:=(List.getElem?_eq_some_iff.mp h2).1;omega
 rw[u9 hx hy hl (by omega),show i+3-i=3 by omega,IP h0 h1 h2];rfl
def Ap{zs:List Str}{k:Int}(h0:0<=k)(h1:k<zs.length):∃z,zs[k.toNat]?=some z/\aJ (.lst (zs.map D.str)) (.int k)=.ok (.str z):=by
 obtain⟨n,rfl⟩:=Int.eq_ofNat_of_zero_le h0;have hn:n<zs.length:=by omega
 refine⟨zs[n],by simp[hn],eZ ?_⟩;rw[List.getElem?_map,List.getElem?_eq_getElem hn];rfl
def CC{k:Int}(h0:0<=k)(h1:k<2):∃z:Str,(z="one"∨z="both")/\aJ (.lst [.str "one",.str "both"]) (.int k)=.ok (.str z):=by
 have:k=0∨k=1:=by omega
 rcases this with rfl|rfl
 .exact⟨_,.inl rfl,ya⟩
 .exact⟨_,.inr rfl,xZ⟩
def rq{n d e:Int}(h2:2<=n)(d0:0<=d)(d1:d<n)(e0:0<=e)(e1:e<n-1):(0<=(d+1+e).fmod n/\(d+1+e).fmod n<n)/\(d+1+e).fmod n≠d:=by
 refine⟨dM (by omega),?_⟩;rw[Int.fmod_eq_emod_of_nonneg _ (by omega)]
 by_cases h:d+1+e<n
 .rw[Int.emod_eq_of_lt (by omega) h];omega
 .have:(d+1+e) % n=d+1+e-n:=by
   rw[←Int.sub_emod_right (d+1+e) n,Int.emod_eq_of_lt (by omega) (by omega)]
  rw[this];omega
def uy{α:Type}{zs:List α}(nd:zs.Nodup){i j:Nat}{x y:α}(hi:zs[i]?=some x)(hj:zs[j]?=some y)(hij:i≠j):x≠y:=by
 intro e;subst e;obtain⟨h1,e1⟩:=List.getElem?_eq_some_iff.mp hi;obtain⟨h2,e2⟩:=List.getElem?_eq_some_iff.mp hj;exact hij ((List.getElem_inj nd).mp (e1.trans e2.symm))
def mY:am :=
 (aq (bh (dN (ai (af (ae 0) aA) m_is_ratio) (aa (aa (ae 0) (dC (.int 0)) aJ) (dC (.int 0)) KP)))
 ak)
def m_is_length:ac->ax D:=bT 1 mY
def pP:am :=
 (aq (bh (gY (aa (ae 0) (dC (.non)) kK) (dN (ai (af (ae 0) aA) m_is_ratio) (aa (aa (ae 0) (dC (.int 0)) aJ) (dC (.int 0)) Ks))))
 ak)
def m_is_worth:ac->ax D:=bT 1 pP
noncomputable def vn:am :=
 (aq (cP (gY (bR (aS (ae 0) (cG "tuple"))) (aa (ai (af (ae 0) aA) (m1 eO)) (dC (.int 5)) ic))
 (aq (bh (dC (.bl false)))
 ak)
 ak)
 (aq (cP (gY (bR (ai (af (aa (ae 0) (dC (.int 0)) aJ) aA) m_is_name)) (gY (bR (ai (af (aa (ae 0) (dC (.int 1)) aJ) aA) m_is_name)) (aa (aa (ae 0) (dC (.int 0)) aJ) (aa (ae 0) (dC (.int 1)) aJ) fF)))
 (aq (bh (dC (.bl false)))
 ak)
 ak)
 (aq (cP (gY (bR (aS (aa (ae 0) (dC (.int 2)) aJ) (cG "str"))) (aa (aa (ae 0) (dC (.int 2)) aJ) (dC (.tup [(.str "one"),(.str "both")])) bN))
 (aq (bh (dC (.bl false)))
 ak)
 ak)
 (aq (bh (dN (ai (af (aa (ae 0) (dC (.int 3)) aJ) aA) m_is_length) (ai (af (aa (ae 0) (dC (.int 4)) aJ) aA) m_is_worth)))
 ak))))
def m_is_tie:ac->ax D:=bT 1 vn
noncomputable def iE:am :=
 (aq (cP (gY (bR (aS (ae 0) (cG "list"))) (bR (jK IF IF (dC (.int 2)) (ai (af (ae 0) aA) (m1 eO)) (dC (.int 7)))))
 (aq cX
 ak)
 ak)
 (aq (gG (ke (ae 0)) (cD [1,2])
 (aq (cP (gY (bR (ai (af (ae 2) aA) m_is_name)) (aa (ae 2) (eV (ae 0) dH (bZ (ae 1))) wO))
 (aq cX
 ak)
 ak)
 ak))
 ak))
def m_look_at_places:ac->ax D:=bT 3 iE
noncomputable def jQ:am :=
 (aq (cP (gY (bR (aS (ae 0) (cG "list"))) (aa (ai (af (ae 0) aA) (m1 eO)) (dC (.int 14)) Ks))
 (aq cX
 ak)
 ak)
 (aq (gG (ke (ae 0)) (cD [2,3])
 (aq (cP (gY (bR (ai (af (ae 3) aA) m_is_tie)) (gY (aa (aa (ae 3) (dC (.int 0)) aJ) (ae 1) bN) (aa (aa (ae 3) (dC (.int 1)) aJ) (ae 1) bN)))
 (aq cX
 ak)
 ak)
 ak))
 ak))
def m_look_at_ties:ac->ax D:=bT 4 jQ
def pQ:am :=
 (aq (bh (dN (ai (af (ae 0) aA) m_is_name) (aa (ae 0) (ae 1) wO)))
 ak)
def m_is_place:ac->ax D:=bT 2 pQ
noncomputable def ko:am :=
 (aq (cP (gY (bR (aS (ae 0) (cG "tuple"))) (aa (ai (af (ae 0) aA) (m1 eO)) (dC (.int 4)) ic))
 (aq cX
 ak)
 ak)
 (aq (f9 (ai (af (aa (ae 0) (dC (.int 0)) aJ) aA) m_look_at_places))
 (aq (f9 (ai (af (aa (ae 0) (dC (.int 1)) aJ) (af (aa (ae 0) (dC (.int 0)) aJ) aA)) m_look_at_ties))
 (aq (cP (bR (ai (af (aa (ae 0) (dC (.int 2)) aJ) (af (aa (ae 0) (dC (.int 0)) aJ) aA)) m_is_place))
 (aq cX
 ak)
 ak)
 (aq (cP (gY (bR (ai (af (aa (ae 0) (dC (.int 3)) aJ) (af (aa (ae 0) (dC (.int 0)) aJ) aA)) m_is_place)) (aa (aa (ae 0) (dC (.int 3)) aJ) (aa (ae 0) (dC (.int 2)) aJ) fF))
 (aq cX
 ak)
 ak)
 ak)))))
def m_look_at_web:ac->ax D:=bT 1 ko
structure fR where
 ps:List Str
 ts:List lR
 fi:Str
 la:Str
def bg(w:fR):D:=.tup [.lst (w.ps.map D.str),.lst (w.ts.map aL),.str w.fi,.str w.la]
structure dy (w:fR):Prop where
 n2:2<=w.ps.length
 n7:w.ps.length<=7
 nm:lU w.ps
 t14:w.ts.length<=14
 ts:∀t∈w.ts,jc w.ps t
 fi:w.fi∈w.ps
 la:w.la∈w.ps
 ne:w.fi≠w.la
def jX{z:Str}(h:nameB z=true):m_is_name [.str z]=.ok (.bl true):=by
 have hl:z.length<=8:=by
  unfold nameB at h;simp only[Bool.and_eq_true,decide_eq_true_eq]at h;exact h.2.1
 rw[wu (show KO (.str z)=true from decide_eq_true (Nat.le_trans hl (by decide)))];show ax.ok (D.bl (nameB z))=_;rw[h]
def kC{x:dP}(h:Low x):m_is_ratio [fr x]=.ok (.bl true):=by
 rw[sD];show ax.ok (D.bl (og (.tup [.int x.1,.int x.2])))=_;have h1:=h.q1;have h2:=h.g1;show ax.ok (D.bl (decide (1<=x.2)&&(Int.gcd x.1 x.2==1)))=_;rw[decide_eq_true h1,h2];rfl
def uD{x:dP}(h:Low x)(h0:0<=x.1):m_is_length [fr x]=.ok (.bl true):=by
 have e:fr x=.tup [.int x.1,.int x.2]:=rfl;have h1:=kC h;rw[e]at h1 ⊢;open_line with[m_is_length,mY,h1,decide_eq_true h0,decide_eq_true (show x.1≥0 from h0)]
def vF{o:Option dP}(h:∀x,o=some x->Low x/\0<x.1):m_is_worth [aI o]=.ok (.bl true):=by
 cases o with
 |none=>rfl
 |some x=>
  obtain⟨hx,h0⟩:=h x rfl;have e:aI (some x)=.tup [.int x.1,.int x.2]:=rfl;have h1:=kC hx;rw[show fr x=.tup [.int x.1,.int x.2] from rfl]at h1;rw[e];open_line with[m_is_worth,pP,h1,decide_eq_true h0]
def nI{x y:Str}:fF (.str x) (.str y)=.ok (.bl (x==y)):=by unfold fF;rw[if_pos ⟨rfl,rfl⟩,cL]
def Aj{zs:List Str}{t:lR}(nm:lU zs)(h:jc zs t):m_is_tie [aL t]=.ok (.bl true):=by
 obtain⟨a,b,w,l,o⟩:=t;obtain⟨ha,hb,hne,hw,hl,hl0,ho⟩:=h;have h1:=jX (nm.nm a ha);have h2:=jX (nm.nm b hb);have h3:=uD hl.toLow hl0;have h4:=vF (o:=o) λx hx=>⟨(ho x hx).1.toLow,(ho x hx).2⟩
 have h5:(a==b)=false:=beq_eq_false_iff_ne.mpr hne;have h6:bN (.str w) (.tup [.str "one",.str "both"])=.ok (.bl false):=by
  rcases hw with rfl|rfl<;>rfl
 have e:aL ⟨a,b,w,l,o⟩=.tup [.str a,.str b,.str w,fr l,aI o]:=rfl;rw[e];open_line with[m_is_tie,vn,h1,h2,nI,h5,h6,h3,h4]
def yl{zs:List Str}{z:Str}:(zs.map D.str).any (λd=>cL d (.str z))=decide (z∈zs):=by
 induction zs with
 |nil=>rfl
 |cons y zs ih=>
  rw[List.map_cons,List.any_cons,ih];show((y==z)||decide (z∈zs))=_
  by_cases h:y=z
  .subst h;simp
  .have:(y==z)=false:=beq_eq_false_iff_ne.mpr h
   rw[this,Bool.false_or];have:z∈y::zs↔z∈zs:=by simp[Ne.symm h]
   exact decide_eq_decide.mpr this.symm
def l4{n:Nat}{zs:List Str}:(zs.map D.str).all (bb n)=true:=List.all_eq_true.mpr λd hd=>by
 obtain⟨z,_,rfl⟩:=List.mem_map.mp hd;cases n<;>rfl
def sG{zs:List Str}{z:Str}:wO (.str z) (.lst (zs.map D.str))=.ok (.bl (decide (z∈zs))):=by
 have e:zj (.str z) (.lst (zs.map D.str))=some (decide (z∈zs)):=(if_pos ⟨rfl,l4⟩).trans (congrArg some yl);unfold wO;rw[e]
def gj{zs:List Str}{z:Str}:bN (.str z) (.lst (zs.map D.str))=.ok (.bl (!(decide (z∈zs)))):=by
 have e:zj (.str z) (.lst (zs.map D.str))=some (decide (z∈zs)):=(if_pos ⟨rfl,l4⟩).trans (congrArg some yl);unfold bN;rw[e]
def oq{zs:List Str}{z:Str}(h:nameB z=true)(hz:z∈zs):m_is_place [.str z,.lst (zs.map D.str)]=.ok (.bl true):=by
 open_line with[m_is_place,pQ,jX h,sG,decide_eq_true hz]
def dR{α:Type}{F:α->D}{xs:List α}{k:Nat}{d:D}(h:(bw 0 (xs.map F))[k]?=some d):∃x,xs[k]?=some x/\d=.tup [.int (k:Int),F x]:=by
 rw[c6,List.getElem?_map]at h;cases e:xs[k]? with
 |none=>rw[e]at h;cases h
 |some x=>
  rw[e]at h;cases h;exact⟨x,rfl,by simp⟩
def Ie{α:Type}{F:α->D}{xs:List α}{k:Nat}(h:k<=xs.length):jL (xs.map F) none (some (k:Int))=(xs.take k).map F:=by
 rw[j0,HT.sIx_none,HT.sIx_nat,Nat.min_eq_left h,List.drop_zero,Nat.sub_zero]
def yN{zs:List Str}(h2:2<=zs.length)(h7:zs.length<=7)(nm:lU zs):m_look_at_places [.lst (zs.map D.str)]=.ok .non:=by
 obtain⟨ρ',hl,_⟩:=eC (ds:=bw 0 (zs.map D.str)) (tg:=cD [1,2]) (ρ:=[.sh (.lst (zs.map D.str)),.no,.no])
  (body:=(aq (cP (gY (bR (ai (af (ae 2) aA) m_is_name)) (aa (ae 2) (eV (ae 0) dH (bZ (ae 1))) wO)) (aq cX ak) ak) ak))
  (λk ρ=>∃a b,ρ=[.sh (.lst (zs.map D.str)),a,b]) (by
   rintro k d hd ρ ⟨a,b,rfl⟩;obtain⟨z,hz,rfl⟩:=dR hd;refine⟨_,[.sh (.lst (zs.map D.str)),.sh (.int (k:Int)),.sh (.str z)],uP rfl,?_,_,_,rfl⟩;have hk:k<zs.length:=(List.getElem?_eq_some_iff.mp hz).1;have hnot:decide (z∈zs.take k)=false:=decide_eq_false λhm=>by
    obtain⟨j,hj⟩:=List.mem_iff_getElem?.mp hm;have hjk:j<k:=by have:=(List.getElem?_eq_some_iff.mp hj).1;simp at this;omega
    rw[List.getElem?_take_of_lt hjk]at hj;exact uy nm.nd hj hz (by omega) rfl
   open_line with[jX (nm.nm z (List.mem_of_getElem? hz)),Ie (Nat.le_of_lt hk),sG,hnot]) ⟨.no,.no,rfl⟩
 have e1:decide ((2:Int)<=(zs.length:Int))=true:=decide_eq_true (by omega);have e2:decide ((zs.length:Int)<=7)=true:=decide_eq_true (by omega);open_line with[m_look_at_places,iE,List.length_map,e1,e2,hl]
def CM{zs:List Str}{ts:List lR}(h14:ts.length<=14)(nm:lU zs)(ht:∀t∈ts,jc zs t):m_look_at_ties [.lst (ts.map aL),.lst (zs.map D.str)]=.ok .non:=by
 obtain⟨ρ',hl,_⟩:=eC (ds:=bw 0 (ts.map aL)) (tg:=cD [2,3]) (ρ:=[.sh (.lst (ts.map aL)),.sh (.lst (zs.map D.str)),.no,.no])
  (body:=(aq (cP (gY (bR (ai (af (ae 3) aA) m_is_tie)) (gY (aa (aa (ae 3) (dC (.int 0)) aJ) (ae 1) bN) (aa (aa (ae 3) (dC (.int 1)) aJ) (ae 1) bN))) (aq cX ak) ak) ak))
  (λk ρ=>∃a b,ρ=[.sh (.lst (ts.map aL)),.sh (.lst (zs.map D.str)),a,b]) (by
   rintro k d hd ρ ⟨a,b,rfl⟩;obtain⟨t,ht',rfl⟩:=dR hd;refine⟨_,[.sh (.lst (ts.map aL)),.sh (.lst (zs.map D.str)),.sh (.int (k:Int)),.sh (aL t)],uP rfl,?_,_,_,rfl⟩;have hT:=ht t (List.mem_of_getElem? ht');have h1:=Aj nm hT;rw[show aL t=.tup [.str t.a,.str t.b,.str t.w,fr t.l,aI t.o] from rfl]at h1 ⊢;open_line with[h1,gj,decide_eq_true hT.a,decide_eq_true hT.b]) ⟨.no,.no,rfl⟩
 have e1:decide ((14:Int)<(ts.length:Int))=false:=decide_eq_false (by omega);open_line with[m_look_at_ties,jQ,List.length_map,e1,decide_eq_false (show ¬(ts.length:Int) > 14 by omega),hl]
def zZ{w:fR}(h:dy w):m_look_at_web [bg w]=.ok .non:=by
 obtain⟨ps,ts,fi,la⟩:=w;have h1:=yN h.n2 h.n7 h.nm;have h2:=CM h.t14 h.nm h.ts;have h3:=oq (h.nm.nm fi h.fi) h.fi;have h4:=oq (h.nm.nm la h.la) h.la;have h5:(la==fi)=false:=beq_eq_false_iff_ne.mpr (Ne.symm h.ne);rw[show bg ⟨ps,ts,fi,la⟩=.tup [.lst (ps.map D.str),.lst (ts.map aL),.str fi,.str la] from rfl];open_line with[m_look_at_web,ko,h1,h2,h3,h4,nI,h5]
def k8(ks:bi):D:=.lst (ks.map λ(k:Nat)=>D.int (k:Int))
def kn(b:Int)(x:dP):Int:=b / (Int.gcd b x.2:Int)*x.2
def Mz(xs:List dP):Int:=xs.foldl kn 1
structure vC (k:Nat) (b:Int):Prop where
 pos:0<b
 bd:b.natAbs<=2 ^ (200*k)
def BF{a b:Int}(h:b≠0):0<(Int.gcd a b:Int):=nF h
def vC.step{k:Nat}{b:Int}{x:dP}(h:vC k b)(hx:je x):vC (k+1) (kn b x)/\b∣kn b x/\x.2∣kn b x:=by
 have q1:=hx.q1;have hg:0<(Int.gcd b x.2:Int):=BF (by omega);have hd:(Int.gcd b x.2:Int)∣b:=Int.gcd_dvd_left ..;have hd2:(Int.gcd b x.2:Int)∣x.2:=Int.gcd_dvd_right ..;have hq:0<b / (Int.gcd b x.2:Int):=Int.ediv_pos_of_pos_of_dvd h.pos (by omega) hd;refine⟨⟨Int.mul_pos hq (by omega),?_⟩,?_,⟨b / (Int.gcd b x.2:Int),by unfold kn;rw[Int.mul_comm]⟩⟩
 .unfold kn
  rw[Int.natAbs_mul,show 200*(k+1)=200*k+200 by omega,Nat.pow_add];refine Nat.mul_le_mul (Nat.le_trans (Int.natAbs_ediv_le_natAbs _ _) h.bd) (Nat.le_trans (Nat.le_of_lt hx.qN) Fb)
 .obtain⟨c,hc⟩:=hd
  obtain⟨d,hd'⟩:=hd2;refine⟨d,?_⟩;unfold kn;generalize (Int.gcd b x.2:Int)=g at *;have e1:b / g=c:=by rw[hc];exact Int.mul_ediv_cancel_left c (by omega)
  rw[e1,hd',hc,←Int.mul_assoc,Int.mul_comm c g]
def Ik{xs:List dP}(hx:∀x∈xs,je x):∀(b:Int) (k:Nat),vC k b->vC (k+xs.length) (xs.foldl kn b)/\b∣xs.foldl kn b/\∀x∈xs,x.2∣xs.foldl kn b:=by
 induction xs with
 |nil=>intro b k h;exact⟨h,Int.dvd_refl b,λx hx=>nomatch hx⟩
 |cons x xs ih=>
  intro b k h;obtain⟨h1,h2,h3⟩:=h.step (hx x List.mem_cons_self);obtain⟨k1,k2,k3⟩:=ih (λy hy=>hx y (List.mem_cons_of_mem _ hy)) _ _ h1;refine⟨?_,Int.dvd_trans h2 k2,λy hy=>?_⟩
  .rw[List.length_cons,show k+(xs.length+1)=k+1+xs.length by omega];exact k1
  .rcases List.mem_cons.mp hy with rfl|hy
   .exact Int.dvd_trans h3 k2
   .exact k3 y hy
def Fn(i:Nat)(ρ:Ev)(d:D):ax Fl:=if ni d=true then .ok (.nx (ρ.set i (.sh d))) else .stuck
def D6{i:Nat}{f:al}{ρ:Ev}:xq i f ρ=(f (ij ρ)).bind (Fn i ρ):=rfl
def kM{c:al}{s:am}{n:Nat}{ρ ρ2:Ev}(h1:c (ij ρ)=.ok (.bl true))(h2:s ρ=.ok (.nx ρ2)):cg c s (n+1) ρ=cg c s n ρ2:=by
 conv=>lhs;unfold cg
 rw[h1,h2];rfl
def ie{c:al}{s:am}{n:Nat}{ρ:Ev}(h1:c (ij ρ)=.ok (.bl false)):cg c s (n+1) ρ=.ok (.nx ρ):=by
 conv=>lhs;unfold cg
 rw[h1];rfl
end Com
namespace DL
open PySem PySem.Spec PyProof.Rows L2
noncomputable def JB(K:W.Frag) (E:XK) (He H0e Ha:Hp) (r:ax Fl) (D:fW):Prop:=match r with
 |.ok (.rt (.lst es))=>∀p us H Ha',aW He H0e H Ha'->He p=none->Ha' p=none->H p=some (.lst us)->Reps K Ha' es us->D.rt (.ref p) H
 |.exn x=>∀C ox H Ha',aW He H0e H Ha'->rE K Ha' x C ox->E C ox H
 |_=>False
def Mm(K:W.Frag)(E:XK)(He H0e:Hp)(g:am):TS:=λD σ H=>∃Ha ρ,cW K He H0e Ha σ H ρ/\JB K E He H0e Ha (g ρ) D
structure Co (X:Cx) (E:XK) (He H0e:Hp) (st:List Stmt) (g:am):Prop where
 o:pZ X st (Mm X.K E He H0e g)
section
variable {X:Cx}{E:XK}{He H0e:Hp}{st:Stmt}{rest:List Stmt}{e:Expr}{es:List Expr}{f:al}{fa:Ev->ax (ac)}{s t:am}{pos:Pos}
def Lp(t:am)(r:Fl):ax Fl:=match r with
 |.nx ρ=>t ρ
 |_=>.stuck
def ik(s t:am):am:=λρ=>(s ρ).bind (Lp t)
def zt(h1:DS X E He H0e st s)(h2:Co X E He H0e rest t):Co X E He H0e (st::rest) (ik s t):=by
 refine⟨?_⟩;refine dY (dZ h1.o h2.o) λD σ H z9=>?_;obtain⟨Ha,ρ,h,q⟩:=z9;refine⟨Ha,ρ,h,?_⟩
 unfold ik at q;cases e1:s ρ with
 |stuck|exn x=>rw[e1]at q;exact q
 |ok r=>
  rw[e1]at q;cases r with|nx ρ'=>exact λσ' H' Ha' s' h'=>⟨Ha',ρ',h',q⟩|rt d|bk ρ'|ct ρ'=>exact q.elim
end
def JJ(r:Fl):ax D:=match r with
 |.rt (.lst es)=>.ok (.lst es)
 |_=>.stuck
def uf(n:Nat)(s:am)(ds:ac):ax D:=(s (ds.map Sl.sh++List.replicate (n-ds.length) .no)).bind JJ
def Ay{n:Nat}{s:am}{ds:ac}{d:D}(h:uf n s ds=.ok d):∃es,d=.lst es:=by
 unfold uf at h;cases e:s (ds.map Sl.sh++List.replicate (n-ds.length) .no) with
 |stuck|exn x=>rw[e]at h;cases h
 |ok r=>
  rw[e]at h;cases r with
  |rt d'=>
   cases d' with|lst es=>cases h;exact⟨es,rfl⟩| _=>cases h
  |_=>cases h
noncomputable def JA(K:W.Frag) (E:XK) (H Ha:Hp) (r:ax D) (Q:VK):Prop:=match r with
 |.ok (.lst es)=>∀p us H' Ha',aW H Ha H' Ha'->H p=none->Ha' p=none->H' p=some (.lst us)->Reps K Ha' es us->Q (.ref p) H'
 |.exn x=>∀C ox H' Ha',aW H Ha H' Ha'->rE K Ha' x C ox->E C ox H'
 |_=>False
def Gb(K:W.Frag)(n:Nat)(m:ac->ax D):Sp:=λvs H Q E=>vs.length=n/\∃Ha ds,aF Ha H/\Reps K Ha ds vs/\JA K E H Ha (m ds) Q
def CU{K:W.Frag}{n:Nat}{m:ac->ax D}(hm:∀ds d,m ds=.ok d->∃es,d=.lst es):∀vs H Q E,spD K n m vs H Q E->Gb K n m vs H Q E:=λvs H Q E ⟨h1,Ha,ds,h2,h3,q⟩=>⟨h1,Ha,ds,h2,h3,by
 cases e:m ds with
 |stuck|exn x=>rw[e]at q;exact q
 |ok d=>
  obtain⟨es,rfl⟩:=hm ds d e;rw[e]at q;intro p us H' Ha' g hp h0 hv r;have z:aF Ha' (upd Ha' p (.lst us)):=λb o eb=>by rw[aC (by intro z;subst z;rw[h0]at eb;cases eb)];exact eb
  refine q (.ref p) H' (upd Ha' p (.lst us)) ⟨g.s,g.z.trans z,λb o eb=>?_,λb h1 h2=>?_⟩ (aB.mpr ⟨p,us,rfl,dF.of aG,r.mono z⟩)
  .by_cases hb:b=p
   .subst hb;rw[aG]at eb;cases eb;exact hv
   .rw[aC hb]at eb;exact g.sub _ _ eb
  .by_cases hb:b=p
   .subst hb;exact hp
   .rw[aC hb]at h1;exact g.nw b h1 h2⟩
def wy{P:Program}{w:World}{K:W.Frag}{mg:Str->Option Value}{base:Heap}{x qual:Str}{st:Stmt}{f:Addr}{fd:FuncData}{N ps:List Str}{k:Nat}{s:am}(F:Fd K x qual st f fd)(S:gS N ps (defScope st))
  (hbody:∀(cdv:Value) (A:Around) (outer:List PySem.Env) (s0:Shared) (H Ha:Hp) (E:XK),dX k (A.deeper (envOfC qual (defScope st) s0.heap.objs.size f cdv)) ->
   Co (nq CX0 P w K mg base N qual (defScope st) f cdv A outer s0 H E).nox E H Ha (defBody st) s):gE P w K mg base CX0 (k+1) f fd ps (Gb K ps.length (uf N.length s)):=by
 have hpl:ps.length<=N.length:=by have:=congrArg List.length S.pre;rw[List.length_take]at this;omega
 refine F.ok S (λvs H Q E h=>h.1) λcdv A outer s0 H vs Q E hr h=>?_;obtain⟨hn,Ha,ds,hs,hv,q⟩:=h;refine⟨_,(hbody cdv A outer s0 H Ha E hr).o,Ha,ds.map Sl.sh++List.replicate (N.length-ds.length) .no,?_,?_⟩
 .refine⟨aW.refl hs,ji hv,λi d e=>?_,λi j d d' hij e=>?_,?_,OX.none lZ kz⟩
  .by_cases hi:i<ds.length
   .rw[List.getElem?_append_left (by simpa using hi),List.getElem?_map]at e
    cases q:ds[i]? with|none|some d'=>rw[q]at e;cases e
   .rw[List.getElem?_append_right (by simpa using hi),List.getElem?_replicate]at e
    split at e<;>cases e
  .by_cases hi:i<ds.length
   .rw[List.getElem?_append_left (by simpa using hi),List.getElem?_map]at e
    cases q:ds[i]? with|none|some d'=>rw[q]at e;cases e
   .rw[List.getElem?_append_right (by simpa using hi),List.getElem?_replicate]at e
    split at e<;>cases e
  .unfold L2.start
   have:=hv.length;simp only[List.length_append,List.length_map,List.length_replicate];omega
 .unfold uf at q
  cases e1:s (ds.map Sl.sh++List.replicate (N.length-ds.length) .no) with
  |stuck|exn x=>rw[e1]at q;exact q
  |ok r=>
   rw[e1]at q;cases r with
   |rt d=>
    cases d with|lst es=>exact λp us H' Ha' g hp h0 hv' rr=>q p us H' Ha' g hp h0 hv' rr| _=>exact q.elim
   |_=>exact q.elim
section
variable {X:Cx}{E:XK}{He H0e:Hp}{e:Expr}{es:List Expr}{f:al}{fa:Ev->ax (ac)}{pos:Pos}
def EI{CX:pY}{k n:Nat}{fn:Addr}{fd:FuncData}{ps:List Str}{m:ac->ax D}{x:Str}{p:Pos}(F:gE X.prog X.w X.K X.mg X.base CX k fn fd ps (Gb X.K n m))(hr:dX k X.A)(hg:Gl X x)(hm:X.mg x=some (.ref fn))
  (hk:W.keepIn X.K (.ref fn)=true)(hb:lW X.K fd ps [])(hx:i4 CX X E)(ha:DA X E (e::es) fa)(hn:(e::es).length=n:=by rfl)(hl:∀ρ ds,fa ρ=.ok ds->ds.length=(e::es).length)
  (hdb:(x==("__debug__":Str))=false:=by decide)(he:starEach (e::es) X.env=(false,eval e X.env)::starEach es X.env:=by exact aY rfl)(hpl:(backTo pos (starEach es X.env)).any (·.1)=false:=by exact bY rfl) :
  DF X E (.Call (.Name x p) (e::es) [] pos) (ai fa m):=by
 refine⟨?_⟩;refine aZ (rT F hr hg hm hk hb .nil hx ha.o hdb he hpl) λσ H Q h=>?_;obtain⟨Ha,ρ,hs,hr,q⟩:=h;refine⟨Ha,ρ,hs,hr,?_⟩;unfold ai at q;cases e1:fa ρ with
 |stuck|exn x=>rw[e1]at q;exact q
 |ok ds=>
  rw[e1]at q;intro v H1 H01 g1 r1;refine⟨?_,H01,ds,g1.sub,by simpa using r1,?_⟩
  .have:=r1.length
   have:=hl ρ ds e1;simp only[List.append_nil];omega
  .replace q:match m ds with
    |.ok (.lst ds)=>∀p vs H' Ha',aW H Ha H' Ha'->H p=none->Ha' p=none->H' p=some (.lst vs)->Reps X.K Ha' ds vs->Q (.ref p) H'
    |.ok _=>False
    |.exn x=>∀C ox H' Ha',aW H Ha H' Ha'->rE X.K Ha' x C ox->E C ox H'
    |.stuck=>False:=q
   cases e2:m ds with
   |stuck=>rw[e2]at q;exact q|exn x=>rw[e2]at q;exact λC ox H' Ha' g ex=>q C ox H' Ha' (g1.trans g) ex
   |ok d=>
    rw[e2]at q;cases d with|lst es=>exact λp us H' Ha' g hp h0 hv rr=>q p us H' Ha' (g1.trans g) (g1.s.free hp) h0 hv rr| _=>exact q.elim
end
section
variable {X:Cx}{E:XK}{He H0e:Hp}{e a b:Expr}{es:List Expr}{f g:al}{fa:Ev->ax (ac)}{pos:Pos}
def Ic(x y:D):ax D:=match x,y with
 |.int i,.int j=>.ok (.int (if j<i then j else i))
 |_,_=>.stuck
def Ii:iG X E (λxs H Q=>∃i j,xs=[.int i,.int j]/\Q (.int (if j<i then j else i)) H) (m2 Ic):=Kw λx y v u H Ha Q hs r r' q=>by
 cases x with
 |int i=>
  cases y with|int j=>exact⟨i,j,by rw[aE.mp r,aE.mp r'],bG hs q (ri _)⟩| _=>exact q.elim
 |_=>exact q.elim
def Ce:D->D->ax D:=sE (λ_ j=>decide (0<=j)) λi j=>.int (i / 2 ^ j.toNat)
def Ib(ha:DE X E a f)(hb:DE X E b g):DE X E (.BinOp a .RShift b pos) (aa f g Ce):=mQ GH (sv (λ_ _ h=>of_decide_eq_true h) λ_ _ _ _=>ri _) ha hb
def tf(x y:D):ax D:=match x,y with
 |.lst ds,.lst es=>if ds.length+es.length<=line then .ok (.lst (ds++es)) else .stuck
 |_,_=>.stuck
def B8(ha:DE X E a f)(hb:DE X E b g):DF X E (.BinOp a .Add b pos) (aa f g tf):=by
 refine⟨?_⟩;refine aZ (A3 xF ha.o hb.o) λσ H Q z9=>?_;obtain⟨Ha,ρ,hs,hr,q⟩:=z9;refine⟨Ha,ρ,hs,hr,?_⟩
 unfold aa at q;cases e1:f ρ with
 |stuck|exn x=>rw[e1]at q;exact q
 |ok x=>
  rw[e1]at q;intro v H1 H01 g1 r1;refine⟨H01,ρ,g1.sub,hr.mono g1.z,?_⟩;cases e2:g ρ with
  |stuck=>simp only[ax.bind,e2]at q|exn y=>simp only[ax.bind,e2]at q;exact λC ox H' Ha' g' ex=>q C ox H' Ha' (g1.trans g') ex
  |ok y=>
   simp only[ax.bind,e2]at q;intro u H2 H02 g2 r2;cases x with
   |lst ds=>
    cases y with
    |lst es=>
     by_cases h:ds.length+es.length<=line
     .simp only[tf,if_pos h]at q
      obtain⟨l,vs,rfl,h1,h2⟩:=aB.mp (r1.mono g2.z);obtain⟨m,us,rfl,k1,k2⟩:=aB.mp r2;refine⟨l,m,vs,us,rfl,rfl,aF.sqL g2.sub h1,aF.sqL g2.sub k1,by rw[←h2.length,←k2.length];exact eB h,λp hp=>?_⟩;have sm:aF H2 (upd H2 p (.lst (vs++us))):=λb o eb=>by rw[aC (by intro z;subst z;rw[hp]at eb;cases eb)];exact eb
      refine q p (vs++us) _ H02 ⟨(g1.s.trans g2.s).trans sm,g1.z.trans g2.z,g2.sub.trans sm,(g1.trans g2).nw⟩ ((g1.s.trans g2.s).free hp) ?_ aG (h2.app k2);cases qq:H02 p with|none=>rfl|some o=>have:=g2.sub _ _ qq;rw[hp]at this;cases this
     .simp only[tf,if_neg h]at q
    |_=>simp only[tf]at q
   |_=>simp only[tf]at q
end
end DL
namespace Cod
open PySem L2 DL Com
noncomputable def lM:am :=
 (aq (jq 2 (ai aA bM))
 (aq (aV 3 (ai (af (ae 0) aA) (m1 u6)))
 (aq (aV 4 (aa (aa (aa (ae 0) (dC (.int 2147483647)) du) (dC (.int 48271)) bI) (dC (.int 2147483647)) du))
 (aq (kU (ai (af (ae 1) aA) (m1 eO)) (dg 5)
 (aq (cP (aa (ai (af (ae 0) aA) (m1 u6)) (aa (dC (.int 10)) (dC (.int 18)) qt) KP)
 (aq (bW 2 (aa (ae 3) (aa (ae 1) (ae 5) aJ) du))
 (aq (aV 3 (aa (ae 3) (aa (ae 1) (ae 5) aJ) sY))
 ak))
 (aq (aV 4 (aa (aa (aa (aa (aa (ae 4) (ae 4) bI) (aa (dC (.int 69621)) (ae 4) bI) bC) (aa (dC (.int 7919)) (ae 5) bI) bC) (dC (.int 1000003)) bC) (dC (.int 2147483647)) du))
 (aq (bW 2 (aa (aa (aa (ae 4) (dC (.int 39373)) bI) (dC (.int 2147483629)) du) (aa (ae 1) (ae 5) aJ) du))
 ak)))
 ak))
 (aq (bh (ae 2))
 ak)))))
def bQ:ac->ax D:=bT 6 lM
def E8:rB<B9:=by rw[Cp];exact Nat.lt_of_lt_of_le (show rB<2 ^ 200 by decide) (Nat.pow_le_pow_right (by decide) (by decide))
def tI{c:Int}:u6 (.int c)=.ok (.int (c.natAbs:Int)):=by
 show ax.ok (D.int (if c<0 then -c else c))=_
 congr 2
 split<;>omega
def lC(c:Int)(sz:List Int)(hp:∀s∈sz,0<s/\s<=(rB:Int))(hn:sz.length<=900):∃vs,bQ [.int c,.lst (sz.map D.int)]=.ok (.lst (vs.map D.int))/\Drawn sz vs:=by
 have hmix0:=dM (a:=c.fmod 2147483647*48271) (b:=2147483647) (by decide);have hcm:=dM (a:=c) (b:=2147483647) (by decide);obtain⟨ρ',hl,vs,hv,hb,lf,mx,x5,rfl,_⟩:=nH (i:=5) (n:=sz.length)
  (ρ:=[.sh (.int c),.sh (.lst (sz.map D.int)),.ow (.lst []),.sh (.int (c.natAbs:Int)),.sh (.int ((c.fmod 2147483647*48271).fmod 2147483647)),.no])
  (body:=(aq (cP (aa (ai (af (ae 0) aA) (m1 u6)) (aa (dC (.int 10)) (dC (.int 18)) qt) KP)
 (aq (bW 2 (aa (ae 3) (aa (ae 1) (ae 5) aJ) du))
 (aq (aV 3 (aa (ae 3) (aa (ae 1) (ae 5) aJ) sY))
 ak))
 (aq (aV 4 (aa (aa (aa (aa (aa (ae 4) (ae 4) bI) (aa (dC (.int 69621)) (ae 4) bI) bC) (aa (dC (.int 7919)) (ae 5) bI) bC) (dC (.int 1000003)) bC) (dC (.int 2147483647)) du))
 (aq (bW 2 (aa (aa (aa (ae 4) (dC (.int 39373)) bI) (dC (.int 2147483629)) du) (aa (ae 1) (ae 5) aJ) du))
 ak)))
 ak))
  (λk ρ=>∃vs:List Int,vs.length=k/\(∀(i:Nat) (v s:Int),vs[i]?=some v->sz[i]?=some s->0<=v/\v<s)/\∃(lf mx:Int) (x5:Sl),ρ=[.sh (.int c),.sh (.lst (sz.map D.int)),.ow (.lst (vs.map D.int)),.sh (.int lf),.sh (.int mx),x5]/\0<=mx/\mx<2147483647) (by
   rintro k hk ρ ⟨vs,rfl,hb,lf,mx,x5,rfl,m0,m1_⟩;have hs:=hp sz[vs.length] (List.getElem_mem hk);have hix:aJ (.lst (sz.map D.int)) (.int (vs.length:Int))=.ok (.int sz[vs.length]):=eZ (by rw[List.getElem?_map,List.getElem?_eq_getElem hk];rfl);have hsz0:(sz[vs.length]==0)=false:=beq_eq_false_iff_ne.mpr (by omega);have hap:decide ((vs.map D.int).length<=999)=true:=decide_eq_true (by rw[List.length_map];omega);have hbn:∀v:Int,0<=v->v<sz[vs.length]->∀(i:Nat) (u s:Int),(vs++[v])[i]?=some u->sz[i]?=some s->0<=u/\u<s:=λv v0 v1 i u s e1 e2=>by
    by_cases hi:i<vs.length
    .rw[List.getElem?_append_left hi]at e1;exact hb i u s e1 e2
    .have:i=vs.length:=by
      have:=(List.getElem?_eq_some_iff.mp e1).1;simp at this;omega
     subst this;rw[List.getElem?_append_right (Nat.le_refl _),Nat.sub_self]at e1;cases e1;rw[List.getElem?_eq_getElem hk]at e2;cases e2;exact⟨v0,v1⟩
   by_cases hc:(1000000000000000000:Int)<=(c.natAbs:Int)
   .have f:=dM (a:=lf) (b:=sz[vs.length]) hs.1
    have hdiv:gz lf sz[vs.length]=true:=Ko (by omega) (Nat.lt_of_le_of_lt (show sz[vs.length].natAbs<=rB by omega) E8);refine⟨[.sh (.int c),.sh (.lst (sz.map D.int)),.ow (.lst ((vs++[lf.fmod sz[vs.length]]).map D.int)),.sh (.int (lf.fdiv sz[vs.length])),.sh (.int mx),.sh (.int (vs.length:Int))],?_,vs++[lf.fmod sz[vs.length]],by simp,hbn _ f.1 f.2,_,_,_,rfl,m0,m1_⟩;open_line with[tI,iK,decide_eq_true hc,decide_eq_true (show(c.natAbs:Int)≥1000000000000000000 from hc),hix,hsz0,dh hap,wH hdiv,List.map_append]
   .have f1:=dM (a:=mx*mx+69621*mx+7919*(vs.length:Int)+1000003) (b:=2147483647) (by decide)
    generalize hmx:(mx*mx+69621*mx+7919*(vs.length:Int)+1000003).fmod 2147483647=my at f1;have f:=dM (a:=(my*39373).fmod 2147483629) (b:=sz[vs.length]) hs.1;have o1:fE mx mx=true:=iq (by omega) (by omega);have o2:fE 69621 mx=true:=iq (by decide) (by omega);have o3:fE 7919 (vs.length:Int)=true:=iq (by decide) (by omega);have o4:fE my 39373=true:=iq (by omega) (by decide);refine⟨[.sh (.int c),.sh (.lst (sz.map D.int)),.ow (.lst ((vs++[((my*39373).fmod 2147483629).fmod sz[vs.length]]).map D.int)),.sh (.int lf),.sh (.int my),.sh (.int (vs.length:Int))],?_,vs++[((my*39373).fmod 2147483629).fmod sz[vs.length]],by simp,hbn _ f.1 f.2,_,_,_,rfl,f1.1,f1.2⟩;open_line with[tI,iK,decide_eq_false hc,decide_eq_false (show ¬(c.natAbs:Int)≥1000000000000000000 from hc),cT o1,cT o2,cT o3,hmx,cT o4,hix,hsz0,dh hap,List.map_append]) ⟨[],rfl,λi v s e=>(by simp at e),_,_,_,rfl,hmix0.1,hmix0.2⟩
 refine⟨vs,?_,hv,hb⟩;have o0:fE (c.fmod 2147483647) 48271=true:=iq (by omega) (by decide);open_line with[bQ,lM,tI,cT o0,List.length_map,lh,k9 (show sz.length<=1000000 by omega),hl]
noncomputable def pS:am :=
 (aq (aV 2 (ai (af (ae 0) aA) (m1 u6)))
 (aq (aV 3 (ae 1))
 (aq (fZ (nG 3) (aa (ae 3) (dC (.int 0)) ic)
 (aq (Ax 2 3 (af (ae 3) (af (aa (ae 2) (ae 3) du) aA)))
 ak))
 (aq (bh (ai (af (aa (ae 0) (ae 2) sY) (af (aa (ae 1) (ae 2) sY) aA)) df))
 ak))))
def bA:ac->ax D:=bT 4 pS
theorem uC{A B:Sl}:∀(n:Nat) (a b:Int),0<=a->0<=b->b.natAbs<n->cg (aa (ae 3) (dC (.int 0)) ic) (aq (Ax 2 3 (af (ae 3) (af (aa (ae 2) (ae 3) du) aA))) ak) n [A,B,.sh (.int a),.sh (.int b)]=.ok (.nx [A,B,.sh (.int (Int.gcd a b:Int)),.sh (.int 0)])
 |0,a,b,_,_,h=>absurd h (Nat.not_lt_zero _)
 |n+1,a,b,ha,hb,h=>by
  by_cases h0:b=0
  .subst h0
   have hc:(aa (ae 3) (dC (.int 0)) ic) (ij [A,B,.sh (.int a),.sh (.int 0)])=.ok (.bl false):=by
    cases A<;>cases B<;>rfl
   rw[ie hc];have:((Int.gcd a 0:Nat):Int)=a:=by rw[Int.gcd_zero_right];omega
   rw[this]
  .have hc:(aa (ae 3) (dC (.int 0)) ic) (ij [A,B,.sh (.int a),.sh (.int b)])=.ok (.bl true):=by
    have:(b==0)=false:=beq_eq_false_iff_ne.mpr h0;cases A<;>cases B<;>open_line with[this]
   have f:=dM (a:=a) (b:=b) (by omega);have hb0:(b==0)=false:=beq_eq_false_iff_ne.mpr h0;rw[kM (ρ2:=[A,B,.sh (.int b),.sh (.int (a.fmod b))]) hc ?_,uC n b (a.fmod b) (by omega) f.1 (by omega)]
   .rw[uJ]
   .cases A<;>cases B<;>open_line with[hb0]
def oK{a b:Int}(hb:0<b)(h1:a.natAbs<vD)(h2:b.natAbs<vD):bA [.int a,.int b]=.ok (fr (er a b)):=by
 have hg:0<(Int.gcd a b:Int):=nF (by omega);have hgn:(Int.gcd (a.natAbs:Int) b:Int)=(Int.gcd a b:Int):=by
  congr 1
 have hl:=uC (A:=.sh (.int a)) (B:=.sh (.int b)) (b.natAbs+1) (a.natAbs:Int) b (by omega) (by omega) (Nat.lt_succ_self _);rw[hgn]at hl;have hwh:∀(c:al) (s:am),fZ (nG 3) c s [.sh (.int a),.sh (.int b),.sh (.int (a.natAbs:Int)),.sh (.int b)]=cg c s (b.natAbs+1) [.sh (.int a),.sh (.int b),.sh (.int (a.natAbs:Int)),.sh (.int b)]:=λ_ _=>rfl;have d1:(Int.gcd a b:Int)∣a:=Int.gcd_dvd_left ..;have d2:(Int.gcd a b:Int)∣b:=Int.gcd_dvd_right ..;have q1:gz a (Int.gcd a b:Int)=true:=sT (by omega) h1;have q2:gz b (Int.gcd a b:Int)=true:=sT (by omega) h2;have e1:a.fdiv (Int.gcd a b:Int)=a / (Int.gcd a b:Int):=lg hg;have e2:b.fdiv (Int.gcd a b:Int)=b / (Int.gcd a b:Int):=lg hg;open_line with[bA,pS,tI,hwh,hl,wH q1,wH q2,e1,e2]
 rfl
noncomputable def fO:am :=
 (aq (aV 1 (aa (ai (af (dC (.int 0)) (af (aa (aa (ae 0) (dC (.int 1)) aJ) (dC (.int 7)) du) (af (aa (aa (ae 0) (dC (.int 1)) aJ) (dC (.int 60)) du) (af (aa (ae 0) (dC (.int 1)) aJ) (af (aa (aa (ae 0) (dC (.int 1)) aJ) (dC (.int 1000)) du) aA))))) bM) (aa (ae 0) (dC (.int 0)) aJ) aJ))
 (aq (aV 2 (aa (ai (af (dC (.int 1)) (af (dC (.int 1)) (af (aa (dC (.int 1)) (aa (ae 0) (dC (.int 2)) aJ) bC) (af (dC (.int 1)) (af (aa (dC (.int 1)) (aa (aa (ae 0) (dC (.int 2)) aJ) (dC (.int 4)) du) bC) aA))))) bM) (aa (ae 0) (dC (.int 0)) aJ) aJ))
 (aq (bh (ai (af (ae 1) (af (ae 2) aA)) bA))
 ak)))
def bD:ac->ax D:=bT 3 fO
noncomputable def lK:am :=
 (aq (aV 2 (dC (.str "abcdefghijklmnopqrstuvwxyz")))
 (aq (jq 3 (ai aA bM))
 (aq (kU (ae 1) (dg 4)
 (aq (aV 5 (eV (ae 0) (bZ (aa (dC (.int 10)) (ae 4) bI)) (bZ (aa (aa (dC (.int 10)) (ae 4) bI) (dC (.int 10)) bC))))
 (aq (aV 6 (uX (dC (.str "")) (af (dE 1 [2,5] (t7 (aa (dC (.int 1)) (aa (ae 5) (dC (.int 0)) aJ) bC)) (dg 0) mYes (aa (ae 1) (aa (ae 2) (aa (dC (.int 2)) (ae 0) bC) aJ) aJ)) aA)))
 (aq (cP (dN (aa (ae 4) (dC (.int 0)) Ks) (aa (aa (ae 5) (dC (.int 1)) aJ) (dC (.int 0)) fF))
 (aq (xq 6 (aa (eV (aa (ae 3) (aa (ae 4) (dC (.int 1)) lE) aJ) dH (bZ (aa (ae 5) (dC (.int 0)) aJ))) (aa (ae 2) (aa (ae 5) (dC (.int 2)) aJ) aJ) bC))
 ak)
 ak)
 (aq (aV 7 (aa (ae 5) (dC (.int 9)) aJ))
 (aq (fZ (λ_=>30) (aa (ae 6) (ae 3) wO)
 (aq (aV 7 (aa (ae 7) (dC (.int 1)) bC))
 (aq (aV 6 (aa (eV (ae 6) dH (bZ (aS (dC (.int 1)) qu))) (aa (ae 2) (aa (ae 7) (dC (.int 26)) du) aJ) bC))
 ak)))
 (aq (bW 3 (ae 6))
 ak)))))))
 (aq (bh (ae 3))
 ak))))
def de:ac->ax D:=bT 8 lK
def S(cs:bi):Str:=⟨cs.toArray⟩
def FH{a b:bi}(h:S a=S b):a=b:=by
 have:=congrArg (λs:Str=>s.cps.toList) h;simpa[S] using this
def lS(a:bi):(S a).length=a.length:=Ig a
structure pW (cs:bi):Prop where
 l1:1<=cs.length
 l8:cs.length<=8
 ab:∀x∈cs,oR x=true
def pW.nameB{cs:bi}(h:pW cs):Com.nameB (S cs)=true:=by
 unfold Com.nameB;rw[lS];simp only[Bool.and_eq_true,decide_eq_true_eq];exact⟨h.l1,h.l8,List.all_eq_true.mpr λx hx=>h.ab x (by simpa[S] using hx)⟩
def gk(css:List (bi)):ac:=css.map λcs=>D.str (S cs)
def oQ{css:List (bi)}{cs:bi}:wO (.str (S cs)) (.lst (gk css))=.ok (.bl (decide (cs∈css))):=by
 have e:gk css=(css.map S).map D.str:=by unfold gk;rw[List.map_map];rfl
 rw[e,sG]
 congr 2
 apply decide_eq_decide.mpr;constructor
 .intro h
  obtain⟨b,hb,hs⟩:=List.mem_map.mp h;rw[←FH hs];exact hb
 .exact λh=>List.mem_map.mpr ⟨cs,h,rfl⟩
def ET{cs:bi}(h:1<=cs.length)(h8:cs.length<=1000):ua (.str (S cs)) none (some (-1))=.ok (.str (S cs.dropLast)):=by
 rw[xn (by rw[lS];exact h8)]
 congr 2
 have e1:Txt.slice (S cs) none (some (-1))=Txt.slice (S cs) none (some (-1+((S cs).length:Int))):=StrLaws.sliceText_neg_hi (S cs) none (by decide) (by rw[lS];omega);rw[e1,lS,show(-1+(cs.length:Int))=((cs.length-1:Nat):Int) by omega,show S cs=⟨cs.toArray⟩ from rfl,n6 (by omega)];rw[List.dropLast_eq_take];rfl
def gB(pre:bi)(at_:Int)(i:Nat):bi:=pre++[97+((at_+(i:Int)).fmod 26).toNat]
def EX{pre:bi}{at_:Int}{i:Nat}(hl:pre.length<=7)(hp:∀x∈pre,oR x=true):pW (gB pre at_ i):=by
 have f:=dM (a:=at_+(i:Int)) (b:=26) (by decide);refine⟨by unfold gB;simp,by unfold gB;simp;omega,λx hx=>?_⟩;unfold gB at hx;rw[List.mem_append]at hx;rcases hx with hx|hx
 .exact hp x hx
 .have:x=97+((at_+(i:Int)).fmod 26).toNat:=by simpa using hx
  rw[this];exact w4 _ (by omega)
theorem nodup_le{α:Type}[DecidableEq α]:∀{l m:List α},l.Nodup->(∀x∈l,x∈m)->l.length<=m.length
 |[],_,_,_=>Nat.zero_le _
 |a::l,m,nd,h=>by
  rw[List.nodup_cons]at nd;have ha:=h a List.mem_cons_self;have:=nodup_le (l:=l) (m:=m.erase a) nd.2 λx hx=>by
   have hne:x≠a:=λz=>nd.1 (z▸hx);exact(List.mem_erase_of_ne hne).mpr (h x (List.mem_cons_of_mem _ hx))
  rw[List.length_erase_of_mem ha]at this;have:=List.length_pos_of_mem ha;simp only[List.length_cons];omega
def zC{pre:bi}{at_:Int}{css:List (bi)}(h6:css.length<=6):∃j,j<=6/\gB pre at_ (1+j)∉css:=by
 refine Classical.byContradiction λhno=>?_;have hall:∀j,j<=6->gB pre at_ (1+j)∈css:=λj hj=>Classical.byContradiction λhn=>hno ⟨j,hj,hn⟩;have nd:((List.range 7).map λj=>gB pre at_ (1+j)).Nodup:=by
  rw[List.nodup_iff_pairwise_ne,List.pairwise_map];refine List.Pairwise.imp_of_mem ?_ List.pairwise_lt_range;intro k j hk hj hlt heq;rw[List.mem_range]at hk hj;have h1:=List.append_inj_right heq rfl;have h2:97+((at_+((1+k:Nat):Int)).fmod 26).toNat=97+((at_+((1+j:Nat):Int)).fmod 26).toNat:=by simpa using h1
  rw[Int.fmod_eq_emod_of_nonneg _ (by decide),Int.fmod_eq_emod_of_nonneg _ (by decide)]at h2;omega
 have:=nodup_le nd (m:=css) λx hx=>by
  obtain⟨j,hj,rfl⟩:=List.mem_map.mp hx;rw[List.mem_range]at hj;exact hall j (by omega)
 simp at this;omega
def xK{a b c e:D}{css:List (bi)}{cs:bi}{at_:Int}(h1:1<=cs.length)(h8:cs.length<=8):(aq (aV 7 (aa (ae 7) (dC (.int 1)) bC))
 (aq (aV 6 (aa (eV (ae 6) dH (bZ (aS (dC (.int 1)) qu))) (aa (ae 2) (aa (ae 7) (dC (.int 26)) du) aJ) bC))
 ak)) [.sh a,.sh b,.sh (.str "abcdefghijklmnopqrstuvwxyz"),.ow (.lst (gk css)),.sh c,.sh e,.sh (.str (S cs)),.sh (.int at_)]=.ok (.nx [.sh a,.sh b,.sh (.str "abcdefghijklmnopqrstuvwxyz"),.ow (.lst (gk css)),.sh c,.sh e,.sh (.str (S (cs.dropLast++[97+((at_+1).fmod 26).toNat]))),.sh (.int (at_+1))]):=by
 have f:=dM (a:=at_+1) (b:=26) (by decide);have hs:=ET h1 (by omega);have hi:=wZ f.1 f.2;have hadd:bC (.str (S cs.dropLast)) (.str ⟨#[97+((at_+1).fmod 26).toNat]⟩)=.ok (.str (S (cs.dropLast++[97+((at_+1).fmod 26).toNat]))):=by
  have hln:(S cs.dropLast).length+(⟨#[97+((at_+1).fmod 26).toNat]⟩:Str).length<=1000:=by
   rw[lS,List.length_dropLast];show cs.length-1+1<=1000;omega
  rw[vq hln];exact congrArg (λz=>ax.ok (D.str z)) (rf cs.dropLast [97+((at_+1).fmod 26).toNat])
 open_line with[hs,hi,hadd]
def Bm{a b c e:D}{css:List (bi)}{pre:bi}{at_:Int}(hl:pre.length<=7):∀(d i fuel:Nat),gB pre at_ (i+d)∉css->d<fuel->∃i',cg (aa (ae 6) (ae 3) wO)
 (aq (aV 7 (aa (ae 7) (dC (.int 1)) bC))
 (aq (aV 6 (aa (eV (ae 6) dH (bZ (aS (dC (.int 1)) qu))) (aa (ae 2) (aa (ae 7) (dC (.int 26)) du) aJ) bC))
 ak)) fuel [.sh a,.sh b,.sh (.str "abcdefghijklmnopqrstuvwxyz"),.ow (.lst (gk css)),.sh c,.sh e,.sh (.str (S (gB pre at_ i))),.sh (.int (at_+(i:Int)))]=.ok (.nx [.sh a,.sh b,.sh (.str "abcdefghijklmnopqrstuvwxyz"),.ow (.lst (gk css)),.sh c,.sh e,.sh (.str (S (gB pre at_ i'))),.sh (.int (at_+(i':Int)))])/\gB pre at_ i'∉css:=by
 intro d
 induction d with
 |zero=>
  intro i fuel hn hf;obtain⟨f,rfl⟩:∃f,fuel=f+1:=⟨fuel-1,by omega⟩
  have hn:gB pre at_ i∉css:=hn;refine⟨i,?_,hn⟩;rw[ie];have:=oQ (css:=css) (cs:=gB pre at_ i);rw[decide_eq_false hn]at this;open_line with[this]
 |succ d ih=>
  intro i fuel hn hf;obtain⟨f,rfl⟩:∃f,fuel=f+1:=⟨fuel-1,by omega⟩
  by_cases hm:gB pre at_ i∈css
  .obtain⟨i',h1,h2⟩:=ih (i+1) f (by rw[show i+1+d=i+(d+1) by omega];exact hn) (by omega)
   refine⟨i',?_,h2⟩;have hst:=xK (a:=a) (b:=b) (c:=c) (e:=e) (css:=css) (cs:=gB pre at_ i) (at_:=at_+(i:Int)) (by unfold gB;simp) (by unfold gB;simp;omega);have e1:(gB pre at_ i).dropLast++[97+((at_+(i:Int)+1).fmod 26).toNat]=gB pre at_ (i+1):=by
    unfold gB;rw[List.dropLast_concat,show at_+(i:Int)+1=at_+((i+1:Nat):Int) by omega]
   rw[e1,show at_+(i:Int)+1=at_+((i+1:Nat):Int) by omega]at hst;rw[kM ?_ hst]
   .exact h1
   .have:=oQ (css:=css) (cs:=gB pre at_ i)
    rw[decide_eq_true hm]at this;open_line with[this]
  .refine⟨i,?_,hm⟩
   rw[ie];have:=oQ (css:=css) (cs:=gB pre at_ i);rw[decide_eq_false hm]at this;open_line with[this]
def xJ{a b c e:D}{css:List (bi)}{cs:bi}{at_:Int}(h6:css.length<=6)(h:pW cs):∃cs' at',cg (aa (ae 6) (ae 3) wO)
 (aq (aV 7 (aa (ae 7) (dC (.int 1)) bC))
 (aq (aV 6 (aa (eV (ae 6) dH (bZ (aS (dC (.int 1)) qu))) (aa (ae 2) (aa (ae 7) (dC (.int 26)) du) aJ) bC))
 ak)) 30 [.sh a,.sh b,.sh (.str "abcdefghijklmnopqrstuvwxyz"),.ow (.lst (gk css)),.sh c,.sh e,.sh (.str (S cs)),.sh (.int at_)]=.ok (.nx [.sh a,.sh b,.sh (.str "abcdefghijklmnopqrstuvwxyz"),.ow (.lst (gk css)),.sh c,.sh e,.sh (.str (S cs')),.sh (.int at')])/\pW cs'/\cs'∉css:=by
 by_cases hm:cs∈css
 .have hpl:cs.dropLast.length<=7:=by rw[List.length_dropLast];have:=h.l8;omega
  obtain⟨j,hj,hn⟩:=zC (pre:=cs.dropLast) (at_:=at_) (css:=css) h6;obtain⟨i',h1,h2⟩:=Bm (a:=a) (b:=b) (c:=c) (e:=e) hpl j 1 29 hn (by omega);refine⟨gB cs.dropLast at_ i',at_+(i':Int),?_,EX hpl λx hx=>h.ab x (List.dropLast_subset _ hx),h2⟩;have hst:=xK (a:=a) (b:=b) (c:=c) (e:=e) (css:=css) (cs:=cs) (at_:=at_) h.l1 h.l8;rw[kM ?_ hst]
  .exact h1
  .have:=oQ (css:=css) (cs:=cs)
   rw[decide_eq_true hm]at this;open_line with[this]
 .refine⟨cs,at_,?_,h,hm⟩
  rw[ie];have:=oQ (css:=css) (cs:=cs);rw[decide_eq_false hm]at this;open_line with[this]
def IE:List Int:=[8,3,26,26,26,26,26,26,26,26,8,3,26,26,26,26,26,26,26,26,8,3,26,26,26,26,26,26,26,26,8,3,26,26,26,26,26,26,26,26,8,3,26,26,26,26,26,26,26,26,8,3,26,26,26,26,26,26,26,26,8,3,26,26,26,26,26,26,26,26]
def HX:∀k,k<7->∀j,j<10->IE[10*k+j]?=some (if j=0 then 8 else if j=1 then 3 else 26):=by decide
structure E5 (es:List Int):Prop where
 len:es.length=10
 e0:∃v,es[0]?=some v/\0<=v/\v<8
 e1:∃v,es[1]?=some v/\0<=v/\v<3
 el:∀j,2<=j->j<10->∃v,es[j]?=some v/\0<=v/\v<26
def FY{ds:List Int}(W:Drawn IE ds){k:Nat}(hk:k<7):E5 ((ds.drop (10*k)).take 10):=by
 have hl:ds.length=70:=W.len;have at_:∀j,j<10->∃v,((ds.drop (10*k)).take 10)[j]?=some v/\0<=v/\v<(if j=0 then 8 else if j=1 then 3 else 26:Int):=λj hj=>by
  rw[List.getElem?_take_of_lt hj,List.getElem?_drop];obtain⟨v,h1,h2,_⟩:=W.at (10*k+j) (HX k hk j hj);exact⟨v,h1,h2.1,h2.2⟩
 refine⟨by rw[List.length_take,List.length_drop];omega,?_,?_,λj h2 h10=>?_⟩
 .have:=at_ 0 (by decide);simpa using this
 .have:=at_ 1 (by decide);simpa using this
 .obtain⟨v,h⟩:=at_ j h10
  rw[if_neg (by omega),if_neg (by omega)]at h;exact⟨v,h⟩
def E5.ix{es:List Int}{j:Nat}{v:Int}(h:es[j]?=some v):aJ (.lst (es.map D.int)) (.int (j:Int))=.ok (.int v):=eZ (by rw[List.getElem?_map,h];rfl)
def rK(d:D):ax (ac):=match d with
 |.int j=>if -4611686018427387904<=j/\j<4611686018427387904 then .ok (intsFrom 0 j.toNat) else .stuck
 |_=>.stuck
def o5{f:al}{ρ:Ev}:t7 f ρ=(f ρ).bind rK:=aQ rfl
def yC{k:Nat}(h:k<=1000000):rK (.int (k:Int))=.ok (intsFrom 0 k):=by
 unfold rK;dsimp only;rw[if_pos ⟨by omega,by omega⟩,Int.toNat_natCast]
def first(es:List Int)(m:Nat):bi:=(List.range m).map λj=>97+((es[2+j]?).getD 0).toNat
def BL{es:List Int}(T:E5 es){m:Nat}(h1:1<=m)(h8:m<=8):pW (first es m):=by
 refine⟨by unfold first;simpa using h1,by unfold first;simpa using h8,λx hx=>?_⟩;unfold first at hx
 obtain⟨j,hj,rfl⟩:=List.mem_map.mp hx;rw[List.mem_range]at hj;obtain⟨v,e,b⟩:=T.el (2+j) (by omega) (by omega);rw[e,Option.getD_some];exact w4 _ (by omega)
def wz{es:List Int}(T:E5 es){m:Nat}(h8:m<=8){a b n k:D}{x6 x7:Sl}:ja 1 [2,5] (dg 0) mYes (aa (ae 1) (aa (ae 2) (aa (dC (.int 2)) (ae 0) bC) aJ) aJ) [.sh a,.sh b,.sh (.str "abcdefghijklmnopqrstuvwxyz"),.ow n,.sh k,.sh (.lst (es.map D.int)),x6,x7] (intsFrom 0 m)=.ok (.lst ((first es m).map λc=>D.str ⟨#[c]⟩)):=by
 have hlen:(DL.intsFrom 0 m).length=m:=by unfold DL.intsFrom;simp
 rw[iB (F:=λd=>match d with|.int j=>.str ⟨#[97+((es[2+j.toNat]?).getD 0).toNat]⟩|d=>d) (by rw[hlen];omega)]
 .congr 2
  unfold DL.intsFrom first
  rw[List.map_map,List.map_map];apply List.map_congr_left;intro j _;show D.str ⟨#[97+((es[2+(0+(j:Int)).toNat]?).getD 0).toNat]⟩=_;rw[show(0+(j:Int)).toNat=j by omega];rfl
 .intro d hd
  unfold DL.intsFrom at hd;obtain⟨j,hj,rfl⟩:=List.mem_map.mp hd;rw[List.mem_range]at hj;obtain⟨v,e,hb⟩:=T.el (2+j) (by omega) (by omega);refine⟨[.sh (.int (0+(j:Int))),.sh (.str "abcdefghijklmnopqrstuvwxyz"),.sh (.lst (es.map D.int))],rfl,rfl,?_⟩;have hix:aJ (.lst (es.map D.int)) (.int (2+(0+(j:Int))))=.ok (.int v):=by
   rw[show(2+(0+(j:Int)))=((2+j:Nat):Int) by omega];exact E5.ix e
  open_line with[hix,wZ hb.1 hb.2]
  rw[show(0+(j:Int)).toNat=j by omega,e];rfl
def vP{z:Str}{j:Int}(h:(z.length:Int)<=j):Txt.slice z none (some j)=Txt.slice z none (some (z.length:Int)):=by
 show StrLaws.sliceText z none (some j)=StrLaws.sliceText z none (some (z.length:Int));have e:Builtin.Str.strSliceIndices none (some j) 1 z.length=Builtin.Str.strSliceIndices none (some (z.length:Int)) 1 z.length:=by
  have a:¬j<0:=by omega
  have b:¬((z.length:Int)<0):=by omega
  have c:min j (z.length:Int)=(z.length:Int):=by omega
  have d:min (z.length:Int) (z.length:Int)=(z.length:Int):=by omega
  simp[Builtin.Str.strSliceIndices,a,b,c,d]
 unfold StrLaws.sliceText;rw[e]
def nodup_snoc{α:Type}{l:List α}{x:α}(h:l.Nodup)(hx:x∉l):(l++[x]).Nodup:=by
 rw[List.nodup_append];refine⟨h,by simp,λa ha b hb=>?_⟩;have:b=x:=by simpa using hb
 subst this;intro z;subst z;exact hx ha
set_option maxHeartbeats 1000000 in
def Bo{ds:List Int}(W:Drawn IE ds){n:Nat}(hn:n<=7):∃css:List (bi),de [.lst (ds.map D.int),.int (n:Int)]=.ok (.lst (gk css))/\css.length=n/\css.Nodup/\∀cs∈css,pW cs:=by
 have hdl:ds.length=70:=W.len;obtain⟨ρ',hl,css,hc,hnd,hnm,x4,x5,x6,x7,rfl⟩:=nH (i:=4) (n:=n)
  (ρ:=[.sh (.lst (ds.map D.int)),.sh (.int (n:Int)),.sh (.str "abcdefghijklmnopqrstuvwxyz"),.ow (.lst []),.no,.no,.no,.no])
  (body:=(aq (aV 5 (eV (ae 0) (bZ (aa (dC (.int 10)) (ae 4) bI)) (bZ (aa (aa (dC (.int 10)) (ae 4) bI) (dC (.int 10)) bC))))
 (aq (aV 6 (uX (dC (.str "")) (af (dE 1 [2,5] (t7 (aa (dC (.int 1)) (aa (ae 5) (dC (.int 0)) aJ) bC)) (dg 0) mYes (aa (ae 1) (aa (ae 2) (aa (dC (.int 2)) (ae 0) bC) aJ) aJ)) aA)))
 (aq (cP (dN (aa (ae 4) (dC (.int 0)) Ks) (aa (aa (ae 5) (dC (.int 1)) aJ) (dC (.int 0)) fF))
 (aq (xq 6 (aa (eV (aa (ae 3) (aa (ae 4) (dC (.int 1)) lE) aJ) dH (bZ (aa (ae 5) (dC (.int 0)) aJ))) (aa (ae 2) (aa (ae 5) (dC (.int 2)) aJ) aJ) bC))
 ak)
 ak)
 (aq (aV 7 (aa (ae 5) (dC (.int 9)) aJ))
 (aq (fZ (λ_=>30) (aa (ae 6) (ae 3) wO)
 (aq (aV 7 (aa (ae 7) (dC (.int 1)) bC))
 (aq (aV 6 (aa (eV (ae 6) dH (bZ (aS (dC (.int 1)) qu))) (aa (ae 2) (aa (ae 7) (dC (.int 26)) du) aJ) bC))
 ak)))
 (aq (bW 3 (ae 6))
 ak)))))))
  (λk ρ=>∃css:List (bi),css.length=k/\css.Nodup/\(∀cs∈css,pW cs)/\∃x4 x5 x6 x7,ρ=[.sh (.lst (ds.map D.int)),.sh (.int (n:Int)),.sh (.str "abcdefghijklmnopqrstuvwxyz"),.ow (.lst (gk css)),x4,x5,x6,x7]) (by
   rintro k hk ρ ⟨css,rfl,hnd,hnm,x4,x5,x6,x7,rfl⟩;have T:=FY W (k:=css.length) (by omega);generalize hes:(ds.drop (10*css.length)).take 10=es at T;have hcut:jL (ds.map D.int) (some (10*(css.length:Int))) (some (10*(css.length:Int)+10))=es.map D.int:=by
    rw[u9 (a:=10*css.length) (b:=10*css.length+10) (by omega) (by omega) (by omega) (by omega),show 10*css.length+10-10*css.length=10 by omega,hes]
   obtain⟨e0,g0,b0,b0'⟩:=T.e0;obtain⟨e1,g1,b1,b1'⟩:=T.e1;obtain⟨e2,g2,b2,b2'⟩:=T.el 2 (by decide) (by decide);obtain⟨e9,g9,b9,b9'⟩:=T.el 9 (by decide) (by decide);have i0:aJ (.lst (es.map D.int)) (.int 0)=.ok (.int e0):=E5.ix (j:=0) g0;have i1:aJ (.lst (es.map D.int)) (.int 1)=.ok (.int e1):=E5.ix (j:=1) g1;have i2:aJ (.lst (es.map D.int)) (.int 2)=.ok (.int e2):=E5.ix (j:=2) g2;have i9:aJ (.lst (es.map D.int)) (.int 9)=.ok (.int e9):=E5.ix (j:=9) g9;obtain⟨m,rfl⟩:=Int.eq_ofNat_of_zero_le b0;have hm1:fE 10 (css.length:Int)=true:=iq (by decide) (by omega);have hsrc:rK (.int (1+(m:Int)))=.ok (DL.intsFrom 0 (1+m)):=by
    rw[show(1+(m:Int))=((1+m:Nat):Int) by omega];exact yC (by omega)
   have hjoin:=wo (cs:=first es (1+m)) (by unfold first;simp;omega);have hF:=BL T (m:=1+m) (by omega) (by omega);have hcomp:=λ(x6 x7:Sl)=>wz T (m:=1+m) (by omega) (a:=.lst (ds.map D.int)) (b:=.int (n:Int)) (n:=.lst (gk css)) (k:=.int (css.length:Int)) (x6:=x6) (x7:=x7);have hwh:∀(c:al) (s:am) (ρ:Ev),fZ (λ_=>30) c s ρ=cg c s 30 ρ:=λ_ _ _=>rfl;have hap:decide ((gk css).length<=999)=true:=decide_eq_true (by unfold gk;rw[List.length_map];omega);have fin:∀cs,cs∉css->pW cs->(css++[cs]).Nodup/\∀c∈css++[cs],pW c:=λcs h1 h2=>⟨nodup_snoc hnd h1,λc hc=>by
    rw[List.mem_append]at hc;rcases hc with hc|hc
    .exact hnm c hc
    .have:c=cs:=by simpa using hc
     subst this;exact h2⟩
   have hmp:∀cs,gk (css++[cs])=gk css++[.str (S cs)]:=λcs=>by unfold gk;rw[List.map_append];rfl
   have hS:∀cs:bi,(⟨cs.toArray⟩:Str)=S cs:=λ_=>rfl;rw[hS]at hjoin;cases hcc:(decide ((css.length:Int) > 0)&&(e1==0)) with
   |false=>
    obtain⟨cs',at',hw,hN,hO⟩:=xJ (a:=.lst (ds.map D.int)) (b:=.int (n:Int)) (c:=.int (css.length:Int)) (e:=.lst (es.map D.int)) (css:=css) (cs:=first es (1+m)) (at_:=e9) (by omega) hF;refine⟨[.sh (.lst (ds.map D.int)),.sh (.int (n:Int)),.sh (.str "abcdefghijklmnopqrstuvwxyz"),.ow (.lst (gk (css++[cs']))),.sh (.int (css.length:Int)),.sh (.lst (es.map D.int)),.sh (.str (S cs')),.sh (.int at')],?_,css++[cs'],by simp,(fin cs' hO hN).1,(fin cs' hO hN).2,_,_,_,_,rfl⟩;rw[hmp]
    by_cases hk0:(css.length:Int) > 0
    .have h10:(e1==0)=false:=by rw[decide_eq_true hk0]at hcc;simpa using hcc
     open_line with[cT hm1,hcut,i0,o5,hsrc,hcomp,hjoin,decide_eq_true hk0,i1,h10,i9,hwh,hw,dh hap]
    .open_line with[cT hm1,hcut,i0,o5,hsrc,hcomp,hjoin,decide_eq_false hk0,i9,hwh,hw,dh hap]
   |true=>
    rw[Bool.and_eq_true,decide_eq_true_eq]at hcc;have hk0:=hcc.1;have hlast:css.length-1<css.length:=by omega
    have hpx:=hnm css[css.length-1] (List.getElem_mem hlast);have hixn:aJ (.lst (gk css)) (.int ((css.length:Int)-1))=.ok (.str (S css[css.length-1])):=by
     rw[show((css.length:Int)-1)=((css.length-1:Nat):Int) by omega];exact eZ (by unfold gk;rw[List.getElem?_map,List.getElem?_eq_getElem hlast];rfl)
    generalize css[css.length-1]=pv at hixn hpx;have hsl:ua (.str (S pv)) none (some (m:Int))=.ok (.str (S (pv.take m))):=by
     rw[xn (by rw[lS];have:=hpx.l8;omega)]
     by_cases hmm:m<=pv.length
     .exact congrArg (λz=>ax.ok (D.str z)) (n6 hmm)
     .rw[vP (by rw[lS];omega),lS]
      refine congrArg (λz=>ax.ok (D.str z)) ((n6 (Nat.le_refl _)).trans ?_);rw[List.take_length,List.take_of_length_le (by omega)];rfl
    have hadd:bC (.str (S (pv.take m))) (.str ⟨#[97+e2.toNat]⟩)=.ok (.str (S (pv.take m++[97+e2.toNat]))):=by
     have hln:(S (pv.take m)).length+(⟨#[97+e2.toNat]⟩:Str).length<=1000:=by
      rw[lS,List.length_take];show min m pv.length+1<=1000;omega
     rw[vq hln];exact congrArg (λz=>ax.ok (D.str z)) (rf (pv.take m) [97+e2.toNat])
    have hset:∀(i:Nat) (ρ:Ev) (z:Str),Fn i ρ (.str z)=.ok (.nx (ρ.set i (.sh (.str z)))):=λ_ _ _=>rfl;have hF2:pW (pv.take m++[97+e2.toNat]):=by
     refine⟨by simp,by simp;omega,λx hx=>?_⟩;rw[List.mem_append]at hx;rcases hx with hx|hx
     .exact hpx.ab x (List.mem_of_mem_take hx)
     .have:x=97+e2.toNat:=by simpa using hx
      rw[this];exact w4 _ (by omega)
    obtain⟨cs',at',hw,hN,hO⟩:=xJ (a:=.lst (ds.map D.int)) (b:=.int (n:Int)) (c:=.int (css.length:Int)) (e:=.lst (es.map D.int)) (css:=css) (cs:=pv.take m++[97+e2.toNat]) (at_:=e9) (by omega) hF2;refine⟨[.sh (.lst (ds.map D.int)),.sh (.int (n:Int)),.sh (.str "abcdefghijklmnopqrstuvwxyz"),.ow (.lst (gk (css++[cs']))),.sh (.int (css.length:Int)),.sh (.lst (es.map D.int)),.sh (.str (S cs')),.sh (.int at')],?_,css++[cs'],by simp,(fin cs' hO hN).1,(fin cs' hO hN).2,_,_,_,_,rfl⟩;rw[hmp];open_line with[cT hm1,hcut,i0,o5,hsrc,hcomp,hjoin,decide_eq_true hk0,i1,hcc.2,lE,hixn,hsl,i2,wZ b2 b2',hadd,D6,hset,i9,hwh,hw,dh hap]) ⟨[],rfl,List.nodup_nil,λc hc=>(nomatch hc),_,_,_,_,rfl⟩
 refine⟨css,?_,hc,hnd,hnm⟩;open_line with[de,lK,lh,k9 (show n<=1000000 by omega),hl]
noncomputable def eF:am :=
 (aq (aV 3 (ai (af (ae 0) (af (ai (af (dC (.int 420)) (af (dC (.int 60)) (af (dC (.int 2)) (af (dC (.int 5)) (af (aa (dC (.int 10)) (dC (.int 18)) qt) (af (dC (.int 30)) (af (dC (.int 6)) (af (dC (.int 5)) (af (aa (dC (.int 10)) (dC (.int 18)) qt) (af (dC (.int 30)) (af (dC (.int 3)) aA))))))))))) bM) aA)) bQ))
 (aq (aV 4 (aa (aa (ae 3) (dC (.int 0)) aJ) (ai (af (ae 2) aA) (m1 eO)) du))
 (aq (aV 5 (aa (aa (aa (ae 4) (dC (.int 1)) bC) (aa (aa (ae 3) (dC (.int 1)) aJ) (aa (ai (af (ae 2) aA) (m1 eO)) (dC (.int 1)) lE) du) bC) (ai (af (ae 2) aA) (m1 eO)) du))
 (aq (cP (aa (aa (ae 3) (dC (.int 10)) aJ) (dC (.int 0)) fF)
 (aq (aV 4 (aa (ae 1) (aa (ai (af (ae 2) aA) (m1 eO)) (dC (.int 1)) lE) du))
 (aq (aV 5 (aa (ae 4) (dC (.int 1)) bC))
 ak))
 ak)
 (aq (aV 6 (dC (.non)))
 (aq (cP (aa (aa (ae 3) (dC (.int 6)) aJ) (dC (.int 0)) Ks)
 (aq (aV 6 (ai (af (eV (ae 3) (bZ (dC (.int 7))) (bZ (dC (.int 10)))) aA) bD))
 (aq (cP (aa (aa (ae 6) (dC (.int 0)) aJ) (dC (.int 0)) fF)
 (aq (aV 6 (ai (af (dC (.int 1)) (af (dC (.int 1)) aA)) df))
 ak)
 ak)
 ak))
 ak)
 (aq (bh (ai (af (aa (ae 2) (ae 4) aJ) (af (aa (ae 2) (ae 5) aJ) (af (aa (ai (af (dC (.str "one")) (af (dC (.str "both")) aA)) bM) (aa (ae 3) (dC (.int 2)) aJ) aJ) (af (ai (af (eV (ae 3) (bZ (dC (.int 3))) (bZ (dC (.int 6)))) aA) bD) (af (ae 6) aA))))) df))
 ak)))))))
def bP:ac->ax D:=bT 7 eF
def yt:je (1,1)/\0<((1,1):dP).1:=⟨⟨⟨by decide,by decide⟩,by decide,by decide⟩,by decide⟩
noncomputable def lN:am :=
 (aq (aV 1 (ai (af (aa (aa (ae 0) (ai (af (dC (.int 0)) aA) bM) bC) (dC (.int 0)) aJ) (af (aa (aa (ai (af (dC (.int 6)) (af (dC (.int 420)) (af (dC (.int 60)) aA))) bM) (nc (aa (ai (af (dC (.int 8)) (af (dC (.int 3)) aA)) bM) (nc (ai (af (dC (.int 26)) aA) bM) (dC (.int 8))) tf) (dC (.int 7))) bC) (ai (af (dC (.int 18)) aA) bM) bC) aA)) bQ))
 (aq (aV 2 (ai (af (dC (.int 14)) (af (aa (ae 1) (dC (.int 73)) aJ) aA)) (m2 Ic)))
 (aq (bh (ai (af (eV (ae 0) (bZ (dC (.int 1))) (bZ (aa (dC (.int 1)) (ae 2) bC))) (af (eV (ae 0) (bZ (aa (dC (.int 1)) (ae 2) bC)) (bZ (dC (.int 63)))) aA)) df))
 ak)))
def cv:ac->ax D:=bT 3 lN
def J2(ns:List Int):Int:=(ns++[0]).headD 0
def xT{ns:List Int}(hn:ns.length<=900){ρ:Ev}(h:ρ[0]?=some (.sh (.lst (ns.map D.int)))):(aa (aa (ae 0) (ai (af (dC (.int 0)) aA) bM) bC) (dC (.int 0)) aJ) ρ=.ok (.int (J2 ns)):=by
 have hadd:bC (.lst (ns.map D.int)) (.lst [.int 0])=.ok (.lst ((ns++[0]).map D.int)):=by
  rw[lp (decide_eq_true (by rw[List.length_map];simp;omega)),List.map_append];rfl
 have hix:aJ (.lst ((ns++[0]).map D.int)) (.int 0)=.ok (.int (J2 ns)):=by
  refine eZ (k:=0) ?_;unfold J2;cases ns<;>rfl
 have hv:ae 0 ρ=.ok (.lst (ns.map D.int)):=by
  show(match ρ[0]? with|some (.sh d)=>ax.ok d|_=>.stuck)=_;rw[h]
 rw[BX,BX,hv];open_line with[hadd,hix]
def Jd:List Int:=[6,420,60]++IE
def L8:List Int:=Jd++[18]
def F9{ρ:Ev}:(aa (ai (af (dC (.int 6)) (af (dC (.int 420)) (af (dC (.int 60)) aA))) bM) (nc (aa (ai (af (dC (.int 8)) (af (dC (.int 3)) aA)) bM) (nc (ai (af (dC (.int 26)) aA) bM) (dC (.int 8))) tf) (dC (.int 7))) bC) ρ=.ok (.lst (Jd.map D.int)):=rfl
def Ga{ρ:Ev}:(aa (aa (ai (af (dC (.int 6)) (af (dC (.int 420)) (af (dC (.int 60)) aA))) bM) (nc (aa (ai (af (dC (.int 8)) (af (dC (.int 3)) aA)) bM) (nc (ai (af (dC (.int 26)) aA) bM) (dC (.int 8))) tf) (dC (.int 7))) bC) (ai (af (dC (.int 18)) aA) bM) bC) ρ=.ok (.lst (L8.map D.int)):=rfl
def EU{ns:List Int}{lo hi:Option Int}:∃ms:List Int,jL (ns.map D.int) lo hi=ms.map D.int/\ms.length<=ns.length:=by
 rw[j0];exact⟨_,rfl,Nat.le_trans (List.length_take_le' ..) (by rw[List.length_drop];omega)⟩
def vc{ns:List Int}(hn:ns.length<=63):∃c1 c2:List Int,cv [.lst (ns.map D.int)]=.ok (.tup [.lst (c1.map D.int),.lst (c2.map D.int)])/\c1.length<=14/\c2.length<=63:=by
 obtain⟨vs,hd,W⟩:=lC (J2 ns) L8 (by decide) (by decide);obtain⟨d,g,b,i⟩:=W.ix 73 73 rfl rfl;have hmin:Ic (.int 14) (.int d)=.ok (.int (min 14 d)):=by
  show ax.ok (D.int (if d<14 then d else 14))=_
  congr 2
  split<;>omega
 obtain⟨c2,hc2,hl2⟩:=EU (ns:=ns) (lo:=some (1+min 14 d)) (hi:=some 63);obtain⟨m,hm⟩:=Int.eq_ofNat_of_zero_le (show 0<=min 14 d by omega);have hc1:∃c1:List Int,jL (ns.map D.int) (some 1) (some (1+min 14 d))=c1.map D.int/\c1.length<=14:=by
  rw[j0];refine⟨_,rfl,Nat.le_trans (List.length_take_le ..) ?_⟩;rw[hm,show(1+(m:Int))=((1+m:Nat):Int) by omega,HT.sIx_nat,show(1:Int)=((1:Nat):Int) from rfl,HT.sIx_nat];omega
 obtain⟨c1,hc1,hl1⟩:=hc1;refine⟨c1,c2,?_,hl1,by omega⟩;have hh:=xT (ns:=ns) (by omega) (ρ:=[.sh (.lst (ns.map D.int)),.no,.no]) rfl;rw[cv,lN];rw[wC];show((aq _ _) [.sh (.lst (ns.map D.int)),.no,.no]).bind yI=_;rw[o8,wB,BW,ll,hh,uM,pd,ll,Ga];open_line with[hd,i,hmin,hc1,hc2]
noncomputable def pR:am :=
 (aq (aV 1 (ai (af (aa (aa (ae 0) (ai (af (dC (.int 0)) aA) bM) bC) (dC (.int 0)) aJ) (af (aa (ai (af (dC (.int 6)) (af (dC (.int 420)) (af (dC (.int 60)) aA))) bM) (nc (aa (ai (af (dC (.int 8)) (af (dC (.int 3)) aA)) bM) (nc (ai (af (dC (.int 26)) aA) bM) (dC (.int 8))) tf) (dC (.int 7))) bC) aA)) bQ))
 (aq (aV 2 (ai (af (eV (ae 1) (bZ (dC (.int 3))) dH) (af (aa (dC (.int 2)) (aa (ae 1) (dC (.int 0)) aJ) bC) aA)) de))
 (aq (aV 3 (aa (aa (ae 1) (dC (.int 1)) aJ) (ai (af (ae 2) aA) (m1 eO)) du))
 (aq (aV 4 (aa (aa (aa (ae 3) (dC (.int 1)) bC) (aa (aa (ae 1) (dC (.int 2)) aJ) (aa (ai (af (ae 2) aA) (m1 eO)) (dC (.int 1)) lE) du) bC) (ai (af (ae 2) aA) (m1 eO)) du))
 (aq (aV 5 (dE 2 [3,4] (ke (ae 2)) (cD [0,1]) (aa (ae 0) (ai (af (ae 2) (af (ae 3) aA)) df) bN) (ae 1)))
 (aq (aV 6 (aa (aa (ai (af (aa (ae 2) (ae 3) aJ) aA) bM) (ae 5) bC) (ai (af (aa (ae 2) (ae 4) aJ) aA) bM) bC))
 (aq (aV 7 (dE 2 [6] (ke (aa (ai (af (ae 0) aA) cv) (dC (.int 0)) aJ)) (cD [0,1]) mYes (ai (af (ae 1) (af (ae 0) (af (ae 2) aA))) bP)))
 (aq (bh (ai (af (ae 2) (af (ae 7) (af (aa (ae 2) (ae 3) aJ) (af (aa (ae 2) (ae 4) aJ) aA)))) df))
 ak))))))))
def cC:ac->ax D:=bT 8 pR
def jC{zs:List Str}:bw 0 (zs.map D.str)=(List.range zs.length).map λ(k:Nat)=>D.tup [.int (k:Int),.str (zs[k]?.getD ("":Str))]:=by
 apply List.ext_getElem?;intro i;rw[c6,List.getElem?_map,List.getElem?_map]
 by_cases h:i<zs.length
 .rw[List.getElem?_eq_getElem h,List.getElem?_range h]
  simp;rw[List.getElem?_eq_getElem h];rfl
 .rw[List.getElem?_eq_none (by omega),List.getElem?_eq_none (by simp;omega)];rfl
def yW{k f l:Nat}:bN (.int (k:Int)) (.tup [.int (f:Int),.int (l:Int)])=.ok (.bl (!(decide (k=f)||decide (k=l)))):=by
 have e:zj (.int (k:Int)) (.tup [.int (f:Int),.int (l:Int)])=some (decide (k=f)||decide (k=l)):=by
  have e0:zj (.int (k:Int)) (.tup [.int (f:Int),.int (l:Int)])=some (((f:Int)==(k:Int))||(((l:Int)==(k:Int))||false)):=rfl;rw[e0];refine congrArg some ?_;show(((f:Int)==(k:Int))||(((l:Int)==(k:Int))||false))=_;rw[Bool.or_false]
  congr 1
  .by_cases h:k=f
   .subst h;simp
   .rw[decide_eq_false h];exact beq_eq_false_iff_ne.mpr (by omega)
  .by_cases h:k=l
   .subst h;simp
   .rw[decide_eq_false h];exact beq_eq_false_iff_ne.mpr (by omega)
 unfold bN;rw[e]
def tH(zs:List Str)(f l:Nat):List Str:=((List.range zs.length).filter λk=>!(decide (k=f)||decide (k=l))).map λ(k:Nat)=>zs[k]?.getD ("":Str)
def zG{zs:List Str}{f l:Nat}(h:zs.length<=8){a b x5 x6 x7:Sl}:ja 2 [3,4] (cD [0,1]) (aa (ae 0) (ai (af (ae 2) (af (ae 3) aA)) df) bN) (ae 1) [a,b,.sh (.lst (zs.map D.str)),.sh (.int (f:Int)),.sh (.int (l:Int)),x5,x6,x7] (bw 0 (zs.map D.str))=.ok (.lst ((tH zs f l).map D.str)):=by
 rw[mT (F:=λd=>match d with|.tup [_,z]=>z|d=>d) (p:=λd=>match d with|.tup [.int k,_]=>!(decide (k.toNat=f)||decide (k.toNat=l))|_=>false) (by rw[numbered_len,List.length_map];omega)]
 .congr 2
  rw[jC];unfold tH;rw[List.filter_map,List.map_map,List.map_map];rfl
 .intro d hd
  rw[jC]at hd;obtain⟨k,_,rfl⟩:=List.mem_map.mp hd;refine⟨[.sh (.int (k:Int)),.sh (.str (zs[k]?.getD ("":Str))),.sh (.int (f:Int)),.sh (.int (l:Int))],rfl,?_,λ_=>rfl⟩;open_line with[yW,Int.toNat_natCast]
def m6(zs:List Str)(f l:Nat):List Str:=(zs[f]?.getD ("":Str))::(tH zs f l++[zs[l]?.getD ("":Str)])
def Iv(n f l:Nat):bi:=f::((List.range n).filter (λk=>!(decide (k=f)||decide (k=l)))++[l])
def tT{zs:List Str}{f l:Nat}:m6 zs f l=(Iv zs.length f l).map λ(k:Nat)=>zs[k]?.getD ("":Str):=by
 unfold m6 Iv tH;rw[List.map_cons,List.map_append];rfl
def FP{n f l:Nat}(hfl:f≠l):(Iv n f l).Nodup:=by
 unfold Iv;rw[List.nodup_cons,List.nodup_append];refine⟨λh=>?_,List.nodup_range.filter _,by simp,λa ha b hb=>?_⟩
 .rw[List.mem_append]at h
  rcases h with h|h
  .have:=(List.mem_filter.mp h).2
   simp at this
  .exact hfl (by simpa using h)
 .have hb':b=l:=by simpa using hb
  subst hb';intro z;subst z;have:=(List.mem_filter.mp ha).2;simp at this
def vG{n f l:Nat}(hf:f<n)(hl:l<n):∀k∈Iv n f l,k<n:=λk hk=>by
 unfold Iv at hk;rw[List.mem_cons,List.mem_append]at hk;rcases hk with rfl|hk|hk
 .exact hf
 .exact List.mem_range.mp (List.mem_filter.mp hk).1
 .have:k=l:=by simpa using hk
  subst this;exact hl
def xc{zs:List Str}(nd:zs.Nodup){f l:Nat}(hf:f<zs.length)(hl:l<zs.length)(hfl:f≠l):(m6 zs f l).Nodup:=by
 rw[tT,List.nodup_iff_pairwise_ne,List.pairwise_map];refine List.Pairwise.imp_of_mem ?_ (List.nodup_iff_pairwise_ne.mp (FP hfl));intro a b ha hb hab;have h1:=vG hf hl a ha;have h2:=vG hf hl b hb;rw[List.getElem?_eq_getElem h1,List.getElem?_eq_getElem h2,Option.getD_some,Option.getD_some];exact λz=>hab ((List.getElem_inj nd).mp z)
def nV{zs:List Str}{f l:Nat}(hf:f<zs.length)(hl:l<zs.length):∀z∈m6 zs f l,z∈zs:=λz hz=>by
 rw[tT]at hz;obtain⟨k,hk,rfl⟩:=List.mem_map.mp hz;have h1:=vG hf hl k hk;rw[List.getElem?_eq_getElem h1,Option.getD_some];exact List.getElem_mem h1
def Aa{zs:List Str}(nd:zs.Nodup){f l:Nat}(hf:f<zs.length)(hl:l<zs.length)(hfl:f≠l):2<=(m6 zs f l).length/\(m6 zs f l).length<=zs.length:=by
 refine⟨by unfold m6;simp,nodup_le (xc nd hf hl hfl) (nV hf hl)⟩
end Cod
namespace DL
open PySem PySem.Spec PyProof.Rows L2
theorem oV{α β:Type}{f g:α->Option β}:∀{l:List α},(∀x∈l,f x=g x)->l.filterMap f=l.filterMap g
 |[],_=>rfl
 |a::l,h=>by
  rw[List.filterMap_cons,List.filterMap_cons,h a List.mem_cons_self,oV λx hx=>h x (List.mem_cons_of_mem _ hx)]
def AU(its:List Value):slicePick its.toArray none none (some (-1))=its.reverse.toArray:=by
 have h1:(sliceBounds none none (some (-1)) its.toArray.size)=((its.length:Int)-1,-1,-1):=by
  unfold sliceBounds;simp
 unfold slicePick;rw[h1]
 congr 1
 unfold sliceRange;simp only[show ¬((-1:Int) > 0) by decide,if_false];have hc:((if(its.length:Int)-1 > -1 then((its.length:Int)-1 - -1 - -1-1) / (- -1) else 0)).toNat=its.length:=by
  rw[show(- -1:Int)=1 from rfl,Int.ediv_one];split<;>omega
 rw[hc];rw[List.filterMap_map];have hall:∀k∈List.range its.length,((λx=>its.toArray[x]?)∘λ(k:Nat)=>((its.length:Int)-1 + -1*(k:Int)).toNat) k=its.reverse[k]?:=λk hk=>by
  have hk:=List.mem_range.mp hk;show its.toArray[((its.length:Int)-1 + -1*(k:Int)).toNat]?=_;rw[List.getElem?_reverse hk,show((its.length:Int)-1 + -1*(k:Int)).toNat=its.length-1-k by omega];simp
 rw[oV hall];have hr:(List.range its.length).filterMap (λk=>its.reverse[k]?)=its.reverse:=by
  have hh:=List.length_reverse (as:=its);generalize its.reverse=r at hh ⊢;rw[←hh];clear hh hall hc h1
  induction r with
  |nil=>rfl
  |cons a r ih=>
   rw[List.length_cons,List.range_succ_eq_map,List.filterMap_cons];simp only[List.getElem?_cons_zero,List.filterMap_map]
   congr 1
 exact hr
def nk(x:D):ax D:=match x with
 |.lst ds=>.ok (.lst ds.reverse)
 |_=>.stuck
theorem Reps.rev{K:W.Frag}{H:Hp}:∀{ds:ac}{vs:ad},Reps K H ds vs->Reps K H ds.reverse vs.reverse
 |[],vs,h=>by rw[Reps.nil_iff.mp h];exact Reps.nil
 |d::ds,vs,h=>by
  obtain⟨v,r,rfl,h1,h2⟩:=aD.mp h;rw[List.reverse_cons,List.reverse_cons];exact(Reps.rev h2).app (Reps.cons h1 Reps.nil)
theorem bo.rev:∀{vs:ad}{us:List Value},bo vs us->bo vs.reverse us.reverse
 |_,_,.nil=>.nil
 |_,_,.cons h t=>by rw[List.reverse_cons,List.reverse_cons];exact(bo.rev t).append (.cons h .nil)
section
variable {X:Cx}{E:XK}{e a st:Expr}{f:al}{te:TE}{pos p2:Pos}
def K9(K:W.Frag)(te:TE):TE:=λσ H Q=>te σ H λx H1=>∃a xs,x=.ref a/\dF K H1 a xs/\∀p,H1 p=none->Q (.ref p) (upd H1 p (.lst xs.reverse))
def GB(he:PE X e te)(hst:∀(pins:List (Addr×Obj)) (s:Shared) (σ:L2.St) (H:Hp) (Q:VK),Inv X pins σ H s->Q (.int (-1)) H->wpAny (model X.prog X.w) X.A (eval st X.env) (EP X pins σ Q) X.xe s):PE X (.Subscript e (.Slice none none (some st) p2) pos) (K9 X.K te):=by
 intro pins s σ H Q I h;refine Subscript_ (cR (he pins s σ H _ I h) λv s1 ⟨x,H1,I1,r1,a,xs,ex,hx,q⟩=>?_);subst ex;cases r1;refine wpAny_Slice (wpAny_evalPart_none (wpAny_evalPart_none ?_));show wpAny _ _ (eval st X.env) _ _ _;refine cR (hst pins s1 σ H1 (λv H2=>v=.int (-1)/\H2=H1) I1 ⟨rfl,rfl⟩) λvs s3 ⟨u,H3,I3,pu,eu,eh⟩=>?_;subst eu eh;obtain⟨t,rfl⟩:=pu;have I4:Inv X pins σ H3 { s3 with heap:=s3.heap.push { cls:=.type "slice",data:=.fields #[.none,.none,.int (-1) t] } }:=I3.kept (t':=s3.toks) λb ob q=>Heap.get?_push_of_some _ q;obtain⟨its,r,ht,hz⟩:=I4.list hx;have hg:wpAny (model X.prog X.w) X.A (getItem (.ref a) (.ref s3.heap.objs.size)) (EP X pins σ Q) X.xe { s3 with heap:=s3.heap.push { cls:=.type "slice",data:=.fields #[.none,.none,.int (-1) t] } }:=by
  refine wpAny_getItem_list_slice ht.isList (Heap.IsSliceOf.new ..) .none .none (.int (-1) t) (by simp) ?_ (by rw[List.size_toArray,←r.length];exact hz);rw[AU];refine⟨.ref _,_,I4.laid (t':=s3.toks) (o:=.lst xs.reverse) (λb ob q=>Heap.get?_push_of_some _ q) (Nat.le_refl _) ?_,rfl,q _ (I4.hok.fresh (Nat.le_refl _))⟩;exact⟨by rw[List.length_reverse];exact hz,_,0,bo.rev r,Heap.get?_push_size _ rfl⟩
 exact tail_any (ops:=[.ref a,.ref s3.heap.objs.size]) ht.isList.typeIs slot_list_getitem.lookup hg (by with_unfolding_all rfl)
def wM{p3 p4:Pos}{k:Nat}(ha:DE X E a f):DE X E (.Subscript a (.Slice none none (some (.UnaryOp .USub (.Constant (.int 1) k p3) p4)) p2) pos) (aS f nk):=by
 refine⟨aZ (GB ha.o λpins s σ H Q I q=>AZ (pos:=p4) vH (oy (i:=1) (j:=k) (pos:=p3)) pins s σ H Q I ⟨1,rfl,q⟩) λσ H Q z9=>?_⟩;obtain⟨Ha,ρ,hs,hr,q⟩:=z9;refine⟨Ha,ρ,hs,hr,?_⟩;unfold aS at q;cases e1:f ρ with
 |stuck|exn x=>rw[e1]at q;exact q
 |ok d=>
  rw[e1]at q;intro v H1 H01 g1 r1;cases d with
  |lst ds=>
   obtain⟨p,vs,rfl,h1,h2⟩:=aB.mp r1;exact⟨p,vs,rfl,aF.sqL g1.sub h1,λn hn=>q _ _ _ (g1.trans (aO g1.sub hn)) (aB.mpr ⟨n,_,rfl,dF.of aG,(Reps.rev h2).mono (aO g1.sub hn).z⟩)⟩
  |_=>exact q.elim
end
section
variable {X:Cx}{E:XK}{a b o:Expr}{f g fo:al}{pos:Pos}
def uZ:D->D->ax D:=sE (λ_ _=>true) λi j=>.int (Builtin.bitAnd i j)
def EN(ha:DE X E a f)(hb:DE X E b g):DE X E (.BinOp a .BitAnd b pos) (aa f g uZ):=mQ GN (dQ λ_ _ _ _=>ri _) ha hb
end
def Me{α:Type}{us:List α}(h:us.length=1):∃a,us=[a]:=List.length_eq_one_iff.mp h
def Md{α:Type}{us:List α}(h:us.length=2):∃a b,us=[a,b]:=by
 cases us with|nil=>cases h|cons a us=>obtain⟨b,rfl⟩:=Me (Nat.succ.inj h);exact⟨a,b,rfl⟩
def Mx{α:Type}{us:List α}(h:us.length=3):∃a b c,us=[a,b,c]:=by
 cases us with|nil=>cases h|cons a us=>obtain⟨b,c,rfl⟩:=Md (Nat.succ.inj h);exact⟨a,b,c,rfl⟩
section
variable {X:Cx}{E:XK}{He H0e:Hp}{e:Expr}{f:al}{is:bi}{es:List Expr}{pos:Pos}
def tW(is:bi)(ρ:Ev)(d:D):ax Fl:=if ni d=true then(match gH is.length d with
 |some ds=>.ok (.nx (cS ρ is ds))
 |none=>.stuck) else .stuck
def xp(is:bi)(f:al):am:=λρ=>(f (ij ρ)).bind (tW is ρ)
def EC{k:Nat}{tp:Pos}(hc:X.calm=true)(he:DE X E e f)(h:zK X es (Iw is))(hs:swapsWithSole [.Tuple es k tp] e pos.line X.env=pure false:=by rfl)(hw:swappedStores [.Tuple es k tp] e X.env=pure none:=by rfl)
  (h1:(assignEach [.Tuple es k tp] X.env).map (·.2)=[assign (.Tuple es k tp) X.env]:=by rfl)(hn:(assignEach es X.env).length=is.length:=by rfl)(hst:(assignEach es X.env).findIdx? (·.1)=none:=by rfl) :
  DS X E He H0e (.Assign [.Tuple es k tp] e pos) (xp is f):=by
 refine⟨?_⟩;refine cb (Gv he.o (AY hc h hn hst) hs hw h1) λD σ H z9=>?_;obtain⟨Ha,ρ,h,q⟩:=z9;refine⟨frz He Ha H,ij ρ,h.frz_le,h.looks,?_⟩
 refine look (k:=tW is ρ) h q λd v H' J _ g rp q'=>?_;unfold tW at q'
 by_cases fl:ni d=true
 .rw[if_pos fl]at q'
  have hJ:aF Ha J:=h.frz_sub.trans g.z;have rp':=rp.flat_to (yn hJ) fl;cases e1:gH is.length d with
  |none=>rw[e1]at q';exact q'.elim
  |some ds=>
   rw[e1]at q';obtain⟨a,vs,rfl,k1,k2,k3⟩:=mI e1 rp';exact⟨a,vs,rfl,ub (h.behind g).g.sub k1,k2,q' _ H' (jS Ha J) (λb o e=>by unfold jS;rw[e]) ((h.behind g).putAll k3)⟩
 .rw[if_neg fl]at q';exact q'.elim
end
structure FT (K:W.Frag) (mg:Str->Option Value) (x:Str) (st:Stmt) (ps:List Str) (a:Addr) (d:FuncData):Prop where
 F:Fd K x x st a d
 b:lW K d ps []
 g:mg x=some (.ref a)
noncomputable def QA(K:W.Frag) (x:Str) (st:Stmt) (a:Addr):Prop:=W.nsIn K mainGlobals x=some (some (.ref a))/\W.keepIn K (.ref a)=true/\∃oc kV dc pm cd ct od an sl,K.lookup a=some ⟨oc,od,.func (W.fnOf x x (defArgs st) (defBody st) (defScope st) .none kV dc pm an cd ct),sl⟩/\W.codeIn K cd x=true
def J4{K:W.Frag}{h:Heap}{mg:Str->Option Value}{x:Str}{st:Stmt}{ps:List Str}{a:Addr}(X:K.In h)(G:h.Ns mainGlobals mg)(q:QA K x st a)
  (hb:∀(kV doc pm:Value) (an:Option Addr) (cdv ct:Value) (us:List Value),us.length=ps.length->bindArgs (W.fnOf x x (defArgs st) (defBody st) (defScope st) .none kV doc pm an cdv ct) ⟨us,[]⟩=pure (ps.zip us)) :
  ∃d,FT K mg x st ps a d/\∃kV doc pm an cdv ct,d=W.fnOf x x (defArgs st) (defBody st) (defScope st) .none kV doc pm an cdv ct:=by
 obtain⟨e1,e4,oc,kV,dc,pm,cd,ct,od,an,sl,e2,e3⟩:=q;exact⟨_,⟨BH e2 e3 e4,(BH (st:=st) e2 e3 e4).binds hb,W.mg_of X G e1⟩,_,_,_,_,_,_,rfl⟩
section
variable {X:Cx}{E:XK}{e:Expr}{es:List Expr}{fa:Ev->ax (ac)}{f g h i j:al}{pos:Pos}{CX:pY}{k n:Nat}{fn:Addr}{fd:FuncData}{ps:List Str}{m:ac->ax D}{x:Str}{p:Pos}{st:Stmt}
def KR(ρ:Ev)(ds:ac)(h:af f aA ρ=.ok ds):ds.length=1:=mw (λ_ h=>Cj h) h
def KQ(ρ:Ev)(ds:ac)(q:af f (af g aA) ρ=.ok ds):ds.length=2:=mw (KR ρ) q
def LL(ρ:Ev)(ds:ac)(q:af f (af g (af h aA)) ρ=.ok ds):ds.length=3:=mw (KQ ρ) q
end
section
variable {X:Cx}{E:XK}{He H0e:Hp}{a:Addr}{e:Expr}{es:List Expr}{pos:Pos}{f g:al}{fm gm hm im jm:Ev->ac->ax (D×ac)}{fa:Ev->ac->ax (ac×ac)}{s:Ev->ac->ax MFl}{st:Stmt}
def Aw(f:al):am:=λρ=>(f ρ).bind λd=>.ok (.rt d)
def zq(h:DF X E e f):Co X E He H0e [.Return (some e) pos] (Aw f):=by
 refine⟨dY (dZ (vV h.o) kY) λD' σ H z9=>?_⟩;obtain⟨Ha,ρ,h,q⟩:=z9;refine⟨Ha,ρ,h.g.sub,h.rd,?_⟩;unfold Aw at q;cases e1:f ρ with
 |stuck=>rw[e1]at q;exact q|exn x=>rw[e1]at q;exact λC ox H' Ha' g r=>q C ox H' Ha' (h.g.trans g) r
 |ok d=>
  rw[e1]at q;cases d with|lst ds=>exact λp vs H' Ha' g hp h0 hv rp=>q p vs H' Ha' (h.g.trans g) (h.g.s.free hp) h0 hv rp| _=>exact q.elim
end
def tE:List Str->ac->Str->Option D
 |k::ks,d::ds,x=>if k=x then some d else tE ks ds x
 |_,_,_=>none
def cE(x y:D):ax D:=match x,y with
 |.dic ks ds,.str k=>match tE ks ds k with
  |some d=>.ok d
  |none=>.stuck
 |_,_=>.stuck
def sZ(x y:D):ax D:=match x,y with
 |.str k,.dic ks ds=>.ok (.bl (tE ks ds k).isSome)
 |_,_=>.stuck
def jZ(x y:D):ax D:=match x,y with
 |.str k,.dic ks ds=>.ok (.bl (!(tE ks ds k).isSome))
 |_,_=>.stuck
theorem tq{K:W.Frag}{H:Hp}{k:Str}:∀{ks:List Str}{ds:ac}{vs:ad},ks.length=vs.length->Reps K H ds vs ->
  (∀d,tE ks ds k=some d->∃v,m7 ((ks.map Sum.inr).zip vs) (Sum.inr k:cq)=some v/\Rep K H d v)/\(tE ks ds k=none->m7 ((ks.map Sum.inr).zip vs) (Sum.inr k:cq)=none)
 |[],ds,vs,hl,r=>by
  exact⟨λd e=>(nomatch e),λ_=>rfl⟩
 |x::ks,ds,vs,hl,r=>by
  cases vs with
  |nil=>cases hl
  |cons v vs=>
   cases ds with
   |nil=>have:=Reps.nil_iff.mp r;cases this
   |cons d ds=>
    obtain⟨v',vr,e0,h1,h2⟩:=aD.mp r;cases e0;obtain⟨i1,i2⟩:=tq (k:=k) (ks:=ks) (ds:=ds) (vs:=vs) (by simpa using hl) h2;rw[List.map_cons,List.zip_cons_cons]
    by_cases hx:x=k
    .subst hx
     refine⟨λd' e=>?_,λe=>?_⟩
     .rw[tE,if_pos rfl]at e;cases e
      exact⟨v,kN rfl,h1⟩
     .rw[tE,if_pos rfl]at e;cases e
    .have hne:¬(Sum.inr x:cq)=Sum.inr k:=λz=>hx (Sum.inr.inj z)
     refine⟨λd' e=>?_,λe=>?_⟩
     .rw[tE,if_neg hx]at e
      rw[jg hne];exact i1 d' e
     .rw[tE,if_neg hx]at e
      rw[jg hne];exact i2 e
section
variable {X:Cx}{E:XK}{a b:Expr}{f g:al}{pos:Pos}
abbrev Jv:R2:=λx y H Q=>∃p v,x=.ref p/\tL H p y (some v)/\Q v H
abbrev Ju:R2:=λy x H Q=>∃p o,x=.ref p/\tL H p y o/\Q (.bl o.isSome) H
abbrev xv:R2:=λy x H Q=>∃p o,x=.ref p/\tL H p y o/\Q (.bl (!o.isSome)) H
def Dz:tP X.K E Jv cE:=by
 intro x y v u H Ha Q hs r1 r2 q;unfold cE at q;cases x with
 |dic ks ds=>
  cases y with
  |str k=>
   rw[Rep]at r1;obtain⟨p,kvs,vs,rfl,h1,rfl,hl,h4⟩:=r1;rw[Rep.str_iff.mp r2];cases e:tE ks ds k with
   |none=>simp only[e]at q;exact q.elim
   |some d=>
    simp only[e]at q;obtain⟨v,hv,rv⟩:=(tq hl h4).1 d e;exact⟨p,v,rfl,.inl ⟨_,.inr k,aF.rd hs h1,rfl,hv.symm⟩,bG hs q rv⟩
  |_=>exact q.elim
 |_=>exact q.elim
def xS{k:Str}{ks:List Str}{ds:ac}{v u:V}{H Ha:Hp}{K:W.Frag}(hs:aF Ha H)(r1:Rep K Ha (.str k) v)(r2:Rep K Ha (.dic ks ds) u):∃p o,u=.ref p/\tL H p v o/\o.isSome=(tE ks ds k).isSome:=by
 rw[Rep]at r2;obtain⟨p,kvs,vs,rfl,h1,rfl,hl,h4⟩:=r2;rw[Rep.str_iff.mp r1];refine⟨p,_,rfl,.inl ⟨_,.inr k,aF.rd hs h1,rfl,rfl⟩,?_⟩;cases e:tE ks ds k with|none=>rw[(tq hl h4).2 e];rfl|some d=>obtain⟨v,hv,_⟩:=(tq hl h4).1 d e;rw[hv];rfl
def Bj:tP X.K E Ju sZ:=by
 intro x y v u H Ha Q hs r1 r2 q;unfold sZ at q;cases x with
 |str k=>
  cases y with
  |dic ks ds=>
   obtain⟨p,o,e1,e2,e3⟩:=xS hs r1 r2;exact⟨p,o,e1,e2,by rw[e3];exact bG hs q (rb _)⟩
  |_=>exact q.elim
 |_=>exact q.elim
def yV:tP X.K E xv jZ:=by
 intro x y v u H Ha Q hs r1 r2 q;unfold jZ at q;cases x with
 |str k=>
  cases y with
  |dic ks ds=>
   obtain⟨p,o,e1,e2,e3⟩:=xS hs r1 r2;exact⟨p,o,e1,e2,by rw[e3];exact bG hs q (rb _)⟩
  |_=>exact q.elim
 |_=>exact q.elim
def Bh(hu:X.A.units+1<cLine):fP X (compareOp .In) Ju:=by
 intro pins s σ H x y v u Q I rx ry h;obtain⟨p,o,rfl,g,q⟩:=h;cases ry;exact LK hu I g rx λs' I'=>⟨.bl o.isSome,H,I',rfl,q⟩
def yS(hu:X.A.units+1<cLine):fP X (compareOp .NotIn) xv:=by
 intro pins s σ H x y v u Q I rx ry h;obtain⟨p,o,rfl,g,q⟩:=h;cases ry;exact EO hu I g rx λs' I'=>⟨.bl (!o.isSome),H,I',rfl,q⟩
def iQ(hu:X.A.units+1<cLine)(ha:DE X E a f)(hb:DE X E b g)(hs:Ir b:=by intro _ _;rfl):DE X E (.Subscript a b pos) (aa f g cE) :=
 ⟨aZ (Dq hu ha.o hb.o hs) (ig Dz)⟩
end
section
variable {K:W.Frag}{E:XK}{He H0e Ha H H1:Hp}{σ:L2.St}{ρ:Ev}
def cW.putOwnG(h:cW K He H0e Ha σ H ρ){i:Nat}{dn:D}{p:Addr}(hp:∀(j:Nat) (a:Addr),σ[j]?=some (some (V.ref a))->a=p->∀d:D,ρ[j]?≠some (Sl.ow d))(he:He p=none)(h0:Ha p=none)(ho:vx K Ha H p dn)(hx:∀(i j:Nat) (ds:ac) (a:Addr) (P:Nat->Addr),ρ[i]?=some (.ox j ds)->σ[i]?=some (some (.ref a))->E7 K He Ha H a j ds P->∀l,qf j l=true->p≠P l) :
  cW K He H0e Ha (σ.set i (some (.ref p))) H (ρ.set i (.ow dn)):=by
 have key:∀(j:Nat) (s:Sl),(ρ.set i (.ow dn))[j]?=some s->(j=i/\s=.ow dn/\i<σ.length)∨(j≠i/\ρ[j]?=some s):=λj s e=>by
  by_cases hj:i=j
  .subst hj
   rw[List.getElem?_set_self']at e;cases q:ρ[i]? with
   |none=>rw[q]at e;cases e
   |some s'=>
    rw[q]at e;cases e;refine .inl ⟨rfl,rfl,?_⟩;rw[←h.ln];exact(List.getElem?_eq_some_iff.mp q).1
  .rw[List.getElem?_set_ne hj]at e
   exact .inr ⟨λz=>hj z.symm,e⟩
 have other:∀(k:Nat) (d2:D),k≠i->ρ[k]?=some (.ow d2)->some (some (V.ref p))≠σ[k]?:=λk d2 hk e2 z=>by
  obtain⟨a,h1,_⟩:=h.ow k d2 e2;rw[h1]at z;cases z;exact hp k p h1 rfl d2 e2
 refine⟨h.g,λj d' e=>?_,λj d' e=>?_,λj k d1 d2 hn e1 e2=>?_,by simp[h.ln],h.ex.upd (λj s e=>?_) (aF.refl _) (λa vs _ e=>e) λp us _ h0 hp _=>⟨hp,h0⟩⟩
 rotate_left 3
 .rcases key j _ e with⟨rfl,e',hl⟩|⟨hj,e'⟩
  .exact .inr (.inr (.inr ⟨dn,p,e',by rw[List.getElem?_set_self hl],hx⟩))
  .exact .inl ⟨e',by rw[List.getElem?_set_ne (Ne.symm hj)]⟩
 .rcases key j _ e with⟨rfl,e',hl⟩|⟨hj,e'⟩
  .cases e'
  .obtain⟨v',h1,h2⟩:=h.rd j d' e'
   exact⟨v',by rw[List.getElem?_set_ne (Ne.symm hj)];exact h1,h2⟩
 .rcases key j _ e with⟨rfl,e',hl⟩|⟨hj,e'⟩
  .cases e'
   exact⟨p,by rw[List.getElem?_set_self hl],he,h0,ho⟩
  .obtain⟨a,h1,h2⟩:=h.ow j d' e'
   exact⟨a,by rw[List.getElem?_set_ne (Ne.symm hj)];exact h1,h2⟩
 .rcases key j _ e1 with⟨rfl,_,hl⟩|⟨hj,e1'⟩
  .rcases key k _ e2 with⟨rfl,_,_⟩|⟨hk,e2'⟩
   .exact absurd rfl hn
   .rw[List.getElem?_set_self hl,List.getElem?_set_ne (Ne.symm hk)]
    exact other k d2 hk e2'
  .rcases key k _ e2 with⟨rfl,_,hl⟩|⟨hk,e2'⟩
   .rw[List.getElem?_set_self hl,List.getElem?_set_ne (Ne.symm hj)]
    exact λz=>other j d1 hj e1' z.symm
   .rw[List.getElem?_set_ne (Ne.symm hj),List.getElem?_set_ne (Ne.symm hk)]
    exact h.ap j k d1 d2 hn e1' e2'
def cW.writeG(h:cW K He H0e Ha σ H ρ){i:Nat}{d:D}{p:Addr}{dn:D}{o:HO}(e:ρ[i]?=some (.ow d))(es:σ[i]?=some (some (.ref p)))(ho:vx K Ha (upd H p o) p dn) :
  cW K He H0e Ha σ (upd H p o) (ρ.set i (.ow dn)):=by
 obtain⟨a,h1,h2,h3,h4⟩:=h.ow i d e;rw[h1]at es;cases es;have hil:i<ρ.length:=(List.getElem?_eq_some_iff.mp e).1;have key:∀(j:Nat) (s:Sl),(ρ.set i (.ow dn))[j]?=some s->(j=i/\s=.ow dn)∨(j≠i/\ρ[j]?=some s):=λj s e=>by
  by_cases hj:i=j
  .subst hj
   rw[List.getElem?_set_self hil]at e;cases e;exact .inl ⟨rfl,rfl⟩
  .rw[List.getElem?_set_ne hj]at e
   exact .inr ⟨λz=>hj z.symm,e⟩
 refine⟨⟨λb o' eb=>?_,h.g.z,λb o' eb=>?_,h.g.nw⟩,λj d' e'=>?_,λj d' e'=>?_,λj k d1 d2 hn e1 e2=>?_,by simp[h.ln],h.ex.upd (λj s e'=>?_) (aF.refl _) (λb us _ eb=>?_) λq us _ q0 hq hd=>?_⟩
 rotate_left 5
 .rcases key j _ e' with⟨rfl,e''⟩|⟨hj,e''⟩
  .exact .inr (.inr (.inr ⟨dn,p,e'',h1,λi' j' ds' a' P' x1 x2 x3 l ol=>by
    obtain⟨a2,P2,y1,y2,y3,_⟩:=h.ex.1 i' j' ds' x1;rw[x2]at y1;cases y1;have:P2 l=P' l:=by
     obtain⟨vs1,_,z1,_,y5,_⟩:=x3;obtain⟨vs2,_,z3,_,y4,_⟩:=y2;rw[z1]at z3;cases z3;obtain⟨_,_,_,_,_,z2,_⟩:=y5 l ol;obtain⟨_,_,_,_,_,z4,_⟩:=y4 l ol;rw[z2]at z4;injection z4 with z4;injection z4 with z4;exact z4.symm
    rw[←this];intro zz;rw[zz]at h1;exact y3 j d l ol e h1⟩))
  .exact .inl ⟨e'',rfl⟩
 .rw[aC (by
   intro z;subst z;cases d with
   |lst ds'|dic ks ds'=>obtain⟨vs',h5,_⟩:=h4;rw[h5]at eb;cases eb
   |ob kk ds'=>
    cases kk with|dint ks=>obtain⟨vs',h5,_⟩:=h4;rw[h5]at eb;cases eb| _=>exact h4.elim
   |_=>exact h4)];exact eb
 .have hq':q≠p:=by
   intro z;subst z;exact hd i d e h1
  exact⟨by rw[aC hq'];exact hq,q0⟩
 .rw[aC (by intro z;subst z;rw[h2]at eb;cases eb)];exact h.g.s _ _ eb
 .rw[aC (by intro z;subst z;rw[h3]at eb;cases eb)];exact h.g.sub _ _ eb
 .rcases key j _ e' with⟨rfl,e''⟩|⟨hj,e''⟩
  .cases e''
  .exact h.rd j d' e''
 .rcases key j _ e' with⟨rfl,e''⟩|⟨hj,e''⟩
  .cases e''
   exact⟨p,h1,h2,h3,ho⟩
  .obtain⟨b,k1,k2,k3,k4⟩:=h.ow j d' e''
   refine⟨b,k1,k2,k3,?_⟩;have hb:b≠p:=by
    intro z;subst z;exact h.ap j i d' d hj e'' e (by rw[k1,h1])
   cases d' with
   |lst ds'=>
    obtain⟨vs',h5,h6⟩:=k4;exact⟨vs',by rw[aC hb];exact h5,h6⟩
   |dic ks ds'=>
    obtain⟨vs',h5,hl,h6⟩:=k4;exact⟨vs',by rw[aC hb];exact h5,hl,h6⟩
   |ob kk ds'=>
    cases kk with
    |dint ks=>
     obtain⟨vs',h5,hl,h6⟩:=k4;exact⟨vs',by rw[aC hb];exact h5,hl,h6⟩
    |_=>exact k4.elim
   |_=>exact k4.elim
 .rcases key j _ e1 with⟨rfl,e1'⟩|⟨hj,e1'⟩
  .rcases key k _ e2 with⟨rfl,_⟩|⟨hk,e2'⟩
   .exact absurd rfl hn
   .exact h.ap j k d d2 hn e e2'
  .rcases key k _ e2 with⟨rfl,_⟩|⟨hk,e2'⟩
   .exact h.ap j k d1 d hn e1' e
   .exact h.ap j k d1 d2 hn e1' e2'
end
def vR:List Str->ac->Str->D->ac
 |k::ks,e::ds,x,d=>(if k=x then d else e)::vR ks ds x d
 |_,ds,_,_=>ds
def kX(ks:List Str)(ds:ac)(k:Str)(d:D):D:=if k∈ks then .dic ks (vR ks ds k d) else .dic (ks++[k]) (ds++[d])
theorem yk{k:Str}:∀{ks:List Str}{vs:ad},ks.length=vs.length->(((ks.map Sum.inr).zip vs).any λkv=>decide (kv.1=(Sum.inr k:cq)))=decide (k∈ks)
 |[],_,_=>rfl
 |x::ks,[],h=>nomatch h
 |x::ks,v::vs,h=>by
  rw[List.map_cons,List.zip_cons_cons,List.any_cons,yk (by simpa using h)]
  by_cases hx:x=k
  .subst hx;simp
  .have:¬k=x:=λz=>hx z.symm
   simp[hx,this]
theorem xu{K:W.Frag}{H:Hp}{k:Str}{d:D}{v:V}(r:Rep K H d v):∀{ks:List Str}{ds:ac}{vs:ad},ks.length=vs.length->Reps K H ds vs ->
  ∃vs',(((ks.map Sum.inr).zip vs).map λkv=>if kv.1=(Sum.inr k:cq) then(kv.1,v) else kv)=(ks.map Sum.inr).zip vs'/\ks.length=vs'.length/\Reps K H (vR ks ds k d) vs'
 |[],ds,vs,hl,h=>⟨vs,rfl,hl,by cases ds<;>exact h⟩
 |x::ks,ds,[],hl,h=>nomatch hl
 |x::ks,[],v'::vs,hl,h=>by have:=Reps.nil_iff.mp h;cases this
 |x::ks,e::ds,v'::vs,hl,h=>by
  obtain⟨v2,vr,e0,h1,h2⟩:=aD.mp h;cases e0;obtain⟨vs',i1,i2,i3⟩:=xu r (ks:=ks) (ds:=ds) (vs:=vs) (by simpa using hl) h2;rw[List.map_cons,List.zip_cons_cons,List.map_cons,i1]
  by_cases hx:x=k
  .subst hx
   refine⟨v::vs',by rw[if_pos rfl];rfl,by simp[i2],?_⟩;rw[vR,if_pos rfl];exact Reps.cons r i3
  .have hne:¬(Sum.inr x:cq)=Sum.inr k:=λz=>hx (Sum.inr.inj z)
   refine⟨v'::vs',by rw[if_neg hne];rfl,by simp[i2],?_⟩;rw[vR,if_neg hx];exact Reps.cons h1 i3
theorem Reps.snoc{K:W.Frag}{H:Hp}{d:D}{v:V}(r:Rep K H d v):∀{ds:ac}{vs:ad},Reps K H ds vs->Reps K H (ds++[d]) (vs++[v])
 |[],vs,h=>by rw[Reps.nil_iff.mp h];exact Reps.cons r Reps.nil
 |e::ds,vs,h=>by
  obtain⟨v2,vr,rfl,h1,h2⟩:=aD.mp h;exact Reps.cons h1 (Reps.snoc r h2)
def C4{K:W.Frag}{Ha H:Hp}{k:Str}{d:D}{v:V}{ks:List Str}{ds:ac}{vs:ad}{p:Addr}(hl:ks.length=vs.length)(h:Reps K Ha ds vs)(r:Rep K Ha d v):vx K Ha (upd H p (.dK (jr ((ks.map Sum.inr).zip vs) (Sum.inr k) v))) p (kX ks ds k d):=by
 unfold kX;rw[show ∀(kvs:List (cq×V)) (u:V),jr kvs (Sum.inr k:cq) u=if(kvs.any λkv=>decide (kv.1=(Sum.inr k:cq)))=true then kvs.map (λkv=>if kv.1=(Sum.inr k:cq) then(kv.1,u) else kv) else kvs++[((Sum.inr k:cq),u)] from λ_ _=>rfl];rw[yk hl]
 by_cases hk:k∈ks
 .rw[if_pos hk,if_pos (decide_eq_true hk)]
  obtain⟨vs',i1,i2,i3⟩:=xu (k:=k) r hl h;exact⟨vs',by rw[aG,i1],i2,i3⟩
 .rw[if_neg hk,if_neg (by rw[decide_eq_false hk];decide)]
  refine⟨vs++[v],by rw[aG,List.map_append,List.zip_append (by rw[List.length_map];exact hl)];rfl,by simp[hl],Reps.snoc r h⟩
noncomputable def Mr(K:W.Frag) (E:XK) (f:al):TE:=λσ H Q=>∃Ha ρ,aF Ha H/\ez K Ha σ ρ/\match f ρ with
 |.ok (.dic ks ds)=>∀p vs H' Ha',aW H Ha H' Ha'->H p=none->Ha' p=none->H' p=some (.dK ((ks.map Sum.inr).zip vs))->ks.length=vs.length->Reps K Ha' ds vs->Q (.ref p) H'
 |.ok _=>False
 |.exn x=>∀C ox H' Ha',aW H Ha H' Ha'->rE K Ha' x C ox->E C ox H'
 |.stuck=>False
structure KH (X:Cx) (E:XK) (e:Expr) (f:al):Prop where
 o:PE X e (Mr X.K E f)
def xC(i:Nat)(ρ:Ev)(d:D):ax Fl:=match d with
 |.dic ks ds=>.ok (.nx (ρ.set i (.ow (.dic ks ds))))
 |_=>.stuck
def gF(i:Nat)(f:al):am:=λρ=>(f ρ).bind (xC i ρ)
section
variable {X:Cx}{E:XK}{He H0e:Hp}{e b:Expr}{pos:Pos}{f k:al}
def nM{i:Nat}{x:Str}{pos':Pos}(hN:X.N.Nodup)(hi:X.N[i]?=some x)(hx:zM X.env.scope x)(he:KH X E e f)(hs:swapsWith e (some (.Name x pos')) pos.line X.env=pure false:=by rfl)
  (hf:X.fn x=true∨X.env.scope.names.lookup x=some .local := by first|exact .inl rfl|exact .inr rfl|assumption):DS X E He H0e (.Assign [.Name x pos'] e pos) (gF i f):=by
 refine⟨?_⟩;refine cb (l7 hN hi hx he.o hs hf) λD σ H z9=>?_;obtain⟨Ha,ρ,h,q⟩:=z9;refine⟨Ha,ρ,h.g.sub,h.rd,?_⟩
 unfold gF at q;cases e1:f ρ with
 |stuck=>rw[e1]at q;exact q|exn x=>rw[e1]at q;exact λC ox H' Ha' g ex=>q C ox H' Ha' (h.g.trans g) ex
 |ok d=>
  rw[e1]at q;cases d with
  |dic ks ds=>
   intro p vs H' Ha' g hp h0 hv hl rp;refine q _ H' Ha' g.z ((h.grow g).putOwnG (dn:=.dic ks ds) (λj a ej ea d ed=>?_) (h.g.s.free hp) h0 ⟨vs,hv,hl,rp⟩ (h.fresh_x g.s hp));subst ea;obtain⟨a',k1,_,_,k4⟩:=h.ow j d ed;rw[ej]at k1;cases k1;cases d with
   |lst ds'|dic ks ds'=>obtain⟨vs',h5,_⟩:=k4;rw[hp]at h5;cases h5
   |ob kk ds'=>
    cases kk with|dint ks=>obtain⟨vs',h5,_⟩:=k4;rw[hp]at h5;cases h5| _=>exact k4.elim
   |_=>exact k4.elim
  |_=>exact q.elim
def yf:KH X E (.Dict [] [] pos) (dC (.dic [] [])):=by
 refine⟨aZ A8 λσ H Q ⟨Ha,ρ,hs,hr,q⟩=>λp hp=>?_⟩;have q:∀p vs H' Ha',aW H Ha H' Ha'->H p=none->Ha' p=none->H' p=some (.dK ((([]:List Str).map Sum.inr).zip vs))->([]:List Str).length=vs.length->Reps X.K Ha' [] vs->Q (.ref p) H':=q;have h0:Ha p=none:=hs.free hp;refine q p [] _ Ha ⟨λb o q=>by rw[aC (bu q hp)];exact q,aF.refl _,λb o q=>?_,λa h1 h2=>absurd h2 h1⟩ hp h0 aG rfl Reps.nil;rw[aC (by intro z;subst z;rw[h0]at q;cases q)];exact hs _ _ q
end
def B5(k d:D):ax D:=match k with
 |.str x=>.ok (.dic [x] [d])
 |_=>.stuck
def ra(kf vf:al):al:=aa kf vf B5
def v9(ρ:Ev)(i:Nat)(k:List Str->ac->ax Fl):ax Fl:=match ρ[i]? with
 |some (.ow (.dic ks ds))=>k ks ds
 |_=>.stuck
def kW(i:Nat)(ρ:Ev)(ks:List Str)(ds:ac)(d j:D):ax Fl:=match j with
 |.str x=>if ks.length<line then .ok (.nx (ρ.set i (.ow (kX ks ds x d)))) else .stuck
 |_=>.stuck
def ip(i:Nat)(f k:al):am:=λρ=>v9 ρ i λks ds=>(f ρ).bind λd=>(k ρ).bind (kW i ρ ks ds d)
section
variable {X:Cx}{E:XK}{He H0e:Hp}{e b:Expr}{pos:Pos}{f k:al}
def zv(hk:DE X E b k)(hv:DE X E e f):KH X E (.Dict [some b] [e] pos) (ra k f):=by
 refine⟨?_⟩;refine aZ (Dp (AR hk.o hv.o Dc) rfl rfl (by simp) (by simp)) λσ H Q ⟨Ha,ρ,hs,hr,q⟩ p hpn=>?_;have h0:Ha p=none:=hs.free hpn;have hs2:aF Ha (upd H p (.dK [])):=λb o e=>by rw[aC (by intro z;subst z;rw[h0]at e;cases e)];exact hs _ _ e
 have back:∀{H' Ha':Hp},aW (upd H p (.dK [])) Ha H' Ha'->aW H Ha H' Ha':=λg=>⟨λb o e=>g.s _ _ (by rw[aC (bu e hpn)];exact e),g.z,g.sub,λa k1 k2=>by
   have:=g.nw a k1 k2
   by_cases ha:a=p
   .subst ha;exact hpn
   .rw[aC ha]at this;exact this⟩
 refine⟨Ha,ρ,hs2,hr,?_⟩;unfold ra aa at q;cases e1:k ρ with
 |stuck=>rw[e1]at q;exact q|exn z=>rw[e1]at q;exact λC ox H' Ha' g ex=>q C ox H' Ha' (back g) ex
 |ok kd=>
  rw[e1]at q;intro xk H1 H01 g1 r1;refine⟨H01,ρ,g1.sub,hr.mono g1.z,?_⟩;cases e2:f ρ with
  |stuck=>rw[e2]at q;exact q|exn z=>rw[e2]at q;exact λC ox H' Ha' g ex=>q C ox H' Ha' (back (g1.trans g)) ex
  |ok d=>
   rw[e2]at q;intro v H2 H02 g2 r2;cases kd with
   |str x=>
    have G:=g1.trans g2;have hp2:H2 p=some (.dK []):=G.s _ _ aG;have n02:H02 p=none:=by
     cases qq:H02 p with|none=>rfl|some o=>have:=G.nw p (by rw[qq];simp) h0;rw[aG]at this;cases this
    rw[Rep.str_iff.mp r1];refine⟨hp2,[(Sum.inr x,v)],rfl,by simp,?_⟩;have q:∀p vs H' Ha',aW H Ha H' Ha'->H p=none->Ha' p=none->H' p=some (.dK (([x].map Sum.inr).zip vs))->[x].length=vs.length->Reps X.K Ha' [d] vs->Q (.ref p) H':=q;refine q p [v] _ H02 ⟨λb o e=>?_,G.z,λb o e=>?_,(back G).nw⟩ hpn n02 aG rfl (Reps.cons r2 Reps.nil)
    .rw[aC (bu e hpn)];exact(back G).s _ _ e
    .rw[aC (by intro z;subst z;rw[n02]at e;cases e)];exact G.sub _ _ e
   |_=>exact q.elim
def yP{K:W.Frag}{Ha H:Hp}{σ:L2.St}{ρ:Ev}{i:Nat}{k:List Str->ac->ax Fl}{D':fW}(h:cW K He H0e Ha σ H ρ)(q:bK K E He H0e Ha (v9 ρ i k) D') :
  ∃ks ds p vs,ρ[i]?=some (.ow (.dic ks ds))/\σ[i]?=some (some (.ref p))/\H p=some (.dK ((ks.map Sum.inr).zip vs))/\ks.length=vs.length/\Reps K Ha ds vs/\bK K E He H0e Ha (k ks ds) D':=by
 unfold v9 at q;cases e:ρ[i]? with
 |none=>rw[e]at q;exact q.elim
 |some s=>
  rw[e]at q;cases s with
  |no|sh d|ox j ds|pt a=>exact q.elim
  |ow d=>
   cases d with
   |dic ks ds=>
    obtain⟨p,h1,h2,h3,vs,h4,h5,h6⟩:=h.ow i _ e;exact⟨ks,ds,p,vs,rfl,h1,h4,h5,h6,q⟩
   |_=>exact q.elim
def AM{K:W.Frag}{Ha H:Hp}{σ:L2.St}{ρ:Ev}{i:Nat}{D':fW}{ks:List Str}{ds:ac}{d j:D}{p:Addr}{vs:ad}{v u:V}(h:cW K He H0e Ha σ H ρ)(e1:ρ[i]?=some (.ow (.dic ks ds)))(e2:σ[i]?=some (some (.ref p)))(e5:H p=some (.dK ((ks.map Sum.inr).zip vs)))(el:ks.length=vs.length)(e6:Reps K Ha ds vs)
  (rp:Rep K Ha d v)(rj:Rep K Ha j u)(q:bK K E He H0e Ha (kW i ρ ks ds d j) D'):∃a H4,V.ref p=.ref a/\zO H a u v H4/\D'.nx σ H4:=by
 unfold kW at q;cases j with
 |str x=>
  by_cases hl:ks.length<line
  .simp only[if_pos hl]at q
   rw[Rep.str_iff.mp rj];refine⟨p,_,rfl,zO.k (k:=.inr x) e5 ?_,?_⟩
   .rw[List.length_zip,List.length_map,←el,Nat.min_self]
    have:line<=sizeLine:=eB (Nat.le_refl _);omega
   .exact q σ _ Ha (aF.refl _) (h.writeG e1 e2 (C4 el e6 rp))
  .simp only[if_neg hl]at q;exact q.elim
 |_=>exact q.elim
def nL{i:Nat}{x:Str}{p1 p2:Pos}(hu:X.A.units+1<cLine)(hN:X.N[i]?=some x)(hv:zI X.env.scope x)(he:DE X E e f)(hk:DE X E b k)
  (hd:(x==("__debug__":Str))=false:=by decide)(hcd:(x==("__classdict__":Str))=false:=by decide)
  (hs:swapsWith e (some (.Subscript (.Name x p1) b p2)) pos.line X.env=pure false:=by rfl):DS X E He H0e (.Assign [.Subscript (.Name x p1) b p2] e pos) (ip i f k):=by
 refine⟨?_⟩;refine cb (C8 hu (gb hN hv hd hcd) hk.o he.o hs) λD σ H z9=>?_;obtain⟨Ha,ρ,h,q⟩:=z9;refine⟨Ha,ρ,h.g.sub,h.rd,?_⟩
 obtain⟨ks,ds,p,vs,e1,e2,e5,el,e6,q⟩:=yP h q;refine plain (k:=λd=>(k ρ).bind (kW i ρ ks ds d)) h q λd v H1 H01 _ g1 r1 q1=>⟨.ref p,e2,?_⟩
 have h1':=h.grow g1;refine⟨H01,ρ,h1'.g.sub,h1'.rd,plain (k:=kW i ρ ks ds d) h1' q1 λj u H2 H02 _ g2 r2 q2=>?_⟩;exact AM (h1'.grow g2) e1 e2 (g2.s _ _ (g1.s _ _ e5)) el ((e6.mono g1.z).mono g2.z) (r1.mono g2.z) r2 q2
end
mutual
def nd:D->Bool
 |.lst ds=>nds ds
 |.tup ds=>nds ds
 |.dic _ _=>false
 |.exc _=>false
 |.ob _ _=>false
 |_=>true
def nds:ac->Bool
 |[]=>true
 |d::ds=>nd d&&nds ds
end
mutual
theorem Rep.nd_to{K:W.Frag}{H H':Hp}(et:∀a vs,Rd H a (.tup vs)->Rd H' a (.tup vs))(el:∀a vs,Rd H a (.lst vs)->Rd H' a (.lst vs)):∀{d:D}{v:V},nd d=true->Rep K H d v->Rep K H' d v
 |.non,_,_,h=>by unfold Rep at h ⊢;exact h
 |.bl _,_,_,h=>by unfold Rep at h ⊢;exact h
 |.int _,_,_,h=>by unfold Rep at h ⊢;exact h
 |.str _,_,_,h=>by unfold Rep at h ⊢;exact h
 |.tup ds,_,f,h=>by
  unfold nd at f;obtain⟨a,vs,e1,e2,e3⟩:=aH.mp h;refine aH.mpr ⟨a,vs,e1,?_,Reps.nd_to et el f e3⟩;rcases e2 with e2|e2
  .exact .inl (et _ _ e2)
  .exact .inr e2
 |.lst ds,_,f,h=>by
  unfold nd at f;obtain⟨a,vs,e1,e2,e3⟩:=aB.mp h;refine aB.mpr ⟨a,vs,e1,?_,Reps.nd_to et el f e3⟩;rcases e2 with e2|e2
  .exact .inl (el _ _ e2)
  .exact .inr e2
 |.dic ks ds,_,f,h=>by unfold nd at f;cases f
 |.exc x,_,f,h=>by unfold nd at f;cases f
 |.ob k ds,_,f,h=>by unfold nd at f;cases f
theorem Reps.nd_to{K:W.Frag}{H H':Hp}(et:∀a vs,Rd H a (.tup vs)->Rd H' a (.tup vs))(el:∀a vs,Rd H a (.lst vs)->Rd H' a (.lst vs)):∀{ds:ac}{vs:ad},nds ds=true->Reps K H ds vs->Reps K H' ds vs
 |[],_,_,h=>by unfold Reps at h ⊢;exact h
 |d::ds,_,f,h=>by
  unfold nds at f;rw[Bool.and_eq_true]at f;obtain⟨v,r,e1,e2,e3⟩:=aD.mp h;exact aD.mpr ⟨v,r,e1,Rep.nd_to et el f.1 e2,Reps.nd_to et el f.2 e3⟩
end
def mv(Ha J:Hp):Hp:=λa=>match Ha a with
 |some o=>some o
 |none=>match J a with
  |some (.dK _)=>none
  |o=>o
def uq(ρ:Ev):Bool:=ρ.all λs=>match s with
 |.ow (.lst _)=>false
 |.ox _ _=>false
 |.pt _=>false
 |_=>true
section
variable {K:W.Frag}{E:XK}{He H0e Ha H H1 J:Hp}{σ:L2.St}{ρ:Ev}
def E3(h:aF Ha J):∀a o,mv Ha J a=some o->J a=some o:=λa o e=>by
 unfold mv at e;cases q:Ha a with
 |some u=>rw[q]at e;cases e;exact h _ _ q
 |none=>
  rw[q]at e;cases q2:J a with
  |none=>rw[q2]at e;cases e
  |some u=>rw[q2]at e;cases u<;>first|(cases e;rfl)|cases e
def yp(h:aF Ha J){a:Addr}{o:HO}(e:J a=some o)(hn:∀kvs,o≠.dK kvs):mv Ha J a=some o:=by
 unfold mv;cases q:Ha a with
 |some u=>have:=h _ _ q;rw[e]at this;cases this;rfl
 |none=>rw[e];cases o<;>first|rfl|exact absurd rfl (hn _)
def yo(h:aF Ha J){u:HO}(hu:∀kvs,u≠.dK kvs)(a:Addr)(e:Rd J a u):Rd (mv Ha J) a u:=by
 rcases e with e|⟨o,e⟩
 .exact .inl (yp h e hu)
 .exact .inr ⟨o,yp h e λ_ z=>nomatch z⟩
def cW.behindS(h:cW K He H0e Ha σ H ρ)(ho:uq ρ=true)(g:aW H (frz He Ha H) H1 J):cW K He H0e (mv Ha J) σ H1 ρ:=by
 have hJ:aF Ha J:=h.frz_sub.trans g.z;have le:=E3 (Ha:=Ha) (J:=J) hJ;have z:aF Ha (mv Ha J):=λb o e=>by unfold mv;rw[e]
 have ok:∀(i:Nat) (s:Sl),ρ[i]?=some s->(match s with|.ow (.lst _)=>false|.ox _ _|.pt _=>false|_=>true)=true:=λi s e=>List.all_eq_true.mp ho s (List.mem_of_getElem? e);refine⟨⟨h.g.s.trans g.s,h.g.z.trans z,λb o e=>g.sub _ _ (le b o e),λa h1 h2=>?_⟩,h.rd.mono z,λi d e=>?_,h.ap,h.ln,OX.none (λi j ds e=>by have:=ok i _ e;cases this) (λi a e=>by have:=ok i _ e;cases this)⟩
 .cases q:mv Ha J a with
  |none=>exact absurd q h1
  |some o=>
   have hj:=le a o q;exact(h.frz_grow.trans g).nw a (by rw[hj];simp) h2
 .obtain⟨a,k1,k2,k3,k4⟩:=h.ow i d e
  cases d with
  |lst ds=>have:=ok i _ e;cases this
  |dic ks ds=>
   obtain⟨vs,h5,hl,h6⟩:=k4;refine⟨a,k1,k2,?_,vs,g.s _ _ h5,hl,h6.mono z⟩;have:frz He Ha H a=some (.dK ((ks.map Sum.inr).zip vs)):=by unfold frz;rw[k2];exact h5
   have:=g.z _ _ this;unfold mv;rw[k3,this]
  |ob kk ds=>
   cases kk with
   |dint ks=>
    obtain⟨vs,h5,hl,h6⟩:=k4;refine⟨a,k1,k2,?_,vs,g.s _ _ h5,hl,h6.mono z⟩;have:frz He Ha H a=some (.dK ((ks.map Sum.inl).zip vs)):=by unfold frz;rw[k2];exact h5
    have:=g.z _ _ this;unfold mv;rw[k3,this]
   |_=>exact k4.elim
  |_=>exact k4.elim
end
def xo(i:Nat)(ρ:Ev)(d:D):ax Fl:=if nd d=true/\uq ρ=true then .ok (.nx (ρ.set i (.sh d))) else .stuck
def ud(i:Nat)(f:al):am:=λρ=>(f (ij ρ)).bind (xo i ρ)
section
variable {X:Cx}{E:XK}{He H0e:Hp}{e b o:Expr}{pos apos cpos:Pos}{f k g:al}
def ED{i:Nat}{x:Str}{pos':Pos}(hN:X.N.Nodup)(hi:X.N[i]?=some x)(hx:zM X.env.scope x)(he:DE X E e f)(hs:swapsWith e (some (.Name x pos')) pos.line X.env=pure false:=by rfl)
  (hf:X.fn x=true∨X.env.scope.names.lookup x=some .local := by first|exact .inl rfl|exact .inr rfl|assumption):DS X E He H0e (.Assign [.Name x pos'] e pos) (ud i f):=by
 refine⟨?_⟩;refine cb (l7 hN hi hx he.o hs hf) λD σ H z9=>?_;obtain⟨Ha,ρ,h,q⟩:=z9;refine⟨frz He Ha H,ij ρ,h.frz_le,h.looks,?_⟩
 refine look h q λd v H' J _ g rp q'=>?_;unfold xo at q'
 by_cases fl:nd d=true/\uq ρ=true
 .rw[if_pos fl]at q'
  have hJ:aF Ha J:=h.frz_sub.trans g.z;refine q' _ H' (mv Ha J) (λb o e=>by unfold mv;rw[e]) ((h.behindS fl.2 g).put (rp.nd_to (λa vs e=>yo hJ (λ_ z=>by cases z) a e) (λa vs e=>yo hJ (λ_ z=>by cases z) a e) fl.1))
 .rw[if_neg fl]at q';exact q'.elim
def xg{n:Nat}(h:n+64<cLine):n+1<cLine:=Nat.lt_of_le_of_lt (by omega) h
end
section
variable {X:Cx}{E:XK}{a b:Expr}{f g:al}{pos:Pos}
def Kt(x y:D):ax D:=match x,y with
 |.tup [],.tup es=>.ok (.tup es)
 |.tup ds,.tup es=>if ds.isEmpty=false/\ds.length+es.length<=line then .ok (.tup (ds++es)) else .stuck
 |_,_=>.stuck
end
structure Rw where
 x:Str
 st:Stmt
 N:List Str
 n:Nat
abbrev Rw.ps(r:Rw):List Str:=r.N.take r.n
instance {N P:List Str}{sc:Scope}:Decidable (gS N P sc) :=
 decidable_of_iff (sc.kind=.function/\sc.isCoroutine=false/\sc.isGenerator=false/\N.Nodup/\N.take P.length=P/\(∀x∈P,sc.names.lookup x=some .local ∨ sc.names.lookup x=some .cell)/\∀y∈sc.names,y.2≠.free)
  ⟨λ⟨a,b,c,d,e,f,g⟩=>⟨a,b,c,d,e,f,g⟩,λ⟨a,b,c,d,e,f,g⟩=>⟨a,b,c,d,e,f,g⟩⟩
def KU(rows:List Rw):Prop:=∀r∈rows,gS r.N r.ps (defScope r.st)
instance {rows:List Rw}:Decidable (KU rows):=inferInstanceAs (Decidable (∀r∈rows,_))
def TG(rows:List Rw)(K:W.Frag)(mg:Str->Option Value)(A:Nat->Addr)(Q:Nat->FuncData):Prop:=∀i r,rows[i]?=some r->FT K mg r.x r.st r.ps (A i) (Q i)
def KJ(r:Rw):Prop:=∀(kV doc pm:Value) (an:Option Addr) (cdv ct:Value) (us:List Value),us.length=r.ps.length->bindArgs (W.fnOf r.x r.x (defArgs r.st) (defBody r.st) (defScope r.st) .none kV doc pm an cdv ct) ⟨us,[]⟩=pure (r.ps.zip us)
def QAs(K:W.Frag):List Rw->List Addr->Prop
 |[],_=>True
 |r::rs,a::as=>QA K r.x r.st a/\QAs K rs as
 |_::_,[]=>False
def QAs.cons{K:W.Frag}{x:Str}{st:Stmt}{N:List Str}{n:Nat}{rs:List Rw}{a:Addr}{as:List Addr}(q:QA K x st a)(t:QAs K rs as):QAs K (⟨x,st,N,n⟩::rs) (a::as):=⟨q,t⟩
theorem Fg{K:W.Frag}{h:Heap}{mg:Str->Option Value}(X:K.In h)(G:h.Ns mainGlobals mg):∀{rows:List Rw}{as:List Addr},(∀r∈rows,KJ r)->QAs K rows as ->
  ∃Q:Nat->FuncData,∀i r,rows[i]?=some r->FT K mg r.x r.st r.ps (as.getD i 0) (Q i)/\∃kV doc pm an cdv ct,Q i=W.fnOf r.x r.x (defArgs r.st) (defBody r.st) (defScope r.st) .none kV doc pm an cdv ct
 |[],as,_,_=>⟨λ_=>default,λi r e=>by simp at e⟩
 |r::rs,[],_,q=>q.elim
 |r::rs,a::as,hb,q=>by
  obtain⟨Q,h⟩:=Fg X G (λr hr=>hb r (List.mem_cons_of_mem _ hr)) q.2;obtain⟨d,h1,h2⟩:=J4 X G q.1 (hb r List.mem_cons_self);refine⟨λi=>match i with|0=>d|i+1=>Q i,λi r' e=>?_⟩;cases i with|zero=>rw[List.getElem?_cons_zero]at e;cases e;exact⟨h1,h2⟩|succ i=>rw[List.getElem?_cons_succ]at e;exact h i r' e
structure fA (P:Program) (w:World) (K:W.Frag) (mg:Str->Option Value) (base:Heap) (CX:pY) (k:Nat) (fn:Addr) (fd:FuncData) (ps:List Str) (sp:Sp) (x:Str) (st:Stmt):Prop where
 F:gE P w K mg base CX k fn fd ps sp
 t:FT K mg x st ps fn fd
section
variable {P:Program}{w:World}{K:W.Frag}{mg:Str->Option Value}{base:Heap}{rows:List Rw}{A:Nat->Addr}{Q:Nat->FuncData}{i k n:Nat}{r:Rw}{s:am}{sM:Addr->Ev->ac->ax MFl}
variable (T:TG rows K mg A Q) (S:KU rows) (h:rows[i]?=some r)
include T S h
theorem oD(b:∀(cdv:Value) (A':Around) (outer:List PySem.Env) (s0:Shared) (H Ha:Hp) (E:XK),dX k (A'.deeper (envOfC r.x (defScope r.st) s0.heap.objs.size (A i) cdv)) ->
   tQ (nq CX0 P w K mg base r.N r.x (defScope r.st) (A i) cdv A' outer s0 H E).nox E H Ha (defBody r.st) s):fA P w K mg base CX0 (k+1) (A i) (Q i) r.ps (spD K r.ps.length (bT r.N.length s)) r.x r.st :=
 ⟨zo (T i r h).F (S r (List.mem_of_getElem? h)) b,T i r h⟩
theorem oF(b:∀(cdv:Value) (A':Around) (outer:List PySem.Env) (s0:Shared) (H Ha:Hp) (E:XK),dX k (A'.deeper (envOfC r.x (defScope r.st) s0.heap.objs.size (A i) cdv)) ->
   Co (nq CX0 P w K mg base r.N r.x (defScope r.st) (A i) cdv A' outer s0 H E).nox E H Ha (defBody r.st) s):fA P w K mg base CX0 (k+1) (A i) (Q i) r.ps (Gb K r.ps.length (uf r.N.length s)) r.x r.st :=
 ⟨wy (T i r h).F (S r (List.mem_of_getElem? h)) b,T i r h⟩
end
section
variable {P:Program}{w:World}{K:W.Frag}{mg:Str->Option Value}{base:Heap}{CX:pY}{k:Nat}{fn:Addr}{fd:FuncData}{ps:List Str}{n:Nat}{m:ac->ax D}{x:Str}{st:Stmt}
def fA.fD{nn:Nat}{s:am}(B:fA P w K mg base CX k fn fd ps (Gb K n (uf nn s)) x st):fA P w K mg base CX k fn fd ps (spD K n (uf nn s)) x st:=⟨B.F.imp (CU λ_ _ h=>Ay h),B.t⟩
end
section
variable {X:Cx}{E:XK}{e:Expr}{es:List Expr}{fa:Ev->ax (ac)}{pos:Pos}{CX:pY}{k k0 n:Nat}{fn:Addr}{fd:FuncData}{ps:List Str}{m:ac->ax D}{x:Str}{p:Pos}{st:Stmt}
def rC(B:fA X.prog X.w X.K X.mg X.base CX k0 fn fd ps (spD X.K n m) x st)(hr:dX k X.A)(ha:DA X E (e::es) fa)(hle:k0<=k:=by decide)(hx:i4 CX X E:=by first|exact Bb|exact pass0E|exact passesE)(hl:∀ρ ds,fa ρ=.ok ds->ds.length=(e::es).length:=by first|exact KR|exact KQ|exact LL|exact al4|exact al5)(hn:(e::es).length=n:=by rfl)
  (hg:Gl X x:=by exact rfl)(hdb:(x==("__debug__":Str))=false:=by decide)(he:starEach (e::es) X.env=(false,eval e X.env)::starEach es X.env:=by exact aY rfl)(hpl:(backTo pos (starEach es X.env)).any (·.1)=false:=by exact bY rfl) :
  DE X E (.Call (.Name x p) (e::es) [] pos) (ai fa m):=EM (B.F.mono hle) hr hg B.t.g B.t.F.kp B.t.b hx ha hn hl hdb he hpl
def rF(B:fA X.prog X.w X.K X.mg X.base CX k0 fn fd ps (Gb X.K n m) x st)(hr:dX k X.A)(ha:DA X E (e::es) fa)(hle:k0<=k:=by decide)(hx:i4 CX X E:=by first|exact Bb|exact pass0E|exact passesE)(hl:∀ρ ds,fa ρ=.ok ds->ds.length=(e::es).length:=by first|exact KR|exact KQ|exact LL|exact al4|exact al5)(hn:(e::es).length=n:=by rfl)
  (hg:Gl X x:=by exact rfl)(hdb:(x==("__debug__":Str))=false:=by decide)(he:starEach (e::es) X.env=(false,eval e X.env)::starEach es X.env:=by exact aY rfl)(hpl:(backTo pos (starEach es X.env)).any (·.1)=false:=by exact bY rfl) :
  DF X E (.Call (.Name x p) (e::es) [] pos) (ai fa m):=EI (B.F.mono hle) hr hg B.t.g B.t.F.kp B.t.b hx ha hn hl hdb he hpl
end
def MC{r:Rw}(hn:r.ps.length=1:=by rfl)(hb:∀(kV doc pm:Value) (an:Option Addr) (cdv ct b:Value),bindArgs (W.fnOf r.x r.x (defArgs r.st) (defBody r.st) (defScope r.st) .none kV doc pm an cdv ct) ⟨[b],[]⟩=pure (r.ps.zip [b]):=by intros;rfl):KJ r:=λ_ _ _ _ _ _ us hl=>by
 obtain⟨b,rfl⟩:=Me (hl.trans hn);exact hb ..
def MB{r:Rw}(hn:r.ps.length=2:=by rfl)(hb:∀(kV doc pm:Value) (an:Option Addr) (cdv ct b c:Value),bindArgs (W.fnOf r.x r.x (defArgs r.st) (defBody r.st) (defScope r.st) .none kV doc pm an cdv ct) ⟨[b,c],[]⟩=pure (r.ps.zip [b,c]):=by intros;rfl):KJ r:=λ_ _ _ _ _ _ us hl=>by
 obtain⟨b,c,rfl⟩:=Md (hl.trans hn);exact hb ..
def MA{r:Rw}(hn:r.ps.length=3:=by rfl)(hb:∀(kV doc pm:Value) (an:Option Addr) (cdv ct b c d:Value),bindArgs (W.fnOf r.x r.x (defArgs r.st) (defBody r.st) (defScope r.st) .none kV doc pm an cdv ct) ⟨[b,c,d],[]⟩=pure (r.ps.zip [b,c,d]):=by intros;rfl):KJ r:=λ_ _ _ _ _ _ us hl=>by
 obtain⟨b,c,d,rfl⟩:=Mx (hl.trans hn);exact hb ..
def BK{P:Program}{w:World}{K:W.Frag}{mg:Str->Option Value}{base:Heap}{CX:pY}{k n:Nat}{f:Addr}{fd:FuncData}{ps:List Str}:gE P w K mg base CX k f fd ps (spD K n λ_=>.stuck) :=
 ⟨λ_ _ _ _ ⟨_,_,_,_,_,q⟩=>q.elim,λ_ _ _ _ _ _ _ _ _ _ _ _ _ ⟨_,_,_,_,_,q⟩=>q.elim⟩
def oS{P:Program}{w:World}{K:W.Frag}{mg:Str->Option Value}{base:Heap}{CX:pY}{k n:Nat}{rows:List Rw}{A:Nat->Addr}{Q:Nat->FuncData}{i:Nat}{r:Rw}(T:TG rows K mg A Q)(h:rows[i]?=some r):fA P w K mg base CX k (A i) (Q i) r.ps (spD K n λ_=>.stuck) r.x r.st:=⟨BK,T i r h⟩
def CH(Ts:List String)(x:D):Bool:=Ts.any λT=>tN x==T||(tN x=="bool"&&T=="int")
def vY:D->Bool
 |.exc _=>false
 |.ob _ _=>false
 |_=>true
def sX(Ts:List String)(x:D):ax D:=if vY x=true then .ok (.bl (CH Ts x)) else .stuck
theorem cK{K:W.Frag}{S:String}(hS:S∈["NoneType","bool","int","str","tuple","list","dict"]):∀{Ts:List String},(∀T∈Ts,jd K T)->W.kitAny K (.type S) (Ts.map Value.type)=some (Ts.any λT=>S==T||(S=="bool"&&T=="int"))
 |[],_=>rfl
 |T::Ts,h=>by
  have h1:=h T List.mem_cons_self S hS;have ih:=cK hS (Ts:=Ts) λU hU=>h U (List.mem_cons_of_mem _ hU);rw[List.map_cons,W.kitAny,h1,List.any_cons];cases (S==T||(S=="bool"&&T=="int")) with
  |true=>rfl
  |false=>rw[Bool.false_or];exact ih
theorem nW:∀{Ts:List String}{us:List Value},bo (Ts.map V.ty) us->us=Ts.map Value.type
 |[],_,.nil=>rfl
 |T::Ts,_,.cons r t=>by rw[nW t];obtain rfl:_=Value.type T:=r;rfl
section
variable {X:Cx}{E:XK}{e a:Expr}{es:List Expr}{f:al}{pos:Pos}
def DU{Ts:List String}(hk:∀T∈Ts,jd X.K T):gT X (.builtin "isinstance") (λvs H Q=>∃x v p,vs=[v,.ref p]/\H p=some (.tup (Ts.map V.ty))/\Rep X.K H x v/\vY x=true/\Q (.bl (CH Ts x)) H):=by
 intro pins s σ H xs us Q I r h;obtain⟨x,v,p,rfl,hp,h1,h2,q⟩:=h;cases r with
 |cons r1 r2=>
  cases r2 with
  |cons r3 r4=>
   cases r4;rename_i u1 u2;obtain rfl:u2=Value.ref p:=r3;obtain⟨_,its,rv,ob,k1,k2,n,k3⟩:=I.hok p _ hp;obtain rfl:=nW rv;obtain⟨oc,od,odt,osl⟩:=ob;cases k2;cases k3;have fin:∀tk,∃w' H',L2.Inv X pins σ H' { s with toks:=tk }/\bq w' (.bool (CH Ts x))/\Q w' H':=λtk=>⟨.bl (CH Ts x),H,I.tok _,rfl,q⟩
   cases x with
   |non=>rw[aT.mp h1]at r1;cases (show u1=Value.none from r1);exact W.kia_tup W.kitx_none I.kIn True.intro k1 (cK (by simp) hk) (λz=>nomatch z) fin|bl b=>rw[aK.mp h1]at r1;cases (show u1=Value.bool b from r1);exact W.kia_tup W.kitx_bool I.kIn True.intro k1 (cK (by simp) hk) (λz=>nomatch z) fin|int b=>rw[aE.mp h1]at r1;obtain⟨t,q⟩:=(show ∃t,u1=Value.int b t from r1);cases q;exact W.kia_tup W.kitx_int I.kIn True.intro k1 (cK (by simp) hk) (λz=>nomatch z) fin|str b=>rw[Rep.str_iff.mp h1]at r1;obtain⟨t,q⟩:=(show ∃t,u1=Value.str b t from r1);cases q;exact W.kia_tup W.kitx_str I.kIn True.intro k1 (cK (by simp) hk) (λz=>nomatch z) fin
   |tup ds=>
    obtain⟨a,vs,its,rfl,rfl,h1,h2,h3,h4,_⟩:=bj I h1 r1;obtain⟨o,k1',k2',_⟩:=h4;exact W.kia_tup W.kitx_tuple I.kIn ⟨o,k1',k2'⟩ k1 (cK (by simp) hk) (λz=>nomatch z) fin
   |lst ds=>
    obtain⟨a,vs,its,rfl,rfl,h1,h2,h3,h4,_⟩:=ba I h1 r1;obtain⟨o,k1',k2',_⟩:=h4;exact W.kia_tup W.kitx_list I.kIn ⟨o,k1',k2'⟩ k1 (cK (by simp) hk) (λz=>nomatch z) fin
   |dic ks ds=>
    rw[Rep]at h1;obtain⟨a,kvs,vs,rfl,h1,h2,_⟩:=h1;cases (show u1=Value.ref a from r1);obtain⟨_,_,vs',_,p'⟩:=h1.ok I.hok;obtain⟨o,es,ep,k1',k2',_⟩:=p';exact W.kia_tup W.kitx_dict I.kIn ⟨o,k1',k2'.1⟩ k1 (cK (by simp) hk) (λz=>nomatch z) fin
   |exc _|ob _ _=>cases h2
structure TN (X:Cx) (es:List Expr) (Ts:List String):Prop where
 o:PA X es (λσ H Q=>Q (Ts.map V.ty) H)
 k:∀T∈Ts,jd X.K T
def FW:TN X [] []:=⟨fI,λ_ h=>nomatch h⟩
def xh{x:Str}{p:Pos}{T:String}{Ts:List String}(hk:jd X.K T)(hg:Gl X x)(hm:X.mg x=none)(hv:bootBuiltins x=some (.type T))(h:TN X es Ts)(hn:x≠"__name__":=by decide)(hdb:(x==("__debug__":Str))=false:=by decide):TN X (.Name x p::es) (T::Ts) :=
 ⟨cQ (xA (v:=.ty T) hg hm hv rfl hn hdb) h.o (aY rfl),λU hU=>by
  rcases List.mem_cons.mp hU with rfl|hU
  .exact hk
  .exact h.k U hU⟩
def EK{p1 p2:Pos}{k2}{Ts:List String}(hc:TN X es Ts)(hgi:Gl X "isinstance")(hmi:X.mg "isinstance"=none)(ha:DE X E a f)(hl:Ts.length<=30:=by decide)
  (he:starEach [a,.Tuple es k2 p2] X.env=(false,eval a X.env)::starEach [.Tuple es k2 p2] X.env:=by exact aY rfl)(he2:starEach [.Tuple es k2 p2] X.env=(false,eval (.Tuple es k2 p2) X.env)::starEach [] X.env:=by exact aY rfl)(hpl:(backTo pos (starEach [.Tuple es k2 p2] X.env)).any (·.1)=false:=by exact bY rfl) :
  DE X E (.Call (.Name "isinstance" p1) [a,.Tuple es k2 p2] [] pos) (aS f (sX Ts)):=by
 refine⟨?_⟩;refine aZ (oz (DU hc.k) hgi hmi PyProof.Rows.Boot.«isinstance» (cQ ha.o (cQ (A0 hc.o) fI he2) he) (by decide) (by decide) he hpl) λσ H Q z9=>?_;obtain⟨Ha,ρ,hs,hr,q⟩:=z9;refine⟨Ha,ρ,hs,hr,?_⟩
 unfold aS at q;cases e1:f ρ with
 |stuck|exn x=>rw[e1]at q;exact q
 |ok d=>
  rw[e1]at q;intro v H1 H01 g1 r1;have q:post X.K E H Ha (sX Ts d) Q:=q;unfold sX at q
  by_cases hp:vY d=true
  .rw[if_pos hp]at q
   refine⟨?_,λp hp'=>?_⟩
   .rw[List.length_map];exact Nat.le_trans hl (by decide)
   .have ga:=aO (o:=.tup (Ts.map V.ty)) g1.sub hp'
    exact⟨d,v,p,rfl,aG,(r1.mono g1.sub).mono ga.s,hp,q _ _ _ (g1.trans ga) (rb _)⟩
  .rw[if_neg hp]at q;exact q.elim
end
mutual
def bO:D->Bool
 |.tup ds=>plainDs ds
 |.lst ds=>plainDs ds
 |.dic _ _=>false
 |.exc _=>false
 |.ob _ _=>false
 |_=>true
def plainDs:ac->Bool
 |[]=>true
 |d::ds=>bO d&&plainDs ds
end
mutual
/-- the cells of a tree -/
def Ft(K:W.Frag)(H:Hp):D->V->Addr->Prop
 |.tup ds,v,b=>∃a vs,v=.ref a/\((b=a/\Rd H a (.tup vs))∨(fS K H a vs/\Fts K H ds vs b))
 |.lst ds,v,b=>∃a vs,v=.ref a/\((b=a/\Rd H a (.lst vs)/\Reps K H ds vs)∨(dF K H a vs/\Reps K H ds vs/\Fts K H ds vs b))
 |_,_,_=>False
def Fts(K:W.Frag)(H:Hp):ac->ad->Addr->Prop
 |d::ds,v::vs,b=>Ft K H d v b∨Fts K H ds vs b
 |_,_,_=>False
end
open Classical in
noncomputable def rst(H:Hp) (S:Addr->Prop):Hp:=λb=>if S b then H b else none
def l6{H:Hp}{S:Addr->Prop}{b:Addr}(h:S b):rst H S b=H b:=if_pos h
def Az{H:Hp}{S:Addr->Prop}:aF (rst H S) H:=λb o e=>by
 unfold rst at e;split at e
 .exact e
 .cases e
def xt{H:Hp}{S:Addr->Prop}{b:Addr}(h:rst H S b≠none):S b:=by
 unfold rst at h;split at h
 .assumption
 .exact absurd rfl h
def AA{H:Hp}{S:Addr->Prop}{b:Addr}{u:HO}(h:S b)(r:Rd H b u):Rd (rst H S) b u:=by
 unfold Rd;rw[l6 h];exact r
mutual
theorem Rep.rst{K:W.Frag}{H:Hp}{S:Addr->Prop}:∀{d:D}{v:V},bO d=true->Rep K H d v->(∀b,Ft K H d v b->S b)->Rep K (rst H S) d v
 |.non,_,_,h,_=>by unfold Rep at h ⊢;exact h
 |.bl _,_,_,h,_=>by unfold Rep at h ⊢;exact h
 |.int _,_,_,h,_=>by unfold Rep at h ⊢;exact h
 |.str _,_,_,h,_=>by unfold Rep at h ⊢;exact h
 |.tup ds,_,p,h,s=>by
  obtain⟨a,vs,rfl,e2,e3⟩:=aH.mp h;unfold bO at p;refine aH.mpr ⟨a,vs,rfl,?_,Reps.rst p e3 λb hb=>s b (by unfold Ft;exact⟨a,vs,rfl,.inr ⟨e2,hb⟩⟩)⟩;rcases e2 with e2|e2
  .exact .inl (AA (s a (by unfold Ft;exact⟨a,vs,rfl,.inl ⟨rfl,e2⟩⟩)) e2)
  .exact .inr e2
 |.lst ds,_,p,h,s=>by
  obtain⟨a,vs,rfl,e2,e3⟩:=aB.mp h;unfold bO at p;refine aB.mpr ⟨a,vs,rfl,?_,Reps.rst p e3 λb hb=>s b (by unfold Ft;exact⟨a,vs,rfl,.inr ⟨e2,e3,hb⟩⟩)⟩;rcases e2 with e2|e2
  .exact .inl (AA (s a (by unfold Ft;exact⟨a,vs,rfl,.inl ⟨rfl,e2,e3⟩⟩)) e2)
  .exact .inr e2
 |.dic _ _,_,p,_,_=>by unfold bO at p;cases p
 |.exc _,_,p,_,_=>by unfold bO at p;cases p
 |.ob _ _,_,p,_,_=>by unfold bO at p;cases p
theorem Reps.rst{K:W.Frag}{H:Hp}{S:Addr->Prop}:∀{ds:ac}{vs:ad},plainDs ds=true->Reps K H ds vs->(∀b,Fts K H ds vs b->S b)->Reps K (rst H S) ds vs
 |[],_,_,h,_=>by rw[Reps.nil_iff.mp h];exact Reps.nil
 |d::ds,_,p,h,s=>by
  obtain⟨v,r,rfl,h1,h2⟩:=aD.mp h;unfold plainDs at p;rw[Bool.and_eq_true]at p;exact Reps.cons (Rep.rst p.1 h1 λb hb=>s b (by unfold Fts;exact .inl hb)) (Reps.rst p.2 h2 λb hb=>s b (by unfold Fts;exact .inr hb))
end
def Vw(A:Addr->Prop)(H H2:Hp):Prop:=∀c,H2 c=H c∨(A c/\∃o u,H c=some (.frz o u)/\H2 c=some u)
def Vw.keep{A:Addr->Prop}{H H2:Hp}(v:Vw A H H2){c:Addr}{u:HO}(e:H c=some u)(n:∀o w,u≠.frz o w):H2 c=some u:=by
 rcases v c with h|⟨_,o,w,h,_⟩
 .rw[h];exact e
 .rw[e]at h;cases h;exact absurd rfl (n o w)
def Vw.rd{A:Addr->Prop}{H H2:Hp}(v:Vw A H H2){c:Addr}{u:HO}(r:Rd H c u)(n:∀o w,u≠.frz o w):Rd H2 c u:=by
 rcases r with r|⟨o,r⟩
 .exact .inl (v.keep r n)
 .rcases v c with h|⟨_,o',w,h,h2⟩
  .exact .inr ⟨o,by rw[h];exact r⟩
  .rw[r]at h;cases h;exact .inl h2
def Vw.none{A:Addr->Prop}{H H2:Hp}(v:Vw A H H2){c:Addr}(e:H c=Option.none):H2 c=Option.none:=by
 rcases v c with h|⟨_,o',w,h,h2⟩
 .rw[h];exact e
 .rw[e]at h;cases h
theorem vz.view{K:W.Frag}{A:Addr->Prop}{H H':Hp}(e:Vw A H H'):∀{k:Kd}{a:Addr}{vs:ad},vz K H k a vs->vz K H' k a vs
 |.ins c ks,a,vs,⟨C,dx,h0,h1,h2,h3⟩=>⟨C,dx,h0,h1,e.keep h2 (λ_ _ z=>by cases z),h3⟩
 |.dint ks,a,vs,⟨kvs,h1,h2,h3⟩=>⟨kvs,e.rd h1 (λ_ _ z=>by cases z),h2,h3⟩
 |.exf c ks,a,vs,⟨C,dx,fs,h1,h2,h3,h4⟩=>⟨C,dx,fs,h1,e.rd h2 (λ_ _ z=>by cases z),e.keep h3 (λ_ _ z=>by cases z),h4⟩
 |.pl,a,vs,h=>e.keep h (λ_ _ z=>by cases z)
mutual
theorem Rep.view{K:W.Frag}{A:Addr->Prop}{H H':Hp}(e:Vw A H H'):∀{d:D}{v:V},Rep K H d v->Rep K H' d v
 |.non,_,h=>by unfold Rep at h ⊢;exact h
 |.bl _,_,h=>by unfold Rep at h ⊢;exact h
 |.int _,_,h=>by unfold Rep at h ⊢;exact h
 |.str _,_,h=>by unfold Rep at h ⊢;exact h
 |.tup ds,_,h=>by
  unfold Rep at h ⊢;obtain⟨a,vs,e1,e2,e3⟩:=h;exact⟨a,vs,e1,e2.imp (λr=>e.rd r (λ_ _ z=>by cases z)) id,Reps.view e e3⟩
 |.lst ds,_,h=>by
  unfold Rep at h ⊢;obtain⟨a,vs,e1,e2,e3⟩:=h;exact⟨a,vs,e1,e2.imp (λr=>e.rd r (λ_ _ z=>by cases z)) id,Reps.view e e3⟩
 |.dic ks ds,_,h=>by
  unfold Rep at h ⊢;obtain⟨a,kvs,vs,e1,e2,e3,e4,e5⟩:=h;exact⟨a,kvs,vs,e1,e.rd e2 (λ_ _ z=>by cases z),e3,e4,Reps.view e e5⟩
 |.exc x,_,h=>by
  unfold Rep at h ⊢;obtain⟨a,C,dc,e1,e2,e3⟩:=h;exact⟨a,C,dc,e1,e2,e.rd e3 (λ_ _ z=>by cases z)⟩
 |.ob k ds,_,h=>by
  unfold Rep at h ⊢;obtain⟨a,vs,e1,e2,e3⟩:=h;exact⟨a,vs,e1,e2.view e,Reps.view e e3⟩
theorem Reps.view{K:W.Frag}{A:Addr->Prop}{H H':Hp}(e:Vw A H H'):∀{ds:ac}{vs:ad},Reps K H ds vs->Reps K H' ds vs
 |[],_,h=>by unfold Reps at h ⊢;exact h
 |d::ds,_,h=>by
  unfold Reps at h ⊢;obtain⟨v,r,e1,e2,e3⟩:=h;exact⟨v,r,e1,Rep.view e e2,Reps.view e e3⟩
end
def bJ.view{P:Program}{w:World}{A:Addr->Prop}{H H2:Hp}{h:Heap}{a:Addr}{o:HO}(v:Vw A H H2)(x:bJ P w H h a o):bJ P w H2 h a o :=
 x.stay (λb u _ q=>q) (λb q=>v.keep q (λ_ _ z=>by cases z)) λb xs q=>v.keep q (λ_ _ z=>by cases z)
def wc(ρ:Ev):Bool:=ρ.all λs=>match s with
 |.ow _=>false
 |.ox _ _=>false
 |_=>true
section
variable {K:W.Frag}{He H0e Ha H H2:Hp}{σ:L2.St}{ρ:Ev}{a:Addr}{st:ac}{vs:ad}
def wc.ow(h:wc ρ=true){i:Nat}{d:D}(e:ρ[i]?=some (.ow d)):False:=by
 have:=List.all_eq_true.mp h _ (List.mem_of_getElem? e);cases this
def wc.ox(h:wc ρ=true){i j:Nat}{ds:ac}(e:ρ[i]?=some (.ox j ds)):False:=by
 have:=List.all_eq_true.mp h _ (List.mem_of_getElem? e);cases this
def cW.poke(h:cW K He H0e Ha σ H ρ)(n:wc ρ=true)(hs:aF He H2)(hz:aF Ha H2):cW K He H0e Ha σ H2 ρ :=
 ⟨⟨hs,h.g.z,hz,h.g.nw⟩,h.rd,λi d e=>(wc.ow n e).elim,λi j d d' _ e=>(wc.ow n e).elim,h.ln,⟨λi j ds e=>(wc.ox n e).elim,h.ex.2⟩⟩
def cW.dropT(h:cW K He H0e Ha σ H ρ){i:Nat}{v:V}:cW K He H0e Ha (σ.set i (some v)) H (ρ.set i .no):=by
 have key:∀(j:Nat) (s:Sl),(ρ.set i .no)[j]?=some s->s=.no∨(j≠i/\ρ[j]?=some s):=λj s e=>by
  by_cases hj:i=j
  .subst hj
   rw[List.getElem?_set_self']at e;cases q:ρ[i]? with|none=>rw[q]at e;cases e|some s'=>rw[q]at e;cases e;exact .inl rfl
  .rw[List.getElem?_set_ne hj]at e
   exact .inr ⟨λz=>hj z.symm,e⟩
 refine⟨h.g,λj d' e=>?_,λj d' e=>?_,λj k d1 d2 hn e1 e2=>?_,by simp[h.ln],h.ex.upd (λj s e=>?_) (aF.refl _) (λa vs _ e=>e) λp us _ h0 hp _=>⟨hp,h0⟩⟩
 .rcases key j _ e with e'|⟨hj,e'⟩
  .cases e'
  .obtain⟨v',h1,h2⟩:=h.rd j d' e'
   exact⟨v',by rw[List.getElem?_set_ne (Ne.symm hj)];exact h1,h2⟩
 .rcases key j _ e with e'|⟨hj,e'⟩
  .cases e'
  .obtain⟨b,h1,h2⟩:=h.ow j d' e'
   exact⟨b,by rw[List.getElem?_set_ne (Ne.symm hj)];exact h1,h2⟩
 .rcases key j _ e1 with e'|⟨hj,e1'⟩
  .cases e'
  rcases key k _ e2 with e'|⟨hk,e2'⟩
  .cases e'
  rw[List.getElem?_set_ne (Ne.symm hj),List.getElem?_set_ne (Ne.symm hk)];exact h.ap j k d1 d2 hn e1' e2'
 .rcases key j _ e with e'|⟨hj,e'⟩
  .exact .inr (.inr (.inl e'))
  .exact .inl ⟨e',by rw[List.getElem?_set_ne (Ne.symm hj)]⟩
end
def BI{He Ha H H':Hp}(s:aF H H'):aF (frz He Ha H) (frz He Ha H'):=λc o e=>by
 unfold frz at e ⊢;cases q:He c with|none=>rw[q]at e;exact s _ _ e|some _=>rw[q]at e;exact e
section
variable {X:Cx}{E:XK}{He H0e:Hp}{a:Addr}{x:Nat}{st:Stmt}{rest:List Stmt}{e b c:Expr}{pos:Pos}{f fk:al}{g:D->Ev->ac->ax MFl}{s r:Ev->ac->ax MFl}
def mN(js:bi)(ρ:Ev):Ev:=ρ.mapIdx λi s=>if js.contains i then s else .no
def Bz{js:bi}{ρ:Ev}{i:Nat}{d:D}(h:(mN js ρ)[i]?=some (.sh d)):i∈js/\ρ[i]?=some (.sh d):=by
 unfold mN at h;rw[List.getElem?_mapIdx]at h;cases q:ρ[i]? with
 |none=>rw[q]at h;cases h
 |some s=>
  rw[q]at h;simp only[Option.map_some,Option.some.injEq]at h
  by_cases c:js.contains i=true
  .rw[if_pos c]at h;exact⟨by simpa using c,by rw[h]⟩
  .rw[if_neg c]at h;cases h
end
def DC{ρ:Ev}{x:Nat}(h:wc ρ=true):wc (ρ.set x .no)=true:=by
 unfold wc at h ⊢;rw[List.all_eq_true]at h ⊢;intro s hs;rcases List.mem_or_eq_of_mem_set hs with h1|h1
 .exact h s h1
 .subst h1;rfl
mutual
/-- .. seen as any list -/
def fgt:D->D
 |.tup ds=>.tup (fgts ds)
 |.lst ds=>.lst (fgts ds)
 |.dic ks ds=>.dic ks (fgts ds)
 |.ob k ds=>match k with
  |.pl=>.lst (fgts ds)
  |k=>.ob k (fgts ds)
 |.non=>.non
 |.bl b=>.bl b
 |.int i=>.int i
 |.str x=>.str x
 |.exc x=>.exc x
def fgts:ac->ac
 |[]=>[]
 |d::ds=>fgt d::fgts ds
end
mutual
theorem Rep.fgt{K:W.Frag}{H:Hp}:∀{d:D}{v:V},Rep K H d v->Rep K H (fgt d) v
 |.non,_,h=>by rw[DL.fgt];exact h
 |.bl _,_,h=>by rw[DL.fgt];exact h
 |.int _,_,h=>by rw[DL.fgt];exact h
 |.str _,_,h=>by rw[DL.fgt];exact h
 |.exc _,_,h=>by rw[DL.fgt];exact h
 |.tup ds,_,h=>by
  obtain⟨a,vs,e1,e2,e3⟩:=aH.mp h;rw[DL.fgt];exact aH.mpr ⟨a,vs,e1,e2,Reps.fgt e3⟩
 |.lst ds,_,h=>by
  obtain⟨a,vs,e1,e2,e3⟩:=aB.mp h;rw[DL.fgt];exact aB.mpr ⟨a,vs,e1,e2,Reps.fgt e3⟩
 |.dic ks ds,_,h=>by
  rw[Rep]at h;obtain⟨a,kvs,vs,e1,e2,e3,e4,e5⟩:=h;rw[DL.fgt,Rep];exact⟨a,kvs,vs,e1,e2,e3,e4,Reps.fgt e5⟩
 |.ob k ds,_,h=>by
  obtain⟨a,vs,e1,e2,e3⟩:=bL.mp h;cases k with
  |pl=>rw[DL.fgt];exact aB.mpr ⟨a,vs,e1,dF.of e2,Reps.fgt e3⟩
  |ins c ks=>rw[DL.fgt]<;>first|exact bL.mpr ⟨a,vs,e1,e2,Reps.fgt e3⟩|(intro z;cases z)
  |dint ks=>rw[DL.fgt]<;>first|exact bL.mpr ⟨a,vs,e1,e2,Reps.fgt e3⟩|(intro z;cases z)
  |exf c ks=>rw[DL.fgt]<;>first|exact bL.mpr ⟨a,vs,e1,e2,Reps.fgt e3⟩|(intro z;cases z)
theorem Reps.fgt{K:W.Frag}{H:Hp}:∀{ds:ac}{vs:ad},Reps K H ds vs->Reps K H (fgts ds) vs
 |[],_,h=>by rw[fgts];exact h
 |d::ds,_,h=>by
  obtain⟨v,r,rfl,h1,h2⟩:=aD.mp h;rw[fgts];exact Reps.cons (Rep.fgt h1) (Reps.fgt h2)
end
section
variable {X:Cx}{E:XK}{e:Expr}{f:al}
def uY(f:al):al:=λρ=>(f ρ).bind λd=>.ok (fgt d)
def kJ(he:DE X E e f):DE X E e (uY f):=⟨aZ he.o λσ H Q ⟨Ha,ρ,hs,hr,q⟩=>⟨Ha,ρ,hs,hr,by
 unfold uY at q;cases e1:f ρ with
 |stuck|exn x=>rw[e1]at q;exact q
 |ok d=>rw[e1]at q;exact λv H' Ha' g r=>q v H' Ha' g r.fgt⟩⟩
def Lv(d:D):ax D:=match d with
 |.lst ds=>.ok (.ob .pl ds)
 |_=>.stuck
def rP(f:al):al:=λρ=>(f ρ).bind Lv
def Ca(he:DF X E e f):DE X E e (rP f):=⟨aZ he.o λσ H Q ⟨Ha,ρ,hs,hr,q⟩=>⟨Ha,ρ,hs,hr,by
 unfold rP at q;cases e1:f ρ with
 |stuck|exn x=>rw[e1]at q;exact q
 |ok d=>
  rw[e1]at q;cases d with
  |lst ds=>
   intro p vs H' Ha' g hp h0 hv rp;have z:aF Ha' (upd Ha' p (.lst vs)):=λb o e=>by rw[aC (by intro z;subst z;rw[h0]at e;cases e)];exact e
   refine q (.ref p) H' (upd Ha' p (.lst vs)) ⟨g.s,g.z.trans z,λb o e=>?_,λb h1 h2=>?_⟩ (bL.mpr ⟨p,vs,rfl,aG,rp.mono z⟩)
   .by_cases c:b=p
    .subst c;rw[aG]at e;cases e;exact hv
    .rw[aC c]at e;exact g.sub _ _ e
   .by_cases c:b=p
    .subst c;exact hp
    .rw[aC c]at h1;exact g.nw b h1 h2
  |_=>exact q.elim⟩⟩
end
def LX(J Jf:Hp):Prop:=∀c,Jf c=J c∨∃us o,J c=some (.lst us)/\Jf c=some (.frz o (.lst us))
mutual
theorem Rep.frv{K:W.Frag}{J Jf:Hp}(e:LX J Jf):∀{d:D}{v:V},bO d=true->Rep K J d v->Rep K Jf d v
 |.non,_,_,h=>by unfold Rep at h ⊢;exact h
 |.bl _,_,_,h=>by unfold Rep at h ⊢;exact h
 |.int _,_,_,h=>by unfold Rep at h ⊢;exact h
 |.str _,_,_,h=>by unfold Rep at h ⊢;exact h
 |.tup ds,_,p,h=>by
  obtain⟨a,vs,rfl,e2,e3⟩:=aH.mp h;unfold bO at p;refine aH.mpr ⟨a,vs,rfl,e2.imp (λr=>?_) id,Reps.frv e p e3⟩;rcases e a with q|⟨us,o,q,_⟩
  .unfold Rd;rw[q];exact r
  .rcases r with r|⟨_,r⟩<;>rw[q]at r<;>cases r
 |.lst ds,_,p,h=>by
  obtain⟨a,vs,rfl,e2,e3⟩:=aB.mp h;unfold bO at p;refine aB.mpr ⟨a,vs,rfl,e2.imp (λr=>?_) id,Reps.frv e p e3⟩;rcases e a with q|⟨us,o,q,q2⟩
  .unfold Rd;rw[q];exact r
  .rcases r with r|⟨_,r⟩
   .rw[q]at r;cases r;exact .inr ⟨o,q2⟩
   .rw[q]at r;cases r
 |.dic _ _,_,p,_=>by unfold bO at p;cases p
 |.exc _,_,p,_=>by unfold bO at p;cases p
 |.ob _ _,_,p,_=>by unfold bO at p;cases p
theorem Reps.frv{K:W.Frag}{J Jf:Hp}(e:LX J Jf):∀{ds:ac}{vs:ad},plainDs ds=true->Reps K J ds vs->Reps K Jf ds vs
 |[],_,_,h=>by rw[Reps.nil_iff.mp h];exact Reps.nil
 |d::ds,_,p,h=>by
  obtain⟨v,r,rfl,h1,h2⟩:=aD.mp h;unfold plainDs at p;rw[Bool.and_eq_true]at p;exact Reps.cons (Rep.frv e p.1 h1) (Reps.frv e p.2 h2)
end
open Classical in
noncomputable def qm(h:Heap) (S:Addr->Prop) (H:Hp):Hp:=λc=>match H c with
 |some (.lst us)=>if S c then(match h.get? c with|some o=>some (.frz o (.lst us))|none=>some (.lst us)) else some (.lst us)
 |o=>o
open Classical in
noncomputable def mX(S:Addr->Prop) (H H1:Hp):Hp:=λc=>if S c/\∃us,H c=some (.lst us) then H c else H1 c
section
variable {h:Heap}{S:Addr->Prop}{H H1:Hp}{c:Addr}
def xU{us:ad}{o:Obj}(hc:S c)(e:H c=some (.lst us))(eo:h.get? c=some o):qm h S H c=some (.frz o (.lst us)):=by
 unfold qm;rw[e];simp only;rw[if_pos hc,eo]
def iu(hc:¬(S c/\∃us,H c=some (.lst us))):qm h S H c=H c:=by
 unfold qm;cases q:H c with
 |none=>rfl
 |some o=>
  cases o with|lst us=>simp only;rw[if_neg λz=>hc ⟨z,us,q⟩]| _=>rfl
def lH(hc:S c/\∃us,H c=some (.lst us)):mX S H H1 c=H c:=if_pos hc
def iD(hc:¬(S c/\∃us,H c=some (.lst us))):mX S H H1 c=H1 c:=if_neg hc
def DV{P:Program}{w:World}(ok:ka P w H h):ka P w (qm h S H) h:=λa o e=>by
 have st:∀{u:HO},bJ P w H h a u->bJ P w (qm h S H) h a u:=λx=>x.stay (λb u _ q=>q) (λb q=>by rw[iu (λz=>by obtain⟨_,us,z⟩:=z;rw[q]at z;cases z)];exact q) λb xs q=>by rw[iu (λz=>by obtain⟨_,us,z⟩:=z;rw[q]at z;cases z)];exact q
 by_cases hc:S a/\∃us,H a=some (.lst us)
 .obtain⟨h1,us,ea⟩:=hc
  have x:=ok a _ ea;obtain⟨_,its,n,_,eo⟩:=id x;rw[xU h1 ea eo]at e;cases e;exact⟨eo,st x⟩
 .rw[iu hc]at e;exact st (ok a o e)
end
mutual
theorem Ft.some_of{K:W.Frag}{H:Hp}{b:Addr}:∀{d:D}{v:V},Ft K H d v b->H b≠none
 |.non,_,h=>by unfold Ft at h;exact h.elim
 |.bl _,_,h=>by unfold Ft at h;exact h.elim
 |.int _,_,h=>by unfold Ft at h;exact h.elim
 |.str _,_,h=>by unfold Ft at h;exact h.elim
 |.dic _ _,_,h=>by unfold Ft at h;exact h.elim
 |.exc _,_,h=>by unfold Ft at h;exact h.elim
 |.ob _ _,_,h=>by unfold Ft at h;exact h.elim
 |.tup ds,_,h=>by
  unfold Ft at h;obtain⟨a,vs,rfl,⟨rfl,h⟩|⟨_,h⟩⟩:=h
  .rcases h with h|⟨_,h⟩<;>rw[h]<;>simp
  .exact Fts.some_of h
 |.lst ds,_,h=>by
  unfold Ft at h;obtain⟨a,vs,rfl,⟨rfl,h,_⟩|⟨_,_,h⟩⟩:=h
  .rcases h with h|⟨_,h⟩<;>rw[h]<;>simp
  .exact Fts.some_of h
theorem Fts.some_of{K:W.Frag}{H:Hp}{b:Addr}:∀{ds:ac}{vs:ad},Fts K H ds vs b->H b≠none
 |[],_,h=>by unfold Fts at h;exact h.elim
 |d::ds,[],h=>by unfold Fts at h;exact h.elim
 |d::ds,v::vs,h=>by
  unfold Fts at h;rcases h with h|h
  .exact Ft.some_of h
  .exact Fts.some_of h
end
def L9(r:Fl):ax Fl:=match r with
 |.rt d=>.ok (.rt d)
 |_=>.stuck
end DL
namespace Zt
open PySem PySem.Spec PyProof.Rows
def nn{a b c d:Addr}(h:c=a∨c=b)(h1:a≠d)(h2:b≠d):c≠d:=by
 rcases h with h|h<;>rw[h]<;>assumption
structure vA (P:Program) (w:World) (i l:Addr) (xs:Array Value) (St:Nat->Heap->Prop):Prop where
 stay:∀{k:Nat}{h h':Heap},St k h->(∀c o,c=i∨c=l->h.get? c=some o->h'.get? c=some o)->St k h'
 there:∀{k:Nat}{h:Heap},St k h->∃o,h.get? i=some o/\∀v,o.data≠.cell v
 draw:∀{A:Around}{E:Value->Shared->Prop}{s:Shared}{k:Nat}{x:Value}{Q:Value->Shared->Prop},St k s.heap->xs[k]?=some x->(∀h',St (k+1) h'->Heap.SameBut i s.heap h'->Q x { s with heap:=h' }) ->
  wpAny (model P w) A (Builtin.SmallTypes.nextOf (.ref i)) Q E s
 over:∀{A:Around}{E:Value->Shared->Prop}{s:Shared}{k:Nat}{Q:Value->Shared->Prop},A.handled=none->St k s.heap->xs[k]?=none ->
  (∀h' e,Heap.ExtBut i s.heap h'->(∃o,h'.get? e=some o/\o.cls=.type "StopIteration")->E (.ref e) { s with heap:=h' })->wpAny (model P w) A (Builtin.SmallTypes.nextOf (.ref i)) Q E s
section
variable {P:Program}{w:World}{A:Around}{E:Value->Shared->Prop}{s:Shared}
def Ae{i t:Addr}{k:Nat}{xs:Array Value}{x:Value}{Q:Value->Shared->Prop}(hi:s.heap.IsTupleIter i t k)(ht:s.heap.IsTuple t xs)(hx:xs[k]?=some x)
  (hq:∀h',h'.IsTupleIter i t (k+1)->Heap.SameBut i s.heap h'->Q x { s with heap:=h' }):wpAny (model P w) A (Builtin.SmallTypes.nextOf (.ref i)) Q E s:=by
 obtain⟨oi,gi,ci,di⟩:=id hi;obtain⟨ot,gt,_,nt,dt⟩:=ht;unfold Builtin.SmallTypes.nextOf;refine wpAny_bind (wpAny_callSpecial?_slot (name:=Str.ofString "__next__") hi.typeIs F.slot_tuple_iterator_next (wpAny_call_entry F.slot_tuple_iterator_next hi.typeIs F.entry_tuple_iterator_next ?_ (F.args_tuple_iterator_next_1 _)));show wpAny _ _ (field (.ref i) 0 >>= _) _ _ s;refine wpAny_bind (wpAny_field gi di (x:=.ref t) rfl ?_);show wpAny _ _ (if(Value.ref t==Value.none)=true then _ else _) _ _ s;rw[if_neg (show ¬((Value.ref t==Value.none)=true) from λz=>nomatch z)];show wpAny _ _ (field (.ref i) 1 >>= _) _ _ s;refine wpAny_bind (wpAny_field gi di (x:=.int k 0) rfl ?_);show wpAny _ _ (seqItems? (.ref t) >>= _) _ _ s;refine wpAny_bind (wpAny_seqItems gt dt ?_);simp only[Int.toNat_natCast,hx];refine wpAny_bind (wpAny_setField gi di (by simp) (wpAny_pure ⟨x,rfl,wpAny_pure (hq _ ⟨_,Heap.get?_update_self _ gi (Obj.isFreed_of_fields (Obj.data_mapFields di _)),(Obj.cls_mapFields ..).trans ci,?_⟩ (Heap.SameBut.update ..))⟩));rw[Obj.data_mapFields di];simp[rawInt]
def Ad{i t:Addr}{k:Nat}{xs:Array Value}{Q:Value->Shared->Prop}(hA:A.handled=none)(hi:s.heap.IsTupleIter i t k)(ht:s.heap.IsTuple t xs)(hx:xs[k]?=none)
  (he:∀h' e,Heap.ExtBut i s.heap h'->(∃o,h'.get? e=some o/\o.cls=.type "StopIteration")->E (.ref e) { s with heap:=h' }):wpAny (model P w) A (Builtin.SmallTypes.nextOf (.ref i)) Q E s:=by
 obtain⟨oi,gi,ci,di⟩:=id hi;obtain⟨ot,gt,_,nt,dt⟩:=ht;unfold Builtin.SmallTypes.nextOf;refine wpAny_bind (wpAny_callSpecial?_slot (name:=Str.ofString "__next__") hi.typeIs F.slot_tuple_iterator_next (wpAny_call_entry F.slot_tuple_iterator_next hi.typeIs F.entry_tuple_iterator_next ?_ (F.args_tuple_iterator_next_1 _)));show wpAny _ _ (field (.ref i) 0 >>= _) _ _ s;refine wpAny_bind (wpAny_field gi di (x:=.ref t) rfl ?_);show wpAny _ _ (if(Value.ref t==Value.none)=true then _ else _) _ _ s;rw[if_neg (show ¬((Value.ref t==Value.none)=true) from λz=>nomatch z)];show wpAny _ _ (field (.ref i) 1 >>= _) _ _ s;refine wpAny_bind (wpAny_field gi di (x:=.int k 0) rfl ?_);show wpAny _ _ (seqItems? (.ref t) >>= _) _ _ s;refine wpAny_bind (wpAny_seqItems gt dt ?_);simp only[Int.toNat_natCast,hx];refine wpAny_bind (wpAny_rule (wpAny_bind (wpAny_setField gi di (by simp) ?_)));show wpAny _ _ (newExc (.type "StopIteration") [] >>= _) _ _ _;refine wpAny_bind ?_;simp only[newExc,newTuple];refine wpAny_bind (wpAny_newObj_type ?_ (by size_fits));refine wpAny_bind (m:=firstArgMember _ _) (wpAny_of_eq (a:=Value.none) (by first|rfl|(simp only[firstArgMember];rfl)) (wpAny_newObj_type ?_ (by size_fits)));simp only[raiseNew];refine wpAny_bind (wpAny_handled ?_)
 first|rw[show A.in1.handled=none from hA]|rw[hA]
 refine wpAny_bind (wpAny_pure (wpAny_throw (he _ _ (((Heap.SameBut.update ..).extBut.push _).push _) ⟨_,Heap.get?_push_size _ rfl,rfl⟩)))
def nE(i t:Addr)(xs:Array Value):vA P w i t xs λk h=>h.IsTupleIter i t k/\h.IsTuple t xs where
 stay:=λ⟨⟨o,e,r⟩,⟨o2,e2,r2⟩⟩ kp=>⟨⟨o,kp _ _ (.inl rfl) e,r⟩,⟨o2,kp _ _ (.inr rfl) e2,r2⟩⟩
 there:=λ⟨⟨o,e,_,d⟩,_⟩=>⟨o,e,λv z=>by rw[d]at z;cases z⟩
 draw:=λ{A E s k x Q} ⟨h1,h2⟩ hx hq=>by
  by_cases c:t=i
  .exfalso
   obtain⟨o,e,q,_⟩:=h1;obtain⟨o2,e2,q2,_⟩:=h2;subst c;rw[e]at e2;cases e2;rw[q]at q2;simp at q2
  .exact Ae h1 h2 hx λh' a b=>hq h' ⟨a,h2.extBut b.extBut c⟩ b
 over:=λhA ⟨h1,h2⟩ hx he=>Ad hA h1 h2 hx he
variable {z ti tO i j l m:Addr}{k:Nat}{xs ys:Array Value}{S S':Nat->Heap->Prop}{a b x y:Value}
def zR(D:ZipApart z ti tO i j l m)(I:vA P w i l xs S)(J:vA P w j m ys S'){Q:Value->Shared->Prop}
  (hz:IsZip s.heap z ti tO .none)(hti:IsPair s.heap ti (.ref i) (.ref j))(hto:IsPair s.heap tO a b)(h1:S k s.heap)(h2:S' k s.heap)(hx:xs[k]?=some x)(hy:ys[k]?=some y)
  (hq:∀h',IsZip h' z ti tO (rawInt s.heap.objs.size)->IsPair h' tO x y->S (k+1) h'->S' (k+1) h'->IsPair h' s.heap.objs.size x y->h'.objs.size=s.heap.objs.size+1 ->
   (∀c o,c≠z->c≠tO->c≠i->c≠j->s.heap.get? c=some o->h'.get? c=some o)->Q (.ref s.heap.objs.size) { s with heap:=h' }) :
  wpAny (model P w) A (Builtin.«zip.__next__» ⟨[.ref z],[]⟩) (λfin s'=>∃v,fin=.done (.ret v)/\Q v s') E s:=by
 have off:∀{k:Nat}{u u':Heap}{c:Addr},S k u->Heap.ExtBut c u u'->i≠c->l≠c->S k u':=λst e n1 n2=>I.stay st λd o hd g=>e d o (nn hd n1 n2) g;have off':∀{k:Nat}{u u':Heap}{c:Addr},S' k u->Heap.ExtBut c u u'->j≠c->m≠c->S' k u':=λst e n1 n2=>J.stay st λd o hd g=>e d o (nn hd n1 n2) g;show wpAny _ _ (field (.ref z) 2 >>= _) _ _ _;refine wpAny_bind (wpAny_field hz rfl (x:=.bool false) rfl ?_);show wpAny _ _ (field (.ref z) 3 >>= _) _ _ _;refine wpAny_bind (wpAny_field hz rfl (x:=.ref ti) rfl (wpAny_bind (wpAny_seqItems hti rfl ?_)));show wpAny _ _ (Builtin.SmallTypes.ownedTupleIsFree (.ref z) >>= _) _ _ _;refine wpAny_bind ?_;unfold Builtin.SmallTypes.ownedTupleIsFree;refine wpAny_bind (wpAny_field hz rfl (x:=.none) rfl (wpAny_pure ?_));simp only[if_true];refine wpAny_bind (wpAny_rule (wpAny_bind (wpAny_field hz rfl (x:=.ref tO) rfl (wpAny_bind (wpAny_setField_rec hz (by simp) λu1 z1 e1=>wpAny_bind ?_)))));replace z1:IsZip u1 z ti tO .ellipsis:=z1;simp only[List.zipIdx_cons,List.zipIdx_nil,List.forIn_cons,List.forIn_nil];refine wpAny_bind (wpAny_bind (wpAny_onRaise ?_));show wpAny _ _ (Builtin.SmallTypes.nextOf (.ref i) >>= _) _ _ _;refine wpAny_bind (I.draw (off h1 e1.extBut D.i1z D.l1z) hx λu2 n2 e2=>wpAny_pure ?_);have p2:IsPair u2 tO a b:=e2.extBut _ _ D.TOi1 (e1.extBut _ _ D.TOz hto);refine wpAny_bind (wpAny_seqItems p2 rfl (wpAny_bind (wpAny_updateSeq_pair p2 λu3 p3 e3=>?_)));replace p3:IsPair u3 tO x b:=p3;refine wpAny_bind (wpAny_letGo (wpAny_pure (wpAny_bind (wpAny_bind (wpAny_onRaise ?_)))));show wpAny _ _ (Builtin.SmallTypes.nextOf (.ref j) >>= _) _ _ _;refine wpAny_bind (J.draw (off' (off' (off' h2 e1.extBut D.i2z D.l2z) e2.extBut D.i12.symm D.l2i1) e3.extBut D.TOi2.symm D.l2TO) hy λu4 n4 e4=>wpAny_pure ?_);have p4:IsPair u4 tO x b:=e4.extBut _ _ D.TOi2 p3;refine wpAny_bind (wpAny_seqItems p4 rfl (wpAny_bind (wpAny_updateSeq_pair p4 λu5 p5 e5=>?_)));replace p5:IsPair u5 tO x y:=p5;refine wpAny_bind (wpAny_letGo (wpAny_pure (wpAny_pure (wpAny_bind (wpAny_seqItems p5 rfl (wpAny_bind (wpAny_newTuple ?_)))))));have sz:u5.objs.size=s.heap.objs.size:=by rw[e5.1,e4.1,e3.1,e2.1,e1.1]
 have z5:IsZip u5 z ti tO .ellipsis:=e5.extBut _ _ D.TOz.symm (e4.extBut _ _ D.i2z.symm (e3.extBut _ _ D.TOz.symm (e2.extBut _ _ D.i1z.symm z1)));have kp:∀c o,c≠z->c≠tO->c≠i->c≠j->s.heap.get? c=some o->u5.get? c=some o:=λc o c1 c2 c3 c4 g=>e5.extBut _ _ c2 (e4.extBut _ _ c4 (e3.extBut _ _ c2 (e2.extBut _ _ c3 (e1.extBut _ _ c1 g))));have s5:S (k+1) u5:=off (off (off n2 e3.extBut D.TOi1.symm D.l1TO) e4.extBut D.i12 D.l1i2) e5.extBut D.TOi1.symm D.l1TO;have t5:S' (k+1) u5:=off' n4 e5.extBut D.TOi2.symm D.l2TO;have zl:z<u5.objs.size:=Heap.lt_size z5;show wpAny _ _ (Builtin.SmallTypes.ownedTupleHandOut (.ref z) (.ref u5.objs.size) >>= _) _ _ _;refine wpAny_bind ?_;unfold Builtin.SmallTypes.ownedTupleHandOut;have z6:IsZip (u5.push { cls:=.type "tuple",data:=.seq #[x,y] }) z ti tO .ellipsis:=Heap.get?_push_of_some _ z5;refine wpAny_bind (wpAny_setField_rec z6 (by simp) λu7 z7 e7=>?_);replace z7:IsZip u7 z ti tO (rawInt u5.objs.size):=z7;refine wpAny_setField_rec z7 (by simp) λu8 z8 e8=>?_;replace z8:IsZip u8 z ti tO (rawInt u5.objs.size):=z8;have up:∀c o,c≠z->u5.get? c=some o->u8.get? c=some o:=λc o c1 g=>e8.extBut _ _ c1 (e7.extBut _ _ c1 (Heap.get?_push_of_some _ g));have t8:IsPair u8 u5.objs.size x y:=e8.extBut _ _ (Nat.ne_of_gt zl) (e7.extBut _ _ (Nat.ne_of_gt zl) (Heap.get?_push_size _ rfl));have s8:u8.objs.size=u5.objs.size+1:=by rw[e8.1,e7.1,Heap.size_push]
 rw[sz]at z8 t8 s8;refine wpAny_pure ⟨_,rfl,?_⟩;show Q (.ref u5.objs.size) _;rw[sz];exact hq u8 z8 (up _ _ D.TOz p5) (I.stay s5 λc o hc g=>up c o (nn hc D.i1z D.l1z) g) (J.stay t5 λc o hc g=>up c o (nn hc D.i2z D.l2z) g) t8 s8 λc o c1 c2 c3 c4 g=>up c o c1 (kp c o c1 c2 c3 c4 g)
def zQ(D:ZipApart z ti tO i j l m)(I:vA P w i l xs S)(J:vA P w j m ys S'){Q:Fin->Shared->Prop}(hA:A.handled=none)
  (hz:IsZip s.heap z ti tO .none)(hti:IsPair s.heap ti (.ref i) (.ref j))(hto:IsPair s.heap tO a b)(h1:S k s.heap)(h2:S' k s.heap)(hend:xs[k]?=none∨ys[k]?=none)
  (hE:∀h' e,(∀c o,c≠z->c≠tO->c≠i->c≠j->s.heap.get? c=some o->h'.get? c=some o)->(∃o,h'.get? e=some o/\o.cls=.type "StopIteration")->E (.ref e) { s with heap:=h' }) :
  wpAny (model P w) A (Builtin.«zip.__next__» ⟨[.ref z],[]⟩) Q E s:=by
 have off:∀{k:Nat}{u u':Heap}{c:Addr},S k u->Heap.ExtBut c u u'->i≠c->l≠c->S k u':=λst e n1 n2=>I.stay st λd o hd g=>e d o (nn hd n1 n2) g;have off':∀{k:Nat}{u u':Heap}{c:Addr},S' k u->Heap.ExtBut c u u'->j≠c->m≠c->S' k u':=λst e n1 n2=>J.stay st λd o hd g=>e d o (nn hd n1 n2) g;show wpAny _ _ (field (.ref z) 2 >>= _) _ _ _;refine wpAny_bind (wpAny_field hz rfl (x:=.bool false) rfl ?_);show wpAny _ _ (field (.ref z) 3 >>= _) _ _ _;refine wpAny_bind (wpAny_field hz rfl (x:=.ref ti) rfl (wpAny_bind (wpAny_seqItems hti rfl ?_)));show wpAny _ _ (Builtin.SmallTypes.ownedTupleIsFree (.ref z) >>= _) _ _ _;refine wpAny_bind ?_;unfold Builtin.SmallTypes.ownedTupleIsFree;refine wpAny_bind (wpAny_field hz rfl (x:=.none) rfl (wpAny_pure ?_));simp only[if_true];refine wpAny_bind (wpAny_rule (wpAny_bind (wpAny_field hz rfl (x:=.ref tO) rfl (wpAny_bind (wpAny_setField_rec hz (by simp) λu1 z1 e1=>wpAny_bind ?_)))));replace z1:IsZip u1 z ti tO .ellipsis:=z1;simp only[List.zipIdx_cons,List.zipIdx_nil,List.forIn_cons,List.forIn_nil];refine wpAny_bind (wpAny_bind (wpAny_onRaise ?_));show wpAny _ _ (Builtin.SmallTypes.nextOf (.ref i) >>= _) _ _ _;cases hx:xs[k]? with
 |none=>
  refine wpAny_bind (I.over hA (off h1 e1.extBut D.i1z D.l1z) hx λu2 e e2 z9=>?_);obtain⟨oe,ge,ce⟩:=z9;have z2:IsZip u2 z ti tO .ellipsis:=e2 _ _ D.i1z.symm z1;have ne:e≠z:=λq=>by subst q;rw[z2]at ge;cases ge;simp at ce
  exact wpAny_setField_rec z2 (by simp) λu3 _ e3=>hE u3 e (λc o c1 _ c3 _ g=>e3.extBut _ _ c1 (e2 _ _ c3 (e1.extBut _ _ c1 g))) ⟨oe,e3.extBut _ _ ne ge,ce⟩
 |some x=>
  have hy:ys[k]?=none:=by rcases hend with q|q;rw[hx]at q;cases q;exact q
  refine wpAny_bind (I.draw (off h1 e1.extBut D.i1z D.l1z) hx λu2 n2 e2=>wpAny_pure ?_);have p2:IsPair u2 tO a b:=e2.extBut _ _ D.TOi1 (e1.extBut _ _ D.TOz hto);refine wpAny_bind (wpAny_seqItems p2 rfl (wpAny_bind (wpAny_updateSeq_pair p2 λu3 p3 e3=>?_)));refine wpAny_bind (wpAny_letGo (wpAny_pure (wpAny_bind (wpAny_bind (wpAny_onRaise ?_)))));show wpAny _ _ (Builtin.SmallTypes.nextOf (.ref j) >>= _) _ _ _;refine wpAny_bind (J.over hA (off' (off' (off' h2 e1.extBut D.i2z D.l2z) e2.extBut D.i12.symm D.l2i1) e3.extBut D.TOi2.symm D.l2TO) hy λu4 e e4 z9=>?_);obtain⟨oe,ge,ce⟩:=z9;have z4:IsZip u4 z ti tO .ellipsis:=e4 _ _ D.i2z.symm (e3.extBut _ _ D.TOz.symm (e2.extBut _ _ D.i1z.symm z1));have ne:e≠z:=λq=>by subst q;rw[z4]at ge;cases ge;simp at ce
  exact wpAny_setField_rec z4 (by simp) λu5 _ e5=>hE u5 e (λc o c1 c2 c3 c4 g=>e5.extBut _ _ c1 (e4 _ _ c4 (e3.extBut _ _ c2 (e2.extBut _ _ c3 (e1.extBut _ _ c1 g))))) ⟨oe,e5.extBut _ _ ne ge,ce⟩
def yY(D:ZipApart z ti tO i j l m)(I:vA P w i l xs S)(J:vA P w j m ys S'){Q:Option Value->Shared->Prop}
  (hz:IsZip s.heap z ti tO .none)(hti:IsPair s.heap ti (.ref i) (.ref j))(hto:IsPair s.heap tO a b)(h1:S k s.heap)(h2:S' k s.heap)(hx:xs[k]?=some x)(hy:ys[k]?=some y)
  (hq:∀h',IsZip h' z ti tO (rawInt s.heap.objs.size)->IsPair h' tO x y->S (k+1) h'->S' (k+1) h'->IsPair h' s.heap.objs.size x y->h'.objs.size=s.heap.objs.size+1 ->
   (∀c o,c≠z->c≠tO->c≠i->c≠j->s.heap.get? c=some o->h'.get? c=some o)->Q (some (.ref s.heap.objs.size)) { s with heap:=h' }):wpAny (model P w) A (pyNext (.ref z)) Q E s:=by
 have ty:s.TypeIs (.ref z) "zip":=⟨_,hz,rfl⟩
 unfold pyNext;exact wpAny_bind (wpAny_attempt (wpAny_callSpecial?_slot (name:=Str.ofString "__next__") ty F.slot_zip_next (wpAny_call_entry F.slot_zip_next ty F.entry_zip_next
  (zR D I J hz hti hto h1 h2 hx hy λh' b1 b2 b3 b4 b5 b6 b7=>wpAny_pure (hq h' b1 b2 b3 b4 b5 b6 b7)) (F.args_zip_next_1 _))))
def yX(D:ZipApart z ti tO i j l m)(I:vA P w i l xs S)(J:vA P w j m ys S'){Q:Option Value->Shared->Prop}(hA:A.handled=none)
  (hz:IsZip s.heap z ti tO .none)(hti:IsPair s.heap ti (.ref i) (.ref j))(hto:IsPair s.heap tO a b)(h1:S k s.heap)(h2:S' k s.heap)(hend:xs[k]?=none∨ys[k]?=none)
  (hq:∀h',(∀c o,c≠z->c≠tO->c≠i->c≠j->s.heap.get? c=some o->h'.get? c=some o)->Q none { s with heap:=h' }):wpAny (model P w) A (pyNext (.ref z)) Q E s:=by
 have ty:s.TypeIs (.ref z) "zip":=⟨_,hz,rfl⟩
 unfold pyNext;refine wpAny_bind (wpAny_attempt (wpAny_callSpecial?_slot (name:=Str.ofString "__next__") ty F.slot_zip_next (wpAny_call_entry F.slot_zip_next ty F.entry_zip_next (zQ D I J hA hz hti hto h1 h2 hend λh' e kp ⟨o,go,co⟩=>?_) (F.args_zip_next_1 _))));exact wpAny_bind (wpAny_isInstance (T:="StopIteration") (b:=true) ⟨o,go,co⟩ isSubtype_stop (wpAny_pure (hq _ kp)))
abbrev n1(h:Heap)(l:Addr):Heap:=h.push { cls:=.type "tuple_iterator",data:=.fields #[.ref l,.int 0 0] }
abbrev n2(h:Heap)(l m:Addr):Heap:=n1 (n1 h l) m
abbrev n3(h:Heap)(l m:Addr):Heap:=(n2 h l m).push { cls:=.type "tuple",data:=.seq #[.ref h.objs.size,.ref (n1 h l).objs.size] }
abbrev n4(h:Heap)(l m:Addr):Heap:=(n3 h l m).push { cls:=.type "tuple",data:=.seq #[.none,.none] }
abbrev n5(h:Heap)(l m:Addr):Heap:=(n4 h l m).push { cls:=.type "zip",data:=.fields #[.none,.bool false,.bool false,.ref (n2 h l m).objs.size,.ref (n3 h l m).objs.size] }
def Lx(l m:Addr)(xs ys:Array Value) :
  Meets (Builtin.«zip.__new__» ⟨[.type "zip",.ref l,.ref m],[]⟩) (λ_ R s=>s.heap.IsTuple l xs/\s.heap.IsTuple m ys/\R (.ok (.ret (.ref (n4 s.heap l m).objs.size))) { s with heap:=n5 s.heap l m }) :=
 .of_wp λprog w A R s h=>by
  obtain⟨hp,g,d,tk,os⟩:=s;obtain⟨t1,t2,h⟩:=h;have hsub:=sub_zip;have u1:Heap.IsTuple (Shared.heap ⟨hp,g,d,tk,os⟩) l xs:=t1;have u2:Heap.IsTuple (Shared.heap ⟨hp.push { cls:=.type "tuple_iterator",data:=.fields #[.ref l,.int 0 0] },g,d,tk,os⟩) m ys:=Heap.IsTuple.push t2 _
  wp_walk using wpAny_pyIter_tuple u1,wpAny_pyIter_tuple u2
  exact⟨_,rfl,h⟩
end
end Zt
namespace Zt
open PySem PySem.Spec PyProof.Rows L2 DL
section
variable {P:Program}{w:World}{A:Around}{E:Value->Shared->Prop}{s:Shared}
def call_tups{l m:Addr}{xs ys:Array Value}{Q:Value->Shared->Prop}(t1:s.heap.IsTuple l xs)(t2:s.heap.IsTuple m ys)
  (h:∀h',IsZip h' (s.heap.objs.size+4) (s.heap.objs.size+2) (s.heap.objs.size+3) .none->IsPair h' (s.heap.objs.size+2) (.ref s.heap.objs.size) (.ref (s.heap.objs.size+1)) ->
   IsPair h' (s.heap.objs.size+3) .none .none->h'.IsTupleIter s.heap.objs.size l 0->h'.IsTupleIter (s.heap.objs.size+1) m 0->(∀c o,s.heap.get? c=some o->h'.get? c=some o)->Q (.ref (s.heap.objs.size+4)) { s with heap:=h' }) :
  wpAny (model P w) A (call (.type "zip") [.ref l,.ref m]) Q E s:=by
 refine callType_new F.called_zip (by decide) (F.typeCall_zip_2 _ _) (F.newCall_zip_2 _ _) (λobj=>F.args_object_init_3 obj _ _) F.entry_zip_new (Lx l m xs ys) ⟨t1,t2,?_⟩;have y1:(n1 s.heap l).objs.size=s.heap.objs.size+1:=Heap.size_push ..;have y2:(n2 s.heap l m).objs.size=s.heap.objs.size+2:=by rw[Heap.size_push,y1]
 have y3:(n3 s.heap l m).objs.size=s.heap.objs.size+3:=by rw[Heap.size_push,y2]
 have y4:(n4 s.heap l m).objs.size=s.heap.objs.size+4:=by rw[Heap.size_push,y3]
 have b5:(n5 s.heap l m).get? (n4 s.heap l m).objs.size=some _:=Heap.get?_push_size _ rfl;have b4:(n5 s.heap l m).get? (n3 s.heap l m).objs.size=some _:=Heap.get?_push_of_some _ (Heap.get?_push_size _ rfl);have b3:(n5 s.heap l m).get? (n2 s.heap l m).objs.size=some _:=Heap.get?_push_of_some _ (Heap.get?_push_of_some _ (Heap.get?_push_size _ rfl));have b2:(n5 s.heap l m).get? (n1 s.heap l).objs.size=some _:=Heap.get?_push_of_some _ (Heap.get?_push_of_some _ (Heap.get?_push_of_some _ (Heap.get?_push_size _ rfl)));have b1:(n5 s.heap l m).get? s.heap.objs.size=some _:=Heap.get?_push_of_some _ (Heap.get?_push_of_some _ (Heap.get?_push_of_some _ (Heap.get?_push_of_some _ (Heap.get?_push_size _ rfl))));show _/\_;rw[y2,y3,y4]at b5;rw[y1,y2]at b3;rw[y3]at b4;rw[y1]at b2;rw[y4];exact⟨⟨_,b5,rfl⟩,h _ b5 b3 b4 ⟨_,b1,rfl,rfl⟩ ⟨_,b2,rfl,rfl⟩ λc o g=>Heap.get?_push_of_some _ (Heap.get?_push_of_some _ (Heap.get?_push_of_some _ (Heap.get?_push_of_some _ (Heap.get?_push_of_some _ g))))⟩
end
noncomputable def ItzT(K:W.Frag) (a b:Addr):It :=
 ⟨λi H=>∃xs ys x y,fS K H a xs/\fS K H b ys/\xs[i]?=some x/\ys[i]?=some y,λi H x H'=>∃p y z,H p=none/\x=.ref p/\(∀xs,fS K H a xs->xs[i]?=some y)/\(∀xs,fS K H b xs->xs[i]?=some z)/\H'=upd H p (.tup [y,z]),
  λi H=>∃xs ys,fS K H a xs/\fS K H b ys/\min xs.length ys.length<=i⟩
def xm{X:Cx}{pins:List (Addr×Obj)}{σ:L2.St}{H:Hp}{s:Shared}{a:Addr}{xs ys:ad}(I:Inv X pins σ H s)(h:fS X.K H a xs)(h':fS X.K H a ys):xs=ys:=by
 obtain⟨its,r,p,_⟩:=I.tuple h;obtain⟨jts,r',p',_⟩:=I.tuple h';obtain⟨o,g,_,n,d⟩:=p;obtain⟨o',g',_,n',d'⟩:=p';rw[g]at g';cases g';rw[d]at d';cases d';exact r.inj r'
def turn_zipT{P:Program}{w:World}{K:W.Frag}{elts:List Expr}{k:Nat}{pos:Pos}(z TI TO i1 i2 a b:Addr)(D:ZipApart z TI TO i1 i2 a b) :
  qz P w K (.Tuple elts k pos) (ItzT K a b) [z,TI,TO,i1,i2] z (λi h=>IsZip h z TI TO .none/\IsPair h TI (.ref i1) (.ref i2)/\(∃a b,IsPair h TO a b)/\h.IsTupleIter i1 a i/\h.IsTupleIter i2 b i) where
 mem:=by simp
 obj:=λi h st b hb=>by
  obtain⟨hz,hTI,⟨a',b',hTO⟩,⟨o1,e1,c1,d1⟩,⟨o2,e2,c2,d2⟩⟩:=st;simp only[List.mem_cons,List.not_mem_nil,or_false]at hb;rcases hb with rfl|rfl|rfl|rfl|rfl
  .exact⟨_,hz,λv z=>by cases z⟩
  .exact⟨_,hTI,λv z=>by cases z⟩
  .exact⟨_,hTO,λv z=>by cases z⟩
  .exact⟨_,e1,λv z=>by rw[d1]at z;cases z⟩
  .exact⟨_,e2,λv z=>by rw[d2]at z;cases z⟩
 keep:=λi h h' st k=>by
  obtain⟨hz,hTI,⟨a',b',hTO⟩,h1,h2⟩:=st;exact⟨k z (by simp) _ hz,k TI (by simp) _ hTI,⟨a',b',k TO (by simp) _ hTO⟩,h1.at λo y=>k i1 (by simp) o y,h2.at λo y=>k i2 (by simp) o y⟩
 item:=by
  intro X hP hw hK hc i pins s σ H E I hf st hg;subst hP hw hK;obtain⟨xs,ys,x,y,hqx,hqy,hx,hy⟩:=hg;obtain⟨its,rv,p,hz⟩:=I.tuple hqx;obtain⟨jts,rw_,p',hz'⟩:=I.tuple hqy;obtain⟨u,hu,ru⟩:=rv.get hx;obtain⟨u',hu',ru'⟩:=rw_.get hy;have st0:=st;obtain⟨hZ,hTI,⟨a',b',hTO⟩,h1,h2⟩:=st;refine yY D (nE i1 a its.toArray) (nE i2 b jts.toArray) hZ hTI hTO (k:=i) (x:=u) (y:=u') ⟨h1,p⟩ ⟨h2,p'⟩ (by simpa using hu) (by simpa using hu') λh' q1 q2 q3 q4 q5 q6 q7=>?_;refine⟨_,rfl,wpAny_letOwnedTupleGo_zip q1 λh'' r1 r2=>?_⟩;have lt:s.heap.objs.size≠z:=Nat.ne_of_gt (Heap.lt_size hZ);have kp:∀c o,c∉[z,TI,TO,i1,i2]->s.heap.get? c=some o->h''.get? c=some o:=λc o hc g=>r2.extBut _ _ (λq=>hc (by simp[q])) (q7 c o (λq=>hc (by simp[q])) (λq=>hc (by simp[q])) (λq=>hc (by simp[q])) (λq=>hc (by simp[q])) g);have hT:IsPair h'' s.heap.objs.size u u':=r2.extBut _ _ lt q5;have fr:H s.heap.objs.size=none:=I.hok.fresh (Nat.le_refl _);refine⟨.ref s.heap.objs.size,upd H s.heap.objs.size (.tup [x,y]),jU (s:=s) (h':=h'') (t':=s.toks) I kp hf (Nat.le_refl _) ⟨by show 2<=sizeLine;decide,[u,u'],.cons ru (.cons ru' .nil),_,hT,rfl,_,rfl⟩,rfl,⟨_,x,y,fr,rfl,λws hw=>?_,λws hw=>?_,rfl⟩,⟨r1,?_,?_,?_,?_⟩,λc hc=>?_⟩
  .rw[xm I hw hqx];exact hx
  .rw[xm I hw hqy];exact hy
  .exact r2.extBut _ _ D.TIz (q7 _ _ D.TIz D.TITO D.TIi1 D.TIi2 hTI)
  .exact⟨_,_,r2.extBut _ _ D.TOz q2⟩
  .exact q3.1.extBut r2.extBut D.i1z
  .exact q4.1.extBut r2.extBut D.i2z
  .have c0:=(hf c hc).1
   obtain⟨ob,hob⟩:∃o,s.heap.get? c=some o:=by
    obtain⟨hz,hTI,⟨a',b',hTO⟩,⟨o1,e1,c1,d1⟩,⟨o2,e2,c2,d2⟩⟩:=st0;simp only[List.mem_cons,List.not_mem_nil,or_false]at hc;rcases hc with rfl|rfl|rfl|rfl|rfl
    .exact⟨_,hz⟩
    .exact⟨_,hTI⟩
    .exact⟨_,hTO⟩
    .exact⟨_,e1⟩
    .exact⟨_,e2⟩
   rw[aC (Nat.ne_of_lt (Heap.lt_size hob))];exact c0
 done:=by
  intro X hP hw hK hc i pins s σ H E I hf st hg;subst hP hw hK;obtain⟨xs,ys,hqx,hqy,hx⟩:=hg;obtain⟨its,rv,p,hz⟩:=I.tuple hqx;obtain⟨jts,rw_,p',hz'⟩:=I.tuple hqy;have hl:=rv.length;have hl':=rw_.length;obtain⟨hZ,hTI,⟨a',b',hTO⟩,h1,h2⟩:=st;refine yX D (nE i1 a its.toArray) (nE i2 b jts.toArray) (I.ok.hd hc) hZ hTI hTO (k:=i) ⟨h1,p⟩ ⟨h2,p'⟩ ?_ λh' hk=>⟨rfl,nA (t':=s.toks) I (λc o hb e=>hk c o (λx=>hb (by simp[x])) (λx=>hb (by simp[x])) (λx=>hb (by simp[x])) (λx=>hb (by simp[x])) e) hf⟩
  by_cases hle:xs.length<=ys.length
  .left;simp;omega
  .right;simp;omega
 self:=λ_ _ _ _ _ st h=>by
  obtain⟨hz,_⟩:=st;exact wpAny_pyIter_zip hz h
end Zt
namespace DL
open PySem PySem.Spec PyProof.Rows L2
section
variable {X:Cx}{E:XK}{elts:List Expr}{k:Nat}{tp:Pos}{e a b:Expr}{f g:al}
def JX(K:W.Frag)(ta:TA):TI:=λσ H R=>ta σ H λvs H1=>∃a b,vs=[.ref a,.ref b]/\(((∃xs,dF K H1 a xs)/\(∃xs,dF K H1 b xs)/\R (Mg K a b) H1)∨((∃xs,fS K H1 a xs)/\(∃xs,fS K H1 b xs)/\R (Zt.ItzT K a b) H1))
def Dh{ta:TA}{p pos:Pos}(hg:Gl X "zip")(hm:X.mg "zip"=none)(ha:PA X [a,b] ta)(hs:starEach [a,b] X.env=[(false,eval a X.env),(false,eval b X.env)]:=by rfl)(hs2:starEach [b] X.env=[(false,eval b X.env)]:=by rfl) :
  PI X (.Tuple elts k tp) (.Call (.Name "zip" p) [a,b] [] pos) (JX X.K ta):=by
 intro pins s σ H R I h;refine Call_ (jE I hg hm PyProof.Rows.Boot.«zip» (PyProof.Rows.callWith_type1 (cR (ha pos pins s σ H _ I h) λus s1 ⟨vs,H1,I1,r1,q1⟩=>?_) (by rw[hs,hs2]) (by rw[hs2];rfl)));obtain⟨l,l',e,q⟩:=q1;subst e;cases r1 with
 |cons r rr=>
  cases rr with
  |cons r' rr=>
   cases rr;cases r;cases r';rcases q with⟨⟨xs,hq⟩,⟨ys,hq'⟩,q⟩|⟨⟨xs,hq⟩,⟨ys,hq'⟩,q⟩
   .obtain⟨its,rv,p,hz⟩:=I1.list hq
    obtain⟨jts,rv',p',hz'⟩:=I1.list hq';have hlt:l<s1.heap.objs.size:=by obtain⟨o,n,e,_⟩:=p;exact Heap.lt_size e
    have hlt':l' < s1.heap.objs.size:=by obtain⟨o,n,e,_⟩:=p';exact Heap.lt_size e
    refine call_zip_2 p.isList p'.isList λh' hz hTI hTO hi1 hi2 hsz hk=>?_;refine wpAny_pyIter_zip hz ?_;refine⟨s1.heap.objs.size+4,[s1.heap.objs.size+4,s1.heap.objs.size+2,s1.heap.objs.size+3,s1.heap.objs.size,s1.heap.objs.size+1],_,_,H1,rfl,I1.kept (t':=s1.toks) hk,Ac _ _ _ _ _ l l' (zipApart_new hlt hlt'),⟨hz,hTI,⟨_,_,hTO⟩,hi1,hi2⟩,λb hb=>?_,q⟩;have hb':s1.heap.objs.size<=b:=by
     simp only[List.mem_cons,List.not_mem_nil,or_false]at hb;rcases hb with rfl|rfl|rfl|rfl|rfl<;>omega
    exact I1.fpOk hb' (I1.hok.fresh hb')
   .obtain⟨its,rv,p,hz⟩:=I1.tuple hq
    obtain⟨jts,rv',p',hz'⟩:=I1.tuple hq';refine Zt.call_tups p p' λh' hz hTI hTO hi1 hi2 hk=>?_;refine wpAny_pyIter_zip hz ?_;refine⟨s1.heap.objs.size+4,[s1.heap.objs.size+4,s1.heap.objs.size+2,s1.heap.objs.size+3,s1.heap.objs.size,s1.heap.objs.size+1],_,_,H1,rfl,I1.kept (t':=s1.toks) hk,Zt.turn_zipT _ _ _ _ _ l l' (zipApart_new p.lt p'.lt),⟨hz,hTI,⟨_,_,hTO⟩,hi1,hi2⟩,λb hb=>?_,q⟩;have hb':s1.heap.objs.size<=b:=by
     simp only[List.mem_cons,List.not_mem_nil,or_false]at hb;rcases hb with rfl|rfl|rfl|rfl|rfl<;>omega
    exact I1.fpOk hb' (I1.hok.fresh hb')
def mG(f g:al):Ev->ax (ac):=λρ=>(f ρ).bind λd=>(g ρ).bind λe=>match d,e with
 |.lst ds,.lst es=>.ok (cZ ds es)
 |.tup ds,.tup es=>.ok (cZ ds es)
 |_,_=>.stuck
def EH{p pos:Pos}(hg:Gl X "zip")(hm:X.mg "zip"=none)(h:DE X E a f)(h':DE X E b g)(hn:Fs a=true:=by exact rfl)(hn':Fs b=true:=by exact rfl):DI X E (.Tuple elts k tp) (.Call (.Name "zip" p) [a,b] [] pos) (mG f g):=by
 refine⟨k6 (Dh hg hm (cQ h.o (cQ h'.o fI (eP hn')) (aY hn)) (by rw[aY hn,eP hn']) (eP hn')) λσ H R z9=>?_⟩;obtain⟨Ha,ρ,hs,hr,q⟩:=z9;refine⟨Ha,ρ,hs,hr,?_⟩;unfold mG at q;cases e1:f ρ with
 |stuck|exn x=>rw[e1]at q;exact q
 |ok d=>
  rw[e1]at q;intro v H1 H01 g1 r1;refine⟨H01,ρ,g1.sub,hr.mono g1.z,?_⟩;replace q:match ((g ρ).bind λe=>match d,e with
   |.lst ds,.lst es=>ax.ok (cZ ds es)
   |.tup ds,.tup es=>ax.ok (cZ ds es)
   |_,_=>.stuck) with
    |.ok ds=>∀J H' Ha',aW H Ha H' Ha'->Fc X.K ds J Ha'->R J H'
    |.exn x=>∀C ox H' Ha',aW H Ha H' Ha'->rE X.K Ha' x C ox->E C ox H'
    |.stuck=>False:=q
  cases e2:g ρ with
  |stuck=>rw[e2]at q;exact q|exn x=>rw[e2]at q;exact λC ox H' Ha' g2=>q C ox H' Ha' (g1.trans g2)
  |ok d2=>
   rw[e2]at q;intro v2 H2 H02 g2 r2;cases d with
   |lst ds=>
    cases d2 with
    |lst es=>
     obtain⟨l,vs,rfl,hv,hrv⟩:=aB.mp (r1.mono g2.z);obtain⟨l',vs',rfl,hv',hrv'⟩:=aB.mp r2;refine⟨l,l',rfl,.inl ⟨⟨vs,aF.sqL g2.sub hv⟩,⟨vs',aF.sqL g2.sub hv'⟩,q _ H2 H02 (g1.trans g2) ⟨λi H' Ha' s1 s2 hi=>?_,λi H' Ha' x H2 d s1 s2 hd hy=>?_,λi H' Ha' s1 s2 hi=>?_⟩⟩⟩
     .rw[gh]at hi
      have h1:=hrv.length;have h2:=hrv'.length;exact⟨vs,vs',vs[i]'(by omega),vs'[i]'(by omega),aF.sqL (s1.trans s2) hv,aF.sqL (s1.trans s2) hv',by simp,by simp⟩
     .obtain⟨p,y,z,hp,rfl,hy,hz,rfl⟩:=hy
      obtain⟨d1,d2,k1,k2,rfl⟩:=kD _ _ _ _ hd;obtain⟨u,m1,m2⟩:=hrv.get k1;obtain⟨u',m1',m2'⟩:=hrv'.get k2;have:=hy vs (aF.sqL (s1.trans s2) hv);rw[m1]at this;cases this;have:=hz vs' (aF.sqL (s1.trans s2) hv');rw[m1']at this;cases this;exact rJ s2 hp (Reps.cons (m2.mono s1) (Reps.cons (m2'.mono s1) Reps.nil))
     .rw[gh]at hi
      have h1:=hrv.length;have h2:=hrv'.length;exact⟨vs,vs',aF.sqL (s1.trans s2) hv,aF.sqL (s1.trans s2) hv',by omega⟩
    |_=>exact q.elim
   |tup ds=>
    cases d2 with
    |tup es=>
     obtain⟨l,vs,rfl,hv,hrv⟩:=aH.mp (r1.mono g2.z);obtain⟨l',vs',rfl,hv',hrv'⟩:=aH.mp r2;refine⟨l,l',rfl,.inr ⟨⟨vs,aF.sqT g2.sub hv⟩,⟨vs',aF.sqT g2.sub hv'⟩,q _ H2 H02 (g1.trans g2) ⟨λi H' Ha' s1 s2 hi=>?_,λi H' Ha' x H2 d s1 s2 hd hy=>?_,λi H' Ha' s1 s2 hi=>?_⟩⟩⟩
     .rw[gh]at hi
      have h1:=hrv.length;have h2:=hrv'.length;exact⟨vs,vs',vs[i]'(by omega),vs'[i]'(by omega),aF.sqT (s1.trans s2) hv,aF.sqT (s1.trans s2) hv',by simp,by simp⟩
     .obtain⟨p,y,z,hp,rfl,hy,hz,rfl⟩:=hy
      obtain⟨d1,d2,k1,k2,rfl⟩:=kD _ _ _ _ hd;obtain⟨u,m1,m2⟩:=hrv.get k1;obtain⟨u',m1',m2'⟩:=hrv'.get k2;have:=hy vs (aF.sqT (s1.trans s2) hv);rw[m1]at this;cases this;have:=hz vs' (aF.sqT (s1.trans s2) hv');rw[m1']at this;cases this;exact rJ s2 hp (Reps.cons (m2.mono s1) (Reps.cons (m2'.mono s1) Reps.nil))
     .rw[gh]at hi
      have h1:=hrv.length;have h2:=hrv'.length;exact⟨vs,vs',aF.sqT (s1.trans s2) hv,aF.sqT (s1.trans s2) hv',by omega⟩
    |_=>exact q.elim
   |_=>exact q.elim
end
end DL
namespace Zt
open PySem PySem.Spec PyProof.Rows
section
variable {P:Program}{w:World}{A:Around}{E:Value->Shared->Prop}{s:Shared}{z ti tO i j l m T:Addr}{k:Nat}{xs ys:Array Value}{S S':Nat->Heap->Prop}{x y a b:Value}{f:Bool}{oT:Obj}
abbrev lst(acc:Array Value)(c:Nat):Obj:={ cls:=.type "list",dict:=none,data:=.seq acc c,slots:=#[] }
end
end Zt
namespace DL
open PySem PySem.Spec PyProof.Rows L2
def rG:ac->ac->ac
 |x::xs,y::ys=>.tup [x,y]::rG xs ys
 |_,_=>[]
theorem nS:∀(xs ys:ac),(rG xs ys).length=min xs.length ys.length
 |[],_=>by simp[rG]
 |x::xs,[]=>by simp[rG]
 |x::xs,y::ys=>by simp[rG,nS xs ys]
theorem nT:∀{xs ys:ac}{c:Nat}{x y:D},xs[c]?=some x->ys[c]?=some y->(rG xs ys)[c]?=some (.tup [x,y])
 |[],_,_,_,_,h,_=>by simp at h
 |x::xs,[],_,_,_,_,h=>by simp at h
 |x::xs,y::ys,0,_,_,h,h'=>by simp at h h';subst h h';simp[rG]
 |x::xs,y::ys,c+1,_,_,h,h'=>by simp at h h';simp[rG];exact nT h h'
section
variable {X:Cx}{E:XK}{a b e:Expr}{f g:al}
theorem gf:∀{vs:ad}{us:List Value},vs.length=us.length->(∀(i:Nat) (v:V) (u:Value),vs[i]?=some v->us[i]?=some u->bq v u)->bo vs us
 |[],[],_,_=>.nil
 |v::vs,u::us,hl,h=>.cons (h 0 v u rfl rfl) (gf (by simpa using hl) λi v' u' e1 e2=>h (i+1) v' u' e1 e2)
theorem ju{α β:Type}{F:α->β->Prop}:∀{lb:List α}{lc:List β}{i:Nat}{a:α}{b:β},Paired F lb lc->lb[i]?=some a->lc[i]?=some b->F a b
 |_,_,_,_,_,.nil,h,_=>by simp at h
 |_,_,0,_,_,.cons r _,h,h'=>by simp at h h';subst h h';exact r
 |_,_,i+1,_,_,.cons _ t,h,h'=>ju t (by simpa using h) (by simpa using h')
def iS(x:D):ax D:=match x with
 |.dic ks ds=>.ok (.lst (ks.map D.str))
 |.ob (.dint ks) ds=>.ok (.lst (ks.map D.int))
 |_=>.stuck
def jM(hc:X.calm=true):gT X (.type "list") (λxs H Q=>∃p kvs,xs=[.ref p]/\Rd H p (.dK kvs)/\∀l,H l=none->Q (.ref l) (upd H l (.lst (kvs.map λkv=>kV kv.1)))):=by
 intro pins s σ H xs us Q I r h;obtain⟨p,kvs,rfl,hq,q⟩:=h;obtain⟨u,rfl,rx⟩:=mE r;cases rx;obtain⟨hz,ns,vs,kv,dd⟩:=hq.ok I.hok;obtain⟨o,es,ep,d1,d2,d3,d4⟩:=dd;have da:s.heap.DictAt (ck X.prog X.w) p vs ep:=⟨o,es,d1,d2,d3,d4⟩
 have hl:vs.length=kvs.length:=(Paired.length kv).symm;refine W.kdl_call (W.kdl_dict ns) (I.ok.hd hc) da (by rw[hl];exact hz) λh' tk acc c kp e it=>?_;refine⟨.ref s.heap.objs.size,_,I.laid (t':=tk) kp (Nat.le_refl _) (show bJ X.prog X.w _ h' _ (.lst (kvs.map λkv=>kV kv.1)) from⟨by rw[List.length_map];exact hz,acc.toList,c,?_,e⟩),rfl,q _ (I.hok.fresh (Nat.le_refl _))⟩;refine gf (by rw[List.length_map,show acc.toList.length=vs.length from by rw[Array.length_toList];exact it.1,hl]) λi v u e1 e2=>?_;obtain⟨k,x,ek,isk⟩:=it.2 i u (by rw[←Array.getElem?_toList];exact e2);rw[List.getElem?_map]at e1;cases e3:kvs[i]? with
 |none=>rw[e3]at e1;cases e1
 |some kw=>
  rw[e3]at e1;cases e1;have:=(ju kv e3 ek).1;simp only at this;show bq (kV kw.1) u;rw[this];rcases cj isk with⟨j,t,rfl,rfl⟩|⟨y,t,rfl,rfl⟩
  .exact⟨t,rfl⟩
  .exact⟨t,rfl⟩
def vg:iG X E (λxs H Q=>∃p kvs,xs=[.ref p]/\Rd H p (.dK kvs)/\∀l,H l=none->Q (.ref l) (upd H l (.lst (kvs.map λkv=>kV kv.1)))) (m1 iS):=by
 intro ds vs H Ha Q hs rp q;cases ds with
 |nil=>exact q.elim
 |cons d ds=>
  cases ds with
  |cons _ _=>exact q.elim
  |nil=>
   obtain⟨v,r,rfl,r1,r2⟩:=aD.mp rp;rw[Reps.nil_iff.mp r2];have q:post X.K E H Ha (iS d) Q:=q;unfold iS at q;cases d with
   |dic ks es=>
    rw[Rep]at r1;obtain⟨p,kvs,vs,rfl,h1,rfl,hl,h4⟩:=r1;refine⟨p,_,rfl,aF.rd hs h1,λl hl'=>q _ _ _ (aO hs hl') (aB.mpr ⟨l,_,rfl,dF.of aG,?_⟩)⟩;rw[show(((ks.map Sum.inr).zip vs).map λkv:cq×V=>kV kv.1)=ks.map V.str from by
     rw[show(λkv:cq×V=>kV kv.1)=kV∘Prod.fst from rfl,←List.map_map,List.map_fst_zip (by simp;omega),List.map_map];rfl]
    exact rN (by simp) λi d v e1 e2=>by
     rw[List.getElem?_map]at e1 e2;cases e3:ks[i]? with|none=>rw[e3]at e1;cases e1|some k=>rw[e3]at e1 e2;cases e1;cases e2;exact Rep.str_iff.mpr rfl
   |ob k es=>
    cases k with
    |dint ks=>
     obtain⟨p,vs,rfl,⟨kvs,h1,rfl,hl⟩,h4⟩:=bL.mp r1;refine⟨p,_,rfl,aF.rd hs h1,λl hl'=>q _ _ _ (aO hs hl') (aB.mpr ⟨l,_,rfl,dF.of aG,?_⟩)⟩;rw[show(((ks.map Sum.inl).zip vs).map λkv:cq×V=>kV kv.1)=ks.map V.int from by
      rw[show(λkv:cq×V=>kV kv.1)=kV∘Prod.fst from rfl,←List.map_map,List.map_fst_zip (by simp;omega),List.map_map];rfl]
     exact mz ks
    |_=>exact q.elim
   |_=>exact q.elim
end
section
variable {prog:Program}{w:World}{A:Around}{E:Value->Shared->Prop}{s:Shared}
def vo{sl:Addr}{t:Tok}{n:Nat}{Q:Int×Int×Nat->Shared->Prop}(hs:s.heap.IsSliceOf sl .none .none (.int (-1) t))(h:Q ((n:Int)-1,-1,n) s):wpAny (model prog w) A (Builtin.Slice.sliceApplied (.ref sl) (pure (n:Int))) Q E s:=by
 obtain⟨os,hos,hcs,hds⟩:=id hs;unfold Builtin.Slice.sliceApplied Builtin.Slice.sliceFields;refine wpAny_bind (wpAny_bind (wpAny_field hos hds (x:=.none) rfl (wpAny_bind (wpAny_field hos hds (x:=.none) rfl (wpAny_bind (wpAny_field hos hds (x:=.int (-1) t) rfl (wpAny_pure ?_)))))));refine wpAny_bind (HT.slicePart_ (.int (-1) t) ?_);show wpAny _ _ (if((-1:Int)==0)=true then _ else _) _ _ s;rw[if_neg (by decide)];refine wpAny_bind (HT.slicePart_ .none (wpAny_bind (HT.slicePart_ .none (wpAny_bind (wpAny_pure ?_)))));show wpAny _ _ (match Builtin.Slice.sliceAdjust none none (-1) (n:Int) with|(lo,hi)=>pure (lo,(-1:Int),Builtin.Slice.slicePlaces lo hi (-1))) _ _ s;have e1:Builtin.Slice.sliceAdjust none none (-1) (n:Int)=((n:Int)-1,-1):=by
  unfold Builtin.Slice.sliceAdjust;simp
 rw[e1];show wpAny _ _ (pure ((n:Int)-1,(-1:Int),Builtin.Slice.slicePlaces ((n:Int)-1) (-1) (-1))) _ _ s;have e2:Builtin.Slice.slicePlaces ((n:Int)-1) (-1) (-1)=n:=by
  unfold Builtin.Slice.slicePlaces;simp only[show ¬((-1:Int) > 0) by decide,if_false];rw[show(- -1:Int)=1 from rfl,Int.ediv_one];split<;>omega
 rw[e2];exact wpAny_pure h
def yO(its:List Value):((List.range its.length).filterMap λ(k:Nat)=>its.toArray[((its.length:Int)-1+(k:Int)*(-1)).toNat]?).toArray=its.reverse.toArray:=by
 congr 1
 have hall:∀k∈List.range its.length,its.toArray[((its.length:Int)-1+(k:Int)*(-1)).toNat]?=its.reverse[k]?:=λk hk=>by
  have hk:=List.mem_range.mp hk;rw[List.getElem?_reverse hk,show((its.length:Int)-1+(k:Int)*(-1)).toNat=its.length-1-k by omega];simp
 rw[oV hall];have hh:=List.length_reverse (as:=its);generalize its.reverse=r at hh ⊢;rw[←hh];clear hh hall
 induction r with
 |nil=>rfl
 |cons a r ih=>
  rw[List.length_cons,List.range_succ_eq_map,List.filterMap_cons];simp only[List.getElem?_cons_zero,List.filterMap_map]
  congr 1
def ql{a sl:Addr}{its:List Value}{t:Tok}{Q:Value->Shared->Prop}(ht:IsTup s.heap a its.toArray)(hs:s.heap.IsSliceOf sl .none .none (.int (-1) t))(hsz:its.length<=sizeLine)
  (h:Q (.ref s.heap.objs.size) { s with heap:=s.heap.push { cls:=.type "tuple",data:=.seq its.reverse.toArray } }):wpAny (model prog w) A (getItem (.ref a) (.ref sl)) Q E s:=by
 obtain⟨os,hos,hcs,hds⟩:=id hs;have hTs:s.TypeIs (.ref sl) "slice":=⟨os,hos,hcs⟩
 have htake:sizeOk (.seq its.reverse.toArray):=by
  show its.reverse.toArray.size<=sizeLine;rw[List.size_toArray,List.length_reverse];exact hsz
 unfold getItem
 try with_reducible refine wpAny_holding ?_
 first|refine wpAny_bind (wpAny_pure ?_)|skip
 refine wpAny_bind (wpAny_sequenceKey ht.typeIs (by decide) ?_);refine wpAny_bind (wpAny_callSpecial?_slot (name:=Str.ofString "__getitem__") ht.typeIs PyProof.Rows.slot_tuple_getitem
  (wpAny_call_entry PyProof.Rows.slot_tuple_getitem ht.typeIs entry_tuple_getitem ?_ (args_tuple_getitem _ _)))
 show wpAny _ _ (Builtin.Tuple.tupleItemsOf (.ref a) >>= _) _ _ s;refine wpAny_bind (tupleItemsOf_ ht ?_);refine wpAny_bind (wpAny_typeOf hTs ?_);rw[if_pos (by decide)];refine wpAny_bind (vo (n:=its.toArray.size) hs ?_);have hno:¬((((its.toArray.size:Int)-1)==0&&(-1:Int)==1&&its.toArray.size==its.toArray.size)=true):=by
  intro q;rw[Bool.and_eq_true,Bool.and_eq_true]at q;exact absurd q.1.2 (by decide)
 show wpAny _ _ (if((((its.toArray.size:Int)-1)==0&&(-1:Int)==1&&its.toArray.size==its.toArray.size)=true) then _ else _) _ _ s;rw[if_neg hno,List.size_toArray,yO]
 first
  |exact wpAny_bind (m:=Builtin.Tuple.tupleExact _) (wpAny_newObj_type (wpAny_pure ⟨_,rfl,wpAny_pure h⟩) htake)
  |exact wpAny_bind (m:=Builtin.Tuple.tupleExact _) (wpAny_newObj_type (wpAny_bind (wpAny_pure (wpAny_pure ⟨_,rfl,wpAny_pure h⟩))) htake)
  |exact wpAny_bind (wpAny_bind (m:=Builtin.Tuple.tupleExact _) (wpAny_newObj_type (wpAny_pure (wpAny_pure ⟨_,rfl,wpAny_pure h⟩)) htake))
  |exact wpAny_bind (wpAny_bind (m:=Builtin.Tuple.tupleExact _) (wpAny_newObj_type (wpAny_pure ⟨_,rfl,wpAny_pure h⟩) htake))
end
def pw(x:D):ax D:=match x with
 |.tup ds=>.ok (.tup ds.reverse)
 |_=>.stuck
section
variable {X:Cx}{E:XK}{e a st:Expr}{f:al}{te:TE}{pos p2:Pos}
def IS(K:W.Frag)(te:TE):TE:=λσ H Q=>te σ H λx H1=>∃a xs,x=.ref a/\fS K H1 a xs/\∀p,H1 p=none->Q (.ref p) (upd H1 p (.tup xs.reverse))
def Dm(he:PE X e te)(hst:∀(pins:List (Addr×Obj)) (s:Shared) (σ:L2.St) (H:Hp) (Q:VK),Inv X pins σ H s->Q (.int (-1)) H->wpAny (model X.prog X.w) X.A (eval st X.env) (EP X pins σ Q) X.xe s):PE X (.Subscript e (.Slice none none (some st) p2) pos) (IS X.K te):=by
 intro pins s σ H Q I h;refine Subscript_ (cR (he pins s σ H _ I h) λv s1 ⟨x,H1,I1,r1,a,xs,ex,hx,q⟩=>?_);subst ex;cases r1;refine wpAny_Slice (wpAny_evalPart_none (wpAny_evalPart_none ?_));show wpAny _ _ (eval st X.env) _ _ _;refine cR (hst pins s1 σ H1 (λv H2=>v=.int (-1)/\H2=H1) I1 ⟨rfl,rfl⟩) λvs s3 ⟨u,H3,I3,pu,eu,eh⟩=>?_;subst eu eh;obtain⟨t,rfl⟩:=pu;have I4:Inv X pins σ H3 { s3 with heap:=s3.heap.push { cls:=.type "slice",data:=.fields #[.none,.none,.int (-1) t] } }:=I3.kept (t':=s3.toks) λb ob q=>Heap.get?_push_of_some _ q;obtain⟨its,r,ht,hz⟩:=I4.tuple hx;have hg:wpAny (model X.prog X.w) X.A (getItem (.ref a) (.ref s3.heap.objs.size)) (EP X pins σ Q) X.xe { s3 with heap:=s3.heap.push { cls:=.type "slice",data:=.fields #[.none,.none,.int (-1) t] } }:=by
  refine ql ht (Heap.IsSliceOf.new ..) (by rw[←r.length];exact hz) ?_;refine⟨.ref _,_,I4.laid (t':=s3.toks) (o:=.tup xs.reverse) (λb ob q=>Heap.get?_push_of_some _ q) (Nat.le_refl _) ?_,rfl,q _ (I4.hok.fresh (Nat.le_refl _))⟩;exact⟨by rw[List.length_reverse];exact hz,_,bo.rev r,IsTup.new _ _⟩
 exact tail_any (ops:=[.ref a,.ref s3.heap.objs.size]) ht.typeIs slot_tuple_getitem.lookup hg (by with_unfolding_all rfl)
def yh{p3 p4:Pos}{k:Nat}(ha:DE X E a f):DE X E (.Subscript a (.Slice none none (some (.UnaryOp .USub (.Constant (.int 1) k p3) p4)) p2) pos) (aS f pw):=by
 refine⟨aZ (Dm ha.o λpins s σ H Q I q=>AZ (pos:=p4) vH (oy (i:=1) (j:=k) (pos:=p3)) pins s σ H Q I ⟨1,rfl,q⟩) λσ H Q z9=>?_⟩;obtain⟨Ha,ρ,hs,hr,q⟩:=z9;refine⟨Ha,ρ,hs,hr,?_⟩;unfold aS at q;cases e1:f ρ with
 |stuck|exn x=>rw[e1]at q;exact q
 |ok d=>
  rw[e1]at q;intro v H1 H01 g1 r1;cases d with
  |tup ds=>
   obtain⟨b,xs,rfl,h1,h2⟩:=aH.mp r1;refine⟨b,xs,rfl,aF.sqT g1.sub h1,λp hp=>?_⟩;have G:=aO (o:=.tup xs.reverse) g1.sub hp;exact q _ _ _ (g1.trans G) (aH.mpr ⟨p,_,rfl,fS.of aG,(Reps.rev h2).mono G.z⟩)
  |_=>exact q.elim
end
section
variable {X:Cx}{E:XK}
def pz(x:D):ax D:=match x with
 |.dic ks ds=>.ok (.dic ks ds)
 |_=>.stuck
def wU:gT X (.type "dict") (λxs H Q=>∃p kvs,xs=[.ref p]/\Rd H p (.dK kvs)/\∀l,H l=none->Q (.ref l) (upd H l (.dK kvs))):=by
 intro pins s σ H xs us Q I r h;obtain⟨p,kvs,rfl,hq,q⟩:=h;obtain⟨u,rfl,rx⟩:=mE r;cases rx;exact Cd I hq λl s' hl I'=>⟨.ref l,_,I',rfl,q l hl⟩
def Cf:iG X E (λxs H Q=>∃p kvs,xs=[.ref p]/\Rd H p (.dK kvs)/\∀l,H l=none->Q (.ref l) (upd H l (.dK kvs))) (m1 pz):=pJ λx v H Ha Q hs r q=>by
 unfold pz at q;cases x with
 |dic ks es=>
  rw[Rep]at r;obtain⟨p,kvs,vs,rfl,h1,rfl,hl,h4⟩:=r;refine⟨p,_,rfl,aF.rd hs h1,λl hl'=>q _ _ _ (aO hs hl') ?_⟩;rw[Rep];exact⟨l,_,vs,rfl,.inl aG,rfl,hl,h4.mono (aO hs hl').z⟩
 |_=>exact q.elim
def y0(a b:Str):Bool:=ltCps a.cps.toList b.cps.toList
def wx(a:Str):List Str->List Str
 |[]=>[a]
 |b::l=>if y0 b a then b::wx a l else a::b::l
def i5:List Str->List Str
 |[]=>[]
 |a::l=>wx a (i5 l)
def wj(a b:Str):y0 a b=decide (a.cps.toList<b.cps.toList):=ltCps_eq _ _
def Br{a b c:Str}(h1:y0 b a=false)(h2:y0 c b=false):y0 c a=false:=by
 rw[wj,decide_eq_false_iff_not]at *;have h1:a.cps.toList<=b.cps.toList:=List.not_lt.mp h1;have h2:b.cps.toList<=c.cps.toList:=List.not_lt.mp h2;exact List.not_lt.mpr (List.le_trans h1 h2)
def GV{a b:Str}(h1:y0 b a=false)(h2:y0 a b=false):a=b:=by
 rw[wj,decide_eq_false_iff_not]at *;have e:a.cps.toList=b.cps.toList:=List.le_antisymm (List.not_lt.mp h1) (List.not_lt.mp h2);exact Str.ext' (Array.toList_inj.mp e)
def GU{a b:Str}(h:y0 a b=true):y0 b a=false:=by
 rw[wj]at *;exact decide_eq_false (List.lt_asymm (of_decide_eq_true h))
theorem me(a:Str):∀l:List Str,(wx a l).Perm (a::l)
 |[]=>.refl _
 |b::l=>by
  unfold wx;split
  .exact((me a l).cons b).trans (.swap a b l)
  .exact .refl _
theorem kA:∀l:List Str,(i5 l).Perm l
 |[]=>.refl _
 |a::l=>by unfold i5;exact(me a _).trans ((kA l).cons a)
abbrev GW(a b:Str):Prop:=y0 b a=false
theorem mO(a:Str):∀l:List Str,l.Pairwise GW->(wx a l).Pairwise GW
 |[],_=>by simp[wx]
 |b::l,h=>by
  unfold wx;rw[List.pairwise_cons]at h;split
  .next c=>
   rw[List.pairwise_cons];refine⟨λx hx=>?_,mO a l h.2⟩;rcases List.mem_cons.mp ((me a l).mem_iff.mp hx) with rfl|hx
   .exact GU c
   .exact h.1 x hx
  .next c=>
   have c:y0 b a=false:=by simpa using c
   rw[List.pairwise_cons,List.pairwise_cons];refine⟨λx hx=>?_,h⟩;rcases List.mem_cons.mp hx with rfl|hx
   .exact c
   .exact Br c (h.1 x hx)
theorem kS:∀l:List Str,(i5 l).Pairwise GW
 |[]=>.nil
 |a::l=>by unfold i5;exact mO a _ (kS l)
theorem qJ:∀(l:List Str) (p:Str),risingS p l=true->(p::l).Pairwise GW
 |[],p,_=>by simp
 |x::l,p,h=>by
  unfold risingS at h;rw[Bool.and_eq_true]at h;have ih:=qJ l x h.2;rw[List.pairwise_cons];have px:y0 x p=false:=by unfold y0;simpa using h.1
  refine⟨λy hy=>?_,ih⟩;rcases List.mem_cons.mp hy with rfl|hy
  .exact px
  .exact Br px ((List.pairwise_cons.mp ih).1 y hy)
def yD{l:List Str}(h:sortedS l=true):l.Pairwise GW:=by
 cases l with|nil=>exact .nil|cons x l=>exact qJ l x h
theorem mH:∀{l m:List Str},l.Perm m->l.Pairwise GW->m.Pairwise GW->l=m
 |[],m,p,_,_=>p.nil_eq
 |a::l,m,p,hl,hm=>by
  cases m with
  |nil=>exact absurd p.symm.nil_eq (by simp)
  |cons b m=>
   rw[List.pairwise_cons]at hl hm;have e:a=b:=by
    rcases List.mem_cons.mp (p.mem_iff.mp List.mem_cons_self) with h1|h1
    .exact h1
    .rcases List.mem_cons.mp (p.mem_iff.mpr List.mem_cons_self) with h2|h2
     .exact h2.symm
     .exact GV (hl.1 b h2) (hm.1 a h1)
   subst e;rw[mH (List.Perm.cons_inv p) hl.2 hm.2]
def kQ:ac->Option (List Str)
 |[]=>some []
 |.str z::ds=>(kQ ds).map (z::·)
 |_::_=>none
def jJ(x:D):ax D:=match x with
 |.lst ds=>match kQ ds with
  |some zs=>if zs.length<64 then .ok (.lst ((i5 zs).map D.str)) else .stuck
  |none=>.stuck
 |_=>.stuck
theorem xl{K:W.Frag}{H:Hp}:∀{ds:ac}{zs:List Str}{vs:ad}{us:List Value},kQ ds=some zs->Reps K H ds vs->bo vs us->StrsAre us zs
 |[],zs,vs,us,h,r,q=>by
  cases h;rw[Reps.nil_iff.mp r]at q;cases q;exact .nil
 |d::ds,zs,vs,us,h,r,q=>by
  obtain⟨v,vr,rfl,h1,h2⟩:=aD.mp r;cases q with
  |cons q1 q2=>
   cases d with
   |str z=>
    unfold kQ at h;cases e:kQ ds with
    |none=>rw[e]at h;cases h
    |some zr=>
     rw[e]at h;cases h;rw[Rep.str_iff.mp h1]at q1;obtain⟨t,rfl⟩:=q1;exact .cons _ _ (xl e h2 q2)
   |_=>cases h
theorem qD:∀{us:List Value}{zs:List Str},StrsAre us zs->bo (zs.map V.str) us
 |_,_,.nil=>.nil
 |_,_,.cons _ t h=>.cons ⟨_,rfl⟩ (qD h)
theorem tZ:∀{us:List Value}{zs:List Str},StrsAre us zs->us.length=zs.length
 |_,_,.nil=>rfl
 |_,_,.cons _ _ h=>by simp[tZ h]
def AH(K:W.Frag):ad->Hp->VK->Prop:=λxs H Q=>∃p ds zs,xs=[.ref p]/\Rep K H (.lst ds) (.ref p)/\kQ ds=some zs/\zs.length<64/\∀l,H l=none->Q (.ref l) (upd H l (.lst ((i5 zs).map V.str)))
def pI:gT X (.builtin "sorted") (AH X.K):=by
 intro pins s σ H xs us Q I r h;obtain⟨p,ds,zs,rfl,hr,hi,hl,q⟩:=h;obtain⟨u,rfl,ru⟩:=r.one;obtain⟨a,vs,its,ea,rfl,h1,h2,h3,h4,_⟩:=ba I hr ru;have hI:=xl hi h2 h3;refine sorted_strs h4 hI (by rw[tZ hI];exact hl) λout zs' a1 a2 a3=>?_;obtain⟨e,he⟩:=sortedAll_at s.heap its out;have en:zs'=i5 zs:=mH (a2.trans (kA zs).symm) (yD a3) (kS zs);subst en;have hz:(i5 zs).length=zs.length:=(kA zs).length_eq;refine⟨.ref (s.heap.objs.size+1),upd H (s.heap.objs.size+1) (.lst ((i5 zs).map V.str)),I.laid (o:=.lst ((i5 zs).map V.str)) (t':=s.toks) (λb o e=>sortedAll_old e) (Nat.le_succ _) ⟨?_,out.toList,e,qD a1,?_⟩,rfl,q _ (I.hok.fresh (Nat.le_succ _))⟩
 .rw[List.length_map,hz];exact Nat.le_trans (Nat.le_of_lt hl) (by decide)
 .simpa[seqObj] using he
theorem ug{K:W.Frag}{H:Hp}:∀zs:List Str,Reps K H (zs.map D.str) (zs.map V.str)
 |[]=>Reps.nil
 |z::zs=>Reps.cons (Rep.str_iff.mpr rfl) (ug zs)
def ve:iG X E (AH X.K) (m1 jJ):=pJ λx v H Ha Q hs r q=>by
 cases x with
 |lst ds=>
  unfold jJ at q;cases e:kQ ds with
  |none=>simp only[e]at q;exact q.elim
  |some zs=>
   simp only[e]at q
   by_cases c:zs.length<64
   .rw[if_pos c]at q
    obtain⟨p,vs,rfl,h1,h2⟩:=aB.mp r;exact⟨p,ds,zs,rfl,r.mono hs,e,c,λl hl=>q _ _ _ (aO hs hl) (aB.mpr ⟨l,_,rfl,dF.of aG,ug _⟩)⟩
   .rw[if_neg c]at q;exact q.elim
 |_=>exact q.elim
end
def KD(S:Addr->Prop)(H Hf:Hp):Prop:=∀c,((S c/\∃us,H c=some (.lst us))->∃us o,H c=some (.lst us)/\Hf c=some (.frz o (.lst us)))/\(¬(S c/\∃us,H c=some (.lst us))->Hf c=H c)
def Hi{P:Program}{w:World}{h:Heap}{S:Addr->Prop}{H:Hp}(ok:ka P w H h):KD S H (qm h S H):=λc=>
 ⟨λz9=>by
  obtain⟨h1,us,e⟩:=z9;obtain⟨_,its,n,_,eo⟩:=ok c _ e;exact⟨us,_,e,xU h1 e eo⟩,λhc=>iu hc⟩
def w6{X:Cx}{pins:List (Addr×Obj)}{σ:List (Option V)}{H:Hp}{s:Shared}{S:Addr->Prop}(I:Inv X pins σ H s):Inv X pins σ (qm s.heap S H) s:=by
 have hout:∀c,H c=none->qm s.heap S H c=none:=λc e=>by
  rw[iu (λz=>by obtain⟨_,us,z⟩:=z;rw[e]at z;cases z)];exact e
 have keep:∀b u,H b=some u->(∀us,u≠.lst us)->qm s.heap S H b=some u:=λb u e n=>by
  rw[iu (λz=>by obtain⟨_,us,z⟩:=z;rw[e]at z;cases z;exact n us rfl)];exact e
 refine⟨I.ok,I.os,I.bare,⟨I.base.keep,I.base.slot,λb o e n hx=>hout _ (I.base.free b o e n hx),I.base.there,λb xs e=>keep _ _ (I.base.tups b xs e) (λ_ z=>by cases z),λb o u e=>keep _ _ (I.base.frzs b o u e) (λ_ z=>by cases z),λb ps e=>?_⟩,I.loc,I.cell,hout _ I.free,λx c e=>hout _ (I.freeC x c e),λp hp=>?_,DV I.hok,I.len⟩
 .obtain⟨m,h1⟩:=I.base.tbls b ps e
  exact⟨m,keep _ _ h1 (λ_ z=>by cases z)⟩
 .obtain⟨h1,h2,h3⟩:=I.pin p hp
  exact⟨h1,hout _ h2,h3⟩
def vU{X:Cx}{st:List Stmt}{t:TS}(h:pZ X st t):pZ X st λG σ H=>∃S,∀Hf,KD S H Hf->t G σ Hf :=
 λpins s σ H G I ⟨S,q⟩=>h pins s σ _ G (w6 I) (q _ (Hi I.hok))
def rD{X:Cx}{pins:List (Addr×Obj)}{σ:List (Option V)}{H H2:Hp}{s:Shared}(v:Vw (λc=>∀o u,X.Ha c≠some (.frz o u)) H H2)(I:Inv X pins σ H s):Inv X pins σ H2 s:=by
 refine⟨I.ok,I.os,I.bare,⟨I.base.keep,I.base.slot,λb o e n hx=>v.none (I.base.free b o e n hx),I.base.there,λb xs e=>v.keep (I.base.tups b xs e) (λ_ _ z=>by cases z),λb o u e=>?_,λb ps e=>?_⟩,I.loc,I.cell,v.none I.free,λx c e=>v.none (I.freeC x c e),λp hp=>?_,λa o e=>?_,I.len⟩
 .have h1:=I.base.frzs b o u e
  rcases v b with h|⟨h,_⟩
  .rw[h];exact h1
  .exact absurd e (h o u)
 .obtain⟨m,h1⟩:=I.base.tbls b ps e
  exact⟨m,v.keep h1 (λ_ _ z=>by cases z)⟩
 .obtain⟨h1,h2,h3⟩:=I.pin p hp
  exact⟨h1,v.none h2,h3⟩
 .rcases v a with h|⟨_,ob,u,h,h2⟩
  .rw[h]at e;exact bJ.view v (I.hok a o e)
  .rw[h2]at e;obtain rfl:u=o:=Option.some.inj e
   obtain⟨_,q⟩:=(show bJ X.prog X.w H s.heap a (.frz ob u) from I.hok a _ h)
   exact bJ.view v q
def yJ{X:Cx}{st:List Stmt}{t:TS}(h:pZ X st t):pZ X st λG σ H=>∃H2,Vw (λc=>∀o u,X.Ha c≠some (.frz o u)) H H2/\t G σ H2 :=
 λpins s σ H G I ⟨H2,v,q⟩=>h pins s σ H2 G (rD v I) q
structure TP (K:W.Frag) (He Ha:Hp) (σ:L2.St) (H:Hp) (x:Nat) (d:D):Prop where
 p:∃t a0 us0 a1 us1 wr,σ[x]?=some (some (.ref t))/\fS K H t (.ref a0::.ref a1::wr)/\Rep K (frz He Ha H) d (.ref t)/\H a0=some (.lst us0)/\He a0=none/\Ha a0=none/\H a1=some (.lst us1)/\He a1=none/\Ha a1=none/\us1.length<line
def TP.same{K:W.Frag}{He Ha H H':Hp}{σ:L2.St}{x:Nat}{d:D}(h:TP K He Ha σ H x d)(s:aF H H'):TP K He Ha σ H' x d:=by
 obtain⟨t,a0,us0,a1,us1,wr,h1,h2,h3,h4,h5,h6,h7,h8,h9,hl⟩:=h;exact⟨t,a0,us0,a1,us1,wr,h1,aF.sqT s h2,h3.mono (BI s),s _ _ h4,h5,h6,s _ _ h7,h8,h9,hl⟩
def IA(js:bi)(ρ:Ev):Bool:=js.all λj=>match ρ[j]? with
 |some (.sh d)=>bO d
 |_=>true
def Iz(d:D):Bool:=match d with
 |.tup (.ob .pl _::.ob .pl es::_)=>decide (es.length<line)
 |_=>false
noncomputable def Gx(K:W.Frag) (E:XK) (He H0e Ha:Hp) (r:ax Fl) (D:fW):Prop:=match r with
 |.ok (.rt (.dic ks es))=>∀p us H Ha',aW He H0e H Ha'->He p=none->Ha' p=none->H p=some (.dK ((ks.map Sum.inr).zip us))->ks.length=us.length->Reps K Ha' es us->D.rt (.ref p) H
 |.exn x=>∀C ox H Ha',aW He H0e H Ha'->rE K Ha' x C ox->E C ox H
 |_=>False
def K8(K:W.Frag)(E:XK)(He H0e:Hp)(g:am):TS:=λD σ H=>∃Ha ρ,cW K He H0e Ha σ H ρ/\Gx K E He H0e Ha (g ρ) D
structure vB (X:Cx) (E:XK) (He H0e:Hp) (st:List Stmt) (g:am):Prop where
 o:pZ X st (K8 X.K E He H0e g)
section
variable {X:Cx}{E:XK}{He H0e:Hp}{st:Stmt}{rest:List Stmt}{s t:am}{pos:Pos}
def kI(h1:DS X E He H0e st s)(h2:vB X E He H0e rest t):vB X E He H0e (st::rest) (ik s t):=by
 refine⟨?_⟩;refine dY (dZ h1.o h2.o) λD σ H z9=>?_;obtain⟨Ha,ρ,h,q⟩:=z9;refine⟨Ha,ρ,h,?_⟩
 unfold ik at q;cases e1:s ρ with
 |stuck|exn x=>rw[e1]at q;exact q
 |ok r=>
  rw[e1]at q;cases r with|nx ρ'=>exact λσ' H' Ha' s' h'=>⟨Ha',ρ',h',q⟩|rt d|bk ρ'|ct ρ'=>exact q.elim
def Jl(s:Option Sl):ax Fl:=match s with
 |some (.ow (.dic ks ds))=>.ok (.rt (.dic ks ds))
 |_=>.stuck
def rM(i:Nat):am:=λρ=>Jl ρ[i]?
def zp{i:Nat}{x:Str}{p1:Pos}(hN:X.N[i]?=some x)(hv:zI X.env.scope x)(hd:(x==("__debug__":Str))=false:=by decide)(hcd:(x==("__classdict__":Str))=false:=by decide) :
  vB X E He H0e [.Return (some (.Name x p1)) pos] (rM i):=by
 refine⟨?_⟩;refine dY (dZ (vV (gb hN hv hd hcd)) kY) λD σ H ⟨Ha,ρ,h,q⟩=>?_;unfold rM at q;cases e1:ρ[i]? with
 |none=>rw[e1]at q;exact q.elim
 |some s=>
  rw[e1]at q;cases s with
  |ow d=>
   cases d with
   |dic ks ds=>
    obtain⟨p,h1,h2,h3,vs,h4,h5,h6⟩:=h.ow i _ e1;exact⟨.ref p,h1,q p vs H Ha h.g h2 h3 h4 h5 h6⟩
   |_=>exact q.elim
  |_=>exact q.elim
def C1:V->ad->Hp->VK->Prop:=λx vs H Q=>∃l kvs,x=.ref l/\vs=[]/\H l=some (.dK kvs)/\Q .non (upd H l (.dK []))
def yZ:LQ X "dict.clear" C1:=by
 intro pins s σ H x vs v us Q I rx rv h;obtain⟨l,kvs,rfl,rfl,hH,q⟩:=h;cases rx;have hus:=rv.zero;subst hus;exact ER I hH λs' I'=>⟨.non,_,I',rfl,q⟩
def Kv(i:Nat)(ρ:Ev)(s:Option Sl):ax Fl:=match s with
 |some (.ow (.dic _ _))=>.ok (.nx (ρ.set i .no))
 |_=>.stuck
def qI(i:Nat):am:=λρ=>Kv i ρ ρ[i]?
def EG{i:Nat}{x:Str}{p1 p2 p3:Pos}(hN:X.N[i]?=some x)(hv:zI X.env.scope x)
  (hd:(x==("__debug__":Str))=false:=by decide)(hcd:(x==("__classdict__":Str))=false:=by decide)
  (hbase:attributeBase (.Name x p1) "clear" X.env (eval (.Name x p1) X.env)=eval (.Name x p1) X.env:=by rfl)(hline:(p2.endLine==p3.line)=true:=by rfl)
  (hw:swapsWith (.Call (.Attribute (.Name x p1) "clear" p2) [] [] p3) none pos.line X.env=pure false:=by rfl) :
  DS X E He H0e (.Expr (.Call (.Attribute (.Name x p1) "clear" p2) [] [] p3) pos) (qI i):=by
 refine⟨?_⟩;refine cb (kZ (A9 PySem.F.plainAttrs_dict PySem.F.slot_dict_clear PySem.F.type_dict_clear yZ (gb hN hv hd hcd) hbase hline) hw) λD σ H ⟨Ha,ρ,h,q⟩=>?_;unfold qI at q;cases e1:ρ[i]? with
 |none=>rw[e1]at q;exact q.elim
 |some s=>
  rw[e1]at q;cases s with
  |ow d=>
   cases d with
   |dic ks ds=>
    obtain⟨p,h1,h2,h3,vs,h4,h5,h6⟩:=h.ow i _ e1;refine⟨.ref p,h1,.inr (.inr (.inl ⟨rfl,.inl ⟨_,h4⟩⟩)),p,_,rfl,rfl,h4,?_⟩;have w:=h.writeG (dn:=.dic [] []) (o:=.dK []) e1 h1 ⟨[],aG,rfl,Reps.nil⟩;have w2:=w.dropT (i:=i) (v:=.ref p);have es:σ.set i (some (.ref p))=σ:=by
     refine List.ext_getElem? λj=>?_
     by_cases hj:i=j
     .subst hj
      rw[List.getElem?_set_self (List.getElem?_eq_some_iff.mp h1).1,h1]
     .rw[List.getElem?_set_ne hj]
    rw[es,List.set_set]at w2;exact q σ _ Ha (aF.refl _) w2
   |_=>exact q.elim
  |_=>exact q.elim
end
def Fq(r:Fl):ax D:=match r with
 |.rt (.dic ks es)=>.ok (.dic ks es)
 |_=>.stuck
def xr(n:Nat)(s:am)(ds:ac):ax D:=(s (ds.map Sl.sh++List.replicate (n-ds.length) .no)).bind Fq
noncomputable def Gw(K:W.Frag) (E:XK) (H Ha:Hp) (r:ax D) (Q:VK):Prop:=match r with
 |.ok (.dic ks es)=>∀p us H' Ha',aW H Ha H' Ha'->H p=none->Ha' p=none->H' p=some (.dK ((ks.map Sum.inr).zip us))->ks.length=us.length->Reps K Ha' es us->Q (.ref p) H'
 |.exn x=>∀C ox H' Ha',aW H Ha H' Ha'->rE K Ha' x C ox->E C ox H'
 |_=>False
def Aq(K:W.Frag)(n:Nat)(m:ac->ax D):Sp:=λvs H Q E=>vs.length=n/\∃Ha ds,aF Ha H/\Reps K Ha ds vs/\Gw K E H Ha (m ds) Q
section
variable {X:Cx}{E:XK}{He H0e:Hp}{e:Expr}{es:List Expr}{f:al}{fa:Ev->ax (ac)}{pos:Pos}
def B6{CX:pY}{k n:Nat}{fn:Addr}{fd:FuncData}{ps:List Str}{m:ac->ax D}{x:Str}{p:Pos}(F:gE X.prog X.w X.K X.mg X.base CX k fn fd ps (Aq X.K n m))(hr:dX k X.A)(hg:Gl X x)(hm:X.mg x=some (.ref fn))
  (hk:W.keepIn X.K (.ref fn)=true)(hb:lW X.K fd ps [])(hx:i4 CX X E)(ha:DA X E (e::es) fa)(hn:(e::es).length=n:=by rfl)(hl:∀ρ ds,fa ρ=.ok ds->ds.length=(e::es).length)
  (hdb:(x==("__debug__":Str))=false:=by decide)(he:starEach (e::es) X.env=(false,eval e X.env)::starEach es X.env:=by exact aY rfl)(hpl:(backTo pos (starEach es X.env)).any (·.1)=false:=by exact bY rfl) :
  KH X E (.Call (.Name x p) (e::es) [] pos) (ai fa m):=by
 refine⟨?_⟩;refine aZ (rT F hr hg hm hk hb .nil hx ha.o hdb he hpl) λσ H Q h=>?_;obtain⟨Ha,ρ,hs,hr,q⟩:=h;refine⟨Ha,ρ,hs,hr,?_⟩;unfold ai at q;cases e1:fa ρ with
 |stuck|exn x=>rw[e1]at q;exact q
 |ok ds=>
  rw[e1]at q;intro v H1 H01 g1 r1;refine⟨?_,H01,ds,g1.sub,by simpa using r1,?_⟩
  .have:=r1.length
   have:=hl ρ ds e1;simp only[List.append_nil];omega
  .replace q:match m ds with
    |.ok (.dic ks ds)=>∀p vs H' Ha',aW H Ha H' Ha'->H p=none->Ha' p=none->H' p=some (.dK ((ks.map Sum.inr).zip vs))->ks.length=vs.length->Reps X.K Ha' ds vs->Q (.ref p) H'
    |.ok _=>False
    |.exn x=>∀C ox H' Ha',aW H Ha H' Ha'->rE X.K Ha' x C ox->E C ox H'
    |.stuck=>False:=q
   cases e2:m ds with
   |stuck=>rw[e2]at q;exact q|exn x=>rw[e2]at q;exact λC ox H' Ha' g ex=>q C ox H' Ha' (g1.trans g) ex
   |ok d=>
    rw[e2]at q;cases d with|dic ks es=>exact λp us H' Ha' g hp h0 hv hl rr=>q p us H' Ha' (g1.trans g) (g1.s.free hp) h0 hv hl rr| _=>exact q.elim
end
section
variable {X:Cx}{E:XK}{e:Expr}{es:List Expr}{fa:Ev->ax (ac)}{pos:Pos}{CX:pY}{k k0 n:Nat}{fn:Addr}{fd:FuncData}{ps:List Str}{m:ac->ax D}{x:Str}{p:Pos}{st:Stmt}
def Mu(B:fA X.prog X.w X.K X.mg X.base CX k0 fn fd ps (Aq X.K n m) x st)(hr:dX k X.A)(ha:DA X E (e::es) fa)(hle:k0<=k:=by decide)(hx:i4 CX X E:=by first|exact Bb|exact pass0E|exact passesE)(hl:∀ρ ds,fa ρ=.ok ds->ds.length=(e::es).length:=by first|exact KR|exact KQ|exact LL|exact al4|exact al5)(hn:(e::es).length=n:=by rfl)
  (hg:Gl X x:=by exact rfl)(hdb:(x==("__debug__":Str))=false:=by decide)(he:starEach (e::es) X.env=(false,eval e X.env)::starEach es X.env:=by exact aY rfl)(hpl:(backTo pos (starEach es X.env)).any (·.1)=false:=by exact bY rfl) :
  KH X E (.Call (.Name x p) (e::es) [] pos) (ai fa m):=B6 (B.F.mono hle) hr hg B.t.g B.t.F.kp B.t.b hx ha hn hl hdb he hpl
end
theorem mD:∀{ks:List Str}{us:ad}{zs:List (cq×Value)},ks.Nodup->KV ((ks.map (Sum.inr:Str->cq)).zip us) zs->∀(j:Nat) (k:Str) (u:V),ks[j]?=some k->us[j]?=some u->∃z,valueAt zs (Sum.inr k)=some z/\bq u z
 |[],us,zs,_,h,j,k,u,e,_=>by simp at e
 |k0::ks,[],zs,_,h,j,k,u,_,e=>by simp at e
 |k0::ks,w::us,zs,hn,h,j,k,u,e1,e2=>by
  rw[List.map_cons,List.zip_cons_cons]at h;cases h with
  |@cons _ q _ r h1 h2=>
   obtain⟨qk,qv⟩:=q;obtain⟨h1a,h1b⟩:=h1;simp only at h1a h1b;subst h1a;cases j with
   |zero=>
    simp only[List.getElem?_cons_zero,Option.some.injEq]at e1 e2;subst e1 e2;exact⟨qv,by simp[valueAt],h1b⟩
   |succ j=>
    rw[List.getElem?_cons_succ]at e1 e2;obtain⟨z,hz,rz⟩:=mD (List.nodup_cons.mp hn).2 h2 j k u e1 e2;refine⟨z,?_,rz⟩;unfold valueAt at hz ⊢;rw[List.find?_cons_of_neg]
    .exact hz
    .simp only[decide_eq_true_eq,Sum.inr.injEq]
     intro c;subst c;exact(List.nodup_cons.mp hn).1 (List.mem_of_getElem? e1)
section
variable {X:Cx}{E:XK}{pins:List (Addr×Obj)}{σ:L2.St}{H:Hp}{s:Shared}
theorem uH(I:Inv X pins σ H s)(hu:X.A.units+64<cLine){kb:List (cq×Value)}:∀{ks:List Str}{es fs:ac}{vs us:ad}{zs:List (cq×Value)},ks.length=vs.length->ks.length=us.length->KV ((ks.map (Sum.inr:Str->cq)).zip vs) zs->Reps X.K H es vs->Reps X.K H fs us->es.all (bb 39)=true->fs.all (bb 39)=true ->
  (∀(j:Nat) (k:Str) (u:V),ks[j]?=some k->us[j]?=some u->∃z,valueAt kb (Sum.inr k)=some z/\bq u z)->W.KeqHits X.A.in1 s kb zs (eqDs es fs)
 |[],es,fs,[],[],zs,_,_,h,r1,r2,_,_,_=>by
  cases h;have l1:=r1.length;have l2:=r2.length;cases es with
  |nil=>
   cases fs with|nil=>rw[eqDs];exact .nil|cons _ _=>simp at l2
  |cons _ _=>simp at l1
 |k::ks,[],fs,v::vs,us,zs,_,_,h,r1,_,_,_,_=>by have:=r1.length;simp at this
 |k::ks,e::es,[],vs,u::us,zs,_,_,h,_,r2,_,_,_=>by have:=r2.length;simp at this
 |k::ks,e::es,f::fs,v::vs,u::us,zs,l1,l2,h,r1,r2,s1,s2,g=>by
  rw[List.map_cons,List.zip_cons_cons]at h;cases h with
  |@cons _ q _ r h1 h2=>
   obtain⟨qk,qv⟩:=q;obtain⟨h1a,h1b⟩:=h1;simp only at h1a h1b;subst h1a;obtain⟨_,_,e0,a1,a2⟩:=aD.mp r1;cases e0;obtain⟨_,_,e0,b1,b2⟩:=aD.mp r2;cases e0;rw[List.all_cons,Bool.and_eq_true]at s1 s2;obtain⟨y,e1,ry⟩:=g 0 k u rfl rfl;rw[eqDs];exact .hit e1 (C0 I 39 X.A.in1 (by show X.A.units+1+39<cLine;omega) _ _ _ _ _ _ s1.1 s2.1 a1 b1 h1b ry).2.1 (uH I hu (by simpa using l1) (by simpa using l2) h2 a2 b2 s1.2 s2.2 λj k' u' x1 x2=>g (j+1) k' u' x1 x2)
def Jn(K:W.Frag):R2:=λv u H Q=>∃ks es fs,Rep K H (.dic ks es) v/\Rep K H (.dic ks fs) u/\ks.Nodup/\es.all (bb 39)=true/\fs.all (bb 39)=true/\Q (.bl (!(eqDs es fs))) H
def GK(hu:X.A.units+64<cLine):fP X (compareOp .NotEq) (Jn X.K):=by
 intro pins s σ H x y v u Q I rx ry h;obtain⟨ks,es,fs,h1,h2,hn,sx,sy,q⟩:=h;obtain⟨a,kvs,vs,rfl,k1,rfl,k3,k4⟩:=mZ.mp h1;obtain⟨b,kus,us,rfl,j1,rfl,j3,j4⟩:=mZ.mp h2;cases rx;cases ry;obtain⟨_,n1,zs,c1,d1⟩:=(show bJ X.prog X.w H s.heap a (.dK _) from k1.ok I.hok)
 obtain⟨_,n2,ws,c2,d2⟩:=(show bJ X.prog X.w H s.heap b (.dK _) from j1.ok I.hok)
 have z1:zs.length=ks.length:=by
  have:=c1.length;rw[List.length_zip,List.length_map]at this;omega
 have z2:ws.length=ks.length:=by
  have:=c2.length;rw[List.length_zip,List.length_map]at this;omega
 refine W.keq_ne n1 n2 d1 d2 (r:=eqDs es fs) (by omega) (λ_=>uH I hu k3 j3 c1 k4 j4 sx sy (mD hn c2)) ⟨.bl _,H,I,?_,q⟩;rw[z1,z2,beq_self_eq_true,Bool.true_and];rfl
def zy(x y:D):ax D:=match x,y with
 |.dic ks es,.dic ls fs=>if ks=ls/\ks.Nodup/\es.all (bb 39)=true/\fs.all (bb 39)=true then .ok (.bl (!(eqDs es fs))) else .stuck
 |_,_=>.stuck
def GQ:tP X.K E (Jn X.K) zy:=by
 intro x y v u H Ha Q hs r1 r2 q;unfold zy at q;split at q
 .split at q
  .rename_i c
   obtain⟨c1,c2,c3,c4⟩:=c;subst c1;exact⟨_,_,_,r1.mono hs,r2.mono hs,c2,c3,c4,bG hs q (aK.mpr rfl)⟩
  .exact q.elim
 .exact q.elim
end
def B2{X:Cx}{E:XK}{He H0e:Hp}{e:Expr}{f:al}{pos:Pos}{i:Nat}{x:Str}{pos':Pos}(hN:X.N.Nodup)(hi:X.N[i]?=some x)(hx:X.env.scope.names.lookup x=some .local)(he:IH X E e f)(hs:swapsWith e (some (.Name x pos')) pos.line X.env=pure true:=by rfl):DS X E He H0e (.Assign [.Name x pos'] e pos) (aV i (rP f)):=by
 refine⟨cb (he.st hN hi hx hs) λD σ H z9=>?_⟩;obtain⟨Ha,ρ,h,q⟩:=z9;refine⟨Ha,ρ,h.g.sub,h.rd,?_⟩;unfold aV rP at q;cases e1:f ρ with
 |stuck=>rw[e1]at q;exact q|exn x=>rw[e1]at q;exact λC ox H' Ha' g ex=>q C ox H' Ha' (h.g.trans g) ex
 |ok d=>
  rw[e1]at q;cases d with
  |lst ds=>
   intro p vs H' Ha' g hp h0 hv rp;have z:aF Ha' (upd Ha' p (.lst vs)):=λb o e=>by rw[aC (by intro z;subst z;rw[h0]at e;cases e)];exact e
   have g':aW H Ha H' (upd Ha' p (.lst vs)):=by
    refine⟨g.s,g.z.trans z,λb o e=>?_,λb h1 h2=>?_⟩
    .by_cases c:b=p
     .subst c;rw[aG]at e;cases e;exact hv
     .rw[aC c]at e;exact g.sub _ _ e
    .by_cases c:b=p
     .subst c;exact hp
     .rw[aC c]at h1;exact g.nw b h1 h2
   exact q _ H' _ g'.z ((h.grow g').put (bL.mpr ⟨p,vs,rfl,aG,rp.mono z⟩))
  |_=>exact q.elim
end DL
namespace Rv
open PySem PySem.Spec PyProof.Rows DL
def yH:typeLookup (.type "list_reverseiterator") "__len__"=pure none:=by rw[typeLookup_type,builtinLookup_eq_fast];kernel_rfl
def CY:typeLookup (.type "list_reverseiterator") "__length_hint__"=pure (some (.builtin "list_reverseiterator.__length_hint__")):=by rw[typeLookup_type,builtinLookup_eq_fast];kernel_rfl
def Gj:isSubtype (.type "list_reverseiterator") (.type "list_reverseiterator")=pure true:=by rw[isSubtype_type];kernel_rfl
section
variable {P:Program}{w:World}{A:Around}{E:Value->Shared->Prop}{s:Shared}
theorem loop{R:Result->Shared->Prop}{L it l:Addr}{items:Array Value}{res:Value}(hA:A.handled=none)(Li:L≠it)(Ll:L≠l)(il:it≠l)(hn:items.size<=sizeLine) :
  ∀(i:Nat) (s:Shared) (acc:Array Value) (c:Nat),i<=items.size->s.heap.IsRevIter it l ((i:Int)-1)->s.heap.IsList l items->s.heap.get? L=some (Zt.lst acc c)->acc.toList=(items.toList.drop i).reverse ->
   (∀h' acc' c',(∀b o,b≠L->b≠it->s.heap.get? b=some o->h'.get? b=some o)->h'.get? L=some (Zt.lst acc' c')->acc'.toList=items.toList.reverse->R (.ok (.ret res)) { s with heap:=h' }) ->
   codeAny (model P w) A (.builtin "list.extend.loop" ⟨[.ref L,.ref it,res],[]⟩) R s:=by
 intro i
 induction i with
 |zero=>
  intro s acc c hi hit hl hL ha hR;refine codeAny_builtin F.entry_extend_loop ?_;rw[Around.under_plainId F.plain_extend_loop _];show wpAny _ A.in1 (pyNext (.ref it) >>= _) _ _ s;refine wpAny_bind (wpAny_pyNext_rev_end (A:=A.in1) hA (by simpa using hit) λh' kp=>wpAny_pure (hR h' acc c (λb o _ hb g=>kp b o hb g) (kp _ _ Li hL) (by simpa using ha)))
 |succ i ih=>
  intro s acc c hi hit hl hL ha hR;refine codeAny_builtin F.entry_extend_loop ?_;rw[Around.under_plainId F.plain_extend_loop _];show wpAny _ A.in1 (pyNext (.ref it) >>= _) _ _ s;have hx:items[i]?=some items[i]:=Array.getElem?_eq_getElem (by omega);have hit':s.heap.IsRevIter it l (i:Int):=by
   have:(((i+1:Nat):Int)-1)=(i:Int):=by omega
   rw[this]at hit;exact hit
  refine wpAny_bind (wpAny_pyNext_rev_item hit' hl hx λh' n1 sb=>?_);have hL':h'.get? L=some (Zt.lst acc c):=(sb.2 L Li).trans hL;show wpAny _ A.in1 (updateSeq L (·.push items[i]) >>= _) _ _ _;refine wpAny_bind ?_;have up:∀b o,b≠L->h'.get? b=some o->(h'.update L (Obj.mapSeq (·.push items[i]))).get? b=some o:=λb o hb e=>(Heap.get?_update_other _ _ (Ne.symm hb)).trans e;have hal:acc.size=items.size-(i+1):=by
   have:=congrArg List.length ha;rw[List.length_reverse,List.length_drop,Array.length_toList,Array.length_toList]at this;exact this
  refine wpAny_updateSeq hL' rfl (wpAny_pure ⟨plainId_quiet F.plain_extend_loop _,ih _ (acc.push items[i]) _ (by omega) ?_ ?_ (Heap.get?_update_self _ hL' rfl) ?_ λh'' acc' c' kp' hL'' ha'=>?_⟩)
   (by omega) (by show(acc.push items[i]).size<=sizeLine+1;rw[Array.size_push];omega)
  .exact n1.at λo e=>up _ _ Li.symm e
  .exact hl.at λo e=>up _ _ Ll.symm ((sb.2 l il.symm).trans e)
  .rw[Array.toList_push,ha]
   have:items.toList.drop i=items[i]::items.toList.drop (i+1):=by
    rw[List.drop_eq_getElem_cons (by rw[Array.length_toList];omega)];simp
   rw[this,List.reverse_cons]
  .exact hR h'' acc' c' (λb o b1 b2 g=>kp' b o b1 b2 (up _ _ b1 ((sb.2 b b2).trans g))) hL'' ha'
def call_list_rev{Q:Value->Shared->Prop}{it l:Addr}{items:Array Value}(hA:A.handled=none)(hit:s.heap.IsRevIter it l ((items.size:Int)-1))(hl:s.heap.IsList l items)(il:it≠l)(hn:items.size<=sizeLine)
  (hQ:∀h' acc' c',(∀b o,b≠it->s.heap.get? b=some o->h'.get? b=some o)->h'.get? s.heap.objs.size=some (Zt.lst acc' c')->acc'.toList=items.toList.reverse->Q (.ref s.heap.objs.size) { s with heap:=h' }) :
  wpAny (model P w) A (call (.type "list") [.ref it]) Q E s:=by
 refine callType_codes (Q₁:=λobj sg=>obj=.ref s.heap.objs.size/\sg={ s with heap:=s.heap.push { cls:=.type "list",data:=.seq #[] } }) PySem.F.called_list (PySem.F.typeCall_list_1 _) PySem.F.entry_list_init
  (code_list_new _ ⟨rfl,rfl⟩) λobj sg h₁=>?_
 obtain⟨rfl,rfl⟩:=h₁;generalize hB:s.heap.objs.size=L at *;have hS:(s.heap.push { cls:=.type "list",data:=.seq #[] }).get? L=some { cls:=.type "list",data:=.seq #[] }:=by rw[←hB];exact Heap.get?_push_size _ rfl
 have lI:it<L:=by obtain⟨o,ho,_⟩:=hit;rw[←hB];exact Heap.lt_size ho
 have lL:l<L:=by obtain⟨o,ho,_⟩:=hl;rw[←hB];exact Heap.lt_size ho
 refine⟨⟨_,hS,rfl⟩,PySem.F.args_list_init_2 _ _,?_⟩;show wpAny _ _ (do let old ←Builtin.List.listItems (.ref L);Builtin.List.listUpdate (.ref L) (λ_=>#[]);letGo old.toList.reverse;Builtin.List.listExtendWith (.ref L) (.ref it) .none) _ _ _;refine wpAny_bind ?_;unfold Builtin.List.listItems;refine wpAny_bind (wpAny_seqItems hS rfl (wpAny_pure ?_));show wpAny _ _ (updateSeq L (λ_=>#[]) >>= λ_=>letGo (#[]:Array Value).toList.reverse >>= λ_=>Builtin.List.listExtendWith (.ref L) (.ref it) .none) _ _ _;refine wpAny_bind (wpAny_updateSeq hS rfl ?_);have hS₂:=Heap.get?_update_self (Obj.mapSeq (λ_=>(#[]:Array Value))) hS rfl;refine wpAny_bind (wpAny_letGo ?_);unfold Builtin.List.listExtendWith;generalize hh1:(s.heap.push { cls:=.type "list",data:=.seq #[] }).update L (Obj.mapSeq (λ_=>(#[]:Array Value)))=u1 at *;have k1:∀c o,s.heap.get? c=some o->u1.get? c=some o:=λc o g=>by
  rw[←hh1];exact(Heap.get?_update_other _ _ (Nat.ne_of_gt (by rw[←hB];exact Heap.lt_size g))).trans (Heap.get?_push_of_some _ g)
 have z1:u1.IsRevIter it l ((items.size:Int)-1):=hit.at λo e=>k1 _ _ e;have ty:({ s with heap:=u1 }:Shared).TypeIs (.ref it) "list_reverseiterator":=Heap.IsRevIter.typeIs (s:={ s with heap:=u1 }) z1;refine wpAny_bind (wpAny_typeOf ty ?_);have q1:Builtin.List.listSameRef (.ref L) (.ref it)=false:=by simp[Builtin.List.listSameRef,Nat.ne_of_gt lI]
 have q2:(Value.type "list_reverseiterator"==Value.type "list")=false:=by decide
 have q3:(Value.type "list_reverseiterator"==Value.type "tuple")=false:=by decide
 simp only[q1,q2,q3,Bool.or_false,Bool.false_eq_true,if_false];refine wpAny_bind (wpAny_pyIter_revIter z1 ?_);refine wpAny_bind (wpAny_holding ?_);unfold Builtin.List.listLengthHint;refine wpAny_bind (wpAny_specialOf ty yH ?_);show wpAny _ _ (specialOf (Value.ref it) (Str.ofString "__length_hint__") >>= _) _ _ _;refine wpAny_bind (wpAny_specialOf ty CY ?_);have hsp:splitId "list_reverseiterator.__length_hint__"=some ("list_reverseiterator","__length_hint__"):=by kernel_rfl
 dsimp only;rw[hsp];dsimp only;refine wpAny_bind (wpAny_isInstance (T:="list_reverseiterator") (b:=true) ty Gj ?_);simp only[Bool.not_true,Bool.false_eq_true,if_false];rw[if_pos (by decide),if_neg (by decide)];refine wpAny_pure ?_;rw[if_neg (by decide)];refine wpAny_pure ⟨plainId_quiet F.plain_extend_loop _,loop (A:=A.in1) hA (Nat.ne_of_gt lI) (Nat.ne_of_gt lL) il hn items.size _ #[] _ (Nat.le_refl _) z1 (hl.at λo e=>k1 _ _ e) hS₂ (by rw[List.drop_of_length_le (by rw[Array.length_toList];exact Nat.le_refl _)];rfl) λh' acc' c' kp hL ha=>⟨rfl,hQ h' acc' c' (λb o hb g=>kp b o (Nat.ne_of_lt (by rw[←hB];exact Heap.lt_size g)) hb (k1 _ _ g)) hL ha⟩⟩
end
end Rv
namespace DL
open PySem PySem.Spec PyProof.Rows L2
section
variable {X:Cx}{E:XK}{a:Expr}{f:al}
def Mo(K:W.Frag)(te:TA):TE:=λσ H Q=>te σ H λvs H1=>∃(b:Addr) (xs:ad),vs=[.ref b]/\dF K H1 b xs/\∀l,H1 l=none->Q (.ref l) (upd H1 l (.lst xs.reverse))
def A5{te:TA}{p p2 pos pos2:Pos}(hc:X.calm=true)(hg:Gl X "list")(hm:X.mg "list"=none)(hg2:Gl X "reversed")(hm2:X.mg "reversed"=none)(ha:PA X [a] te)(hs:starEach [a] X.env=(false,eval a X.env)::starEach [] X.env)(hs2:(backTo pos2 (starEach [] X.env)).any (·.1)=false)
  (he:starEach [.Call (.Name "reversed" p2) [a] [] pos2] X.env=(false,eval (.Call (.Name "reversed" p2) [a] [] pos2) X.env)::starEach [] X.env:=by exact aY rfl)(hpl:(backTo pos (starEach [] X.env)).any (·.1)=false:=by exact bY rfl) :
  PE X (.Call (.Name "list" p) [.Call (.Name "reversed" p2) [a] [] pos2] [] pos) (Mo X.K te):=by
 intro pins s σ H Q I hq;refine wpAny_Call_Name_kw (jE I hg hm PyProof.Rows.Boot.«list» ?_ (by decide) (by decide));refine PyProof.Rows.callWith_type1 ?_ he hpl;rw[he];show wpAny _ _ (spliced ((false,eval (.Call (.Name "reversed" p2) [a] [] pos2) X.env)::backTo pos (starEach [] X.env))) _ _ s;refine Calls.spliced_cons ?_;refine Call_ (jE I hg2 hm2 PyProof.Rows.Boot.«reversed» (PyProof.Rows.callWith_type1 (cR (ha pos2 pins s σ H _ I hq) λus s1 z9=>?_) hs hs2));obtain⟨vs,H1,I1,r1,q1⟩:=z9;obtain⟨b,xs,e,hx,q⟩:=q1;subst e;cases r1 with
 |cons r rr=>
  cases rr;cases r;obtain⟨its,rv,pl,hz⟩:=I1.list hx;have hb:=Heap.lt_size (h:=s1.heap) (a:=b) (pl.isList.choose_spec.1);refine call_reversed_list pl.isList ?_;have I2:Inv X pins σ H1 { s1 with heap:=s1.heap.push (revObj b ((its.toArray.size:Int)-1)) }:=I1.kept (t':=s1.toks) λb o e=>Heap.get?_push_of_some _ e;refine Calls.spliced_nil ?_;have hlen:=rv.length;refine Rv.call_list_rev (items:=its.toArray) (l:=b) (I2.ok.hd hc) ⟨_,Heap.get?_push_size _ rfl,rfl,rfl⟩ ?_ (Nat.ne_of_gt hb) (by simp;omega) λh' acc' c' kp e items=>?_
  .obtain⟨o,ho,r⟩:=pl.isList;exact⟨o,Heap.get?_push_of_some _ ho,r⟩
  have hv:bo xs.reverse acc'.toList:=by rw[items];simpa using bo.rev rv
  have le:s1.heap.objs.size<=(s1.heap.push (revObj b ((its.toArray.size:Int)-1))).objs.size:=by rw[Heap.size_push];exact Nat.le_succ _
  have kp2:∀b o,s1.heap.get? b=some o->h'.get? b=some o:=λc o g=>kp c o (Nat.ne_of_lt (Heap.lt_size g)) (Heap.get?_push_of_some _ g);exact⟨.ref _,_,I1.laid (t':=s1.toks) kp2 le (show bJ X.prog X.w _ h' _ (.lst xs.reverse) from⟨by rw[List.length_reverse];omega,acc'.toList,c',hv,e⟩),rfl,q _ (I1.hok.fresh le)⟩
def B7{p p2 pos pos2:Pos}(hc:X.calm=true)(hg:Gl X "list")(hm:X.mg "list"=none)(hg2:Gl X "reversed")(hm2:X.mg "reversed"=none)(ha:DE X E a f)
  (hs:starEach [a] X.env=(false,eval a X.env)::starEach [] X.env:=by exact aY rfl)(hs2:(backTo pos2 (starEach [] X.env)).any (·.1)=false:=by exact bY rfl)
  (he:starEach [.Call (.Name "reversed" p2) [a] [] pos2] X.env=(false,eval (.Call (.Name "reversed" p2) [a] [] pos2) X.env)::starEach [] X.env:=by exact aY rfl)(hpl:(backTo pos (starEach [] X.env)).any (·.1)=false:=by exact bY rfl) :
  DF X E (.Call (.Name "list" p) [.Call (.Name "reversed" p2) [a] [] pos2] [] pos) (aS f nk):=by
 refine⟨aZ (A5 hc hg hm hg2 hm2 (cQ ha.o fI hs) hs hs2 he hpl) λσ H Q z9=>?_⟩;obtain⟨Ha,ρ,hs,hr,q⟩:=z9;refine⟨Ha,ρ,hs,hr,?_⟩;unfold aS at q;cases e1:f ρ with
 |stuck|exn x=>rw[e1]at q;exact q
 |ok d=>
  rw[e1]at q;intro v H1 H01 g1 r1;cases d with
  |lst ds=>
   obtain⟨b,vs,rfl,h1,h2⟩:=aB.mp r1;refine⟨b,vs,rfl,aF.sqL g1.sub h1,λl hl=>?_⟩;have h0:H01 l=none:=g1.sub.free hl;refine q l _ _ H01 (g1.trans ⟨λb o e=>by rw[aC (bu e hl)];exact e,aF.refl _,λb o e=>?_,λa h1 h2=>absurd h2 h1⟩) (g1.s.free hl) h0 aG (Reps.rev h2);rw[aC (by intro z;subst z;rw[h0]at e;cases e)];exact g1.sub _ _ e
  |_=>exact q.elim
end
def Ip(K:W.Frag)(He Ha:Hp)(σ:L2.St)(H:Hp)(T:List (Nat×D)):Prop:=∀p∈T,TP K He Ha σ H p.1 p.2
def As(T:List (Nat×D))(ρ:Ev):Ev:=T.foldl (λr p=>r.set p.1 (.sh p.2)) ρ
def FR(T:List (Nat×D))(ρ:Ev):Ev:=As T (ij ρ)
theorem pV{K:W.Frag}{J:Hp}{σ:L2.St}:∀{T:List (Nat×D)}{r:Ev},ez K J σ r->(∀p∈T,∃v,σ[p.1]?=some (some v)/\Rep K J p.2 v)->ez K J σ (As T r)
 |[],r,h,_=>h
 |p::T,r,h,ht=>by
  unfold As;rw[List.foldl_cons];refine pV (T:=T) (λi d e=>?_) λq hq=>ht q (List.mem_cons_of_mem _ hq)
  by_cases c:p.1=i
  .subst c
   rw[List.getElem?_set_self']at e;cases q:r[p.1]? with|none=>rw[q]at e;cases e|some s=>rw[q]at e;cases e;exact ht p List.mem_cons_self
  .rw[List.getElem?_set_ne c]at e
   exact h i d e
def Ip.looks{K:W.Frag}{He H0e Ha H:Hp}{σ:L2.St}{ρ:Ev}{T:List (Nat×D)}(t:Ip K He Ha σ H T)(h:cW K He H0e Ha σ H ρ):ez K (frz He Ha H) σ (FR T ρ) :=
 pV h.looks λp hp=>by
  obtain⟨t,a0,us0,a1,us1,wr,h1,h2,h3,_⟩:=t p hp;exact⟨_,h1,h3⟩
def Ip.same{K:W.Frag}{He Ha H H':Hp}{σ:L2.St}{T:List (Nat×D)}(t:Ip K He Ha σ H T)(s:aF H H'):Ip K He Ha σ H' T:=λp hp=>(t p hp).same s
def K6(K:W.Frag)(E:XK)(He H0e:Hp)(g:List (Nat×D)->am):TS:=λG σ H=>∃Ha ρ T,cW K He H0e Ha σ H ρ/\Ip K He Ha σ H T/\bK K E He H0e Ha (g T ρ) G
structure zJ (X:Cx) (E:XK) (He H0e:Hp) (st:List Stmt) (g:List (Nat×D)->am):Prop where
 o:pZ X st (K6 X.K E He H0e g)
section
variable {X:Cx}{E:XK}{He H0e:Hp}{st:Stmt}{rest:List Stmt}{e c:Expr}{pos:Pos}{f:al}{g:List (Nat×D)->am}{s r:am}
def EB(h:zJ X E He H0e rest g):tQ X E He H0e rest (g []):=⟨dY h.o λG σ H ⟨Ha,ρ,h,q⟩=>⟨Ha,ρ,[],h,(show Ip X.K He Ha σ H [] from λp hp=>nomatch hp),q⟩⟩
def ku(f:al)(s:am)(g:List (Nat×D)->am):List (Nat×D)->am:=λT ρ=>(f (FR T ρ)).bind λb=>match b with
 |.bl true=>(s ρ).bind L9
 |.bl false=>g T ρ
 |_=>.stuck
def Ah{body:List Stmt}(hc:DT X E c f)(hb:tQ X E He H0e body s)(hr:zJ X E He H0e rest g):zJ X E He H0e (.If c body [] pos::rest) (ku f s g):=by
 refine⟨?_⟩;refine dY (dZ (Fp hc.o hb.o kY) hr.o) λG σ H ⟨Ha,ρ,T,h,t,q⟩=>?_;refine⟨frz He Ha H,FR T ρ,h.frz_le,t.looks h,?_⟩;unfold ku at q;cases e1:f (FR T ρ) with
 |stuck=>rw[e1]at q;exact q|exn y=>rw[e1]at q;exact λC ox H' Ha' g1 ex=>q C ox H' Ha' (h.frz_grow.trans g1) ex
 |ok y=>
  rw[e1]at q;cases y with
  |bl y=>
   cases y with
   |true=>
    intro H' J g1;show if true=true then _ else _
    rw[if_pos rfl];refine⟨Ha,ρ,h.same g1.s,?_⟩;replace q:bK X.K E He H0e Ha ((s ρ).bind L9) G:=q;cases e2:s ρ with
    |stuck|exn z=>rw[e2]at q;exact q
    |ok z=>
     rw[e2]at q;cases z with|rt d'=>exact q| _=>exact q.elim
   |false=>
    intro H' J g1;show if false=true then _ else _
    rw[if_neg (by decide)];exact⟨Ha,ρ,T,h.same g1.s,t.same g1.s,q⟩
  |_=>exact q.elim
def L3(i:Nat)(f:al)(g:List (Nat×D)->am):List (Nat×D)->am:=λT ρ=>match f ρ with
 |.ok y=>if(T.all λp=>p.1 != i)=true then g T (ρ.set i (.sh y)) else .stuck
 |_=>.stuck
noncomputable def gU(x:Nat) (js:bi) (f:al) (g:List (Nat×D)->am):List (Nat×D)->am:=λT ρ=>match f (mN js ρ) with
 |.ok d=>if IA js ρ=true/\Iz d=true/\x<ρ.length/\(T.all λp=>p.1 != x)=true then g (T++[(x,d)]) (ρ.set x .no) else .stuck
 |_=>.stuck
def xi(js:bi){x:Nat}{y:Str}{pos':Pos}(hN:X.N.Nodup)(hi:X.N[x]?=some y)(hx:zM X.env.scope y)(hE:aF X.Ha He)(he:DE X E e f)(hr:zJ X E He H0e rest g)(hs:swapsWith e (some (.Name y pos')) pos.line X.env=pure false:=by rfl)
  (hf:X.fn y=true∨X.env.scope.names.lookup y=some .local := by first|exact .inl rfl|exact .inr rfl|assumption):zJ X E He H0e (.Assign [.Name y pos'] e pos::rest) (gU x js f g):=by
 refine⟨?_⟩;refine dY (vU (dZ (l7 hN hi hx he.o hs hf) (yJ hr.o))) λG σ H ⟨Ha,ρ,T,h,t0,q⟩=>?_;unfold gU at q;cases e1:f (mN js ρ) with
 |stuck|exn z=>rw[e1]at q;exact q.elim
 |ok d=>
  rw[e1]at q;replace q:bK X.K E He H0e Ha (if IA js ρ=true/\Iz d=true/\x<ρ.length/\(T.all λp=>p.1 != x)=true then g (T++[(x,d)]) (ρ.set x .no) else .stuck) G:=q
  by_cases hc:IA js ρ=true/\Iz d=true/\x<ρ.length/\(T.all λp=>p.1 != x)=true
  rotate_left
  .rw[if_neg hc]at q;exact q.elim
  rw[if_pos hc]at q;obtain⟨hp,hd,hxl,hT⟩:=hc
  let S:Addr->Prop:=λb=>∃j∈js,∃dj v,ρ[j]?=some (.sh dj)/\σ[j]?=some (some v)/\Ft X.K Ha dj v b
  have s0:∀b,S b->Ha b≠none:=λb ⟨_,_,_,_,_,_,hb⟩=>Ft.some_of hb;refine⟨S,λHf hF=>?_⟩;have hfr:LX (rst Ha S) (rst Hf S):=λc=>by
   by_cases sc:S c
   .rw[l6 sc,l6 sc]
    cases q0:Ha c with
    |none=>exact absurd q0 (s0 c sc)
    |some o=>
     have hH:=h.g.sub _ _ q0
     by_cases hc:S c/\∃us,H c=some (.lst us)
     .obtain⟨us,ob,z,z2⟩:=(hF c).1 hc
      rw[hH]at z;cases z;exact .inr ⟨us,ob,rfl,z2⟩
     .exact .inl (by rw[(hF c).2 hc,hH])
   .left;unfold rst;rw[if_neg sc,if_neg sc]
  have pj:∀j∈js,∀d',ρ[j]?=some (.sh d')->bO d'=true:=λj hj d' ej=>by
   have:=List.all_eq_true.mp hp j hj;rw[ej]at this;exact this
  refine⟨rst Hf S,mN js ρ,Az,λi di ei=>?_,?_⟩
  .obtain⟨hj,ei⟩:=Bz ei
   obtain⟨v,h1,h2⟩:=h.rd i di ei;exact⟨v,h1,Rep.frv hfr (pj i hj di ei) (Rep.rst (pj i hj di ei) h2 λb hb=>⟨i,hj,di,v,ei,h1,hb⟩)⟩
  rw[e1];intro v H' Hm g1 rp;have hout:∀c,H c=none->Hf c=none:=λc z=>by rw[(hF c).2 (λy=>by obtain⟨_,us,y⟩:=y;rw[z]at y;cases y)];exact z
  have hin:∀c,Hf c=none->H c=none:=λc z=>by
   by_cases hc:S c/\∃us,H c=some (.lst us)
   .obtain⟨us,ob,z1,z2⟩:=(hF c).1 hc
    rw[z]at z2;cases z2
   .rw[←(hF c).2 hc];exact z
  have vw:∀{J:Hp},(∀c,S c->Hf c≠none->J c=Hf c)->Vw (λc=>∀o u,X.Ha c≠some (.frz o u)) J (mX S H J):=λ{J} hJ c=>by
   by_cases hc:S c/\∃us,H c=some (.lst us)
   .obtain⟨us,ob,z1,z2⟩:=(hF c).1 hc
    refine .inr ⟨λo u z=>?_,ob,.lst us,by rw[hJ c hc.1 (by rw[z2];simp)];exact z2,by rw[lH hc];exact z1⟩;have:=h.g.s _ _ (hE _ _ z);rw[z1]at this;cases this
   .exact .inl (iD hc)
  have sH:aF H (mX S H H'):=λc o z=>by
   by_cases hc:S c/\∃us,H c=some (.lst us)
   .rw[lH hc];exact z
   .rw[iD hc];exact g1.s _ _ (by rw[(hF c).2 hc];exact z)
  have nopl:∀c us,Hm c=some (.lst us)->H c=none/\H' c=some (.lst us):=λc us z=>by
   refine⟨?_,g1.sub _ _ z⟩;cases q0:rst Hf S c with
   |none=>exact hin _ (g1.nw c (by rw[z];simp) q0)
   |some o=>
    exfalso;have y:=g1.z _ _ q0;rw[z]at y;cases y;have sc:S c:=xt (by rw[q0];simp);rw[l6 sc]at q0
    by_cases hc:S c/\∃us,H c=some (.lst us)
    .obtain⟨us',ob,z1,z2⟩:=(hF c).1 hc
     rw[z2]at q0;cases q0
    .exact hc ⟨sc,us,by rw[←(hF c).2 hc];exact q0⟩
  have hback:∀{c:Addr},H c=none->∀{J:Hp},mX S H J c=J c:=λ{c} z {J}=>iD (λ⟨_,us,y⟩=>by rw[z]at y;cases y);have h1:=(h.same sH).dropT (i:=x) (v:=v);have hJm:∀c,S c->Hf c≠none->Hm c=Hf c:=λc sc n=>by
   cases q0:Hf c with|none=>exact absurd q0 n|some o=>exact g1.z _ _ (by rw[l6 sc];exact q0)
  have hJ':∀c,S c->Hf c≠none->H' c=Hf c:=λc sc n=>by
   cases q0:Hf c with|none=>exact absurd q0 n|some o=>exact g1.s _ _ q0
  have sF:aF (mX S H Hm) (frz He Ha (mX S H H')):=λc o z=>by
   unfold frz
   by_cases hc:S c/\∃us,H c=some (.lst us)
   .rw[lH hc]at z
    cases q1:He c with
    |none=>simp only;rw[lH hc];exact z
    |some o1=>
     simp only;cases q2:Ha c with|none=>exact absurd q2 (s0 c hc.1)|some o2=>rw[←z];exact(h.g.sub _ _ q2).symm
   .rw[iD hc]at z
    cases q1:He c with
    |none=>simp only;rw[iD hc];exact g1.sub _ _ z
    |some o1=>
     simp only;have hH:=h.g.s _ _ q1;cases q2:rst Hf S c with
     |none=>
      have:=hin _ (g1.nw c (by rw[z];simp) q2);rw[hH]at this;cases this
     |some o2=>
      have y:=g1.z _ _ q2;rw[z]at y;cases y;have sc:S c:=xt (by rw[q2];simp);rw[l6 sc,(hF c).2 hc]at q2;cases q3:Ha c with|none=>exact absurd q3 (s0 c sc)|some o3=>rw[←q2];exact(h.g.sub _ _ q3).symm
  have rp2:=(rp.view (vw hJm)).mono sF;unfold Iz at hd;split at hd
  rotate_left
  .cases hd
  rename_i es0 es dr;have hl:es.length<line:=by simpa using hd
  obtain⟨t,ws,rfl,ht,hw⟩:=aH.mp rp;obtain⟨v0,_,rfl,r0,hw⟩:=aD.mp hw;obtain⟨v1,wr,rfl,r1,hw⟩:=aD.mp hw;obtain⟨a0,us0,rfl,c0,_⟩:=bL.mp r0;obtain⟨a1,us1,rfl,c1,rs1⟩:=bL.mp r1;have k0:=nopl a0 us0 c0;have k1:=nopl a1 us1 c1;refine⟨mX S H H',vw hJ',Ha,ρ.set x .no,_,h1,λp hp=>?_,q⟩;rcases List.mem_append.mp hp with hp|hp
  .obtain⟨t',b0,vs0,b1,vs1,wr',z1,z2⟩:=(t0 p hp).same sH
   have hne:p.1≠x:=by have:=List.all_eq_true.mp hT p hp;simpa using this
   exact⟨t',b0,vs0,b1,vs1,wr',by rw[List.getElem?_set_ne (Ne.symm hne)];exact z1,z2⟩
  .rw[List.mem_singleton.mp hp]
   refine⟨t,a0,us0,a1,us1,wr,by rw[List.getElem?_set_self (by rw[←h.ln];exact hxl)],?_,rp2,?_,h.g.s.free k0.1,h.g.sub.free k0.1,?_,h.g.s.free k1.1,h.g.sub.free k1.1,by rw[←rs1.length];exact hl⟩
   .refine ht.imp (λz=>?_) id
    exact(vw hJ').rd (aF.rd g1.sub z) (λ_ _ z=>by cases z)
   .rw[hback k0.1];exact k0.2
   .rw[hback k1.1];exact k1.2
end
structure zL (K:W.Frag) (He Ha H:Hp) (l t:Addr) (n:Nat):Prop where
 p:∃a0 us0 a1 us1 wr,fS K H t (.ref a0::.ref a1::wr)/\(H a0=some (.lst us0)/\He a0=none/\Ha a0=none/\a0≠l)/\(H a1=some (.lst us1)/\He a1=none/\Ha a1=none/\a1≠l)/\us1.length<=line+n
def fS.poke{K:W.Frag}{H:Hp}{t b:Addr}{vs us us':ad}(h:fS K H t vs)(e:H b=some (.lst us)):fS K (upd H b (.lst us')) t vs:=by
 rcases h with z|z
 .refine .inl ?_
  rcases z with z|⟨o,z⟩
  .exact .inl (by rw[aC (by intro y;subst y;rw[e]at z;cases z)];exact z)
  .exact .inr ⟨o,by rw[aC (by intro y;subst y;rw[e]at z;cases z)];exact z⟩
 .exact .inr z
def zL.poke{K:W.Frag}{He Ha H:Hp}{l t b:Addr}{n m:Nat}{us us':ad}(h:zL K He Ha H l t n)(e:H b=some (.lst us))(hm:us'.length<=line+m)(hnm:n<=m):zL K He Ha (upd H b (.lst us')) l t m:=by
 obtain⟨a0,us0,a1,us1,wr,h1,⟨h2,h3,h4,h5⟩,⟨k2,k3,k4,k5⟩,hl⟩:=h;obtain⟨v0,e0⟩:∃v,upd H b (.lst us') a0=some (.lst v):=by
  by_cases c:a0=b
  .subst c;exact⟨_,aG⟩
  .exact⟨us0,by rw[aC c];exact h2⟩
 obtain⟨v1,e1,q1⟩:∃v,upd H b (.lst us') a1=some (.lst v)/\v.length<=line+m:=by
  by_cases c:a1=b
  .subst c;exact⟨_,aG,hm⟩
  .exact⟨us1,by rw[aC c];exact k2,by omega⟩
 exact⟨a0,v0,a1,v1,wr,fS.poke h1 e,⟨e0,h3,h4,h5⟩,⟨e1,k3,k4,k5⟩,q1⟩
section
variable {X:Cx}{E:XK}{He H0e:Hp}{rest:List Stmt}{r:am}
def kO(it x y:Nat)(r:am):List (Nat×D)->am:=λT ρ=>if wc ρ=true/\it<ρ.length/\(T.any λp=>p.1==x)=true/\(T.any λp=>p.1==y)=true then r (ρ.set it .no) else .stuck
def Ag{it x y:Nat}{nt nx ny:Str}{k k':Int}{jj jk jn}{p0 p1 p2 p3 p4 p5 q0 q1 q2 q3 q4 q5 q6 pt px py pl pos:Pos}(hp:PassesOwn (model X.prog X.w) X.A X.env X.xe)(hc:X.calm=true)(hk:k=0)(hk':k'=1)(hND:X.N.Nodup)(hN:X.N[it]?=some nt)(hv:zI X.env.scope nt)(hlo:zM X.env.scope nt)
  (hNx:X.N[x]?=some nx)(hvx:zI X.env.scope nx)(hNy:X.N[y]?=some ny)(hvy:zI X.env.scope ny)(hr:tQ X E He H0e rest r)
  (hd:(nt==("__debug__":Str))=false:=by decide)(hcd:(nt==("__classdict__":Str))=false:=by decide)(hdx:(nx==("__debug__":Str))=false:=by decide)(hcx:(nx==("__classdict__":Str))=false:=by decide)(hdy:(ny==("__debug__":Str))=false:=by decide)(hcy:(ny==("__classdict__":Str))=false:=by decide)
  (hix:lT (.Constant (.int k) jj p4):=by exact λ_ _=>rfl)(hix':lT (.Constant (.int k') jk q4):=by exact λ_ _=>rfl)
  (hbase:attributeBase (.Subscript (.Name nt p1) (.Constant (.int k) jj p4) p0) "clear" X.env (eval (.Subscript (.Name nt p1) (.Constant (.int k) jj p4) p0) X.env)=eval (.Subscript (.Name nt p1) (.Constant (.int k) jj p4) p0) X.env:=by rfl)(hline:(p2.endLine==p3.line)=true:=by rfl)
  (hw:swapsWith (.Call (.Attribute (.Subscript (.Name nt p1) (.Constant (.int k) jj p4) p0) "clear" p2) [] [] p3) none p5.line X.env=pure false:=by rfl)
  (hbase':attributeBase (.Subscript (.Name nt q1) (.Constant (.int k') jk q4) q0) "append" X.env (eval (.Subscript (.Name nt q1) (.Constant (.int k') jk q4) q0) X.env)=eval (.Subscript (.Name nt q1) (.Constant (.int k') jk q4) q0) X.env:=by rfl)
  (hfew:((backTo q3 (starEach [.Constant .none jn q6] X.env)).all (λx=>!x.1)&&(backToKw q3 (keywordEach [] X.env)).all (λx=>x.1.isSome)
  &&decide ([(.Constant .none jn q6:Expr)].length+([]:List Keyword).length+(if([]:List Keyword).isEmpty then 0 else 1)<30))=true:=by exact oX rfl)
  (hline':(q2.endLine==q3.line)=true:=by rfl) (hs:starEach [.Constant .none jn q6] X.env=(false,eval (.Constant .none jn q6) X.env)::starEach [] X.env:=by exact aY rfl) (hplain:(backTo q3 (starEach [] X.env)).any (·.1)=false:=by exact bY rfl)
  (hw':swapsWith (.Call (.Attribute (.Subscript (.Name nt q1) (.Constant (.int k') jk q4) q0) "append" q2) [.Constant .none jn q6] [] q3) none q5.line X.env=pure false:=by rfl)
  (hf:X.fn nt=true∨X.env.scope.names.lookup nt=some .local := by first|exact .inl rfl|exact .inr rfl|assumption)
  (h2s:starEach [.Name nx px,.Name ny py] X.env=(false,eval (.Name nx px) X.env)::starEach [.Name ny py] X.env:=by exact aY rfl) (h1s:starEach [.Name ny py] X.env=(false,eval (.Name ny py) X.env)::starEach [] X.env:=by exact aY rfl)
  (hfs:∀v,foldedSetIterable (.List [.Name nx px,.Name ny py] pl) X.env v=pure v:=by intro _;rfl) :
  zJ X E He H0e (.For (.Name nt pt) (.List [.Name nx px,.Name ny py] pl) [.Expr (.Call (.Attribute (.Subscript (.Name nt p1) (.Constant (.int k) jj p4) p0) "clear" p2) [] [] p3) p5,.Expr (.Call (.Attribute (.Subscript (.Name nt q1) (.Constant (.int k') jk q4) q0) "append" q2) [.Constant .none jn q6] [] q3) q5] [] pos::rest) (kO it x y r):=by
 refine⟨?_⟩;have h1:=kZ (A9 PySem.F.plainAttrs_list PySem.F.slot_list_clear PySem.F.type_list_clear Bq (A6 wq (gb hN hv hd hcd) oy hix) hbase hline) hw;have h2:=kZ (Ba PySem.F.plainAttrs_list PySem.F.slot_list_append PySem.F.type_list_append ma (A6 wq (gb hN hv hd hcd) oy hix') (cQ (A4 (j:=jn) (pos:=q6)) fI hs) hbase' hfew hline' hs hplain) hw';refine dY (dZ (oj hp hc (rQ (v8 (cQ (gb hNx hvx hdx hcx) (cQ (gb hNy hvy hdy hcy) fI h1s) h2s))) (rS hND hN hlo hf) (dZ h1 (dZ h2 kY)) hfs) hr.o) λG σ H ⟨Ha,ρ,T,h,t,q⟩=>?_;unfold kO at q
 by_cases hcond:wc ρ=true/\it<ρ.length/\(T.any λp=>p.1==x)=true/\(T.any λp=>p.1==y)=true
 rotate_left
 .rw[if_neg hcond]at q;exact q.elim
 rw[if_pos hcond]at q;obtain⟨hn,hit,hxT,hyT⟩:=hcond;have tx:∃d,TP X.K He Ha σ H x d:=by
  obtain⟨p,hp1,hp2⟩:=List.any_eq_true.mp hxT;exact⟨p.2,by rw[←eq_of_beq hp2];exact t p hp1⟩
 have ty:∃d,TP X.K He Ha σ H y d:=by
  obtain⟨p,hp1,hp2⟩:=List.any_eq_true.mp hyT;exact⟨p.2,by rw[←eq_of_beq hp2];exact t p hp1⟩
 obtain⟨_,t1,a0,us0,a1,us1,wr,e1,ht,_,c0,n0,m0,c1,n1,m1,hl1⟩:=tx;obtain⟨_,t2,b0,vs0,b1,vs1,wr2,e2,ht2,_,d0,o0,k0,d1,o1,k1,hl2⟩:=ty;refine⟨.ref t1,e1,.ref t2,e2,by show 2<=sizeLine;decide,λl hl=>?_⟩;have ne:∀{a:Addr}{us:ad},H a=some (.lst us)->a≠l:=λ{a us} e z=>by rw[z,hl]at e;cases e
 have sm:aF H (upd H l (.lst [.ref t1,.ref t2])):=λb o e=>by rw[aC (by intro z;subst z;rw[hl]at e;cases e)];exact e
 refine⟨l,rfl,⟨_,dF.of aG⟩,?_⟩;have hel:He l=none:=h.g.s.free hl;have h0l:Ha l=none:=h.g.sub.free hl;have nO:∀i:Nat,wc (if i=0 then ρ else ρ.set it .no)=true:=λi=>by split;exact hn;exact DC hn
 refine uK (K:=X.K) (a:=l) (xs:=[.ref t1,.ref t2]) (λi σ' H'=>cW X.K He H0e Ha σ' H' (if i=0 then ρ else ρ.set it .no)/\H' l=some (.lst [.ref t1,.ref t2])/\zL X.K He Ha H' l t1 i/\zL X.K He Ha H' l t2 i) ?_ ?_ ?_ ?_
 .exact⟨h.same sm,aG,⟨a0,us0,a1,us1,wr,aF.sqT sm ht,⟨sm _ _ c0,n0,m0,ne c0⟩,⟨sm _ _ c1,n1,m1,ne c1⟩,by omega⟩,⟨b0,vs0,b1,vs1,wr2,aF.sqT sm ht2,⟨sm _ _ d0,o0,k0,ne d0⟩,⟨sm _ _ d1,o1,k1,ne d1⟩,by omega⟩⟩
 .exact λi σ' H' _ hP=>dF.of hP.2.1
 .intro i v σ' H' hv' ⟨h',hL,w1,w2⟩
  have hi2:i<2:=(List.getElem?_eq_some_iff.mp hv').1;obtain⟨tt,rfl,wt⟩:∃tt,v=.ref tt/\zL X.K He Ha H' l tt i:=by
   match i,hi2 with
   |0,_=>cases hv';exact⟨t1,rfl,w1⟩
   |1,_=>cases hv';exact⟨t2,rfl,w2⟩
  obtain⟨a0,us0,a1,us1,wr,ht,⟨c0,n0,m0,l0⟩,⟨c1,n1,m1,l1⟩,hl1⟩:=wt;have hs2:(σ'.set it (some (V.ref tt)))[it]?=some (some (.ref tt)):=by
   rw[List.getElem?_set_self];have:=h'.ln;have hlen:(if i=0 then ρ else ρ.set it .no).length=ρ.length:=by split<;>simp
   omega
  refine⟨.ref tt,hs2,?_⟩;refine⟨tt,.ref a0::.ref a1::wr,k,.ref a0,rfl,rfl,ht,by rw[hk];exact eE (j:=0) rfl,.inl ⟨rfl,us0,dF.of c0⟩,a0,us0,rfl,rfl,c0,?_⟩;have htn:=fS.poke (us':=[]) ht c0;obtain⟨us,hu,hul,hue⟩:∃us,upd H' a0 (.lst []) a1=some (.lst us)/\us.length<sizeLine/\us.length<=line+i:=by
   by_cases c:a1=a0
   .subst c;exact⟨[],aG,by decide,by simp⟩
   .refine⟨us1,by rw[aC c];exact c1,?_,hl1⟩
    have:line+2<sizeLine:=by decide
    omega
  refine⟨.ref tt,hs2,?_⟩;refine⟨tt,.ref a0::.ref a1::wr,k',.ref a1,rfl,rfl,htn,by rw[hk'];exact eE (j:=1) rfl,.inl ⟨rfl,us,dF.of hu⟩,?_⟩;refine⟨a1,us,.non,rfl,rfl,hu,hul,?_⟩;have kp:∀b o,b≠a0->b≠a1->H' b=some o->upd (upd H' a0 (.lst [])) a1 (.lst (us++[.non])) b=some o:=λb o z0 z1 eb=>by rw[aC z1,aC z0];exact eb
  have h2':=(h'.poke (H2:=upd (upd H' a0 (.lst [])) a1 (.lst (us++[.non]))) (nO i) (λb o eb=>kp b o (by intro z;subst z;rw[n0]at eb;cases eb) (by intro z;subst z;rw[n1]at eb;cases eb) (h'.g.s _ _ eb)) (λb o eb=>kp b o (by intro z;subst z;rw[m0]at eb;cases eb) (by intro z;subst z;rw[m1]at eb;cases eb) (h'.g.sub _ _ eb))).dropT (i:=it) (v:=.ref tt);have eρ:(if i=0 then ρ else ρ.set it .no).set it .no=ρ.set it .no:=by split;rfl;rw[List.set_set]
  rw[eρ]at h2';refine⟨by rw[if_neg (by omega)];exact h2',kp _ _ (Ne.symm l0) (Ne.symm l1) hL,?_,?_⟩
  .exact(w1.poke (us':=[]) (m:=i) c0 (by simp) (Nat.le_refl _)).poke hu (by simp;omega) (by omega)
  .exact(w2.poke (us':=[]) (m:=i) c0 (by simp) (Nat.le_refl _)).poke hu (by simp;omega) (by omega)
 .intro σ' H' ⟨h',_⟩
  exact⟨Ha,ρ.set it .no,h',q⟩
end
def oU{X:Cx}{pins:List (Addr×Obj)}{σ:List (Option V)}{H:Hp}{s:Shared}{d:Addr}{o:Obj}{kvs:List (cq×V)}{es:Array DictEntry}{ep:Nat}(I:Inv X pins σ H s)(e:H d=some (.frz o (.dK kvs)))(he:o.data=.dict es ep) :
  (d==sysModules)=false/\∃vs,KV kvs vs/\s.heap.DictAt (ck X.prog X.w) d vs ep:=by
 obtain⟨h1,hz,ns,vs,kv,o',es',ep',d1,d2,d3,d4⟩:=(show bJ X.prog X.w H s.heap d (.frz o (.dK kvs)) from I.hok d _ e)
 rw[h1]at d1;cases d1;rw[he]at d3;cases d3;exact⟨ns,vs,kv,o,es,h1,d2,he,d4⟩
def Fx{X:Cx}{pins:List (Addr×Obj)}{σ:List (Option V)}{H:Hp}{s:Shared}{d:Addr}{o:Obj}{kvs:List (cq×V)}(I:Inv X pins σ H s)(e:H d=some (.frz o (.dK kvs))):∃es ep,o.data=.dict es ep:=by
 obtain⟨h1,hz,ns,vs,kv,o',es',ep',d1,d2,d3,d4⟩:=(show bJ X.prog X.w H s.heap d (.frz o (.dK kvs)) from I.hok d _ e)
 rw[h1]at d1;cases d1;exact⟨_,_,d3⟩
def By{kvs:List (cq×V)}{vs:List (cq×Value)}(kv:KV kvs vs){i:Nat}{k:cq}{x:V}(e:kvs[i]?=some (k,x)):∃u,vs[i]?=some (k,u)/\bq x u:=by
 have hl:kvs.length=vs.length:=Paired.length kv;have hi:i<kvs.length:=(List.getElem?_eq_some_iff.mp e).1;cases e2:vs[i]? with
 |none=>rw[List.getElem?_eq_none_iff]at e2;omega
 |some q=>
  obtain⟨k',u⟩:=q;have:=ju kv e e2;exact⟨u,by rw[show k=k' from this.1],this.2⟩
def Bx{P:Program}{w:World}{k:cq}{u:Value}(isk:(ck P w).is k u=true):bq (kV k) u:=by
 rcases cj isk with⟨j,t,rfl,rfl⟩|⟨y,t,rfl,rfl⟩
 .exact⟨t,rfl⟩
 .exact⟨t,rfl⟩
def LV(d:Addr)(o:Obj)(kvs:List (cq×V)):It :=
 ⟨λi H=>H d=some (.frz o (.dK kvs))/\i<kvs.length,λi H x H'=>H'=H/\∃kv,kvs[i]?=some kv/\x=kV kv.1,λi H=>H d=some (.frz o (.dK kvs))/\kvs.length<=i⟩
def yy{P:Program}{w:World}{K:W.Frag}{tg:Expr}{o:Obj}{es:Array DictEntry}{ep:Nat}{kvs:List (cq×V)}(d it:Addr)(he:o.data=.dict es ep):qz P w K tg (LV d o kvs) [it] it (λi h=>h.IsKeyIter it d i kvs.length ep) where
 mem:=by simp
 obj:=λi h st b hb=>by
  have e:b=it:=by simpa using hb
  subst e;obtain⟨o,e,c,d⟩:=st;exact⟨o,e,λv z=>by rw[d]at z;cases z⟩
 keep:=λi h h' st k=>st.at λo e=>k it (by simp) o e
 item:=by
  intro X hP hw hK hc i pins s σ H E I hf st hg;subst hP hw hK;obtain⟨hq,hi⟩:=hg;obtain⟨ns,vs,kv,da⟩:=oU I hq he;have hl:kvs.length=vs.length:=Paired.length kv;obtain⟨f0,f1,f2,f3,f4,f5⟩:=hf it (by simp);obtain⟨⟨k,x⟩,hx⟩:∃p,kvs[i]?=some p:=⟨kvs[i],by simp[hi]⟩
  obtain⟨u,hu,ru⟩:=By kv hx;rw[hl]at st;refine wpAny_pyNext_dict_item st da hu λkey h' isk st' sb=>?_;have I1:Inv X pins σ H { s with heap:=h' }:=I.turned (t':=s.toks) (λb o hb e=>(sb.2 b hb).trans e) f0 f1 f3 f4 f5;obtain⟨o,e,c,d⟩:=id st';exact⟨key,rfl,uI (s:={ s with heap:=h' }) e c d (by decide) ⟨kV k,H,I1,Bx isk,⟨rfl,_,hx,rfl⟩,by rw[hl];exact st',λb hb=>(hf b hb).1⟩⟩
 done:=by
  intro X hP hw hK hc i pins s σ H E I hf st hg;subst hP hw hK;obtain⟨hq,hi⟩:=hg;obtain⟨ns,vs,kv,da⟩:=oU I hq he;have hl:kvs.length=vs.length:=Paired.length kv;obtain⟨f0,f1,f2,f3,f4,f5⟩:=hf it (by simp);rw[hl]at st;exact wpAny_pyNext_dict_end (I.ok.hd hc) st da (by rw[List.getElem?_eq_none_iff];omega) λh' eb=>⟨rfl,I.turned (t':=s.toks) (λb o hb e=>eb b o hb e) f0 f1 f3 f4 f5⟩
 self:=λ_ _ _ _ _ st h=>wpAny_pyIter_keyiter st h
def LW(d:Addr)(o:Obj)(kvs:List (cq×V)):It :=
 ⟨λi H=>H d=some (.frz o (.dK kvs))/\i<kvs.length,λi H x H'=>∃p kv,H p=none/\kvs[i]?=some kv/\x=.ref p/\H'=upd H p (.tup [kV kv.1,kv.2]),λi H=>H d=some (.frz o (.dK kvs))/\kvs.length<=i⟩
def vK{P:Program}{w:World}{K:W.Frag}{elts:List Expr}{kk:Nat}{pos:Pos}{o:Obj}{es:Array DictEntry}{ep:Nat}{kvs:List (cq×V)}(d it:Addr)(he:o.data=.dict es ep) :
  qz P w K (.Tuple elts kk pos) (LW d o kvs) [it] it (λi h=>∃ok ov,IsItemIter h it d i kvs.length ep ok ov) where
 mem:=by simp
 obj:=λi h st b hb=>by
  have e:b=it:=by simpa using hb
  subst e;obtain⟨_,_,st⟩:=st;exact⟨_,st,λv z=>by cases z⟩
 keep:=λi h h' ⟨ok,ov,st⟩ k=>⟨ok,ov,k it (by simp) _ st⟩
 item:=by
  intro X hP hw hK hc i pins s σ H E I hf st hg;subst hP hw hK;obtain⟨hq,hi⟩:=hg;obtain⟨ns,vs,kv,da⟩:=oU I hq he;have hl:kvs.length=vs.length:=Paired.length kv;obtain⟨⟨k,x⟩,hx⟩:∃p,kvs[i]?=some p:=⟨kvs[i],by simp[hi]⟩
  obtain⟨u,hu,ru⟩:=By kv hx;obtain⟨ok,ov,st⟩:=st;rw[hl]at st;have hitlt:it<s.heap.objs.size:=Heap.lt_size st;refine wpAny_pyNext_items_item st da hu λkey h' isk out tup sz kp=>?_;refine⟨_,rfl,wpAny_letOwnedTupleGo_items out λh'' hit'' sb=>?_⟩;have hT:(s.heap.objs.size:Addr)≠it:=Nat.ne_of_gt hitlt;have tup':=(sb.2 _ hT).trans tup;have ii:∀b,b∉[it]->b≠it:=λb hb z=>hb (by simp[z]);refine⟨.ref s.heap.objs.size,upd H s.heap.objs.size (.tup [kV k,x]),jU (s:=s) (h':=h'') (t':=s.toks) (fp:=[it]) I (λb o hb e=>(sb.2 b (ii b hb)).trans (kp b o (ii b hb) e)) hf (Nat.le_refl _) ⟨by show 2<=sizeLine;decide,[key,u],.cons (Bx isk) (.cons ru .nil),_,tup',rfl,_,rfl⟩,rfl,⟨_,_,I.hok.fresh (Nat.le_refl _),hx,rfl,rfl⟩,⟨_,_,by rw[hl];exact hit''⟩,λb hb=>?_⟩;have e:b=it:=by simpa using hb
  subst e;rw[aC (Nat.ne_of_lt hitlt)];exact(hf b (by simp)).1
 done:=by
  intro X hP hw hK hc i pins s σ H E I hf st hg;subst hP hw hK;obtain⟨hq,hi⟩:=hg;obtain⟨ns,vs,kv,da⟩:=oU I hq he;have hl:kvs.length=vs.length:=Paired.length kv;obtain⟨ok,ov,st⟩:=st;rw[hl]at st;exact wpAny_pyNext_items_end (I.ok.hd hc) st da (by rw[List.getElem?_eq_none_iff];omega) λh' eb=>⟨rfl,nA (t':=s.toks) (fp:=[it]) I (λb o hb e=>eb b o (λz=>hb (by simp[z])) e) hf⟩
 self:=λ_ _ _ _ _ ⟨ok,ov,st⟩ h=>W.kcp_self st h
section
variable {X:Cx}{tg:Expr}
def J0(tl:TE):TI:=λσ H R=>tl σ H λx H1=>∃a o kvs,x=.ref a/\H1 a=some (.frz o (.dK kvs))/\R (LV a o kvs) H1
def Di{l:Expr}{tl:TE}(hl:PE X l tl):PI X tg l (J0 tl):=by
 intro pins s σ H R I h;refine cR (hl pins s σ H _ I h) λv s1 ⟨x,H1,I1,r1,q1⟩=>?_;obtain⟨a,o,kvs,e,hq,q⟩:=q1;subst e;cases r1;obtain⟨es,ep,he⟩:=Fx I1 hq;obtain⟨ns,vs,kv,da⟩:=oU I1 hq he;refine wpAny_pyIter_dict ns da ?_;refine⟨s1.heap.objs.size,[s1.heap.objs.size],_,_,H1,rfl,I1.kept (t':=s1.toks) λb o e=>Heap.get?_push_of_some _ e,yy a _ he,⟨_,Heap.get?_push_size _ rfl,rfl,by rw[show kvs.length=vs.length from Paired.length kv];rfl⟩,λb hb=>?_,q⟩;have e:b=s1.heap.objs.size:=by simpa using hb
 subst e;exact I1.fpOk (Nat.le_refl _) (I1.hok.fresh (Nat.le_refl _))
def Hd(tl:TE):TI:=λσ H R=>tl σ H λx H1=>∃a o kvs,x=.ref a/\H1 a=some (.frz o (.dK kvs))/\R (LW a o kvs) H1
def AW{l:Expr}{tl:TE}{elts:List Expr}{k:Nat}{tp apos cpos:Pos}(hl:PE X l tl)(hbase:attributeBase l "items" X.env (eval l X.env)=eval l X.env:=by rfl)(hline:(apos.endLine==cpos.line)=true:=by rfl) :
  PI X (.Tuple elts k tp) (.Call (.Attribute l "items" apos) [] [] cpos) (Hd tl):=by
 intro pins s σ H R I h;refine wpAny_Call_method0_late hbase hline (cR (hl pins s σ H _ I h) λv s1 ⟨x,H1,I1,r1,q1⟩=>?_);obtain⟨a,o,kvs,e,hq,q⟩:=q1;subst e;cases r1;obtain⟨es,ep,he⟩:=Fx I1 hq;obtain⟨ns,vs,kv,da⟩:=oU I1 hq he;have hT:s1.TypeIs (.ref a) "dict":=da.dictOf.typeIs;obtain⟨o',es',d1,d2,d3⟩:=id da;refine⟨"dict","dict.items",PySem.F.plainAttrs_dict,PySem.F.slot_dict_items,PySem.F.type_dict_items,hT,λb e=>?_,Calls.callWith_builtin rfl (PySem.evalArgs_none (call_meetsIn PySem.F.slot_dict_items hT PySem.F.entry_dict_items (PySem.F.args_dict_items_1 _) (meets_dict_items (ck X.prog X.w) a ns) ⟨⟨_,da.dictOf⟩,?_⟩))⟩
 .cases e;exact⟨o',d1,d2.2.1⟩
 have I2:Inv X pins σ H1 { s1 with heap:=s1.heap.push { cls:=.type "dict_items",data:=.fields #[.ref a] } }:=I1.kept (t':=s1.toks) λb o e=>Heap.get?_push_of_some _ e;obtain⟨_,vs2,kv2,da2⟩:=oU I2 hq he;refine wpAny_pyIter_items ⟨_,Heap.get?_push_size _ rfl,rfl,rfl⟩ da2 ?_;refine⟨_,[_],_,_,H1,rfl,I2.kept (t':=s1.toks) λb o e=>Heap.get?_push_of_some _ e,vK a _ he,⟨.none,.none,?_⟩,λb hb=>?_,q⟩
 .rw[show kvs.length=vs2.length from Paired.length kv2];exact Heap.get?_push_size _ rfl
 .have e:=List.mem_singleton.mp hb
  subst e;exact I2.fpOk (Nat.le_refl _) (I2.hok.fresh (Nat.le_refl _))
end
mutual
/-- the same things are read where a dict is frozen -/
theorem Rep.dz{K:W.Frag}{J Jf:Hp}{p:Addr}{kvs:List (cq×V)}(ho:∀c,c≠p->Jf c=J c)(h1:Rd J p (.dK kvs))(h2:Rd Jf p (.dK kvs)):∀{d:D}{v:V},Rep K J d v->Rep K Jf d v
 |.non,_,h=>by unfold Rep at h ⊢;exact h
 |.bl _,_,h=>by unfold Rep at h ⊢;exact h
 |.int _,_,h=>by unfold Rep at h ⊢;exact h
 |.str _,_,h=>by unfold Rep at h ⊢;exact h
 |.tup ds,_,h=>by
  obtain⟨a,vs,rfl,e2,e3⟩:=aH.mp h;exact aH.mpr ⟨a,vs,rfl,e2.imp (λr=>rdz ho h1 h2 r) id,Reps.dz ho h1 h2 e3⟩
 |.lst ds,_,h=>by
  obtain⟨a,vs,rfl,e2,e3⟩:=aB.mp h;exact aB.mpr ⟨a,vs,rfl,e2.imp (λr=>rdz ho h1 h2 r) id,Reps.dz ho h1 h2 e3⟩
 |.dic ks ds,_,h=>by
  rw[Rep]at h ⊢;obtain⟨a,kvs,vs,rfl,e1,e2,e3,e4⟩:=h;exact⟨a,kvs,vs,rfl,rdz ho h1 h2 e1,e2,e3,Reps.dz ho h1 h2 e4⟩
 |.exc x,_,h=>by
  obtain⟨a,C,dc,rfl,e1,e2⟩:=gR.mp h;exact gR.mpr ⟨a,C,dc,rfl,e1,rdz ho h1 h2 e2⟩
 |.ob k ds,_,h=>by
  obtain⟨a,vs,rfl,e1,e2⟩:=bL.mp h;refine bL.mpr ⟨a,vs,rfl,?_,Reps.dz ho h1 h2 e2⟩;have pl:∀c o,J c=some o->(∀l,o≠.dK l)->(∀q l,o≠.frz q l)->Jf c=some o:=λc o e n1 n2=>by
   rw[ho c (λz=>by subst z;rcases h1 with h1|⟨_,h1⟩<;>rw[h1]at e<;>cases e;exact n1 _ rfl;exact n2 _ _ rfl)];exact e
  cases k with|ins c ks=>obtain⟨C,dx,q0,q1,q2,q3⟩:=e1;exact⟨C,dx,q0,q1,pl _ _ q2 (λ_ z=>by cases z) (λ_ _ z=>by cases z),q3⟩|dint ks=>obtain⟨kvs,q1,q2,q3⟩:=e1;exact⟨kvs,rdz ho h1 h2 q1,q2,q3⟩|exf c ks=>obtain⟨C,dx,fs,q1,q2,q3,q4⟩:=e1;exact⟨C,dx,fs,q1,rdz ho h1 h2 q2,pl _ _ q3 (λ_ z=>by cases z) (λ_ _ z=>by cases z),q4⟩|pl=>exact pl _ _ e1 (λ_ z=>by cases z) (λ_ _ z=>by cases z)
theorem Reps.dz{K:W.Frag}{J Jf:Hp}{p:Addr}{kvs:List (cq×V)}(ho:∀c,c≠p->Jf c=J c)(h1:Rd J p (.dK kvs))(h2:Rd Jf p (.dK kvs)):∀{ds:ac}{vs:ad},Reps K J ds vs->Reps K Jf ds vs
 |[],_,h=>by rw[Reps.nil_iff.mp h];exact Reps.nil
 |d::ds,_,h=>by
  obtain⟨v,r,rfl,e1,e2⟩:=aD.mp h;exact Reps.cons (Rep.dz ho h1 h2 e1) (Reps.dz ho h1 h2 e2)
theorem rdz{J Jf:Hp}{p:Addr}{kvs:List (cq×V)}(ho:∀c,c≠p->Jf c=J c)(h1:Rd J p (.dK kvs))(h2:Rd Jf p (.dK kvs)){a:Addr}{o:HO}(r:Rd J a o)(n:∀q l,o≠.frz q l:=by intro _ _ z;cases z):Rd Jf a o:=by
 by_cases c:a=p
 .subst c
  have:o=.dK kvs:=by
   rcases h1 with h1|⟨_,h1⟩<;>rcases r with r|⟨_,r⟩<;>rw[h1]at r<;>cases r<;>first|rfl|exact absurd rfl (n _ _)
  subst this;exact h2
 .unfold Rd;rw[ho a c];exact r
end
section
variable {X:Cx}{pins:List (Addr×Obj)}{σ:List (Option V)}{H:Hp}{s:Shared}{a:Addr}{o:Obj}{kvs:List (cq×V)}
def Hh(I:Inv X pins σ H s)(e:H a=some (.dK kvs))(eo:s.heap.get? a=some o):Inv X pins σ (upd H a (.frz o (.dK kvs))) s:=by
 have hout:∀c,H c=none->upd H a (.frz o (.dK kvs)) c=none:=λc z=>by rw[aC (by intro y;subst y;rw[e]at z;cases z)];exact z
 have keep:∀b u,H b=some u->(∀l,u≠.dK l)->upd H a (.frz o (.dK kvs)) b=some u:=λb u z n=>by rw[aC (by intro y;subst y;rw[e]at z;cases z;exact n _ rfl)];exact z
 refine⟨I.ok,I.os,I.bare,⟨I.base.keep,I.base.slot,λb o e n hx=>hout _ (I.base.free b o e n hx),I.base.there,λb xs e=>keep _ _ (I.base.tups b xs e) (λ_ z=>by cases z),λb o u e=>keep _ _ (I.base.frzs b o u e) (λ_ z=>by cases z),λb ps e=>?_⟩,I.loc,I.cell,hout _ I.free,λx c e=>hout _ (I.freeC x c e),λp hp=>?_,λc u ec=>?_,I.len⟩
 .obtain⟨m,h1⟩:=I.base.tbls b ps e
  exact⟨m,keep _ _ h1 (λ_ z=>by cases z)⟩
 .obtain⟨h1,h2,h3⟩:=I.pin p hp
  exact⟨h1,hout _ h2,h3⟩
 .have st:∀{c:Addr}{u:HO},bJ X.prog X.w H s.heap c u->bJ X.prog X.w (upd H a (.frz o (.dK kvs))) s.heap c u:=λx=>x.stay (λb u _ q=>q) (λb q=>keep _ _ q (λ_ z=>by cases z)) λb xs q=>keep _ _ q (λ_ z=>by cases z)
  by_cases z:c=a
  .subst z;rw[aG]at ec;cases ec;exact⟨eo,st (I.hok c _ e)⟩
  .rw[aC z]at ec;exact st (I.hok c u ec)
noncomputable def Ff(a:Addr) (o:Obj) (kvs:List (cq×V)) (D:fW):fW where
 nx:=λσ H'=>H' a=some (.frz o (.dK kvs))/\D.nx σ (upd H' a (.dK kvs))
 rt:=λv H'=>H' a=some (.frz o (.dK kvs))/\D.rt v (upd H' a (.dK kvs))
 bk:=λσ H'=>H' a=some (.frz o (.dK kvs))/\D.bk σ (upd H' a (.dK kvs))
 ct:=λσ H'=>H' a=some (.frz o (.dK kvs))/\D.ct σ (upd H' a (.dK kvs))
def Gu{st:Stmt}{t:TS}(h:PS X st t):PS X st λD σ H=>∃a kvs,H a=some (.dK kvs)/\∀o,t (Ff a o kvs D) σ (upd H a (.frz o (.dK kvs))):=by
 intro pins s σ H D I ⟨a,kvs,e,q⟩;obtain⟨_,_,_,_,o,_,_,eo,_⟩:=I.hok a _ e;have nf:∀o u,X.Ha a≠some (.frz o u):=λo u z=>by have:=I.base.frzs a o u z;rw[e]at this;cases this
 refine cR (h pins s σ _ _ (Hh I e eo) (q o)) λf s' hf=>?_;have back:∀{σ':List (Option V)}{H':Hp},Inv X pins σ' H' s'->H' a=some (.frz o (.dK kvs))->Inv X pins σ' (upd H' a (.dK kvs)) s':=λI' e'=>rD (λc=>by
  by_cases z:c=a
  .subst z;exact .inr ⟨nf,_,_,e',aG⟩
  .exact .inl (aC z)) I'
 cases f with|next|brk|cont=>obtain⟨σ',H',I',e',q'⟩:=hf;exact⟨σ',_,back I' e',q'⟩|ret u=>obtain⟨v,σ',H',I',r,e',q'⟩:=hf;exact⟨v,σ',_,back I' e',r,q'⟩
end
def E7.dz{K:W.Frag}{He Ha H He' Ha' H':Hp}{p b:Addr}{kvs:List (cq×V)}{j:Nat}{ds:ac}{P:Nat->Addr}(hH:∀c,c≠p->H' c=H c)(h0:∀c,c≠p->Ha' c=Ha c)(hE:∀c,c≠p->He' c=He c)(r1:Rd Ha p (.dK kvs))(r2:Rd Ha' p (.dK kvs))(hs:aF Ha H)
  (h:E7 K He Ha H b j ds P):E7 K He' Ha' H' b j ds P:=by
 obtain⟨vs,e1,e2,e3,e4,e5,e6⟩:=h;have nb:b≠p:=λz=>by
  subst z;rcases r1 with r|⟨_,r⟩<;>rw[hs _ _ r]at e2<;>cases e2
 refine⟨vs,by rw[hE b nb];exact e1,by rw[hH b nb];exact e2,e3,λk ok=>?_,e5,λk d v hk q1 q2=>Rep.dz h0 r1 r2 (e6 k d v hk q1 q2)⟩;obtain⟨es,us,q1,q2,q3,q4,q5,q6⟩:=e4 k ok;have np:P k≠p:=λz=>by
  rw[z]at q2;rcases r1 with r|⟨_,r⟩<;>rw[r]at q2<;>cases q2
 exact⟨es,us,by rw[hE _ np];exact q1,by rw[h0 _ np];exact q2,q3,q4,by rw[hH _ np];exact q5,Reps.dz h0 r1 r2 q6⟩
def vx.dz{K:W.Frag}{Ha H Ha' H':Hp}{p b:Addr}{kvs:List (cq×V)}{d:D}(hH:H' b=H b)(h0:∀c,c≠p->Ha' c=Ha c)(r1:Rd Ha p (.dK kvs))(r2:Rd Ha' p (.dK kvs))(h:vx K Ha H b d):vx K Ha' H' b d:=by
 cases d with
 |lst ds=>obtain⟨vs,q1,q2⟩:=h;exact⟨vs,hH.trans q1,Reps.dz h0 r1 r2 q2⟩|dic ks ds=>obtain⟨vs,q1,q2,q3⟩:=h;exact⟨vs,hH.trans q1,q2,Reps.dz h0 r1 r2 q3⟩
 |ob k ds=>
  cases k with|dint ks=>obtain⟨vs,q1,q2,q3⟩:=h;exact⟨vs,hH.trans q1,q2,Reps.dz h0 r1 r2 q3⟩| _=>exact h.elim
 |_=>exact h.elim
def cW.dz{K:W.Frag}{He H0e Ha H He' H0e' Ha' H':Hp}{p:Addr}{kvs:List (cq×V)}{σ:L2.St}{ρ:Ev}(hH:∀c,c≠p->H' c=H c)(h0:∀c,c≠p->Ha' c=Ha c)(hE:∀c,c≠p->He' c=He c)(r1:Rd Ha p (.dK kvs))(r2:Rd Ha' p (.dK kvs))(g:aW He' H0e' H' Ha')
  (h:cW K He H0e Ha σ H ρ):cW K He' H0e' Ha' σ H' ρ:=by
 refine⟨g,λi d e=>?_,λi d e=>?_,h.ap,h.ln,λi j ds e=>?_,h.ex.2⟩
 .obtain⟨v,q1,q2⟩:=h.rd i d e
  exact⟨v,q1,Rep.dz h0 r1 r2 q2⟩
 .obtain⟨b,q1,q2,q3,q4⟩:=h.ow i d e
  have np:b≠p:=λz=>by
   rw[z]at q3;rcases r1 with r|⟨_,r⟩<;>rw[r]at q3<;>cases q3
  exact⟨b,q1,by rw[hE _ np];exact q2,by rw[h0 _ np];exact q3,vx.dz (hH _ np) h0 r1 r2 q4⟩
 .obtain⟨b,P,q1,q2,q3,q4⟩:=h.ex.1 i j ds e
  exact⟨b,P,q1,E7.dz hH h0 hE r1 r2 h.g.sub q2,q3,q4⟩
section
variable {He H0e H Ha H' Ha':Hp}{a:Addr}{o:Obj}{kvs:List (cq×V)}
def zN(g:aW He H0e H Ha):aW (upd He a (.frz o (.dK kvs))) (upd H0e a (.frz o (.dK kvs))) (upd H a (.frz o (.dK kvs))) (upd Ha a (.frz o (.dK kvs))):=by
 have m:∀{A B:Hp},aF A B->aF (upd A a (.frz o (.dK kvs))) (upd B a (.frz o (.dK kvs))):=λh b u e=>by
  by_cases z:b=a
  .subst z;rw[aG]at e ⊢;exact e
  .rw[aC z]at e ⊢;exact h _ _ e
 refine⟨m g.s,m g.z,m g.sub,λb h1 h2=>?_⟩
 by_cases z:b=a
 .subst z;rw[aG]at h2;cases h2
 .rw[aC z]at h1 h2 ⊢;exact g.nw b h1 h2
def pX(g:aW He H0e H Ha)(e:Ha a=some (.dK kvs))(g':aW (upd He a (.frz o (.dK kvs))) (upd H0e a (.frz o (.dK kvs))) H' Ha'):aW He H0e (upd H' a (.dK kvs)) (upd Ha' a (.dK kvs)):=by
 refine⟨λb u q=>?_,λb u q=>?_,λb u q=>?_,λb h1 h2=>?_⟩
 .by_cases z:b=a
  .subst z
   have:=g.s _ _ q;rw[g.sub _ _ e]at this;cases this;exact aG
  .rw[aC z];exact g'.s b u (by rw[aC z];exact q)
 .by_cases z:b=a
  .subst z
   have:=g.z _ _ q;rw[e]at this;cases this;exact aG
  .rw[aC z];exact g'.z b u (by rw[aC z];exact q)
 .by_cases z:b=a
  .subst z;rw[aG]at q ⊢;exact q
  .rw[aC z]at q ⊢;exact g'.sub _ _ q
 .by_cases z:b=a
  .subst z;exact g.nw b (by rw[e];simp) h2
  .rw[aC z]at h1
   have:=g'.nw b h1 (by rw[aC z];exact h2);rw[aC z]at this;exact this
end
def DB(r:ax Fl):ax Fl:=match r with
 |.exn _=>.stuck
 |r=>r
def kj(i:Nat)(sel:List Str->ac->ac)(tg:Ev->D->ax Ev)(s:am):am:=λρ=>match ρ[i]? with
 |some (.sh (.dic ks ds))=>DB (cA tg s (sel ks ds) ρ)
 |_=>.stuck
def uc(ks:List Str)(_:ac):ac:=ks.map D.str
def m9(ks:List Str)(ds:ac):ac:=rG (ks.map D.str) ds
def vX{K:W.Frag}{E:XK}{He H0e Ha H:Hp}{a:Addr}{o:Obj}{kvs:List (cq×V)}{r:ax Fl}{D':fW}(g:aW He H0e H Ha)(e:Ha a=some (.dK kvs))(q:bK K E He H0e Ha (DB r) D') :
  bK K E (upd He a (.frz o (.dK kvs))) (upd H0e a (.frz o (.dK kvs))) (upd Ha a (.frz o (.dK kvs))) r (Ff a o kvs D'):=by
 cases r with
 |stuck=>exact q|exn x=>exact q.elim
 |ok f=>
  have go:∀{σ':L2.St}{H' Ha':Hp}{ρ':Ev}{Q:L2.St->Hp->Prop},aF (upd Ha a (.frz o (.dK kvs))) Ha'->cW K (upd He a (.frz o (.dK kvs))) (upd H0e a (.frz o (.dK kvs))) Ha' σ' H' ρ'->(∀σ H Ha',aF Ha Ha'->cW K He H0e Ha' σ H ρ'->Q σ H)->H' a=some (.frz o (.dK kvs))/\Q σ' (upd H' a (.dK kvs)):=λ{σ'} {H'} {Ha'} {ρ'} {Q} z h' hQ=>by
   have e0:=z _ _ (aG (H:=Ha) (a:=a) (o:=.frz o (.dK kvs)));refine⟨h'.g.sub _ _ e0,hQ σ' _ (upd Ha' a (.dK kvs)) (λb u eb=>?_) (cW.dz (p:=a) (kvs:=kvs) (λc hc=>aC hc) (λc hc=>aC hc) (λc hc=>(aC hc).symm) (.inr ⟨o,e0⟩) (.inl aG) (pX g e h'.g) h')⟩
   by_cases zb:b=a
   .subst zb;rw[e]at eb;cases eb;exact aG
   .rw[aC zb];exact z b u (by rw[aC zb];exact eb)
  cases f with|nx ρ'=>exact λσ' H' Ha' z h'=>go z h' q|bk ρ'=>exact λσ' H' Ha' z h'=>go z h' q|ct ρ'=>exact λσ' H' Ha' z h'=>go z h' q|rt d=>exact λv H' Ha' g' rp=>⟨g'.s a _ aG,q v _ (upd Ha' a (.dK kvs)) (pX g e g') (Rep.dz (p:=a) (kvs:=kvs) (λc hc=>aC hc) (.inr ⟨o,g'.z a _ aG⟩) (.inl aG) rp)⟩
section
variable {X:Cx}{E:XK}{He H0e:Hp}{tgt iter:Expr}{body:List Stmt}{tg:Ev->D->ax Ev}{s:am}{pos:Pos}{i:Nat}{sel:List Str->ac->ac}{mkI:Addr->Obj->List (cq×V)->It}
def BJ(hp:PassesOwn (model X.prog X.w) X.A X.env X.xe)(hc:X.calm=true)
  (hi:PI X tgt iter (λσ H R=>F3 i σ H λx H1=>∃a o kvs,x=.ref a/\H1 a=some (.frz o (.dK kvs))/\R (mkI a o kvs) H1))
  (hit:∀(a:Addr) (o:Obj) (ks:List Str) (ds:ac) (vs:ad) (Ha:Hp),Ha a=some (.frz o (.dK ((ks.map Sum.inr).zip vs)))->ks.length=vs.length->Reps X.K Ha ds vs->Fc X.K (sel ks ds) (mkI a o ((ks.map Sum.inr).zip vs)) Ha)
  (hg:∀He H0e,DG X E He H0e tgt tg)(ht:lP tg)(hb:∀He H0e,tQ X E He H0e body s)
  (hs:∀x,foldedSetIterable iter X.env x=pure x):PS X (.For tgt iter body [] pos) (λD' σ H=>∃He H0e Ha ρ a o ks ds vs,cW X.K He H0e Ha σ H ρ/\σ[i]?=some (some (.ref a))/\Ha a=some (.frz o (.dK ((ks.map Sum.inr).zip vs)))/\ks.length=vs.length/\Reps X.K Ha ds vs/\bK X.K E He H0e Ha (cA tg s (sel ks ds) ρ) D'):=by
 intro pins s0 σ H D' I ⟨He,H0e,Ha,ρ,a,o,ks,dd,vs,h,hσ,ha,hl,hv,q⟩;refine(oj hp hc hi (hg He H0e).o (hb He H0e).o hs) pins s0 σ H D' I ⟨.ref a,hσ,a,o,_,rfl,h.g.sub _ _ ha,?_⟩;have it:=hit a o ks dd vs Ha ha hl hv;generalize sel ks dd=ds at q it;refine⟨λi m σ' H'=>m+i=ds.length/\fH X.K E He H0e Ha tg s ds D' i σ' H',⟨ds.length,rfl,Ha,ρ,aF.refl _,h,q⟩,?_⟩;rintro i m σ' H' ⟨hm,Ha',ρ',z,h',hq⟩
 by_cases hlt:i<ds.length
 .refine .inr ⟨it.go i H' Ha' z h'.g.sub hlt,λσ2 H2=>fH X.K E He H0e Ha tg s ds D' (i+1) σ2 H2,λσ2 H2 hl=>⟨m-1,by omega,by omega,hl⟩,λx H2 hy=>?_⟩
  obtain⟨H₀2,g2,rp⟩:=it.yld i H' Ha' x H2 ds[i] z h'.g.sub (List.getElem?_eq_getElem hlt) hy;exact m4 (z.trans g2.z) (h'.grow g2) (bK.grow (r:=cA tg s (ds.drop i) ρ') hq g2.z) (List.getElem?_eq_getElem hlt) rp λρ=>ht ρ _
 .have e:i=ds.length:=by omega
  refine .inl ⟨it.stop i H' Ha' z h'.g.sub (by omega),?_⟩;subst e;exact fH.done ⟨Ha',ρ',z,h',hq⟩
def uS(hp:PassesOwn (model X.prog X.w) X.A X.env X.xe)(hc:X.calm=true)
  (hi:PI X tgt iter (λσ H R=>F3 i σ H λx H1=>∃a o kvs,x=.ref a/\H1 a=some (.frz o (.dK kvs))/\R (mkI a o kvs) H1))
  (hit:∀(a:Addr) (o:Obj) (ks:List Str) (ds:ac) (vs:ad) (Ha:Hp),Ha a=some (.frz o (.dK ((ks.map Sum.inr).zip vs)))->ks.length=vs.length->Reps X.K Ha ds vs->Fc X.K (sel ks ds) (mkI a o ((ks.map Sum.inr).zip vs)) Ha)
  (hg:∀He H0e,DG X E He H0e tgt tg)(ht:lP tg)(hb:∀He H0e,tQ X E He H0e body s)
  (hs:∀x,foldedSetIterable iter X.env x=pure x):DS X E He H0e (.For tgt iter body [] pos) (kj i sel tg s):=by
 have core:=BJ (pos:=pos) hp hc hi hit hg ht hb hs;refine⟨λpins s0 σ H D' I z9=>?_⟩;obtain⟨Ha,ρ,h,q⟩:=z9;unfold kj at q;cases e1:ρ[i]? with
 |none=>rw[e1]at q;exact q.elim
 |some sl=>
  rw[e1]at q;cases sl with
  |sh d=>
   cases d with
   |dic ks ds=>
    obtain⟨v,hv,rp⟩:=h.rd i _ e1;rw[Rep]at rp;obtain⟨a,kvs,vs,rfl,hr,rfl,hl,hrs⟩:=rp;rcases hr with hr|⟨o,hr⟩
    .exact Gu core pins s0 σ H D' I ⟨a,_,h.g.sub _ _ hr,λo=>⟨upd He a _,upd H0e a _,upd Ha a _,ρ,a,o,ks,ds,vs,cW.dz (p:=a) (kvs:=(ks.map Sum.inr).zip vs) (λc hc=>aC hc) (λc hc=>aC hc) (λc hc=>aC hc) (.inl hr) (.inr ⟨o,aG⟩) (zN h.g) h,hv,aG,hl,Reps.dz (p:=a) (kvs:=(ks.map Sum.inr).zip vs) (λc hc=>aC hc) (.inl hr) (.inr ⟨o,aG⟩) hrs,vX h.g hr q⟩⟩
    .refine core pins s0 σ H D' I ⟨He,H0e,Ha,ρ,a,o,ks,ds,vs,h,hv,hr,hl,hrs,?_⟩
     replace q:bK X.K E He H0e Ha (DB (cA tg s (sel ks ds) ρ)) D':=q;cases e2:cA tg s (sel ks ds) ρ with|stuck=>rw[e2]at q;exact q|exn x=>rw[e2]at q;exact q.elim|ok r=>rw[e2]at q;exact q
   |_=>exact q.elim
  |_=>exact q.elim
end
def zS{ks:List Str}{vs:ad}(hl:ks.length=vs.length){j:Nat}{k:Str}(e:ks[j]?=some k):∃v,vs[j]?=some v/\((ks.map (Sum.inr:Str->cq)).zip vs)[j]?=some (Sum.inr k,v):=by
 have hj:j<ks.length:=(List.getElem?_eq_some_iff.mp e).1;refine⟨vs[j]'(by omega),by simp,?_⟩;rw[List.getElem?_zip_eq_some];exact⟨by rw[List.getElem?_map,e];rfl,by simp⟩
def BA{K:W.Frag}(a:Addr)(o:Obj)(ks:List Str)(ds:ac)(vs:ad)(Ha:Hp)(ha:Ha a=some (.frz o (.dK ((ks.map Sum.inr).zip vs))))(hl:ks.length=vs.length)(hr:Reps K Ha ds vs):Fc K (uc ks ds) (LV a o ((ks.map Sum.inr).zip vs)) Ha:=by
 have hz:((ks.map (Sum.inr:Str->cq)).zip vs).length=ks.length:=by rw[List.length_zip,List.length_map,hl,Nat.min_self]
 have hk:(uc ks ds).length=ks.length:=by unfold uc;simp
 refine⟨λi H' Ha' s1 s2 hi=>⟨s2 _ _ (s1 _ _ ha),by omega⟩,λi H' Ha' x H2 d s1 s2 hd hy=>?_,λi H' Ha' s1 s2 hi=>⟨s2 _ _ (s1 _ _ ha),by omega⟩⟩;obtain⟨rfl,kv,e1,rfl⟩:=hy;unfold uc at hd;rw[List.getElem?_map]at hd;cases e2:ks[i]? with
 |none=>rw[e2]at hd;cases hd
 |some k=>
  rw[e2]at hd;cases hd;obtain⟨v,_,e3⟩:=zS hl e2;rw[e1]at e3;cases e3;exact⟨Ha',aW.refl s2,Rep.str_iff.mpr rfl⟩
def zg{K:W.Frag}(a:Addr)(o:Obj)(ks:List Str)(ds:ac)(vs:ad)(Ha:Hp)(ha:Ha a=some (.frz o (.dK ((ks.map Sum.inr).zip vs))))(hl:ks.length=vs.length)(hr:Reps K Ha ds vs):Fc K (m9 ks ds) (LW a o ((ks.map Sum.inr).zip vs)) Ha:=by
 have hz:((ks.map (Sum.inr:Str->cq)).zip vs).length=ks.length:=by rw[List.length_zip,List.length_map,hl,Nat.min_self]
 have hk:(m9 ks ds).length=ks.length:=by unfold m9;rw[nS,List.length_map,hr.length,←hl,Nat.min_self]
 refine⟨λi H' Ha' s1 s2 hi=>⟨s2 _ _ (s1 _ _ ha),by omega⟩,λi H' Ha' x H2 d s1 s2 hd hy=>?_,λi H' Ha' s1 s2 hi=>⟨s2 _ _ (s1 _ _ ha),by omega⟩⟩;obtain⟨p,kv,hp,e1,rfl,rfl⟩:=hy;have hi:i<ks.length:=by rw[←hk];exact(List.getElem?_eq_some_iff.mp hd).1
 have e2:ks[i]?=some ks[i]:=by simp
 obtain⟨v,e4,e3⟩:=zS hl e2;rw[e1]at e3;cases e3;obtain⟨d2,e5,r5⟩:∃d2,ds[i]?=some d2/\Rep K Ha d2 v:=by
  have hi2:i<ds.length:=by rw[hr.length];omega
  obtain⟨u,k1,k2⟩:=hr.get (List.getElem?_eq_getElem hi2);rw[e4]at k1;cases k1;exact⟨_,List.getElem?_eq_getElem hi2,k2⟩
 have:d=.tup [.str ks[i],d2]:=by
  have:=nT (xs:=ks.map D.str) (ys:=ds) (c:=i) (by rw[List.getElem?_map,e2];rfl) e5;unfold m9 at hd;rw[this]at hd;cases hd;rfl
 subst this;have G:=aO (o:=.tup [kV (Sum.inr ks[i]),v]) s2 hp;exact⟨_,G,aH.mpr ⟨p,_,rfl,fS.of aG,Reps.cons (Rep.str_iff.mpr rfl) (Reps.cons (r5.mono (s1.trans G.z)) Reps.nil)⟩⟩
section
variable {X:Cx}{E:XK}{He H0e:Hp}{tgt:Expr}{body:List Stmt}{tg:Ev->D->ax Ev}{s:am}{pos p1:Pos}{i:Nat}{x:Str}
def EF(hp:PassesOwn (model X.prog X.w) X.A X.env X.xe)(hc:X.calm=true)(hN:X.N[i]?=some x)(hv:zI X.env.scope x)(hg:∀He H0e,DG X E He H0e tgt tg)(ht:lP tg)(hb:∀He H0e,tQ X E He H0e body s)(hd:(x==("__debug__":Str))=false:=by decide)(hcd:(x==("__classdict__":Str))=false:=by decide)
  (hs:∀z,foldedSetIterable (.Name x p1) X.env z=pure z:=by intro _;rfl):DS X E He H0e (.For tgt (.Name x p1) body [] pos) (kj i uc tg s) :=
 uS hp hc (Di (gb hN hv hd hcd)) (BA) hg ht hb hs
def uT{elts:List Expr}{kk:Nat}{tp apos cpos:Pos}(hp:PassesOwn (model X.prog X.w) X.A X.env X.xe)(hc:X.calm=true)(hN:X.N[i]?=some x)(hv:zI X.env.scope x)(hg:∀He H0e,DG X E He H0e (.Tuple elts kk tp) tg)(ht:lP tg)(hb:∀He H0e,tQ X E He H0e body s)(hd:(x==("__debug__":Str))=false:=by decide)(hcd:(x==("__classdict__":Str))=false:=by decide)
  (hbase:attributeBase (.Name x p1) "items" X.env (eval (.Name x p1) X.env)=eval (.Name x p1) X.env:=by rfl)(hline:(apos.endLine==cpos.line)=true:=by rfl)
  (hs:∀z,foldedSetIterable (.Call (.Attribute (.Name x p1) "items" apos) [] [] cpos) X.env z=pure z:=by intro _;rfl):DS X E He H0e (.For (.Tuple elts kk tp) (.Call (.Attribute (.Name x p1) "items" apos) [] [] cpos) body [] pos) (kj i m9 tg s) :=
 uS hp hc (AW (gb hN hv hd hcd) hbase hline) (zg) hg ht hb hs
end
def uL{P:Program}{w:World}{K:W.Frag}{mg:Str->Option Value}{base:Heap}{x qual:Str}{st:Stmt}{f:Addr}{fd:FuncData}{N ps:List Str}{k:Nat}{s:am}(F:Fd K x qual st f fd)(S:gS N ps (defScope st))
  (hbody:∀(cdv:Value) (A:Around) (outer:List PySem.Env) (s0:Shared) (H Ha:Hp) (E:XK),dX k (A.deeper (envOfC qual (defScope st) s0.heap.objs.size f cdv)) ->
   vB (nq CX0 P w K mg base N qual (defScope st) f cdv A outer s0 H E).nox E H Ha (defBody st) s):gE P w K mg base CX0 (k+1) f fd ps (Aq K ps.length (xr N.length s)):=by
 have hpl:ps.length<=N.length:=by have:=congrArg List.length S.pre;rw[List.length_take]at this;omega
 refine F.ok S (λvs H Q E h=>h.1) λcdv A outer s0 H vs Q E hr h=>?_;obtain⟨hn,Ha,ds,hs,hv,q⟩:=h;refine⟨_,(hbody cdv A outer s0 H Ha E hr).o,Ha,ds.map Sl.sh++List.replicate (N.length-ds.length) .no,?_,?_⟩
 .refine⟨aW.refl hs,ji hv,λi d e=>?_,λi j d d' hij e=>?_,?_,OX.none lZ kz⟩
  .by_cases hi:i<ds.length
   .rw[List.getElem?_append_left (by simpa using hi),List.getElem?_map]at e
    cases q:ds[i]? with|none|some d'=>rw[q]at e;cases e
   .rw[List.getElem?_append_right (by simpa using hi),List.getElem?_replicate]at e
    split at e<;>cases e
  .by_cases hi:i<ds.length
   .rw[List.getElem?_append_left (by simpa using hi),List.getElem?_map]at e
    cases q:ds[i]? with|none|some d'=>rw[q]at e;cases e
   .rw[List.getElem?_append_right (by simpa using hi),List.getElem?_replicate]at e
    split at e<;>cases e
  .unfold L2.start
   have:=hv.length;simp only[List.length_append,List.length_map,List.length_replicate];omega
 .unfold xr at q
  cases e1:s (ds.map Sl.sh++List.replicate (N.length-ds.length) .no) with
  |stuck|exn x=>rw[e1]at q;exact q
  |ok r=>
   rw[e1]at q;cases r with
   |rt d=>
    cases d with|dic ks es=>exact λp us H' Ha' g hp h0 hv' hl rr=>q p us H' Ha' g hp h0 hv' hl rr| _=>exact q.elim
   |_=>exact q.elim
section
variable {P:Program}{w:World}{K:W.Frag}{mg:Str->Option Value}{base:Heap}{rows:List Rw}{A:Nat->Addr}{Q:Nat->FuncData}{i k n:Nat}{r:Rw}{s:am}
variable (T:TG rows K mg A Q) (S:KU rows) (h:rows[i]?=some r)
include T S h
theorem Mw(b:∀(cdv:Value) (A':Around) (outer:List PySem.Env) (s0:Shared) (H Ha:Hp) (E:XK),dX k (A'.deeper (envOfC r.x (defScope r.st) s0.heap.objs.size (A i) cdv)) ->
   vB (nq CX0 P w K mg base r.N r.x (defScope r.st) (A i) cdv A' outer s0 H E).nox E H Ha (defBody r.st) s):fA P w K mg base CX0 (k+1) (A i) (Q i) r.ps (Aq K r.ps.length (xr r.N.length s)) r.x r.st :=
 ⟨uL (T i r h).F (S r (List.mem_of_getElem? h)) b,T i r h⟩
end
end DL
namespace DL
open PySem L2
section
variable {α β:Type}
def Rf(a b:ax α):Prop:=a=.stuck∨a=b
def cY{a b:ax α}{f g:α->ax β}(h:Rf a b)(k:∀x,Rf (f x) (g x)):Rf (a.bind f) (b.bind g):=by
 rcases h with rfl|rfl
 .exact .inl rfl
 .cases a with
  |ok x=>exact k x
  |exn x=>exact .inr rfl
  |stuck=>exact .inl rfl
structure ki (f g:Ev->ax α):Prop where
 o:∀ρ,Rf (f ρ) (g ρ)
end
structure KW (f g:ac->ax D):Prop where
 o:∀ds,Rf (f ds) (g ds)
def KW.ok{f g:ac->ax D}(h:KW f g){ds:ac}{d:D}(e:f ds=.ok d):g ds=.ok d:=by
 rcases h.o ds with q|q
 .rw[q]at e;cases e
 .rw[←q];exact e
def rfm_refl{f:ac->ax D}:KW f f:=⟨λ_=>.inr rfl⟩
def rf_refl{α:Type}{f:Ev->ax α}:ki f f:=⟨λ_=>.inr rfl⟩
section
variable {s s' t t':am}{c c' f f':al}{fa fa':Ev->ax (ac)}{m m':ac->ax D}
def rf_stuck:ki cX s:=⟨λ_=>.inl rfl⟩
def rf_seq(h1:ki s s')(h2:ki t t'):ki (aq s t) (aq s' t'):=⟨λρ=>cY (h1.o ρ) λr=>by
 cases r with
 |nx ρ'=>exact h2.o ρ'
 |_=>exact .inr rfl⟩
def rf_if(hc:ki c c')(h1:ki s s')(h2:ki t t'):ki (cP c s t) (cP c' s' t'):=⟨λρ=>cY (hc.o _) λr=>by
 cases r with
 |bl b=>cases b with
  |true=>exact h1.o ρ
  |false=>exact h2.o ρ
 |_=>exact .inr rfl⟩
theorem nB{tg:Ev->D->ax Ev}(h:ki s s'):∀(ds:ac) (ρ:Ev),Rf (cA tg s ds ρ) (cA tg s' ds ρ)
 |[],ρ=>.inr rfl
 |d::r,ρ=>by
  unfold cA;refine cY (.inr rfl) λρ1=>cY (h.o ρ1) λx=>?_;cases x with|nx ρ2|ct ρ2=>exact nB h r ρ2|bk ρ2|rt d=>exact .inr rfl
def rf_for{tg:Ev->D->ax Ev}(hf:ki f f')(h:ki s s'):ki (kg f tg s) (kg f' tg s'):=⟨λρ=>cY (hf.o ρ) λd=>by
 cases d with
 |lst ds=>exact nB h ds ρ
 |_=>exact .inr rfl⟩
def rf_forI{tg:Ev->D->ax Ev}{src:Ev->ax (ac)}(h:ki s s'):ki (gG src tg s) (gG src tg s'):=⟨λρ=>cY (.inr rfl) λds=>nB h ds ρ⟩
def rf_drop(h:ki f f'):ki (f9 f) (f9 f'):=⟨λρ=>cY (h.o _) λ_=>.inr rfl⟩
def rf_ret(h:ki f f'):ki (bh f) (bh f'):=⟨λρ=>cY (h.o _) λ_=>.inr rfl⟩
def rf_set{i:Nat}(h:ki f f'):ki (aV i f) (aV i f'):=⟨λρ=>cY (h.o _) λ_=>.inr rfl⟩
def rf_b1{op:D->ax D}(h:ki f f'):ki (aS f op) (aS f' op):=⟨λρ=>cY (h.o _) λ_=>.inr rfl⟩
def rf_not(h:ki f f'):ki (bR f) (bR f'):=rf_b1 h
def rf_b2{op:D->D->ax D}(h:ki f f')(h2:ki c c'):ki (aa f c op) (aa f' c' op):=⟨λρ=>cY (h.o _) λ_=>cY (h2.o _) λ_=>.inr rfl⟩
def rf_bA(h:ki fa fa')(hm:KW m m'):ki (ai fa m) (ai fa' m'):=⟨λρ=>cY (h.o _) λds=>hm.o ds⟩
def rf_cons(h:ki f f')(h2:ki fa fa'):ki (af f fa) (af f' fa'):=⟨λρ=>cY (h.o _) λ_=>cY (h2.o _) λ_=>.inr rfl⟩
end
end DL
local macro_rules|`(tactic|open_line with[rf_go])=>`(tactic|repeat (first|with_reducible exact DL.rf_refl|with_reducible exact DL.rf_stuck|with_reducible assumption|with_reducible exact DL.rfm_refl|with_reducible refine DL.rf_seq ?_ ?_|with_reducible refine DL.rf_if ?_ ?_ ?_|with_reducible refine DL.rf_for ?_ ?_|with_reducible refine DL.rf_forI ?_|with_reducible refine DL.rf_drop ?_|with_reducible refine DL.rf_ret ?_|with_reducible refine DL.rf_set ?_|with_reducible refine DL.rf_not ?_|with_reducible refine DL.rf_bA ?_ ?_|with_reducible refine DL.rf_cons ?_ ?_|with_reducible refine DL.rf_b1 ?_|with_reducible refine DL.rf_b2 ?_ ?_))
namespace K61
open PySem L2 DL
abbrev bQ:ac->ax D:=Cod.bQ
abbrev de:ac->ax D:=Cod.de
abbrev cv:ac->ax D:=Cod.cv
abbrev bA:ac->ax D:=Cod.bA
abbrev bD:ac->ax D:=Cod.bD
abbrev bP:ac->ax D:=Cod.bP
abbrev cC:ac->ax D:=Cod.cC
noncomputable def ib:am :=
 (aq (aV 1 (ai (af (ae 0) aA) bD))
 (aq (cP (aa (aa (ae 1) (dC (.int 0)) aJ) (dC (.int 0)) fF)
 (aq (bh (ai (af (dC (.int 1)) (af (aa (dC (.int 1)) (aa (ae 0) (dC (.int 2)) aJ) bC) aA)) df))
 ak)
 ak)
 (aq (bh (ae 1))
 ak)))
def cz:ac->ax D:=bT 2 ib
abbrev m_is_name:ac->ax D:=Com.m_is_name
abbrev m_look_at_places:ac->ax D:=Com.m_look_at_places
abbrev m_is_whole:ac->ax D:=Com.m_is_whole
abbrev m_common_divisor:ac->ax D:=Com.m_common_divisor
abbrev m_is_ratio:ac->ax D:=Com.m_is_ratio
abbrev m_is_length:ac->ax D:=Com.m_is_length
abbrev m_is_worth:ac->ax D:=Com.m_is_worth
abbrev m_is_tie:ac->ax D:=Com.m_is_tie
abbrev m_look_at_ties:ac->ax D:=Com.m_look_at_ties
abbrev m_is_place:ac->ax D:=Com.m_is_place
abbrev m_look_at_web:ac->ax D:=Com.m_look_at_web
def jb:am :=
 (aq (cP (gY (bR (ai (af (ae 0) aA) m_is_ratio)) (aa (aa (ae 0) (dC (.int 0)) aJ) (dC (.int 0)) IF))
 (aq cX
 ak)
 ak)
 ak)
def bV:ac->ax D:=bT 1 jb
abbrev m_ratio:ac->ax D:=Com.m_ratio
def nQ:am :=
 (aq (bh (ai (af (aa (aa (ae 0) (dC (.int 0)) aJ) (aa (ae 1) (dC (.int 0)) aJ) bI) (af (aa (aa (ae 0) (dC (.int 1)) aJ) (aa (ae 1) (dC (.int 1)) aJ) bI) aA)) m_ratio))
 ak)
def m_times:ac->ax D:=bT 2 nQ
noncomputable def iZ:am :=
 (aq (aV 3 (IG (aa (aa (ae 0) (dC (.int 4)) aJ) (dC (.non)) kK) (dC (.non)) (ai (af (ae 2) (af (aa (ae 0) (dC (.int 4)) aJ) aA)) m_times)))
 (aq (bh (ai (af (aa (ae 0) (dC (.int 0)) aJ) (af (aa (ae 0) (dC (.int 1)) aJ) (af (aa (ae 0) (dC (.int 2)) aJ) (af (ai (af (ae 1) (af (aa (ae 0) (dC (.int 3)) aJ) aA)) m_times) (af (ae 3) aA))))) df))
 ak))
def cI:ac->ax D:=bT 4 iZ
noncomputable def vm:am :=
 (aq (f9 (ai (af (ae 0) aA) m_look_at_web))
 (aq (f9 (ai (af (ae 1) aA) bV))
 (aq (f9 (ai (af (ae 2) aA) bV))
 (aq (aV 3 (rP (dE 1 [1,2] (vO (aa (ae 0) (dC (.int 1)) aJ)) (dg 0) mYes (ai (af (ae 0) (af (ae 1) (af (ae 2) aA))) cI))))
 (aq (bh (ai (af (rP (ai (af (aa (ae 0) (dC (.int 0)) aJ) aA) (m1 iA))) (af (ae 3) (af (aa (ae 0) (dC (.int 2)) aJ) (af (aa (ae 0) (dC (.int 3)) aJ) aA)))) df))
 ak)))))
def gq:ac->ax D:=bT 4 vm
noncomputable def cf(mR:ac->ax D):am :=
 (aq (cP (aS (ae 1) (sX ["tuple","list"]))
 (aq (cP (aa (aS (ae 0) (cG "tuple")) (aS (ae 1) (cG "tuple")) ic)
 (aq (bh (dC (.bl false)))
 ak)
 ak)
 (aq (cP (gY (aa (aS (ae 0) (cG "list")) (aS (ae 1) (cG "list")) ic) (aa (ai (af (ae 0) aA) (m1 eO)) (ai (af (ae 1) aA) (m1 eO)) ic))
 (aq (bh (dC (.bl false)))
 ak)
 ak)
 (aq (bh (ai (af (dE 2 [] (mG (ae 0) (ae 1)) (cD [0,1]) mYes (ai (af (ae 0) (af (ae 1) aA)) mR)) aA) (m1 u0)))
 ak)))
 ak)
 (aq (cP (gY (aa (ae 1) (dC (.non)) kK) (aS (ae 1) (cG "str")))
 (aq (bh (dN (aa (ae 0) (ae 1) fF) (aa (aS (ae 0) (cG "str")) (aS (ae 1) (cG "str")) fF)))
 ak)
 ak)
 (aq (bh (dN (aS (ae 0) (cG "int")) (dN (bR (aS (ae 0) (cG "bool"))) (aa (ae 0) (ae 1) fF))))
 ak)))
def aM:Nat->ac->ax D
 |0=>λ_=>.stuck
 |n+1=>bT 2 (cf (aM n))
abbrev aN:ac->ax D:=aM 5
def lJ:am :=
 (aq (bh (ai (af (aa (aa (ae 0) (dC (.int 0)) aJ) (aa (ae 1) (dC (.int 0)) aJ) bI) (af (aa (aa (ae 0) (dC (.int 1)) aJ) (aa (ae 1) (dC (.int 1)) aJ) bI) aA)) bA))
 ak)
def cu:ac->ax D:=bT 2 lJ
noncomputable def kr:am :=
 (aq (jq 3 (ai aA bM))
 (aq (kg (aa (ae 0) (dC (.int 1)) aJ) (cD [4,5,6,7,8])
 (aq (aV 9 (dC (.non)))
 (aq (cP (aa (ae 8) (dC (.non)) gA)
 (aq (aV 9 (ai (af (ae 8) (af (ae 2) aA)) cu))
 ak)
 ak)
 (aq (bW 3 (ai (af (ae 4) (af (ae 5) (af (ae 6) (af (ai (af (ae 7) (af (ae 1) aA)) cu) (af (ae 9) aA))))) df))
 ak))))
 (aq (bh (ai (af (aa (ae 0) (dC (.int 0)) aJ) (af (ae 3) (af (aa (ae 0) (dC (.int 2)) aJ) (af (aa (ae 0) (dC (.int 3)) aJ) aA)))) df))
 ak)))
def ee:ac->ax D:=bT 10 kr
noncomputable def iY:am :=
 (aq (cP (aa (aa (ae 0) (dC (.int 2)) aJ) (dC (.str "both")) fF)
 (aq (bh (ae 0))
 ak)
 ak)
 (aq (bh (ai (af (aa (ae 0) (dC (.int 1)) aJ) (af (aa (ae 0) (dC (.int 0)) aJ) (af (aa (ae 0) (dC (.int 2)) aJ) (af (aa (ae 0) (dC (.int 3)) aJ) (af (aa (ae 0) (dC (.int 4)) aJ) aA))))) df))
 ak))
def cH:ac->ax D:=bT 1 iY
noncomputable def vk:am :=
 (aq (f9 (ai (af (ae 0) aA) m_look_at_web))
 (aq (bh (ai (af (rP (ai (af (aa (ae 0) (dC (.int 0)) aJ) aA) (m1 iA))) (af (rP (dE 1 [] (vO (aa (ae 0) (dC (.int 1)) aJ)) (dg 0) mYes (ai (af (ae 0) aA) cH))) (af (aa (ae 0) (dC (.int 3)) aJ) (af (aa (ae 0) (dC (.int 2)) aJ) aA)))) df))
 ak))
def eT:ac->ax D:=bT 1 vk
noncomputable def kq:am :=
 (aq (jq 1 (ai aA bM))
 (aq (kg (aa (ae 0) (dC (.int 1)) aJ) (dg 2)
 (aq (aV 3 (eV (ae 2) dH (bZ (dC (.int 2)))))
 (aq (cP (aa (aa (ae 2) (dC (.int 2)) aJ) (dC (.str "one")) fF)
 (aq (aV 3 (ai (af (aa (ae 2) (dC (.int 1)) aJ) (af (aa (ae 2) (dC (.int 0)) aJ) aA)) df))
 ak)
 ak)
 (aq (bW 1 (aa (ae 3) (eV (ae 2) (bZ (dC (.int 2))) dH) bC))
 ak))))
 (aq (bh (ai (af (aa (ae 0) (dC (.int 0)) aJ) (af (ae 1) (af (aa (ae 0) (dC (.int 3)) aJ) (af (aa (ae 0) (dC (.int 2)) aJ) aA)))) df))
 ak)))
def cM:ac->ax D:=bT 4 kq
noncomputable def fN:am :=
 (ik (f9 (ai (af (ae 1) aA) bV))
 (ik (gF 2 (dC (.dic [] [])))
 (ik (kj 0 uc (dg 3)
 (aq (ip 2 (IG (aa (aa (ae 0) (ae 3) cE) (dC (.non)) kK) (dC (.non)) (ai (af (ae 1) (af (aa (ae 0) (ae 3) cE) aA)) m_times)) (ae 3))
 ak))
 (rM 2))))
def eA:ac->ax D:=xr 4 fN
noncomputable def fQ:am :=
 (aq (aV 2 (ai (af (ae 0) aA) (m1 pz)))
 (aq (kU (dC (.int 2)) (dg 3)
 (aq (gF 4 (ai (af (ae 0) (af (ae 1) aA)) eA))
 (aq (cP (gY (bR (aS (ae 4) (cG "dict"))) (aa (ae 0) (ae 2) zy))
 (aq (bh (dC (.bl false)))
 ak)
 ak)
 (aq (cP (aa (ai (af (ai (af (ae 4) aA) (m1 iS)) aA) (m1 jJ)) (ai (af (ai (af (ae 0) aA) (m1 iS)) aA) (m1 jJ)) ic)
 (aq (bh (dC (.bl false)))
 ak)
 ak)
 (aq (kj 0 m9 (cD [5,6])
 (aq (aV 7 (dC (.non)))
 (aq (cP (aa (ae 6) (dC (.non)) gA)
 (aq (aV 7 (ai (af (ae 6) (af (ae 1) aA)) cu))
 ak)
 ak)
 (aq (cP (bR (ai (af (aa (ae 4) (ae 5) cE) (af (ae 7) aA)) aN))
 (aq (bh (dC (.bl false)))
 ak)
 ak)
 ak))))
 (aq (qI 4)
 ak))))))
 (aq (bh (dC (.bl true)))
 ak)))
def cn:ac->ax D:=bT 8 fQ
noncomputable def gP:am :=
 (aq (bh (ai (af (aa (aa (aa (ae 0) (dC (.int 0)) aJ) (aa (ae 1) (dC (.int 1)) aJ) bI) (aa (aa (ae 2) (aa (ae 1) (dC (.int 0)) aJ) bI) (aa (ae 0) (dC (.int 1)) aJ) bI) bC) (af (aa (aa (ae 0) (dC (.int 1)) aJ) (aa (ae 1) (dC (.int 1)) aJ) bI) aA)) bA))
 ak)
def dJ:ac->ax D:=bT 3 gP
def eN:am :=
 (aq (bh (aa (aa (aa (ae 0) (dC (.int 0)) aJ) (aa (ae 1) (dC (.int 1)) aJ) bI) (aa (aa (ae 1) (dC (.int 0)) aJ) (aa (ae 0) (dC (.int 1)) aJ) bI) FC))
 ak)
def cy:ac->ax D:=bT 2 eN
noncomputable def fz:am :=
 (aq (gF 2 (ra (aa (ae 0) (dC (.int 2)) aJ) (ai (af (dC (.int 0)) (af (dC (.int 1)) aA)) df)))
 (aq (kU (ai (af (aa (ae 0) (dC (.int 0)) aJ) aA) (m1 eO)) (dg 3)
 (aq (gG (ke (aa (ae 0) (dC (.int 1)) aJ)) (cD [4,5])
 (aq (kg (eV (ai (af (ai (af (aa (ae 5) (dC (.int 0)) aJ) (af (aa (ae 5) (dC (.int 1)) aJ) aA)) df) (af (ai (af (aa (ae 5) (dC (.int 1)) aJ) (af (aa (ae 5) (dC (.int 0)) aJ) aA)) df) aA)) bM) dH (bZ (aa (dC (.int 1)) (ai (af (aa (aa (ae 5) (dC (.int 2)) aJ) (dC (.str "both")) fF) aA) (m1 mi)) bC))) (cD [6,7])
 (aq (cP (dN (aa (ae 4) (ae 1) bN) (aa (ae 6) (ae 2) sZ))
 (aq (ud 8 (ai (af (aa (ae 2) (ae 6) cE) (af (aa (ae 5) (dC (.int 3)) aJ) (af (dC (.int 1)) aA))) dJ))
 (aq (cP (gY (aa (ae 7) (ae 2) jZ) (ai (af (ae 8) (af (aa (ae 2) (ae 7) cE) aA)) cy))
 (aq (ip 2 (ae 8) (ae 7))
 ak)
 ak)
 ak))
 ak)
 ak))
 ak))
 ak))
 (aq (bh (ae 2))
 ak)))
def cN:ac->ax D:=bT 9 fz
noncomputable def ft:am :=
 (aq (aV 3 (ai (af (ae 0) (af (ae 1) aA)) cN))
 (aq (gF 4 (dC (.dic [] [])))
 (aq (kg (aS (aa (ae 0) (dC (.int 0)) aJ) nk) (dg 5)
 (aq (ip 4 (dC (.non)) (ae 5))
 (aq (cP (aa (ae 5) (ae 3) sZ)
 (aq (ip 4 (ai (af (aa (aa (aa (ae 3) (ae 5) cE) (dC (.int 0)) aJ) (ae 2) bI) (af (aa (aa (aa (ae 3) (ae 5) cE) (dC (.int 1)) aJ) (dC (.int 4)) bI) aA)) bA) (ae 5))
 ak)
 ak)
 ak)))
 (aq (bh (ae 4))
 ak))))
def cx:ac->ax D:=bT 6 ft
def gQ:am :=
 (aq (bh (dE 2 [1] (ke (aa (ae 0) (dC (.int 1)) aJ)) (cD [0,1]) (dN (aa (aa (ae 1) (dC (.int 4)) aJ) (dC (.non)) gA) (aa (aa (aa (ae 2) (ae 0) Ce) (dC (.int 1)) uZ) (dC (.int 1)) fF)) (ae 0)))
 ak)
def cV:ac->ax D:=bT 2 gQ
noncomputable def gD:am :=
 (aq (aV 3 (aa (ae 0) (dC (.int 2)) aJ))
 (aq (jq 4 (ai (af (ae 3) aA) bM))
 (aq (jq 5 (ai aA bM))
 (aq (fZ (λ_=>8) (aa (ae 3) (aa (ae 0) (dC (.int 3)) aJ) ic)
 (aq (jq 6 (ai aA bM))
 (aq (gG (ke (aa (ae 0) (dC (.int 1)) aJ)) (cD [7,8])
 (aq (cP (dN (aa (ae 7) (ae 1) bN) (dN (aa (aa (ae 8) (dC (.int 0)) aJ) (ae 3) fF) (aa (aa (ae 8) (dC (.int 1)) aJ) (ae 4) bN)))
 (aq (bW 6 (ai (af (ae 7) (af (dC (.int 1)) (af (aa (ae 8) (dC (.int 1)) aJ) aA))) df))
 ak)
 ak)
 (aq (cP (dN (aa (ae 7) (ae 1) bN) (dN (aa (aa (ae 8) (dC (.int 2)) aJ) (dC (.str "both")) fF) (dN (aa (aa (ae 8) (dC (.int 1)) aJ) (ae 3) fF) (aa (aa (ae 8) (dC (.int 0)) aJ) (ae 4) bN))))
 (aq (bW 6 (ai (af (ae 7) (af (aS (dC (.int 1)) qu) (af (aa (ae 8) (dC (.int 0)) aJ) aA))) df))
 ak)
 ak)
 ak)))
 (aq (ue 6 (cP (aa (ae 6) (ai aA bM) fF)
 (aq (bh (ai aA bM))
 ak)
 ak))
 (aq (ue 6 (xp [7,9,3] (aa (ae 6) (aa (aa (ae 2) (ai (af (ae 5) aA) (m1 eO)) aJ) (ai (af (ae 6) aA) (m1 eO)) du) aJ)))
 (aq (bW 5 (ai (af (ae 7) (af (ae 9) aA)) df))
 (aq (bW 4 (ae 3))
 ak)))))))
 (aq (bh (ae 5))
 ak)))))
def dI:ac->ax D:=bT 10 gD
noncomputable def gO:am :=
 (aq (cP (bR (aS (ae 0) (cG "list")))
 (aq cX
 ak)
 ak)
 (aq (gG (ke (ae 0)) (cD [1,2])
 (aq (cP (gY (bR (ai (af (ae 2) aA) m_is_whole)) (aa (ae 2) (dC (.int 0)) FC))
 (aq cX
 ak)
 ak)
 ak))
 ak))
def cJ:ac->ax D:=bT 3 gO
def iX:am :=
 (ik (f9 (ai (af (ae 0) aA) cJ))
 (Aw (aS (ae 0) nk)))
def c8:ac->ax D:=uf 1 iX
noncomputable def FG:am :=
 (aq (aV 1 (ai (af (ae 0) aA) cC))
 (aq (kg (aa (aa (ai (af (ae 0) aA) cv) (dC (.int 1)) aJ) (ai (af (dC (.int 7)) aA) bM) bC) (dg 2)
 (aq (aV 3 (ai (af (ae 2) (af (aa (ai (af (dC (.int 5)) (af (aa (dC (.int 10)) (dC (.int 18)) qt) (af (dC (.int 30)) (af (dC (.int 5)) (af (aa (dC (.int 10)) (dC (.int 18)) qt) (af (dC (.int 30)) (af (dC (.int 5)) (af (dC (.int 16384)) aA)))))))) bM) (nc (ai (af (dC (.int 360360)) aA) bM) (dC (.int 6))) bC) aA)) bQ))
 (aq (aV 4 (ai (af (ae 3) aA) cz))
 (aq (aV 5 (ai (af (eV (ae 3) (bZ (dC (.int 3))) dH) aA) cz))
 ((gU 6 [1,4,5] (ai (af (ae 1) (af (ae 4) (af (ae 5) aA))) gq)
 (ku (bR (ai (af (uY (ae 6)) (af (ai (af (ae 1) (af (ae 4) (af (ae 5) aA))) ee) aA)) aN))
 (aq (bh (dC (.bl false)))
 ak)
 (ku (bR (ai (af (uY (ai (af (uY (ae 6)) (af (aS (ae 4) pw) (af (aS (ae 5) pw) aA))) gq)) (af (ae 1) aA)) aN))
 (aq (bh (dC (.bl false)))
 ak)
 (gU 7 [1] (ai (af (ae 1) aA) eT)
 (ku (gY (bR (ai (af (uY (ae 7)) (af (ai (af (ae 1) aA) cM) aA)) aN)) (bR (ai (af (uY (ai (af (uY (ae 7)) aA) eT)) (af (ae 1) aA)) aN)))
 (aq (bh (dC (.bl false)))
 ak)
 (kO 8 6 7
 (aq (cP (bR (ai (af (ai (af (ae 1) (af (ai (af (ae 1) (af (aa (ae 3) (dC (.int 7)) aJ) aA)) cV) (af (aa (ae 3) (dC (.int 6)) aJ) aA))) cx) (af (ae 4) aA)) cn))
 (aq (bh (dC (.bl false)))
 ak)
 ak)
 (aq (aV 9 (dE 2 [] (vO (ai (af (ae 1) (af (ai aA bM) (af (eV (ae 3) (bZ (dC (.int 8))) dH) aA))) dI)) (cD [0,1]) mYes (ae 0)))
 (aq (aV 10 (ai (af (ae 9) aA) (m1 iA)))
 (aq (cP (aa (ae 9) (ai aA bM) ic)
 (aq (jq 8 (ai (af (ae 9) aA) c8))
 (aq (cP (bR (ai (af (ae 8) (af (aS (ae 10) nk) aA)) aN))
 (aq (bh (dC (.bl false)))
 ak)
 ak)
 (aq (bW 8 (dC (.int 99)))
 (aq (ue 8 (cP (gY (aa (ae 9) (ae 10) ic) (bR (ai (af (ai (af (ae 9) aA) c8) (af (aS (ae 10) nk) aA)) aN)))
 (aq (bh (dC (.bl false)))
 ak)
 ak))
 ak))))
 ak)
 (aq (cP (gY (bR (ai (af (ae 1) (af (ai (af (ae 0) aA) cC) aA)) aN)) (bR (ai (af (uY (ai (af (ae 1) aA) eT)) (af (ai (af (ae 1) aA) cM) aA)) aN)))
 (aq (bh (dC (.bl false)))
 ak)
 ak)
 ak))))))))))) [])))))
 (aq (bh (dC (.bl true)))
 ak)))
def m_law:ac->ax D:=bT 11 FG
def top(i:Nat):Stmt:=PySem.Challenge.pw_farthestcut_k61_turned_about_and_scaled.main.body.getD i (.Pass ⟨0,0,0,0⟩)
noncomputable def rows:List Rw:=[
 ⟨"_law_draws",top 49,["_law_cell","_law_tops","_law_found","_law_left","_law_mixed","_law_k"],2⟩,
 ⟨"_law_names",top 52,["_law_d","_law_many","_law_some","_law_names_here","_law_k","_law_e","_law_name","_law_at"],2⟩,
 ⟨"_law_cells",top 54,["_law_script","_law_d","_law_many"],1⟩,
 ⟨"_law_low",top 50,["_law_top","_law_bottom","_law_one","_law_other"],2⟩,
 ⟨"_law_fraction",top 51,["_law_d","_law_top","_law_bottom"],1⟩,
 ⟨"_law_tie",top 53,["_law_cell","_law_k","_law_walk","_law_d","_law_at","_law_other","_law_worth"],3⟩,
 ⟨"_law_web",top 55,["_law_script","_law_d","_law_places","_law_first","_law_last","_law_amid","_law_walk","_law_ties"],1⟩,
 ⟨"_law_factor",top 63,["_law_d","_law_one"],1⟩,
 ⟨"is_name",top 13,["thing"],1⟩,
 ⟨"look_at_places",top 35,["places","number","place"],1⟩,
 ⟨"is_whole",top 11,["thing"],1⟩,
 ⟨"common_divisor",top 7,["one","other","larger","smaller","rest"],2⟩,
 ⟨"is_ratio",top 12,["thing"],1⟩,
 ⟨"is_length",top 32,["thing"],1⟩,
 ⟨"is_worth",top 33,["thing"],1⟩,
 ⟨"is_tie",top 31,["thing"],1⟩,
 ⟨"look_at_ties",top 36,["ties","places","number","tie"],2⟩,
 ⟨"is_place",top 37,["thing","places"],2⟩,
 ⟨"look_at_web",top 34,["thing"],1⟩,
 ⟨"look_at_scale",top 44,["thing"],1⟩,
 ⟨"ratio",top 15,["top","bottom","divisor"],2⟩,
 ⟨"times",top 16,["one","other"],2⟩,
 ⟨"tie_scaled",top 45,["tie","span","cost","worth"],3⟩,
 ⟨"scaled",top 43,["web","span","cost","ties"],3⟩,
 ⟨"_law_alike",top 62,["_law_found","_law_due"],2⟩,
 ⟨"_law_times",top 64,["_law_one","_law_other"],2⟩,
 ⟨"_law_scaled",top 65,["_law_web_here","_law_span","_law_cost","_law_ties","_law_one","_law_other","_law_word","_law_length","_law_worth","_law_more"],3⟩,
 ⟨"tie_turned",top 42,["tie"],1⟩,
 ⟨"turned",top 41,["web"],1⟩,
 ⟨"_law_turned",top 66,["_law_web_here","_law_ties","_law_tie_here","_law_ends"],1⟩,
 ⟨"prices_scaled",top 46,["prices","span","told","place"],2⟩,
 ⟨"_law_prices_right",top 67,["_law_prices_here","_law_span","_law_kept","_law_turn","_law_told","_law_place","_law_price","_law_due"],2⟩,
 ⟨"_law_plus",top 56,["_law_one","_law_other","_law_sign"],3⟩,
 ⟨"_law_less",top 57,["_law_one","_law_other"],2⟩,
 ⟨"_law_labels",top 60,["_law_web_here","_law_taken","_law_found","_law_turn","_law_k","_law_tie_here","_law_begin","_law_end","_law_one"],2⟩,
 ⟨"_law_prices",top 61,["_law_web_here","_law_taken","_law_part","_law_labels_here","_law_found","_law_place"],3⟩,
 ⟨"_law_bits",top 59,["_law_web_here","_law_bits_here"],2⟩,
 ⟨"_law_way",top 58,["_law_web_here","_law_taken","_law_d","_law_place","_law_been","_law_steps","_law_ways","_law_k","_law_tie_here","_law_sign"],3⟩,
 ⟨"look_at_numbers",top 39,["thing","at","number"],1⟩,
 ⟨"way_turned",top 47,["way"],1⟩,
 ⟨"law",top 68,["_law_script","_law_web_here","_law_cell","_law_d","_law_span","_law_cost","_law_found","_law_about","_law_told","_law_way_here","_law_kept"],1⟩]
def sc:KU rows:=by decide +kernel
theorem nd(i:Nat){r:Rw}(h:rows[i]?=some r:=by rfl):r.N.Nodup:=(sc r (List.mem_of_getElem? h)).nd
def bn:∀r∈rows,KJ r:=by
 unfold rows
 repeat refine List.forall_mem_cons.mpr ⟨by first|exact MC|exact MB|exact MA|exact bd4|exact bd5,?_⟩
 exact λ_ h=>nomatch h
set_option genInjectivity false in
set_option genSizeOfSpec false in
structure Adr where
 A:Nat->Addr
 Q:Nat->FuncData
set_option genInjectivity false in
set_option genSizeOfSpec false in
structure Txt (K:W.Frag) (mg:Str->Option Value) (t:Adr):Prop where
 g:TG rows K mg t.A t.Q
 n_abs:mg "abs"=none
 n_all:mg "all"=none
 n_bool:mg "bool"=none
 n_dict:mg "dict"=none
 n_enumerate:mg "enumerate"=none
 n_int:mg "int"=none
 n_isinstance:mg "isinstance"=none
 n_len:mg "len"=none
 n_list:mg "list"=none
 n_min:mg "min"=none
 n_range:mg "range"=none
 n_reversed:mg "reversed"=none
 n_sorted:mg "sorted"=none
 n_str:mg "str"=none
 n_tuple:mg "tuple"=none
 n_zip:mg "zip"=none
 fM:tK K mg "FEWEST_PLACES" (.int 2)
 j8:tK K mg "FIRST" (.int 2)
 mq:tK K mg "LAST" (.int 3)
 jP:tK K mg "LENGTH" (.int 3)
 mn:tK K mg "LETTERS" (.str "abcdefghijklmnopqrstuvwxyz")
 gC:tK K mg "LONGEST_NAME" (.int 8)
 ia:tK K mg "MOST_PLACES" (.int 7)
 jO:tK K mg "MOST_TIES" (.int 14)
 pL:tK K mg "ONE" (.int 0)
 iV:tK K mg "OTHER" (.int 1)
 fG:tK K mg "PLACES" (.int 0)
 pK:tK K mg "TIES" (.int 1)
 kL:tK K mg "WORD" (.int 2)
 tj:tK K mg "WORDS" (.tup [(.str "one"),(.str "both")])
 j7:tK K mg "WORTH" (.int 4)
section
variable {P:Program}{w:World}{K:W.Frag}{mg:Str->Option Value}{base:Heap}{t:Adr}
def fj(T:Txt K mg t):fA P w K mg base CX0 1 (t.A 0) (t.Q 0) ["_law_cell","_law_tops"] (spD K 2 bQ) "_law_draws" (top 49) :=
 oD T.g sc (i:=0) rfl λ_ _ _ _ _ _ _ _=>(
 (ah (jG (i:=2) (nd 0) rfl (Or.inl rfl) (gX az))
 (ah (aU (i:=3) (nd 0) rfl (Or.inl rfl) (bf jN pG rfl T.n_abs PyProof.Rows.Boot.«abs» (ag (dv 0) az)))
 (ah (aU (i:=4) (nd 0) rfl (Or.inl rfl) (cO (dk (cO (dv 0) aj) aj) aj))
 (ah (nN PassesOwn.never rfl rfl T.n_range (bf bS dm rfl T.n_len PyProof.Rows.Boot.«len» (ag (dv 1) az)) (eD (i:=5) (nd 0) rfl (Or.inl rfl)) eI
 (ah (bB (aR Bg (dQ λ_ _ _ _=>rb _) (bf jN pG rfl T.n_abs PyProof.Rows.Boot.«abs» (ag (dv 0) az)) (pk aj aj) nm)
 (ah (dA (i:=2) rfl (Or.inl rfl) (cO (dv 3) (ay (dv 1) (dv 5))))
 (ah (aU (i:=3) (nd 0) rfl (Or.inl rfl) (pq (dv 3) (ay (dv 1) (dv 5))))
 ar))
 (ah (aU (i:=4) (nd 0) rfl (Or.inl rfl) (cO (bH (bH (bH (dk (dv 4) (dv 4)) (dk aj (dv 4))) (dk aj (dv 5))) aj) aj))
 (ah (dA (i:=2) rfl (Or.inl rfl) (cO (cO (dk (dv 4) aj) aj) (ay (dv 1) (dv 5))))
 ar)))
 ar))
 (ah (aP (dv 2))
 ar))))))
def qj(T:Txt K mg t):fA P w K mg base CX0 1 (t.A 1) (t.Q 1) ["_law_d","_law_many"] (spD K 2 de) "_law_names" (top 52) :=
 oD T.g sc (i:=1) rfl λ_ _ _ _ H _ _ hr=>(
 (ah (aU (i:=2) (nd 1) rfl (Or.inr rfl) jH)
 (ah (jG (i:=3) (nd 1) rfl (Or.inl rfl) (gX az))
 (ah (nN PassesOwn.never rfl rfl T.n_range (dv 1) (eD (i:=4) (nd 1) rfl (Or.inl rfl)) eI
 (ah (aU (i:=5) (nd 1) rfl (Or.inr rfl) (cm (dv 0) (cw (dk aj (dv 4))) (cw (bH (dk aj (dv 4)) aj))))
 (ah (aU (i:=6) (nd 1) rfl (Or.inl rfl) (EJ jH (ag (yi (sW ["_law_j","_law_some","_law_e"] 1 [2,5] rfl (zu rfl T.n_range (bH aj (ay (dv 5) aj))) (kP (by decide)) (λs H C fp pn=>⟨λHe H0e=>(eD (i:=0) (show List.Nodup (["_law_j","_law_some","_law_e"]:List Str) from by decide) rfl (Or.inl rfl)),iM,(ay (dv 1) (ay (dv 2) (bH aj (dv 0))))⟩) ⟨rfl,rfl⟩ rfl rfl rfl rfl)) az)))
 (ah (bB (DW.dt (jF (aR xE (dQ λ_ _ _ _=>rb _) (dv 4) aj nm) (gw (aR (c5 hr.units) eS (ay (dv 5) aj) aj nm))))
 (ah (EE (i:=6) (nd 1) rfl (Or.inl rfl) (bH (cm (ay (dv 3) (sV (dv 4) aj)) fV (cw (ay (dv 5) aj))) (ay (dv 2) (ay (dv 5) aj))))
 ar)
 ar)
 (ah (aU (i:=7) (nd 1) rfl (Or.inl rfl) (ay (dv 5) aj))
 (ah (lu _ PassesOwn.never (aR (xD hr.units) xG (dv 6) (dv 3) rfl)
 (ah (aU (i:=7) (nd 1) rfl (Or.inl rfl) (bH (dv 7) aj))
 (ah (aU (i:=6) (nd 1) rfl (Or.inl rfl) (bH (cm (dv 6) fV (cw (wN aj))) (ay (dv 2) (cO (dv 7) aj))))
 ar)))
 (ah (dA (i:=3) rfl (Or.inl rfl) (dv 6))
 ar)))))))
 (ah (aP (dv 3))
 ar)))))
def kl(T:Txt K mg t):fA P w K mg base CX0 2 (t.A 2) (t.Q 2) ["_law_script"] (spD K 1 cv) "_law_cells" (top 54) :=
 oD T.g sc (i:=2) rfl λ_ _ _ _ _ _ _ hr=>(
 (ah (aU (i:=1) (nd 2) rfl (Or.inl rfl) (rC (fj T) hr (ag (ay (bH (dv 0) (cU (ag aj az))) aj) (ag (bH (bH (cU (ag aj (ag aj (ag aj az)))) (ph (B8 (cU (ag aj (ag aj az))) (ph (gX (ag aj az)) aj)) aj)) (cU (ag aj az))) az))))
 (ah (aU (i:=2) (nd 2) rfl (Or.inl rfl) (bf (zD rfl) Ii rfl T.n_min PyProof.Rows.Boot.«min» (ag aj (ag (ay (dv 1) aj) az))))
 (ah (aP (cF (ag (cm (dv 0) (cw aj) (cw (bH aj (dv 2)))) (ag (cm (dv 0) (cw (bH aj (dv 2))) (cw aj)) az))))
 ar))))
def gJ(T:Txt K mg t):fA P w K mg base CX0 1 (t.A 3) (t.Q 3) ["_law_top","_law_bottom"] (spD K 2 bA) "_law_low" (top 50) :=
 oD T.g sc (i:=3) rfl λ_ _ _ _ _ _ _ hr=>(
 (ah (aU (i:=2) (nd 3) rfl (Or.inl rfl) (bf jN pG rfl T.n_abs PyProof.Rows.Boot.«abs» (ag (dv 0) az)))
 (ah (aU (i:=3) (nd 3) rfl (Or.inl rfl) (dv 1))
 (ah (lu _ PassesOwn.never (aR (fJ hr.units) i8 (dv 3) aj nm)
 (ah (HY (i:=2) (j:=3) rfl (nd 3) rfl rfl (by decide) rfl rfl (ag (dv 3) (ag (cO (dv 2) (dv 3)) az)) rfl)
 ar))
 (ah (aP (cF (ag (pq (dv 0) (dv 2)) (ag (pq (dv 1) (dv 2)) az))))
 ar)))))
def eY(T:Txt K mg t):fA P w K mg base CX0 2 (t.A 4) (t.Q 4) ["_law_d"] (spD K 1 bD) "_law_fraction" (top 51) :=
 oD T.g sc (i:=4) rfl λ_ _ _ _ _ _ _ hr=>(
 (ah (aU (i:=1) (nd 4) rfl (Or.inl rfl) (ay (cU (ag aj (ag (cO (ay (dv 0) aj) aj) (ag (cO (ay (dv 0) aj) aj) (ag (ay (dv 0) aj) (ag (cO (ay (dv 0) aj) aj) az)))))) (ay (dv 0) aj)))
 (ah (aU (i:=2) (nd 4) rfl (Or.inl rfl) (ay (cU (ag aj (ag aj (ag (bH aj (ay (dv 0) aj)) (ag aj (ag (bH aj (cO (ay (dv 0) aj) aj)) az)))))) (ay (dv 0) aj)))
 (ah (aP (rC (gJ T) hr (ag (dv 1) (ag (dv 2) az))))
 ar))))
def uv(T:Txt K mg t):fA P w K mg base CX0 3 (t.A 5) (t.Q 5) ["_law_cell","_law_k","_law_walk"] (spD K 3 bP) "_law_tie" (top 53) :=
 oD T.g sc (i:=5) rfl λ_ _ _ _ _ _ _ hr=>(
 (ah (aU (i:=3) (nd 5) rfl (Or.inl rfl) (rC (fj T) hr (ag (dv 0) (ag (cU (ag aj (ag aj (ag aj (ag aj (ag (pk aj aj) (ag aj (ag aj (ag aj (ag (pk aj aj) (ag aj (ag aj az)))))))))))) az))))
 (ah (aU (i:=4) (nd 5) rfl (Or.inl rfl) (cO (ay (dv 3) aj) (bf bS dm rfl T.n_len PyProof.Rows.Boot.«len» (ag (dv 2) az))))
 (ah (aU (i:=5) (nd 5) rfl (Or.inl rfl) (cO (bH (bH (dv 4) aj) (cO (ay (dv 3) aj) (sV (bf bS dm rfl T.n_len PyProof.Rows.Boot.«len» (ag (dv 2) az)) aj))) (bf bS dm rfl T.n_len PyProof.Rows.Boot.«len» (ag (dv 2) az))))
 (ah (bB (aR (c5 hr.units) eS (ay (dv 3) aj) aj nm)
 (ah (aU (i:=4) (nd 5) rfl (Or.inl rfl) (cO (dv 1) (sV (bf bS dm rfl T.n_len PyProof.Rows.Boot.«len» (ag (dv 2) az)) aj)))
 (ah (aU (i:=5) (nd 5) rfl (Or.inl rfl) (bH (dv 4) aj))
 ar))
 ar)
 (ah (aU (i:=6) (nd 5) rfl (Or.inl rfl) ff)
 (ah (bB (aR xE (dQ λ_ _ _ _=>rb _) (ay (dv 3) aj) aj nm)
 (ah (aU (i:=6) (nd 5) rfl (Or.inl rfl) (rC (eY T) hr (ag (cm (dv 3) (cw aj) (cw aj)) az)))
 (ah (bB (aR (c5 hr.units) eS (ay (dv 6) aj) aj nm)
 (ah (aU (i:=6) (nd 5) rfl (Or.inl rfl) (cF (ag aj (ag aj az))))
 ar)
 ar)
 ar))
 ar)
 (ah (aP (cF (ag (ay (dv 2) (dv 4)) (ag (ay (dv 2) (dv 5)) (ag (ay (cU (ag jH (ag jH az))) (ay (dv 3) aj)) (ag (rC (eY T) hr (ag (cm (dv 3) (cw aj) (cw aj)) az)) (ag (dv 6) az)))))))
 ar))))))))
def mK(T:Txt K mg t):fA P w K mg base CX0 4 (t.A 6) (t.Q 6) ["_law_script"] (spD K 1 cC) "_law_web" (top 55) :=
 oD T.g sc (i:=6) rfl λ_ _ _ _ H _ _ hr=>(
 (ah (aU (i:=1) (nd 6) rfl (Or.inl rfl) (rC (fj T) hr (ag (ay (bH (dv 0) (cU (ag aj az))) aj) (ag (bH (cU (ag aj (ag aj (ag aj az)))) (ph (B8 (cU (ag aj (ag aj az))) (ph (gX (ag aj az)) aj)) aj)) az))))
 (ah (aU (i:=2) (nd 6) rfl (Or.inl rfl) (rC (qj T) hr (ag (cm (dv 1) (cw aj) fV) (ag (bH aj (ay (dv 1) aj)) az))))
 (ah (aU (i:=3) (nd 6) rfl (Or.inr rfl) (cO (ay (dv 1) aj) (bf bS dm rfl T.n_len PyProof.Rows.Boot.«len» (ag (dv 2) az))))
 (ah (aU (i:=4) (nd 6) rfl (Or.inr rfl) (cO (bH (bH (dv 3) aj) (cO (ay (dv 1) aj) (sV (bf bS dm rfl T.n_len PyProof.Rows.Boot.«len» (ag (dv 2) az)) aj))) (bf bS dm rfl T.n_len PyProof.Rows.Boot.«len» (ag (dv 2) az))))
 (ah (sR (i:=5) (nd 6) rfl rfl j6 (sW ["_law_k","_law_place","_law_first","_law_last"] 2 [3,4] rfl (gN rfl T.n_enumerate (dv 2)) (jh (by decide)) (λs H C fp pn=>⟨λHe H0e=>(fb rfl (aX (i:=0) (show List.Nodup (["_law_k","_law_place","_law_first","_law_last"]:List Str) from by decide) rfl (Or.inl rfl) (aX (i:=1) (show List.Nodup (["_law_k","_law_place","_law_first","_law_last"]:List Str) from by decide) rfl (Or.inl rfl) dD))),(ye (aR (eQ hr.units) eR (dv 0) (cF (ag (dv 2) (ag (dv 3) az))) rfl)),(dv 1)⟩) ⟨rfl,rfl⟩ rfl rfl rfl rfl))
 (ah (aU (i:=6) (nd 6) rfl (Or.inr rfl) (bH (bH (cU (ag (ay (dv 2) (dv 3)) az)) (dv 5)) (cU (ag (ay (dv 2) (dv 4)) az))))
 (ah (sR (i:=7) (nd 6) rfl rfl j6 (sW ["_law_k","_law_cell","_law_walk"] 2 [6] rfl (gN rfl T.n_enumerate (ay (rC (kl T) hr (ag (dv 0) az)) aj)) (jh (by decide)) (λs H C fp pn=>⟨λHe H0e=>(fb rfl (aX (i:=0) (show List.Nodup (["_law_k","_law_cell","_law_walk"]:List Str) from by decide) rfl (Or.inl rfl) (aX (i:=1) (show List.Nodup (["_law_k","_law_cell","_law_walk"]:List Str) from by decide) rfl (Or.inl rfl) dD))),iM,(rC (uv T) hr (ag (dv 1) (ag (dv 0) (ag (dv 2) az))))⟩) ⟨rfl,rfl⟩ rfl rfl rfl rfl))
 (ah (aP (cF (ag (dv 2) (ag (dv 7) (ag (ay (dv 2) (dv 3)) (ag (ay (dv 2) (dv 4)) az))))))
 ar)))))))))
def jA(T:Txt K mg t):fA P w K mg base CX0 3 (t.A 7) (t.Q 7) ["_law_d"] (spD K 1 cz) "_law_factor" (top 63) :=
 oD T.g sc (i:=7) rfl λ_ _ _ _ _ _ _ hr=>(
 (ah (aU (i:=1) (nd 7) rfl (Or.inl rfl) (rC (eY T) hr (ag (dv 0) az)))
 (ah (bB (aR (c5 hr.units) eS (ay (dv 1) aj) aj nm)
 (ah (aP (cF (ag aj (ag (bH aj (ay (dv 0) aj)) az))))
 ar)
 ar)
 (ah (aP (dv 1))
 ar))))
def iH(T:Txt K mg t):fA P w K mg base CX0 1 (t.A 8) (t.Q 8) ["thing"] (spD K 1 m_is_name) "is_name" (top 13) :=
 oD T.g sc (i:=8) rfl λ_ _ _ _ H _ _ hr=>(
 (ah (bB (DW.dt (dB (bF (bE (bz gr rfl T.n_isinstance rfl T.n_str PyProof.Rows.Boot.«str» (dv 0)))) (br (bF (uR uo uo (jV λ_ _ _ _=>rb _) (jV λ_ _ _ _=>rb _) jW jW aj (bf bS dm rfl T.n_len PyProof.Rows.Boot.«len» (ag (dv 0) az)) (bc T.gC rfl))))))
 (ah (aP eL)
 ar)
 ar)
 (ah (aP (bf (vh rfl) Cg rfl T.n_all PyProof.Rows.Boot.«all» (ag (yi (sW ["sign"] 1 [] rfl (H0 (dv 0)) (kP (by decide)) (λs H C fp pn=>⟨λHe H0e=>(eD (i:=0) (show List.Nodup (["sign"]:List Str) from by decide) rfl (Or.inl rfl)),iM,(fL (xD hr.units) xG (dv 0) (bc T.mn rfl) rfl)⟩) ⟨rfl,rfl⟩ rfl rfl rfl rfl)) az)))
 ar)))
def k7(T:Txt K mg t):fA P w K mg base CX0 2 (t.A 9) (t.Q 9) ["places"] (spD K 1 m_look_at_places) "look_at_places" (top 35) :=
 oD T.g sc (i:=9) rfl λ_ _ _ _ _ _ _ hr=>(
 (ah (bB (DW.dt (dB (bF (bE (bz eK rfl T.n_isinstance rfl T.n_list PyProof.Rows.Boot.«list» (dv 0)))) (br (bF (uR uo uo (jV λ_ _ _ _=>rb _) (jV λ_ _ _ _=>rb _) jW jW (bc T.fM rfl) (bf bS dm rfl T.n_len PyProof.Rows.Boot.«len» (ag (dv 0) az)) (bc T.ia rfl))))))
 (ah dq
 ar)
 ar)
 (ah (lA PassesOwn.never rfl (gN rfl T.n_enumerate (dv 0)) (fb rfl (aX (i:=1) (nd 9) rfl (Or.inl rfl) (aX (i:=2) (nd 9) rfl (Or.inl rfl) dD))) eG
 (ah (bB (DW.dt (dB (bF (bE (rC (iH T) hr (ag (dv 2) az)))) (br (aR (xD hr.units) xG (dv 2) (cm (dv 0) fV (cw (dv 1))) rfl))))
 (ah dq
 ar)
 ar)
 ar))
 ar)))
def fB(T:Txt K mg t):fA P w K mg base CX0 1 (t.A 10) (t.Q 10) ["thing"] (spD K 1 m_is_whole) "is_whole" (top 11) :=
 oD T.g sc (i:=10) rfl λ_ _ _ _ _ _ _ _=>(
 (ah (aP (iR (bz oN rfl T.n_isinstance rfl T.n_int PyProof.Rows.Boot.«int» (dv 0)) (iP (Cc (bz mM rfl T.n_isinstance rfl T.n_bool PyProof.Rows.Boot.«bool» (dv 0))))))
 ar))
def gI(T:Txt K mg t):fA P w K mg base CX0 1 (t.A 11) (t.Q 11) ["one","other"] (spD K 2 m_common_divisor) "common_divisor" (top 7) :=
 oD T.g sc (i:=11) rfl λ_ _ _ _ _ _ _ hr=>(
 (ah (aU (i:=2) (nd 11) rfl (Or.inl rfl) (bf jN pG rfl T.n_abs PyProof.Rows.Boot.«abs» (ag (dv 0) az)))
 (ah (aU (i:=3) (nd 11) rfl (Or.inl rfl) (bf jN pG rfl T.n_abs PyProof.Rows.Boot.«abs» (ag (dv 1) az)))
 (ah (lu _ PassesOwn.never (aR (fJ hr.units) i8 (dv 3) aj nm)
 (ah (aU (i:=4) (nd 11) rfl (Or.inl rfl) (cO (dv 2) (dv 3)))
 (ah (aU (i:=2) (nd 11) rfl (Or.inl rfl) (dv 3))
 (ah (aU (i:=3) (nd 11) rfl (Or.inl rfl) (dv 4))
 ar))))
 (ah (aP (dv 2))
 ar)))))
def jx(T:Txt K mg t):fA P w K mg base CX0 2 (t.A 12) (t.Q 12) ["thing"] (spD K 1 m_is_ratio) "is_ratio" (top 12) :=
 oD T.g sc (i:=12) rfl λ_ _ _ _ _ _ _ hr=>(
 (ah (bB (DW.dt (dB (bF (bE (bz dU rfl T.n_isinstance rfl T.n_tuple PyProof.Rows.Boot.«tuple» (dv 0)))) (br (aR (fJ hr.units) i8 (bf bS dm rfl T.n_len PyProof.Rows.Boot.«len» (ag (dv 0) az)) aj nm))))
 (ah (aP eL)
 ar)
 ar)
 (ah (bB (DW.dt (dB (bF (bE (rC (fB T) hr (ag (ay (dv 0) aj) az)))) (br (bF (bE (rC (fB T) hr (ag (ay (dv 0) aj) az)))))))
 (ah (aP eL)
 ar)
 ar)
 (ah (aP (iR (fL Bg (dQ λ_ _ _ _=>rb _) (ay (dv 0) aj) aj nm) (iP (fL (c5 hr.units) eS (rC (gI T) hr (ag (ay (dv 0) aj) (ag (ay (dv 0) aj) az))) aj nm))))
 ar))))
def rY(T:Txt K mg t):fA P w K mg base CX0 3 (t.A 13) (t.Q 13) ["thing"] (spD K 1 m_is_length) "is_length" (top 32) :=
 oD T.g sc (i:=13) rfl λ_ _ _ _ _ _ _ hr=>(
 (ah (aP (iR (rC (jx T) hr (ag (dv 0) az)) (iP (fL Bg (dQ λ_ _ _ _=>rb _) (ay (dv 0) aj) aj nm))))
 ar))
def ur(T:Txt K mg t):fA P w K mg base CX0 3 (t.A 14) (t.Q 14) ["thing"] (spD K 1 m_is_worth) "is_worth" (top 33) :=
 oD T.g sc (i:=14) rfl λ_ _ _ _ _ _ _ hr=>(
 (ah (aP (Kq (fL rX su (dv 0) ff nm) (iP (iR (rC (jx T) hr (ag (dv 0) az)) (iP (fL xE (dQ λ_ _ _ _=>rb _) (ay (dv 0) aj) aj nm))))))
 ar))
def yT(T:Txt K mg t):fA P w K mg base CX0 4 (t.A 15) (t.Q 15) ["thing"] (spD K 1 m_is_tie) "is_tie" (top 31) :=
 oD T.g sc (i:=15) rfl λ_ _ _ _ _ _ _ hr=>(
 (ah (bB (DW.dt (dB (bF (bE (bz dU rfl T.n_isinstance rfl T.n_tuple PyProof.Rows.Boot.«tuple» (dv 0)))) (br (aR (fJ hr.units) i8 (bf bS dm rfl T.n_len PyProof.Rows.Boot.«len» (ag (dv 0) az)) aj nm))))
 (ah (aP eL)
 ar)
 ar)
 (ah (bB (DW.dt (dB (bF (bE (rC (iH T) hr (ag (ay (dv 0) (bc T.pL rfl)) az)))) (dB (bF (bE (rC (iH T) hr (ag (ay (dv 0) (bc T.iV rfl)) az)))) (br (aR (c5 hr.units) eS (ay (dv 0) (bc T.pL rfl)) (ay (dv 0) (bc T.iV rfl)) nm)))))
 (ah (aP eL)
 ar)
 ar)
 (ah (bB (DW.dt (dB (bF (bE (bz gr rfl T.n_isinstance rfl T.n_str PyProof.Rows.Boot.«str» (ay (dv 0) (bc T.kL rfl))))) (br (aR (eQ hr.units) eR (ay (dv 0) (bc T.kL rfl)) (bc T.tj rfl) rfl))))
 (ah (aP eL)
 ar)
 ar)
 (ah (aP (iR (rC (rY T) hr (ag (ay (dv 0) (bc T.jP rfl)) az)) (iP (rC (ur T) hr (ag (ay (dv 0) (bc T.j7 rfl)) az)))))
 ar)))))
def ng(T:Txt K mg t):fA P w K mg base CX0 5 (t.A 16) (t.Q 16) ["ties","places"] (spD K 2 m_look_at_ties) "look_at_ties" (top 36) :=
 oD T.g sc (i:=16) rfl λ_ _ _ _ _ _ _ hr=>(
 (ah (bB (DW.dt (dB (bF (bE (bz eK rfl T.n_isinstance rfl T.n_list PyProof.Rows.Boot.«list» (dv 0)))) (br (aR xE (dQ λ_ _ _ _=>rb _) (bf bS dm rfl T.n_len PyProof.Rows.Boot.«len» (ag (dv 0) az)) (bc T.jO rfl) nm))))
 (ah dq
 ar)
 ar)
 (ah (lA PassesOwn.never rfl (gN rfl T.n_enumerate (dv 0)) (fb rfl (aX (i:=2) (nd 16) rfl (Or.inl rfl) (aX (i:=3) (nd 16) rfl (Or.inl rfl) dD))) eG
 (ah (bB (DW.dt (dB (bF (bE (rC (yT T) hr (ag (dv 3) az)))) (dB (aR (eQ hr.units) eR (ay (dv 3) (bc T.pL rfl)) (dv 1) rfl) (br (aR (eQ hr.units) eR (ay (dv 3) (bc T.iV rfl)) (dv 1) rfl)))))
 (ah dq
 ar)
 ar)
 ar))
 ar)))
def mJ(T:Txt K mg t):fA P w K mg base CX0 2 (t.A 17) (t.Q 17) ["thing","places"] (spD K 2 m_is_place) "is_place" (top 37) :=
 oD T.g sc (i:=17) rfl λ_ _ _ _ _ _ _ hr=>(
 (ah (aP (iR (rC (iH T) hr (ag (dv 0) az)) (iP (fL (xD hr.units) xG (dv 0) (dv 1) rfl))))
 ar))
def jv(T:Txt K mg t):fA P w K mg base CX0 6 (t.A 18) (t.Q 18) ["thing"] (spD K 1 m_look_at_web) "look_at_web" (top 34) :=
 oD T.g sc (i:=18) rfl λ_ _ _ _ _ _ _ hr=>(
 (ah (bB (DW.dt (dB (bF (bE (bz dU rfl T.n_isinstance rfl T.n_tuple PyProof.Rows.Boot.«tuple» (dv 0)))) (br (aR (fJ hr.units) i8 (bf bS dm rfl T.n_len PyProof.Rows.Boot.«len» (ag (dv 0) az)) aj nm))))
 (ah dq
 ar)
 ar)
 (ah (gM (rC (k7 T) hr (ag (ay (dv 0) (bc T.fG rfl)) az)))
 (ah (gM (rC (ng T) hr (ag (ay (dv 0) (bc T.pK rfl)) (ag (ay (dv 0) (bc T.fG rfl)) az))))
 (ah (bB (bF (bE (rC (mJ T) hr (ag (ay (dv 0) (bc T.j8 rfl)) (ag (ay (dv 0) (bc T.fG rfl)) az)))))
 (ah dq
 ar)
 ar)
 (ah (bB (DW.dt (dB (bF (bE (rC (mJ T) hr (ag (ay (dv 0) (bc T.mq rfl)) (ag (ay (dv 0) (bc T.fG rfl)) az))))) (br (aR (c5 hr.units) eS (ay (dv 0) (bc T.mq rfl)) (ay (dv 0) (bc T.j8 rfl)) nm))))
 (ah dq
 ar)
 ar)
 ar))))))
def eX(T:Txt K mg t):fA P w K mg base CX0 3 (t.A 19) (t.Q 19) ["thing"] (spD K 1 bV) "look_at_scale" (top 44) :=
 oD T.g sc (i:=19) rfl λ_ _ _ _ _ _ _ hr=>(
 (ah (bB (DW.dt (dB (bF (bE (rC (jx T) hr (ag (dv 0) az)))) (br (aR uo (dQ λ_ _ _ _=>rb _) (ay (dv 0) aj) aj nm))))
 (ah dq
 ar)
 ar)
 ar))
def Bi(T:Txt K mg t):fA P w K mg base CX0 2 (t.A 20) (t.Q 20) ["top","bottom"] (spD K 2 m_ratio) "ratio" (top 15) :=
 oD T.g sc (i:=20) rfl λ_ _ _ _ _ _ _ hr=>(
 (ah (bB (DW.dt (dB (bF (bE (rC (fB T) hr (ag (dv 0) az)))) (br (bF (bE (rC (fB T) hr (ag (dv 1) az)))))))
 (ah dq
 ar)
 ar)
 (ah (bB (aR (c5 hr.units) eS (dv 1) aj nm)
 (ah dq
 ar)
 ar)
 (ah (aU (i:=2) (nd 20) rfl (Or.inl rfl) (rC (gI T) hr (ag (dv 0) (ag (dv 1) az))))
 (ah (bB (aR Bf (dQ λ_ _ _ _=>rb _) (dv 1) aj nm)
 (ah (aU (i:=2) (nd 20) rfl (Or.inl rfl) (wN (dv 2)))
 ar)
 ar)
 (ah (aP (cF (ag (pq (dv 0) (dv 2)) (ag (pq (dv 1) (dv 2)) az))))
 ar))))))
def oA(T:Txt K mg t):fA P w K mg base CX0 3 (t.A 21) (t.Q 21) ["one","other"] (spD K 2 m_times) "times" (top 16) :=
 oD T.g sc (i:=21) rfl λ_ _ _ _ _ _ _ hr=>(
 (ah (aP (rC (Bi T) hr (ag (dk (ay (dv 0) aj) (ay (dv 1) aj)) (ag (dk (ay (dv 0) aj) (ay (dv 1) aj)) az))))
 ar))
def qi(T:Txt K mg t):fA P w K mg base CX0 4 (t.A 22) (t.Q 22) ["tie","span","cost"] (spD K 3 cI) "tie_scaled" (top 45) :=
 oD T.g sc (i:=22) rfl λ_ _ _ _ _ _ _ hr=>(
 (ah (aU (i:=3) (nd 22) rfl (Or.inl rfl) (uW (aR rX su (ay (dv 0) (bc T.j7 rfl)) ff nm) ff (rC (oA T) hr (ag (dv 2) (ag (ay (dv 0) (bc T.j7 rfl)) az)))))
 (ah (aP (cF (ag (ay (dv 0) (bc T.pL rfl)) (ag (ay (dv 0) (bc T.iV rfl)) (ag (ay (dv 0) (bc T.kL rfl)) (ag (rC (oA T) hr (ag (dv 1) (ag (ay (dv 0) (bc T.jP rfl)) az))) (ag (dv 3) az)))))))
 ar)))
def qP(T:Txt K mg t):fA P w K mg base CX0 7 (t.A 23) (t.Q 23) ["web","span","cost"] (spD K 3 gq) "scaled" (top 43) :=
 oD T.g sc (i:=23) rfl λ_ _ _ _ H _ _ hr=>(
 (ah (gM (rC (jv T) hr (ag (dv 0) az)))
 (ah (gM (rC (eX T) hr (ag (dv 1) az)))
 (ah (gM (rC (eX T) hr (ag (dv 2) az)))
 (ah (B2 (i:=3) (nd 23) rfl rfl (sW ["tie","span","cost"] 1 [1,2] rfl (sU (ay (dv 0) (bc T.pK rfl))) (kP (by decide)) (λs H C fp pn=>⟨λHe H0e=>(eD (i:=0) (show List.Nodup (["tie","span","cost"]:List Str) from by decide) rfl (Or.inl rfl)),iM,(rC (qi T) hr (ag (dv 0) (ag (dv 1) (ag (dv 2) az))))⟩) ⟨rfl,rfl⟩ rfl rfl rfl rfl))
 (ah (aP (cF (ag (Ca (yg rfl T.n_list (ag (ay (dv 0) (bc T.fG rfl)) az))) (ag (dv 3) (ag (ay (dv 0) (bc T.j8 rfl)) (ag (ay (dv 0) (bc T.mq rfl)) az))))))
 ar))))))
def dG(T:Txt K mg t){k:Nat}{mR:ac->ax D}(hk:0<=k)(B:fA P w K mg base CX0 k (t.A 24) (t.Q 24) ["_law_found","_law_due"] (spD K 2 mR) "_law_alike" (top 62)):fA P w K mg base CX0 (k+1) (t.A 24) (t.Q 24) ["_law_found","_law_due"] (spD K 2 (bT 2 (cf mR))) "_law_alike" (top 62) :=
 oD T.g sc (i:=24) rfl λ_ _ _ _ H _ _ hr=>(
 (ah (bB (bE (EK (xh dU rfl T.n_tuple PyProof.Rows.Boot.«tuple» (xh eK rfl T.n_list PyProof.Rows.Boot.«list» FW)) rfl T.n_isinstance (dv 1)))
 (ah (bB (aR (fJ hr.units) i8 (bz dU rfl T.n_isinstance rfl T.n_tuple PyProof.Rows.Boot.«tuple» (dv 0)) (bz dU rfl T.n_isinstance rfl T.n_tuple PyProof.Rows.Boot.«tuple» (dv 1)) nm)
 (ah (aP eL)
 ar)
 ar)
 (ah (bB (DW.dt (dB (aR (fJ hr.units) i8 (bz eK rfl T.n_isinstance rfl T.n_list PyProof.Rows.Boot.«list» (dv 0)) (bz eK rfl T.n_isinstance rfl T.n_list PyProof.Rows.Boot.«list» (dv 1)) nm) (br (aR (fJ hr.units) i8 (bf bS dm rfl T.n_len PyProof.Rows.Boot.«len» (ag (dv 0) az)) (bf bS dm rfl T.n_len PyProof.Rows.Boot.«len» (ag (dv 1) az)) nm))))
 (ah (aP eL)
 ar)
 ar)
 (ah (aP (bf (vh rfl) Cg rfl T.n_all PyProof.Rows.Boot.«all» (ag (yi (sW ["_law_one","_law_other"] 2 [] rfl (EH rfl T.n_zip (dv 0) (dv 1)) (jh (by decide)) (λs H C fp pn=>⟨λHe H0e=>(fb rfl (aX (i:=0) (show List.Nodup (["_law_one","_law_other"]:List Str) from by decide) rfl (Or.inl rfl) (aX (i:=1) (show List.Nodup (["_law_one","_law_other"]:List Str) from by decide) rfl (Or.inl rfl) dD))),iM,(rC B hr (ag (dv 0) (ag (dv 1) az)) (Nat.le_refl _))⟩) ⟨rfl,rfl⟩ rfl rfl rfl rfl)) az)))
 ar)))
 ar)
 (ah (bB (DW.dt (dB (aR rX su (dv 1) ff nm) (br (bE (bz gr rfl T.n_isinstance rfl T.n_str PyProof.Rows.Boot.«str» (dv 1))))))
 (ah (aP (iR (fL (c5 hr.units) eS (dv 0) (dv 1) nm) (iP (fL (c5 hr.units) eS (bz gr rfl T.n_isinstance rfl T.n_str PyProof.Rows.Boot.«str» (dv 0)) (bz gr rfl T.n_isinstance rfl T.n_str PyProof.Rows.Boot.«str» (dv 1)) nm))))
 ar)
 ar)
 (ah (aP (iR (bz oN rfl T.n_isinstance rfl T.n_int PyProof.Rows.Boot.«int» (dv 0)) (iR (Cc (bz mM rfl T.n_isinstance rfl T.n_bool PyProof.Rows.Boot.«bool» (dv 0))) (iP (fL (c5 hr.units) eS (dv 0) (dv 1) nm)))))
 ar))))
def cc(T:Txt K mg t):fA P w K mg base CX0 6 (t.A 24) (t.Q 24) ["_law_found","_law_due"] (spD K 2 aN) "_law_alike" (top 62) :=
 (dG T (by decide) (dG T (by decide) (dG T (by decide) (dG T (by decide) (dG T (by decide) (oS (k:=1) T.g (i:=24) rfl))))))
def gW(T:Txt K mg t):fA P w K mg base CX0 2 (t.A 25) (t.Q 25) ["_law_one","_law_other"] (spD K 2 cu) "_law_times" (top 64) :=
 oD T.g sc (i:=25) rfl λ_ _ _ _ _ _ _ hr=>(
 (ah (aP (rC (gJ T) hr (ag (dk (ay (dv 0) aj) (ay (dv 1) aj)) (ag (dk (ay (dv 0) aj) (ay (dv 1) aj)) az))))
 ar))
def oB(T:Txt K mg t):fA P w K mg base CX0 3 (t.A 26) (t.Q 26) ["_law_web_here","_law_span","_law_cost"] (spD K 3 ee) "_law_scaled" (top 65) :=
 oD T.g sc (i:=26) rfl λ_ _ _ _ _ _ _ hr=>(
 (ah (jG (i:=3) (nd 26) rfl (Or.inl rfl) (gX az))
 (ah (pf PassesOwn.never rfl (ay (dv 0) aj) (fb rfl (aX (i:=4) (nd 26) rfl (Or.inl rfl) (aX (i:=5) (nd 26) rfl (Or.inl rfl) (aX (i:=6) (nd 26) rfl (Or.inl rfl) (aX (i:=7) (nd 26) rfl (Or.inl rfl) (aX (i:=8) (nd 26) rfl (Or.inl rfl) dD)))))) eG
 (ah (aU (i:=9) (nd 26) rfl (Or.inl rfl) ff)
 (ah (bB (aR rV sr (dv 8) ff nm)
 (ah (aU (i:=9) (nd 26) rfl (Or.inl rfl) (rC (gW T) hr (ag (dv 8) (ag (dv 2) az))))
 ar)
 ar)
 (ah (dA (i:=3) rfl (Or.inl rfl) (cF (ag (dv 4) (ag (dv 5) (ag (dv 6) (ag (rC (gW T) hr (ag (dv 7) (ag (dv 1) az))) (ag (dv 9) az)))))))
 ar))))
 (ah (aP (cF (ag (ay (dv 0) aj) (ag (dv 3) (ag (ay (dv 0) aj) (ag (ay (dv 0) aj) az))))))
 ar))))
def qh(T:Txt K mg t):fA P w K mg base CX0 1 (t.A 27) (t.Q 27) ["tie"] (spD K 1 cH) "tie_turned" (top 42) :=
 oD T.g sc (i:=27) rfl λ_ _ _ _ _ _ _ hr=>(
 (ah (bB (aR (c5 hr.units) eS (ay (dv 0) (bc T.kL rfl)) jH nm)
 (ah (aP (dv 0))
 ar)
 ar)
 (ah (aP (cF (ag (ay (dv 0) (bc T.iV rfl)) (ag (ay (dv 0) (bc T.pL rfl)) (ag (ay (dv 0) (bc T.kL rfl)) (ag (ay (dv 0) (bc T.jP rfl)) (ag (ay (dv 0) (bc T.j7 rfl)) az)))))))
 ar)))
def l9(T:Txt K mg t):fA P w K mg base CX0 7 (t.A 28) (t.Q 28) ["web"] (spD K 1 eT) "turned" (top 41) :=
 oD T.g sc (i:=28) rfl λ_ _ _ _ H _ _ hr=>(
 (ah (gM (rC (jv T) hr (ag (dv 0) az)))
 (ah (aP (cF (ag (Ca (yg rfl T.n_list (ag (ay (dv 0) (bc T.fG rfl)) az))) (ag (Ca (FA (sW ["tie"] 1 [] rfl (sU (ay (dv 0) (bc T.pK rfl))) (kP (by decide)) (λs H C fp pn=>⟨λHe H0e=>(eD (i:=0) (show List.Nodup (["tie"]:List Str) from by decide) rfl (Or.inl rfl)),iM,(rC (qh T) hr (ag (dv 0) az))⟩) ⟨rfl,rfl⟩ rfl rfl rfl rfl))) (ag (ay (dv 0) (bc T.mq rfl)) (ag (ay (dv 0) (bc T.j8 rfl)) az))))))
 ar)))
def jy(T:Txt K mg t):fA P w K mg base CX0 1 (t.A 29) (t.Q 29) ["_law_web_here"] (spD K 1 cM) "_law_turned" (top 66) :=
 oD T.g sc (i:=29) rfl λ_ _ _ _ _ _ _ hr=>(
 (ah (jG (i:=1) (nd 29) rfl (Or.inl rfl) (gX az))
 (ah (pf PassesOwn.never rfl (ay (dv 0) aj) (eD (i:=2) (nd 29) rfl (Or.inl rfl)) eI
 (ah (aU (i:=3) (nd 29) rfl (Or.inl rfl) (cm (dv 2) fV (cw aj)))
 (ah (bB (aR (c5 hr.units) eS (ay (dv 2) aj) jH nm)
 (ah (aU (i:=3) (nd 29) rfl (Or.inl rfl) (cF (ag (ay (dv 2) aj) (ag (ay (dv 2) aj) az))))
 ar)
 ar)
 (ah (dA (i:=1) rfl (Or.inl rfl) (bH (dv 3) (cm (dv 2) (cw aj) fV)))
 ar))))
 (ah (aP (cF (ag (ay (dv 0) aj) (ag (dv 1) (ag (ay (dv 0) aj) (ag (ay (dv 0) aj) az))))))
 ar))))
def kF(T:Txt K mg t):fA P w K mg base CX0 4 (t.A 30) (t.Q 30) ["prices","span"] (Aq K 2 eA) "prices_scaled" (top 46) :=
 Mw T.g sc (i:=30) rfl λ_ _ _ _ _ _ _ hr=>(
 (kI (gM (rC (eX T) hr (ag (dv 1) az)))
 (kI (nM (i:=2) (nd 30) rfl (Or.inl rfl) yf)
 (kI (EF (i:=0) PassesOwn.never rfl rfl (Or.inl rfl) (λ_ _=>(eD (i:=3) (nd 30) rfl (Or.inl rfl))) eI
 (λ_ _=>(ah (nL (i:=2) (xg hr.units) rfl (Or.inl rfl) (uW (aR rX su (iQ (xg hr.units) (dv 0) (dv 3)) ff nm) ff (rC (oA T) hr (ag (dv 1) (ag (iQ (xg hr.units) (dv 0) (dv 3)) az)))) (dv 3))
 ar)))
 (zp rfl (Or.inl rfl))))))
def jz(T:Txt K mg t):fA P w K mg base CX0 7 (t.A 31) (t.Q 31) ["_law_prices_here","_law_span"] (spD K 2 cn) "_law_prices_right" (top 67) :=
 oD T.g sc (i:=31) rfl λ_ _ _ _ _ _ _ hr=>(
 (ah (aU (i:=2) (nd 31) rfl (Or.inl rfl) (jI wU Cf rfl T.n_dict PyProof.Rows.Boot.«dict» (ag (dv 0) az)))
 (ah (nN PassesOwn.never rfl rfl T.n_range aj (eD (i:=3) (nd 31) rfl (Or.inl rfl)) eI
 (ah (nM (i:=4) (nd 31) rfl (Or.inl rfl) (Mu (kF T) hr (ag (dv 0) (ag (dv 1) az))))
 (ah (bB (DW.dt (dB (bF (bE (bz uF rfl T.n_isinstance rfl T.n_dict PyProof.Rows.Boot.«dict» (dv 4)))) (br (aR (GK hr.units) GQ (dv 0) (dv 2) nm))))
 (ah (aP eL)
 ar)
 ar)
 (ah (bB (aR (fJ hr.units) i8 (bf pI ve rfl T.n_sorted PyProof.Rows.Boot.«sorted» (ag (jI (jM rfl) vg rfl T.n_list PyProof.Rows.Boot.«list» (ag (dv 4) az)) az)) (bf pI ve rfl T.n_sorted PyProof.Rows.Boot.«sorted» (ag (jI (jM rfl) vg rfl T.n_list PyProof.Rows.Boot.«list» (ag (dv 0) az)) az)) nm)
 (ah (aP eL)
 ar)
 ar)
 (ah (uT (i:=0) PassesOwn.never rfl rfl (Or.inl rfl) (λ_ _=>(fb rfl (aX (i:=5) (nd 31) rfl (Or.inl rfl) (aX (i:=6) (nd 31) rfl (Or.inl rfl) dD)))) eG
 (λ_ _=>(ah (aU (i:=7) (nd 31) rfl (Or.inl rfl) ff)
 (ah (bB (aR rV sr (dv 6) ff nm)
 (ah (aU (i:=7) (nd 31) rfl (Or.inl rfl) (rC (gW T) hr (ag (dv 6) (ag (dv 1) az))))
 ar)
 ar)
 (ah (bB (bF (bE (rC (cc T) hr (ag (iQ (xg hr.units) (dv 4) (dv 5)) (ag (dv 7) az)))))
 (ah (aP eL)
 ar)
 ar)
 ar)))))
 (ah (EG (i:=4) rfl (Or.inl rfl))
 ar))))))
 (ah (aP eL)
 ar))))
def rZ(T:Txt K mg t):fA P w K mg base CX0 2 (t.A 32) (t.Q 32) ["_law_one","_law_other","_law_sign"] (spD K 3 dJ) "_law_plus" (top 56) :=
 oD T.g sc (i:=32) rfl λ_ _ _ _ _ _ _ hr=>(
 (ah (aP (rC (gJ T) hr (ag (bH (dk (ay (dv 0) aj) (ay (dv 1) aj)) (dk (dk (dv 2) (ay (dv 1) aj)) (ay (dv 0) aj))) (ag (dk (ay (dv 0) aj) (ay (dv 1) aj)) az))))
 ar))
def r8(T:Txt K mg t):fA P w K mg base CX0 1 (t.A 33) (t.Q 33) ["_law_one","_law_other"] (spD K 2 cy) "_law_less" (top 57) :=
 oD T.g sc (i:=33) rfl λ_ _ _ _ _ _ _ _=>(
 (ah (aP (fL Bf (dQ λ_ _ _ _=>rb _) (dk (ay (dv 0) aj) (ay (dv 1) aj)) (dk (ay (dv 1) aj) (ay (dv 0) aj)) nm))
 ar))
def oE(T:Txt K mg t):fA P w K mg base CX0 3 (t.A 34) (t.Q 34) ["_law_web_here","_law_taken"] (spD K 2 cN) "_law_labels" (top 60) :=
 oD T.g sc (i:=34) rfl λ_ _ _ _ _ _ _ hr=>(
 (ah (nM (i:=2) (nd 34) rfl (Or.inl rfl) (zv (ay (dv 0) aj) (cF (ag aj (ag aj az)))))
 (ah (nN PassesOwn.never rfl rfl T.n_range (bf bS dm rfl T.n_len PyProof.Rows.Boot.«len» (ag (ay (dv 0) aj) az)) (eD (i:=3) (nd 34) rfl (Or.inl rfl)) eI
 (ah (lA PassesOwn.never rfl (gN rfl T.n_enumerate (ay (dv 0) aj)) (fb rfl (aX (i:=4) (nd 34) rfl (Or.inl rfl) (aX (i:=5) (nd 34) rfl (Or.inl rfl) dD))) eG
 (ah (pf PassesOwn.never rfl (cm (cU (ag (cF (ag (ay (dv 5) aj) (ag (ay (dv 5) aj) az))) (ag (cF (ag (ay (dv 5) aj) (ag (ay (dv 5) aj) az))) az))) fV (cw (bH aj (jI zE Ij rfl T.n_int PyProof.Rows.Boot.«int» (ag (fL (c5 hr.units) eS (ay (dv 5) aj) jH nm) az))))) (fb rfl (aX (i:=6) (nd 34) rfl (Or.inl rfl) (aX (i:=7) (nd 34) rfl (Or.inl rfl) dD))) eG
 (ah (bB (DW.dt (jF (aR (eQ hr.units) eR (dv 4) (dv 1) rfl) (gw (aR (Bh (xg hr.units)) Bj (dv 6) (dv 2) rfl))))
 (ah (ED (i:=8) (nd 34) rfl (Or.inl rfl) (rC (rZ T) hr (ag (iQ (xg hr.units) (dv 2) (dv 6)) (ag (ay (dv 5) aj) (ag aj az)))))
 (ah (bB (DW.dt (dB (aR (yS (xg hr.units)) yV (dv 7) (dv 2) rfl) (br (bE (rC (r8 T) hr (ag (dv 8) (ag (iQ (xg hr.units) (dv 2) (dv 7)) az)))))))
 (ah (nL (i:=2) (xg hr.units) rfl (Or.inl rfl) (dv 8) (dv 7))
 ar)
 ar)
 ar))
 ar)
 ar))
 ar))
 ar))
 (ah (aP (dv 2))
 ar))))
def oC(T:Txt K mg t):fA P w K mg base CX0 4 (t.A 35) (t.Q 35) ["_law_web_here","_law_taken","_law_part"] (spD K 3 cx) "_law_prices" (top 61) :=
 oD T.g sc (i:=35) rfl λ_ _ _ _ _ _ _ hr=>(
 (ah (aU (i:=3) (nd 35) rfl (Or.inl rfl) (rC (oE T) hr (ag (dv 0) (ag (dv 1) az))))
 (ah (nM (i:=4) (nd 35) rfl (Or.inl rfl) yf)
 (ah (pf PassesOwn.never rfl (wM (ay (dv 0) aj)) (eD (i:=5) (nd 35) rfl (Or.inl rfl)) eI
 (ah (nL (i:=4) (xg hr.units) rfl (Or.inl rfl) ff (dv 5))
 (ah (bB (aR (Bh (xg hr.units)) Bj (dv 5) (dv 3) rfl)
 (ah (nL (i:=4) (xg hr.units) rfl (Or.inl rfl) (rC (gJ T) hr (ag (dk (ay (iQ (xg hr.units) (dv 3) (dv 5)) aj) (dv 2)) (ag (dk (ay (iQ (xg hr.units) (dv 3) (dv 5)) aj) aj) az))) (dv 5))
 ar)
 ar)
 ar)))
 (ah (aP (dv 4))
 ar)))))
def sq(T:Txt K mg t):fA P w K mg base CX0 1 (t.A 36) (t.Q 36) ["_law_web_here","_law_bits_here"] (spD K 2 cV) "_law_bits" (top 59) :=
 oD T.g sc (i:=36) rfl λ_ _ _ _ H _ _ hr=>(
 (ah (aP (yi (sW ["_law_k","_law_tie_here","_law_bits_here"] 2 [1] rfl (gN rfl T.n_enumerate (ay (dv 0) aj)) (jh (by decide)) (λs H C fp pn=>⟨λHe H0e=>(fb rfl (aX (i:=0) (show List.Nodup (["_law_k","_law_tie_here","_law_bits_here"]:List Str) from by decide) rfl (Or.inl rfl) (aX (i:=1) (show List.Nodup (["_law_k","_law_tie_here","_law_bits_here"]:List Str) from by decide) rfl (Or.inl rfl) dD))),(ye (DW.dt (jF (aR rV sr (ay (dv 1) aj) ff nm) (gw (aR (c5 hr.units) eS (EN (Ib (dv 2) (dv 0)) aj) aj nm))))),(dv 0)⟩) ⟨rfl,rfl⟩ rfl rfl rfl rfl)))
 ar))
def uu(T:Txt K mg t):fA P w K mg base CX0 1 (t.A 37) (t.Q 37) ["_law_web_here","_law_taken","_law_d"] (spD K 3 dI) "_law_way" (top 58) :=
 oD T.g sc (i:=37) rfl λ_ _ _ _ _ _ _ hr=>(
 (ah (aU (i:=3) (nd 37) rfl (Or.inl rfl) (ay (dv 0) aj))
 (ah (jG (i:=4) (nd 37) rfl (Or.inl rfl) (gX (ag (dv 3) az)))
 (ah (jG (i:=5) (nd 37) rfl (Or.inl rfl) (gX az))
 (ah (lu _ PassesOwn.never (aR (fJ hr.units) i8 (dv 3) (ay (dv 0) aj) nm)
 (ah (jG (i:=6) (nd 37) rfl (Or.inl rfl) (gX az))
 (ah (lA PassesOwn.never rfl (gN rfl T.n_enumerate (ay (dv 0) aj)) (fb rfl (aX (i:=7) (nd 37) rfl (Or.inl rfl) (aX (i:=8) (nd 37) rfl (Or.inl rfl) dD))) eG
 (ah (bB (DW.dt (jF (aR (eQ hr.units) eR (dv 7) (dv 1) rfl) (jF (aR (c5 hr.units) eS (ay (dv 8) aj) (dv 3) nm) (gw (aR (eQ hr.units) eR (ay (dv 8) aj) (dv 4) rfl)))))
 (ah (dA (i:=6) rfl (Or.inl rfl) (cF (ag (dv 7) (ag aj (ag (ay (dv 8) aj) az)))))
 ar)
 ar)
 (ah (bB (DW.dt (jF (aR (eQ hr.units) eR (dv 7) (dv 1) rfl) (jF (aR (c5 hr.units) eS (ay (dv 8) aj) jH nm) (jF (aR (c5 hr.units) eS (ay (dv 8) aj) (dv 3) nm) (gw (aR (eQ hr.units) eR (ay (dv 8) aj) (dv 4) rfl))))))
 (ah (dA (i:=6) rfl (Or.inl rfl) (cF (ag (dv 7) (ag (wN aj) (ag (ay (dv 8) aj) az)))))
 ar)
 ar)
 ar)))
 (ah (wK 6 (bB (aR (c5 hr.units) eS (dv 6) (cU az) nm)
 (ah (aP (cU az))
 ar)
 ar))
 (ah (wK 6 (EC rfl (ay (dv 6) (cO (ay (dv 2) (bf bS dm rfl T.n_len PyProof.Rows.Boot.«len» (ag (dv 5) az))) (bf bS dm rfl T.n_len PyProof.Rows.Boot.«len» (ag (dv 6) az)))) (aX (i:=7) (nd 37) rfl (Or.inl rfl) (aX (i:=9) (nd 37) rfl (Or.inl rfl) (aX (i:=3) (nd 37) rfl (Or.inl rfl) dD)))))
 (ah (dA (i:=5) rfl (Or.inl rfl) (cF (ag (dv 7) (ag (dv 9) az))))
 (ah (dA (i:=4) rfl (Or.inl rfl) (dv 3))
 ar)))))))
 (ah (aP (dv 5))
 ar))))))
def kE(T:Txt K mg t):fA P w K mg base CX0 2 (t.A 38) (t.Q 38) ["thing"] (spD K 1 cJ) "look_at_numbers" (top 39) :=
 oD T.g sc (i:=38) rfl λ_ _ _ _ _ _ _ hr=>(
 (ah (bB (bF (bE (bz eK rfl T.n_isinstance rfl T.n_list PyProof.Rows.Boot.«list» (dv 0))))
 (ah dq
 ar)
 ar)
 (ah (lA PassesOwn.never rfl (gN rfl T.n_enumerate (dv 0)) (fb rfl (aX (i:=1) (nd 38) rfl (Or.inl rfl) (aX (i:=2) (nd 38) rfl (Or.inl rfl) dD))) eG
 (ah (bB (DW.dt (dB (bF (bE (rC (fB T) hr (ag (dv 2) az)))) (br (aR Bf (dQ λ_ _ _ _=>rb _) (dv 2) aj nm))))
 (ah dq
 ar)
 ar)
 ar))
 ar)))
def jB(T:Txt K mg t):fA P w K mg base CX0 3 (t.A 39) (t.Q 39) ["way"] (Gb K 1 c8) "way_turned" (top 47) :=
 oF T.g sc (i:=39) rfl λ_ _ _ _ _ _ _ hr=>(
 (zt (gM (rC (kE T) hr (ag (dv 0) az)))
 (zq (B7 rfl rfl T.n_list rfl T.n_reversed (dv 0)))))
def qg(T:Txt K mg t):fA P w K mg base CX0 3 (t.A 39) (t.Q 39) ["way"] (spD K 1 c8) "way_turned" (top 47) :=
 (jB T).fD
def ok_law(T:Txt K mg t):fA P w K mg base CX0 8 (t.A 40) (t.Q 40) ["_law_script"] (spD K 1 m_law) "law" (top 68) :=
 oD T.g sc (i:=40) rfl λ_ _ _ _ H _ _ hr=>(
 (ah (aU (i:=1) (nd 40) rfl (Or.inl rfl) (rC (mK T) hr (ag (dv 0) az)))
 (ah (pf PassesOwn.never rfl (bH (ay (rC (kl T) hr (ag (dv 0) az)) aj) (cU (ag aj az))) (eD (i:=2) (nd 40) rfl (Or.inl rfl)) eI
 (ah (aU (i:=3) (nd 40) rfl (Or.inl rfl) (rC (fj T) hr (ag (dv 2) (ag (bH (cU (ag aj (ag (pk aj aj) (ag aj (ag aj (ag (pk aj aj) (ag aj (ag aj (ag aj az))))))))) (ph (gX (ag aj az)) aj)) az))))
 (ah (aU (i:=4) (nd 40) rfl (Or.inl rfl) (rC (jA T) hr (ag (dv 3) az)))
 (ah (aU (i:=5) (nd 40) rfl (Or.inl rfl) (rC (jA T) hr (ag (cm (dv 3) (cw aj) fV) az)))
 (EB (xi (x:=6) [1,4,5] (nd 40) rfl (Or.inl rfl) (λ_ _ h=>h) (rC (qP T) hr (ag (dv 1) (ag (dv 4) (ag (dv 5) az))))
 (Ah (bF (bE (rC (cc T) hr (ag (kJ (dv 6)) (ag (rC (oB T) hr (ag (dv 1) (ag (dv 4) (ag (dv 5) az)))) az)))))
 (ah (aP eL)
 ar)
 (Ah (bF (bE (rC (cc T) hr (ag (kJ (rC (qP T) hr (ag (kJ (dv 6)) (ag (yh (dv 4)) (ag (yh (dv 5)) az))))) (ag (dv 1) az)))))
 (ah (aP eL)
 ar)
 (xi (x:=7) [1] (nd 40) rfl (Or.inl rfl) (λ_ _ h=>h) (rC (l9 T) hr (ag (dv 1) az))
 (Ah (DW.dt (dB (bF (bE (rC (cc T) hr (ag (kJ (dv 7)) (ag (rC (jy T) hr (ag (dv 1) az)) az))))) (br (bF (bE (rC (cc T) hr (ag (kJ (rC (l9 T) hr (ag (kJ (dv 7)) az))) (ag (dv 1) az))))))))
 (ah (aP eL)
 ar)
 (Ag (it:=8) (x:=6) (y:=7) PassesOwn.never rfl rfl rfl (nd 40) rfl (Or.inl rfl) (Or.inl rfl) rfl (Or.inl rfl) rfl (Or.inl rfl)
 (ah (bB (bF (bE (rC (jz T) hr (ag (rC (oC T) hr (ag (dv 1) (ag (rC (sq T) hr (ag (dv 1) (ag (ay (dv 3) aj) az))) (ag (ay (dv 3) aj) az)))) (ag (dv 4) az)))))
 (ah (aP eL)
 ar)
 ar)
 (ah (sR (i:=9) (nd 40) rfl rfl j6 (sW ["_law_k","_law_sign"] 2 [] rfl (sU (rC (uu T) hr (ag (dv 1) (ag (cU az) (ag (cm (dv 3) (cw aj) fV) az))))) (jh (by decide)) (λs H C fp pn=>⟨λHe H0e=>(fb rfl (aX (i:=0) (show List.Nodup (["_law_k","_law_sign"]:List Str) from by decide) rfl (Or.inl rfl) (aX (i:=1) (show List.Nodup (["_law_k","_law_sign"]:List Str) from by decide) rfl (Or.inl rfl) dD))),iM,(dv 0)⟩) ⟨rfl,rfl⟩ rfl rfl rfl rfl))
 (ah (aU (i:=10) (nd 40) rfl (Or.inl rfl) (jI lF EW rfl T.n_list PyProof.Rows.Boot.«list» (ag (dv 9) az)))
 (ah (bB (aR (fJ hr.units) i8 (dv 9) (cU az) nm)
 (ah (jG (i:=8) (nd 40) rfl (Or.inl rfl) (rF (jB T) hr (ag (dv 9) az)))
 (ah (bB (bF (bE (rC (cc T) hr (ag (dv 8) (ag (wM (dv 10)) az)))))
 (ah (aP eL)
 ar)
 ar)
 (ah (dA (i:=8) rfl (Or.inl rfl) aj)
 (ah (wK 8 (bB (DW.dt (dB (aR (fJ hr.units) i8 (dv 9) (dv 10) nm) (br (bF (bE (rC (cc T) hr (ag (rC (qg T) hr (ag (dv 9) az)) (ag (wM (dv 10)) az))))))))
 (ah (aP eL)
 ar)
 ar))
 ar))))
 ar)
 (ah (bB (DW.dt (dB (bF (bE (rC (cc T) hr (ag (dv 1) (ag (rC (mK T) hr (ag (dv 0) az)) az))))) (br (bF (bE (rC (cc T) hr (ag (kJ (rC (l9 T) hr (ag (dv 1) az))) (ag (rC (jy T) hr (ag (dv 1) az)) az))))))))
 (ah (aP eL)
 ar)
 ar)
 ar))))))))))))))))
 (ah (aP eL)
 ar))))
end
def txt_mk{K:W.Frag}{h:Heap}{mg:Str->Option Value}(X:K.In h)(G:h.Ns mainGlobals mg){a0 a1 a2 a3 a4 a5 a6 a7 a8 a9 a10 a11 a12 a13 a14 a15 a16 a17 a18 a19 a20 a21 a22 a23 a24 a25 a26 a27 a28 a29 a30 a31 a32 a33 a34 a35 a36 a37 a38 a39 a40:Addr}(qs:QAs K rows [a0,a1,a2,a3,a4,a5,a6,a7,a8,a9,a10,a11,a12,a13,a14,a15,a16,a17,a18,a19,a20,a21,a22,a23,a24,a25,a26,a27,a28,a29,a30,a31,a32,a33,a34,a35,a36,a37,a38,a39,a40])
  (z_abs:W.nsIn K mainGlobals "abs"=some none)
  (z_all:W.nsIn K mainGlobals "all"=some none)
  (z_bool:W.nsIn K mainGlobals "bool"=some none)
  (z_dict:W.nsIn K mainGlobals "dict"=some none)
  (z_enumerate:W.nsIn K mainGlobals "enumerate"=some none)
  (z_int:W.nsIn K mainGlobals "int"=some none)
  (z_isinstance:W.nsIn K mainGlobals "isinstance"=some none)
  (z_len:W.nsIn K mainGlobals "len"=some none)
  (z_list:W.nsIn K mainGlobals "list"=some none)
  (z_min:W.nsIn K mainGlobals "min"=some none)
  (z_range:W.nsIn K mainGlobals "range"=some none)
  (z_reversed:W.nsIn K mainGlobals "reversed"=some none)
  (z_sorted:W.nsIn K mainGlobals "sorted"=some none)
  (z_str:W.nsIn K mainGlobals "str"=some none)
  (z_tuple:W.nsIn K mainGlobals "tuple"=some none)
  (z_zip:W.nsIn K mainGlobals "zip"=some none)
  {m8:Tok}(m5:W.nsIn K mainGlobals "FEWEST_PLACES"=some (some (.int 2 m8)))
  {CP:Tok}(Cy:W.nsIn K mainGlobals "FIRST"=some (some (.int 2 CP)))
  {F1:Tok}(FN:W.nsIn K mainGlobals "LAST"=some (some (.int 3 F1)))
  {An:Tok}(zV:W.nsIn K mainGlobals "LENGTH"=some (some (.int 3 An)))
  {yB:Tok}(yr:W.nsIn K mainGlobals "LETTERS"=some (some (.str "abcdefghijklmnopqrstuvwxyz" yB)))
  {nY:Tok}(nU:W.nsIn K mainGlobals "LONGEST_NAME"=some (some (.int 8 nY)))
  {qd:Tok}(qc:W.nsIn K mainGlobals "MOST_PLACES"=some (some (.int 7 qd)))
  {tX:Tok}(tR:W.nsIn K mainGlobals "MOST_TIES"=some (some (.int 14 tX)))
  {IQ:Tok}(II:W.nsIn K mainGlobals "ONE"=some (some (.int 0 IQ)))
  {CO:Tok}(Cw:W.nsIn K mainGlobals "OTHER"=some (some (.int 1 CO)))
  {Am:Tok}(zU:W.nsIn K mainGlobals "PLACES"=some (some (.int 0 Am)))
  {F0:Tok}(FL:W.nsIn K mainGlobals "TIES"=some (some (.int 1 F0)))
  {FZ:Tok}(FK:W.nsIn K mainGlobals "WORD"=some (some (.int 2 FZ)))
  {xw:Addr}{xH:Obj}(Cv:W.nsIn K mainGlobals "WORDS"=some (some (.ref xw))) (CB:K.lookup xw=some xH) (CG:∃od its n sl vs,xH=⟨.type "tuple",od,.seq its n,sl⟩/\bo vs its.toList/\its.size<=sizeLine/\∀H,Reps K H [.str "one",.str "both"] vs)
  {CN:Tok}(Cu:W.nsIn K mainGlobals "WORTH"=some (some (.int 4 CN))) :
  ∃t:Adr,Txt K mg t/\t.A 40=a40/\∃kV doc pm an cdv ct,t.Q 40=W.fnOf "law" "law" (defArgs (top 68)) (defBody (top 68)) (defScope (top 68)) .none kV doc pm an cdv ct:=by
 obtain⟨Q,hQ⟩:=Fg X G bn qs;have D_law:=(hQ 40 _ rfl).2;refine⟨⟨λi=>[a0,a1,a2,a3,a4,a5,a6,a7,a8,a9,a10,a11,a12,a13,a14,a15,a16,a17,a18,a19,a20,a21,a22,a23,a24,a25,a26,a27,a28,a29,a30,a31,a32,a33,a34,a35,a36,a37,a38,a39,a40].getD i 0,Q⟩,⟨λi r h=>(hQ i r h).1,W.mg_none_of X G z_abs,W.mg_none_of X G z_all,W.mg_none_of X G z_bool,W.mg_none_of X G z_dict,W.mg_none_of X G z_enumerate,W.mg_none_of X G z_int,W.mg_none_of X G z_isinstance,W.mg_none_of X G z_len,W.mg_none_of X G z_list,W.mg_none_of X G z_min,W.mg_none_of X G z_range,W.mg_none_of X G z_reversed,W.mg_none_of X G z_sorted,W.mg_none_of X G z_str,W.mg_none_of X G z_tuple,W.mg_none_of X G z_zip,?fM,?j8,?mq,?jP,?mn,?gC,?ia,?jO,?pL,?iV,?fG,?pK,?kL,?tj,?j7⟩,rfl,D_law⟩
 case fM=>exact dS (W.mg_of X G m5)
 case j8=>exact dS (W.mg_of X G Cy)
 case mq=>exact dS (W.mg_of X G FN)
 case jP=>exact dS (W.mg_of X G zV)
 case mn=>exact DP (W.mg_of X G yr)
 case gC=>exact dS (W.mg_of X G nU)
 case ia=>exact dS (W.mg_of X G qc)
 case jO=>exact dS (W.mg_of X G tR)
 case pL=>exact dS (W.mg_of X G II)
 case iV=>exact dS (W.mg_of X G Cw)
 case fG=>exact dS (W.mg_of X G zU)
 case pK=>exact dS (W.mg_of X G FL)
 case kL=>exact dS (W.mg_of X G FK)
 case tj=>
  obtain⟨od,its,n,sl,vs,rfl,h1,h2,h3⟩:=CG;exact DN (W.mg_of X G Cv) CB h1 h2 h3
 case j7=>exact dS (W.mg_of X G Cu)
def txt_wr{K:W.Frag}{mg:Str->Option Value}{a:Addr}{R:Adr->Prop}(h:∃t:Adr,Txt K mg t/\t.A 40=a/\R t):∃t:Adr,Txt K mg t/\mg "law"=some (.ref (t.A 40))/\R t:=h.elim λt ⟨T,_,r⟩=>⟨t,T,(T.g 40 _ rfl).g,r⟩
end K61
namespace K59
open PySem L2 DL
abbrev bA:ac->ax D:=Cod.bA
noncomputable def gP:am :=
 (aq (bh (ai (af (aa (aa (aa (ae 0) (dC (.int 0)) aJ) (aa (ae 1) (dC (.int 1)) aJ) bI) (aa (aa (ae 2) (aa (ae 1) (dC (.int 0)) aJ) bI) (aa (ae 0) (dC (.int 1)) aJ) bI) bC) (af (aa (aa (ae 0) (dC (.int 1)) aJ) (aa (ae 1) (dC (.int 1)) aJ) bI) aA)) bA))
 ak)
def dJ:ac->ax D:=bT 3 gP
def eN:am :=
 (aq (bh (aa (aa (aa (ae 0) (dC (.int 0)) aJ) (aa (ae 1) (dC (.int 1)) aJ) bI) (aa (aa (ae 1) (dC (.int 0)) aJ) (aa (ae 0) (dC (.int 1)) aJ) bI) FC))
 ak)
def cy:ac->ax D:=bT 2 eN
noncomputable def fz:am :=
 (aq (gF 2 (ra (aa (ae 0) (dC (.int 2)) aJ) (ai (af (dC (.int 0)) (af (dC (.int 1)) aA)) df)))
 (aq (kU (ai (af (aa (ae 0) (dC (.int 0)) aJ) aA) (m1 eO)) (dg 3)
 (aq (gG (ke (aa (ae 0) (dC (.int 1)) aJ)) (cD [4,5])
 (aq (kg (eV (ai (af (ai (af (aa (ae 5) (dC (.int 0)) aJ) (af (aa (ae 5) (dC (.int 1)) aJ) aA)) df) (af (ai (af (aa (ae 5) (dC (.int 1)) aJ) (af (aa (ae 5) (dC (.int 0)) aJ) aA)) df) aA)) bM) dH (bZ (aa (dC (.int 1)) (ai (af (aa (aa (ae 5) (dC (.int 2)) aJ) (dC (.str "both")) fF) aA) (m1 mi)) bC))) (cD [6,7])
 (aq (cP (dN (aa (ae 4) (ae 1) bN) (aa (ae 6) (ae 2) sZ))
 (aq (ud 8 (ai (af (aa (ae 2) (ae 6) cE) (af (aa (ae 5) (dC (.int 3)) aJ) (af (dC (.int 1)) aA))) dJ))
 (aq (cP (gY (aa (ae 7) (ae 2) jZ) (ai (af (ae 8) (af (aa (ae 2) (ae 7) cE) aA)) cy))
 (aq (ip 2 (ae 8) (ae 7))
 ak)
 ak)
 ak))
 ak)
 ak))
 ak))
 ak))
 (aq (bh (ae 2))
 ak)))
def cN:ac->ax D:=bT 9 fz
noncomputable def ft:am :=
 (aq (aV 3 (ai (af (ae 0) (af (ae 1) aA)) cN))
 (aq (gF 4 (dC (.dic [] [])))
 (aq (kg (aS (aa (ae 0) (dC (.int 0)) aJ) nk) (dg 5)
 (aq (ip 4 (dC (.non)) (ae 5))
 (aq (cP (aa (ae 5) (ae 3) sZ)
 (aq (ip 4 (ai (af (aa (aa (aa (ae 3) (ae 5) cE) (dC (.int 0)) aJ) (ae 2) bI) (af (aa (aa (aa (ae 3) (ae 5) cE) (dC (.int 1)) aJ) (dC (.int 4)) bI) aA)) bA) (ae 5))
 ak)
 ak)
 ak)))
 (aq (bh (ae 4))
 ak))))
def cx:ac->ax D:=bT 6 ft
def gQ:am :=
 (aq (bh (dE 2 [1] (ke (aa (ae 0) (dC (.int 1)) aJ)) (cD [0,1]) (dN (aa (aa (ae 1) (dC (.int 4)) aJ) (dC (.non)) gA) (aa (aa (aa (ae 2) (ae 0) Ce) (dC (.int 1)) uZ) (dC (.int 1)) fF)) (ae 0)))
 ak)
def cV:ac->ax D:=bT 2 gQ
end K59
namespace K51
open PySem L2 DL
def eN:am :=
 (aq (bh (aa (aa (aa (ae 0) (dC (.int 0)) aJ) (aa (ae 1) (dC (.int 1)) aJ) bI) (aa (aa (ae 1) (dC (.int 0)) aJ) (aa (ae 0) (dC (.int 1)) aJ) bI) FC))
 ak)
def cy:ac->ax D:=bT 2 eN
abbrev m_ratio:ac->ax D:=Com.m_ratio
def nQ:am :=
 (aq (bh (ai (af (aa (aa (ae 0) (dC (.int 0)) aJ) (aa (ae 1) (dC (.int 0)) aJ) bI) (af (aa (aa (ae 0) (dC (.int 1)) aJ) (aa (ae 1) (dC (.int 1)) aJ) bI) aA)) m_ratio))
 ak)
def m_times:ac->ax D:=bT 2 nQ
end K51
namespace K11
open PySem L2 DL Com
def kG{x y:Str}:fF (.str x) (.str y)=.ok (.bl (decide (x=y))):=by
 have h:fF (.str x) (.str y)=.ok (.bl (x==y)):=rfl;rw[h]
 by_cases e:x=y
 .rw[decide_eq_true e,e,beq_self_eq_true]
 .rw[decide_eq_false e,beq_eq_false_iff_ne.mpr e]
def yE{m:Nat}{ks:bi}:(ks.map λ(k:Nat)=>D.int (k:Int)).all (bb m)=true:=List.all_eq_true.mpr λd hd=>by
 obtain⟨z,_,rfl⟩:=List.mem_map.mp hd;cases m<;>rfl
theorem ym{n:Nat}:∀{ks:bi},((ks.map λ(k:Nat)=>D.int (k:Int)).any λd=>cL d (.int (n:Int)))=decide (n∈ks)
 |[]=>rfl
 |k::ks=>by
  rw[List.map_cons,List.any_cons,ym];have e:cL (.int (k:Int)) (.int (n:Int))=((k:Int)==(n:Int)):=by rw[cL]
  rw[e]
  by_cases h:n=k
  .subst h;simp
  .have h1:((k:Int)==(n:Int))=false:=beq_eq_false_iff_ne.mpr (by omega)
   rw[h1,Bool.false_or];have:n∈k::ks↔n∈ks:=by simp[h]
   exact decide_eq_decide.mpr this.symm
def notIn_nums{ks:bi}{n:Nat}:bN (.int (n:Int)) (.lst (ks.map λ(k:Nat)=>D.int (k:Int)))=.ok (.bl (!(decide (n∈ks)))):=by
 have e:zj (.int (n:Int)) (.lst (ks.map λ(k:Nat)=>D.int (k:Int)))=some (decide (n∈ks)):=(if_pos ⟨rfl,yE⟩).trans (congrArg some ym);unfold bN;rw[e]
end K11
namespace K12
open PySem L2 DL Com K11
def lenAt(w:fR)(k:Nat):dP:=((w.ts[k]?).map lR.l).getD (0,1)
def lenAt_of{w:fR}{k:Nat}{t:lR}(h:w.ts[k]?=some t):lenAt w k=t.l:=by unfold lenAt;rw[h];rfl
end K12
namespace K51
open PySem L2 DL Com
def JG{a:Int}{m n:Nat}(h:a.natAbs<2 ^ m)(hm:m<=n):a.natAbs<2 ^ n:=Nat.lt_of_lt_of_le h (Nat.pow_le_pow_right (by decide) hm)
def mul_p2{a b:Int}{m n:Nat}(h:a.natAbs<2 ^ m)(h':b.natAbs<2 ^ n):(a*b).natAbs<2 ^ (m+n):=by
 rw[Int.natAbs_mul,Nat.pow_add];exact Nat.mul_lt_mul'' h h'
def Io{a b:Int}{m:Nat}(h:a.natAbs<2 ^ m)(h':b.natAbs<2 ^ m):(a+b).natAbs<2 ^ (m+1):=by
 have:=Int.natAbs_add_le a b;rw[Nat.pow_succ];omega
def mt(x y:dP):dP:=er (x.1*y.1) (x.2*y.2)
def pl(x y:dP):dP:=er (un x y).1 (un x y).2
def i0(u:dP):aJ (fr u) (.int 0)=.ok (.int u.1):=rfl
def i1(u:dP):aJ (fr u) (.int 1)=.ok (.int u.2):=rfl
structure Bd (x:dP) (n:Nat):Prop where
 q0:0<x.2
 a:x.1.natAbs<2 ^ n
 b:x.2.natAbs<2 ^ n
def Bd.c13{x:dP}{n:Nat}(h:Bd x n)(hn:n<=6000):x.1.natAbs<vD/\x.2.natAbs<vD:=by
 have:2 ^ n<=vD:=by rw[tM];exact Nat.pow_le_pow_right (by decide) (Nat.le_trans hn (by decide))
 exact⟨Nat.lt_of_lt_of_le h.a this,Nat.lt_of_lt_of_le h.b this⟩
def Bd.c60{x:dP}{n:Nat}(h:Bd x n)(hn:n<=6000):x.1.natAbs<Cq/\x.2.natAbs<Cq:=⟨Nat.lt_of_lt_of_le (h.c13 hn).1 yq,Nat.lt_of_lt_of_le (h.c13 hn).2 yq⟩
def low_bd{a b:Int}{n:Nat}(hb:0<b)(h1:a.natAbs<2 ^ n)(h2:b.natAbs<2 ^ n):Bd (er a b) n:=⟨by have:=(fT (a:=a) hb).q1;omega,Nat.lt_of_le_of_lt xO h1,Nat.lt_of_le_of_lt xN h2⟩
def un_bd{x y:dP}{m n:Nat}(hx:Bd x m)(hy:Bd y n):Bd (un x y) (m+n+1):=by
 refine⟨Int.mul_pos hx.q0 hy.q0,?_,JG (mul_p2 hx.b hy.b) (by omega)⟩;have h1:=mul_p2 hx.a hy.b;have h2:=mul_p2 hy.a hx.b;rw[Nat.add_comm n m]at h2;exact Io h1 h2
def times_fr{x y:dP}{m n:Nat}(hx:Bd x m)(hy:Bd y n)(h:m+n<=6000):m_times [fr x,fr y]=.ok (fr (mt x y)):=by
 have b1:=hx.c60 (by omega);have b2:=hy.c60 (by omega);have hp:Bd (x.1*y.1,x.2*y.2) (m+n):=⟨Int.mul_pos hx.q0 hy.q0,mul_p2 hx.a hy.a,mul_p2 hx.b hy.b⟩
 have hc:=hp.c13 h;have m1:=cT (fK b1.1 b2.1);have m2:=cT (fK b1.2 b2.2);have hlo:m_ratio [.int (x.1*y.1),.int (x.2*y.2)]=.ok (fr (mt x y)):=AE hp.q0 hc.1 hc.2;open_line with[m_times,nQ,i0,i1,m1,m2,hlo]
def lless_bd{x y:dP}{m n:Nat}(hx:Bd x m)(hy:Bd y n)(hm:m<=6000)(hn:n<=6000):cy [fr x,fr y]=.ok (.bl (flt x y)):=by
 have b1:=hx.c60 hm;have b2:=hy.c60 hn;have m1:=cT (fK b1.1 b2.2);have m2:=cT (fK b2.1 b1.2);open_line with[cy,eN,i0,i1,m1,m2]
 rfl
end K51
namespace Pth
open PySem L2 DL Com
open K11 (kG)
def nu(zs:List Int)(n:Nat):Int:=(zs[n]?).getD 0
open K11 (kG)
def FJ{zs:List Int}(h:∀z∈zs,0<=z)(n:Nat):0<=nu zs n:=by
 unfold nu;cases e:zs[n]? with|none=>exact Int.le_refl _|some z=>exact h z (List.mem_of_getElem? e)
section
variable {ρ:Ev}{i:Nat}{f k:al}{ks:List Str}{ds:ac}{d:D}
def wJ:gF i f ρ=(f ρ).bind (xC i ρ):=aQ rfl
def yd:xC i ρ (.dic ks ds)=.ok (.nx (ρ.set i (.ow (.dic ks ds)))):=aQ rfl
def AL(i:Nat)(f k:al)(ρ:Ev)(s:Option Sl):ax Fl:=match s with
 |some (.ow (.dic ks ds))=>(f ρ).bind λd=>(k ρ).bind (kW i ρ ks ds d)
 |_=>.stuck
def mf:ip i f k ρ=AL i f k ρ ρ[i]?:=aQ rfl
def AK(i:Nat)(k:al)(ρ:Ev)(ks:List Str)(ds:ac)(d:D):ax Fl:=(k ρ).bind (kW i ρ ks ds d)
def lr:AL i f k ρ (some (.ow (.dic ks ds)))=(f ρ).bind (AK i k ρ ks ds):=aQ rfl
def jY:AK i k ρ ks ds d=(k ρ).bind (kW i ρ ks ds d):=aQ rfl
def iL{x:Str}(h:decide (ks.length<=900)=true):kW i ρ ks ds d (.str x)=.ok (.nx (ρ.set i (.ow (kX ks ds x d)))):=if_pos (Nat.lt_of_le_of_lt (of_decide_eq_true h) (by decide))
def wI:ud i f ρ=(f (ij ρ)).bind (xo i ρ):=aQ rfl
def sQ(h1:nd d=true)(h2:uq ρ=true):xo i ρ d=.ok (.nx (ρ.set i (.sh d))):=if_pos ⟨h1,h2⟩
def Ez{a b:al}:ra a b ρ=aa a b B5 ρ:=aQ rfl
def BZ{x:Str}:B5 (.str x) d=.ok (.dic [x] [d]):=aQ rfl
end
open K11 (kG)
def lB(w:fR):Int:=Mz (w.ts.map (·.l))
def lz(w:fR):List Int:=w.ts.map λt=>t.l.1*(lB w / t.l.2)
section
variable {w:fR}(W:dy w)
include W
theorem qR:0<lB w/\(lB w).natAbs<=2 ^ 2800/\∀t∈w.ts,t.l.2∣lB w:=by
 have h:=Ik (xs:=w.ts.map (·.l)) (λx hx=>by
  obtain⟨t,ht,rfl⟩:=List.mem_map.mp hx;exact(W.ts t ht).l) 1 0 ⟨by decide,by decide⟩
 obtain⟨⟨h1,h2⟩,_,h3⟩:=h;refine⟨h1,?_,λt ht=>h3 _ (List.mem_map.mpr ⟨t,ht,rfl⟩)⟩;refine Nat.le_trans h2 (Nat.pow_le_pow_right (by decide) ?_);rw[List.length_map];have:=W.t14;omega
theorem JR:∀z∈lz w,0<=z:=λz hz=>by
 obtain⟨t,ht,rfl⟩:=List.mem_map.mp hz;have T:=W.ts t ht;have:=T.l.q1;exact Int.mul_nonneg T.l0 (Int.ediv_nonneg (by have:=(qR W).1;omega) (by omega))
theorem JS(n:Nat):(nu (lz w) n).natAbs<2 ^ 3000:=by
 unfold nu lz;rw[List.getElem?_map];cases e:w.ts[n]? with
 |none=>show(0:Int).natAbs<_;exact Nat.pow_pos (by decide)
 |some t=>
  have T:=W.ts t (List.mem_of_getElem? e);show(t.l.1*(lB w / t.l.2)).natAbs<_;rw[Int.natAbs_mul,show(3000:Nat)=200+2800 from rfl,Nat.pow_add];have h1:t.l.1.natAbs<2 ^ 200:=Nat.lt_of_lt_of_le T.l.pN (by decide);have h2:(lB w / t.l.2).natAbs<=2 ^ 2800:=Nat.le_trans (Int.natAbs_ediv_le_natAbs _ _) (qR W).2.1;exact Nat.lt_of_lt_of_le (Nat.mul_lt_mul_of_lt_of_le h1 h2 (Nat.pow_pos (by decide))) (Nat.le_refl _)
end
open K11 (kG)
theorem tu{g:Str->D}{k:Str}:∀{ps:List Str},tE ps (ps.map g) k=if k∈ps then some (g k) else none
 |[]=>rfl
 |p::ps=>by
  rw[List.map_cons,tE]
  by_cases h:p=k
  .subst h;simp
  .rw[if_neg h,tu]
   have:k≠p:=λz=>h z.symm;simp[this]
open K11 (kG)
open K51 (Bd pl)
def val(x:dP):Rat:=(x.1:Rat) / (x.2:Rat)
def cB{a:Int}(h:0<a):(0:Rat)<(a:Rat):=by
 have:=Rat.intCast_lt_intCast.mpr h;simpa using this
def HZ{a b c d:Rat}(hb:0<b)(hd:0<d):a / b<c / d↔a*d<c*b:=by
 have h1:a / b<c / d↔(a / b)*(b*d)<(c / d)*(b*d):=(Rat.mul_lt_mul_right (Rat.mul_pos hb hd)).symm;rw[h1];have e1:a / b*(b*d)=a*d:=by grind
 have e2:c / d*(b*d)=c*b:=by grind
 rw[e1,e2]
def xX{x y:dP}(hx:0<x.2)(hy:0<y.2):flt x y=decide (val x<val y):=by
 unfold flt val
 congr 1
 rw[HZ (cB hx) (cB hy),←Rat.intCast_mul,←Rat.intCast_mul,Rat.intCast_lt_intCast]
def nz{a b:Int}(hb:0<b):val (er a b)=(a:Rat) / (b:Rat):=by
 have h:=DK (a:=a) (b:=b);have hq:0<(er a b).2:=by have:=(fT (a:=a) hb).q1;omega
 unfold val;have p1:=cB hq;have p2:=cB hb;have e:((er a b).1:Rat)*(b:Rat)=(a:Rat)*((er a b).2:Rat):=by rw[←Rat.intCast_mul,←Rat.intCast_mul,h]
 grind
def FU{x y:dP}(hx:0<x.2)(hy:0<y.2):val (pl x y)=val x+val y:=by
 have:pl x y=er (x.1*y.2+y.1*x.2) (x.2*y.2):=rfl;rw[this,nz (Int.mul_pos hx hy)];unfold val;have p1:=cB hx;have p2:=cB hy;rw[Rat.intCast_add,Rat.intCast_mul,Rat.intCast_mul,Rat.intCast_mul]
 grind
def gs{x:dP}(h:je x):Bd x 200:=⟨by have:=h.q1;omega,Nat.lt_of_lt_of_le h.pN (by decide),Nat.lt_of_lt_of_le h.qN (by decide)⟩
open K11 (kG)
open K51 (Bd pl)
section
variable {w:fR}(W:dy w)
include W
theorem z_len{n:Nat}(hn:n<w.ts.length):val (K12.lenAt w n)=(nu (lz w) n:Rat) / (lB w:Rat):=by
 have ht:=List.getElem?_eq_getElem hn;have T:=W.ts w.ts[n] (List.getElem_mem hn);rw[K12.lenAt_of ht];have hz:nu (lz w) n=w.ts[n].l.1*(lB w / w.ts[n].l.2):=by
  unfold nu lz;rw[List.getElem?_map,ht];rfl
 obtain⟨h1,_,h3⟩:=qR W;have hq:=T.l.q1;have hd:=Int.ediv_mul_cancel (h3 _ (List.getElem_mem hn));have e:nu (lz w) n*w.ts[n].l.2=w.ts[n].l.1*lB w:=by rw[hz,Int.mul_assoc,hd]
 have p1:=cB h1;have p2:=cB (show 0<w.ts[n].l.2 by omega);have e':(nu (lz w) n:Rat)*(w.ts[n].l.2:Rat)=(w.ts[n].l.1:Rat)*(lB w:Rat):=by rw[←Rat.intCast_mul,←Rat.intCast_mul,e]
 unfold val
 grind
end
end Pth
namespace Bfd
open PySem L2 DL Com Pth
structure BS where
 ks:List Str
 Z:Str->Int
open K51 (Bd pl)
def iO(w:fR)(S:BS):D:=.dic S.ks (S.ks.map λp=>fr (er (S.Z p) (lB w)))
def wL{w:fR}{S:BS}{p:Str}:tE S.ks (S.ks.map λp=>fr (er (S.Z p) (lB w))) p=if p∈S.ks then some (fr (er (S.Z p) (lB w))) else none:=tu (g:=λp=>fr (er (S.Z p) (lB w)))
def mh{w:fR}{S:BS}{p:Str}:sZ (.str p) (iO w S)=.ok (.bl (decide (p∈S.ks))):=by
 show ax.ok (D.bl (tE S.ks (S.ks.map λp=>fr (er (S.Z p) (lB w))) p).isSome)=_;rw[wL]
 by_cases h:p∈S.ks
 .rw[if_pos h,decide_eq_true h];rfl
 .rw[if_neg h,decide_eq_false h];rfl
def iz{w:fR}{S:BS}{p:Str}:jZ (.str p) (iO w S)=.ok (.bl (!(decide (p∈S.ks)))):=by
 show ax.ok (D.bl (!(tE S.ks (S.ks.map λp=>fr (er (S.Z p) (lB w))) p).isSome))=_;rw[wL]
 by_cases h:p∈S.ks
 .rw[if_pos h,decide_eq_true h];rfl
 .rw[if_neg h,decide_eq_false h];rfl
def iN{w:fR}{S:BS}{p:Str}(h:p∈S.ks):cE (iO w S) (.str p)=.ok (fr (er (S.Z p) (lB w))):=by
 show(match tE S.ks (S.ks.map λp=>fr (er (S.Z p) (lB w))) p with|some d=>ax.ok d|none=>.stuck)=_;rw[wL,if_pos h]
theorem rep_map{g:Str->D}{x:Str}{d:D}:∀{ks:List Str},vR ks (ks.map g) x d=ks.map λk=>if k=x then d else g k
 |[]=>rfl
 |k::ks=>by rw[List.map_cons,vR,rep_map,List.map_cons]
def lD{w:fR}{S:BS}{b:Str}{z:Int}:kX S.ks (S.ks.map λp=>fr (er (S.Z p) (lB w))) b (fr (er z (lB w)))=iO w ⟨if b∈S.ks then S.ks else S.ks++[b],λp=>if p=b then z else S.Z p⟩:=by
 unfold kX iO
 by_cases h:b∈S.ks
 .rw[if_pos h]
  simp only[if_pos h];rw[rep_map]
  congr 1
  refine List.map_congr_left λk _=>?_
  by_cases e:k=b
  .rw[if_pos e,if_pos e]
  .rw[if_neg e,if_neg e]
 .rw[if_neg h]
  simp only[if_neg h];rw[List.map_append]
  congr 1
  congr 1
  .refine List.map_congr_left λk hk=>?_
   rw[if_neg (by intro e;exact h (e▸hk))]
  .simp
def jf{x y:dP}(hx:Low x)(hy:Low y)(h:val x=val y):x=y:=by
 have q1:=hx.q1;have q2:=hy.q1;have h1:=xX (x:=x) (y:=y) (by omega) (by omega);have h2:=xX (x:=y) (y:=x) (by omega) (by omega);rw[h,decide_eq_false Rat.lt_irrefl]at h1;rw[h,decide_eq_false Rat.lt_irrefl]at h2;unfold flt at h1 h2;refine oJ hx hy ?_;have:=of_decide_eq_false h1;have:=of_decide_eq_false h2;omega
open K51 (Bd pl)
def Pl(x:Sl):Prop:=x=.no∨∃d,x=.sh d
end Bfd
namespace K64
open PySem L2 DL
noncomputable def cf(mR:ac->ax D):am :=
 (aq (cP (aS (ae 1) (sX ["tuple","list"]))
 (aq (cP (aa (aS (ae 0) (cG "tuple")) (aS (ae 1) (cG "tuple")) ic)
 (aq (bh (dC (.bl false)))
 ak)
 ak)
 (aq (cP (gY (aa (aS (ae 0) (cG "list")) (aS (ae 1) (cG "list")) ic) (aa (ai (af (ae 0) aA) (m1 eO)) (ai (af (ae 1) aA) (m1 eO)) ic))
 (aq (bh (dC (.bl false)))
 ak)
 ak)
 (aq (bh (ai (af (dE 2 [] (mG (ae 0) (ae 1)) (cD [0,1]) mYes (ai (af (ae 0) (af (ae 1) aA)) mR)) aA) (m1 u0)))
 ak)))
 ak)
 (aq (cP (gY (aa (ae 1) (dC (.non)) kK) (aS (ae 1) (cG "str")))
 (aq (bh (dN (aa (ae 0) (ae 1) fF) (aa (aS (ae 0) (cG "str")) (aS (ae 1) (cG "str")) fF)))
 ak)
 ak)
 (aq (bh (dN (aS (ae 0) (cG "int")) (dN (bR (aS (ae 0) (cG "bool"))) (aa (ae 0) (ae 1) fF))))
 ak)))
def aM:Nat->ac->ax D
 |0=>λ_=>.stuck
 |n+1=>bT 2 (cf (aM n))
abbrev aN:ac->ax D:=aM 5
end K64
namespace K54
open PySem L2 DL Com Pth
open K51 (Bd mt pl times_fr lless_bd low_bd)
def xf{x y:dP}(hx:Low x)(hy:Low y)(h:val x=val y):x=y:=by
 refine oJ hx hy ?_;have p1:=cB (a:=x.2) (by have:=hx.q1;omega);have p2:=cB (a:=y.2) (by have:=hy.q1;omega);unfold val at h;have e:(x.1:Rat)*(y.2:Rat)=(y.1:Rat)*(x.2:Rat):=by grind
 rw[←Rat.intCast_mul,←Rat.intCast_mul]at e;exact Rat.intCast_inj.mp e
def rH{x y:dP}(hx:0<x.2)(hy:0<y.2):val (mt x y)=val x*val y:=by
 have:mt x y=er (x.1*y.1) (x.2*y.2):=rfl;rw[this,nz (Int.mul_pos hx hy)];unfold val;have p1:=cB hx;have p2:=cB hy;rw[Rat.intCast_mul,Rat.intCast_mul]
 grind
end K54
namespace Nwb
open PySem L2 DL Com
def MI{es:ac}:Kt (.tup []) (.tup es)=.ok (.tup es):=rfl
end Nwb
namespace K64
open PySem L2 DL Com Pth
def oh{g:Str->D}{ks:List Str}{k:Str}(h:k∉ks):kX ks (ks.map g) k (g k)=.dic (ks++[k]) ((ks++[k]).map g):=by
 unfold kX;rw[if_neg h,List.map_append];rfl
def not_before{zs:List Str}(nd:zs.Nodup){k:Nat}{z:Str}(h:zs[k]?=some z):z∉zs.take k:=by
 intro hm;obtain⟨i,hi,e⟩:=List.getElem_of_mem hm;rw[List.length_take]at hi;rw[List.getElem_take]at e;obtain⟨hk,e2⟩:=List.getElem?_eq_some_iff.mp h;have:=(List.getElem_inj (h₀:=show i<zs.length by omega) (h₁:=hk) nd).mp (e.trans e2.symm);omega
def eJ(u:fR):D:=.tup [.ob .pl (u.ps.map D.str),.ob .pl (u.ts.map aL),.str u.fi,.str u.la]
theorem oW{α:Type}{F:α->D}(h:∀x,fgt (F x)=F x):∀xs:List α,fgts (xs.map F)=xs.map F
 |[]=>rfl
 |x::xs=>by rw[List.map_cons,fgts,h x,oW h xs]
def DY(t:lR):fgt (aL t)=aL t:=by
 obtain⟨a,b,w,l,o⟩:=t;cases o<;>rfl
def eU(u:fR):fgt (eJ u)=bg u:=by
 show D.tup [.lst (fgts (u.ps.map D.str)),.lst (fgts (u.ts.map aL)),.str u.fi,.str u.la]=_;rw[oW (λ_=>rfl),oW DY];rfl
def ev_pl{f:al}{ρ:Ev}:rP f ρ=(f ρ).bind Lv:=rfl
def ev_pl1{ds:ac}:Lv (.lst ds)=.ok (.ob .pl ds):=rfl
def lj{f:al}{ρ:Ev}:uY f ρ=(f ρ).bind λd=>.ok (fgt d):=rfl
end K64
namespace K64
open PySem L2 DL Com
theorem jt:∀ds:ac,cZ ds ds=ds.map λd=>.tup [d,d]
 |[]=>rfl
 |d::ds=>by rw[List.map_cons,←jt ds];rfl
theorem pM:∀ds:ac,fq (ds.map λ_=>.bl true)=some (ds.map λ_=>true)
 |[]=>rfl
 |d::ds=>by rw[List.map_cons,fq,pM ds];rfl
def vp{ds:ac}:u0 (.lst (ds.map λ_=>.bl true))=.ok (.bl true):=by
 unfold u0;simp only[pM]
 congr 2
 rw[List.all_eq_true];intro b hb;obtain⟨_,_,rfl⟩:=List.mem_map.mp hb;rfl
def pT{n:Nat}{ds:ac}(hl:ds.length<=1000)(h:∀d∈ds,aM n [d,d]=.ok (.bl true)){ρ:Ev}:ja 2 [] (cD [0,1]) mYes (ai (af (ae 0) (af (ae 1) aA)) (aM n)) ρ (ds.map λd=>.tup [d,d])=.ok (.lst (ds.map λ_=>.bl true)):=by
 rw[iB (F:=λ_=>.bl true) (by rw[List.length_map];omega)]
 .rw[List.map_map];rfl
 .intro d hd
  obtain⟨e,he,rfl⟩:=List.mem_map.mp hd;refine⟨[.sh e,.sh e],rfl,rfl,?_⟩;have:=h e he;open_line with[this]
def mr{n:Nat}{ds:ac}(hl:ds.length<=1000)(h:∀d∈ds,aM n [d,d]=.ok (.bl true)):aM (n+1) [.tup ds,.tup ds]=.ok (.bl true):=by
 have hc:=λρ=>pT hl h (ρ:=ρ);have hz:∀ρ:Ev,ρ[0]?=some (.sh (.tup ds))->ρ[1]?=some (.sh (.tup ds))->mG (ae 0) (ae 1) ρ=.ok (ds.map λd=>.tup [d,d]):=λρ h0 h1=>by
  unfold mG ae;rw[h0,h1,←jt];rfl
 have t1:sX ["tuple","list"] (.tup ds)=.ok (.bl true):=rfl;have t2:cG "tuple" (.tup ds)=.ok (.bl true):=rfl;have t3:cG "list" (.tup ds)=.ok (.bl false):=rfl;have n1:ic (.bl true) (.bl true)=.ok (.bl false):=rfl;have n2:ic (.bl false) (.bl false)=.ok (.bl false):=rfl;rw[aM];open_line with[cf,t1,t2,t3,n1,n2,fU,hz,hc,vp]
def alike_lst{n:Nat}{ds:ac}(hl:ds.length<=1000)(h:∀d∈ds,aM n [d,d]=.ok (.bl true)):aM (n+1) [.lst ds,.lst ds]=.ok (.bl true):=by
 have hc:=λρ=>pT hl h (ρ:=ρ);have hz:∀ρ:Ev,ρ[0]?=some (.sh (.lst ds))->ρ[1]?=some (.sh (.lst ds))->mG (ae 0) (ae 1) ρ=.ok (ds.map λd=>.tup [d,d]):=λρ h0 h1=>by
  unfold mG ae;rw[h0,h1,←jt];rfl
 have t1:sX ["tuple","list"] (.lst ds)=.ok (.bl true):=rfl;have t2:cG "tuple" (.lst ds)=.ok (.bl false):=rfl;have t3:cG "list" (.lst ds)=.ok (.bl true):=rfl;have n1:ic (.bl true) (.bl true)=.ok (.bl false):=rfl;have n2:ic (.bl false) (.bl false)=.ok (.bl false):=rfl;rw[aM];open_line with[cf,t1,t2,t3,n1,n2,fU,hz,hc,vp]
def fY{n:Nat}{z:Str}:aM (n+1) [.str z,.str z]=.ok (.bl true):=by
 have t1:sX ["tuple","list"] (.str z)=.ok (.bl false):=rfl;have t2:cG "str" (.str z)=.ok (.bl true):=rfl;have n1:fF (.bl true) (.bl true)=.ok (.bl true):=rfl;rw[aM];open_line with[cf,t1,t2,nI,beq_self_eq_true z,n1]
def alike_int{n:Nat}{i:Int}:aM (n+1) [.int i,.int i]=.ok (.bl true):=by
 have t1:sX ["tuple","list"] (.int i)=.ok (.bl false):=rfl;rw[aM];open_line with[cf,t1,beq_self_eq_true i]
def alike_non{n:Nat}:aM (n+1) [.non,.non]=.ok (.bl true):=by
 rw[aM];rfl
def alike_fr{n:Nat}{x:dP}:aM (n+2) [fr x,fr x]=.ok (.bl true):=mr (ds:=[.int x.1,.int x.2]) (by simp) λd hd=>by
 simp only[List.mem_cons,List.not_mem_nil,or_false]at hd;rcases hd with rfl|rfl<;>exact alike_int
def zH{n:Nat}{t:lR}:aM (n+3) [aL t,aL t]=.ok (.bl true):=mr (ds:=[.str t.a,.str t.b,.str t.w,fr t.l,aI t.o]) (by simp) λd hd=>by
 simp only[List.mem_cons,List.not_mem_nil,or_false]at hd;rcases hd with rfl|rfl|rfl|rfl|rfl
 .exact fY
 .exact fY
 .exact fY
 .exact alike_fr
 .cases t.o with
  |none=>exact alike_non
  |some x=>exact alike_fr
def alike_web{u:fR}(U:dy u):aN [bg u,bg u]=.ok (.bl true):=mr (n:=4) (ds:=[.lst (u.ps.map D.str),.lst (u.ts.map aL),.str u.fi,.str u.la]) (by simp) λd hd=>by
 have h7:=U.n7;have h14:=U.t14;simp only[List.mem_cons,List.not_mem_nil,or_false]at hd;rcases hd with rfl|rfl|rfl|rfl
 .exact alike_lst (n:=3) (by rw[List.length_map];omega) λd hd=>by
   obtain⟨z,_,rfl⟩:=List.mem_map.mp hd;exact fY
 .exact alike_lst (n:=3) (by rw[List.length_map];omega) λd hd=>by
   obtain⟨t,_,rfl⟩:=List.mem_map.mp hd;exact zH
 .exact fY
 .exact fY
theorem eW:∀(zs:List Str),plainDs (zs.map D.str)=true
 |[]=>rfl
 |z::zs=>by
  show(bO (.str z)&&plainDs (zs.map D.str))=true;rw[eW zs];rfl
def yM(t:lR):bO (aL t)=true:=by
 obtain⟨a,b,w,l,o⟩:=t;cases o<;>rfl
theorem oo:∀(ts:List lR),plainDs (ts.map aL)=true
 |[]=>rfl
 |t::ts=>by
  show(bO (aL t)&&plainDs (ts.map aL))=true;rw[oo ts,yM];rfl
def fX(w:fR):bO (bg w)=true:=by
 show(bO (.lst (w.ps.map D.str))&&(bO (.lst (w.ts.map aL))&&(bO (.str w.fi)&&(bO (.str w.la)&&true))))=true;rw[show bO (.lst (w.ps.map D.str))=true from eW _,show bO (.lst (w.ts.map aL))=true from oo _];rfl
end K64
namespace K59
open PySem L2 DL Com Pth
open K51 (Bd pl)
open Bfd (BS iO mh iz iN lD jf Pl)
@[irreducible] def M3:Int:=2 ^ 3000
theorem tJ:0<M3:=by unfold M3;decide
def i0{x:dP}:aJ (fr x) (.int 0)=.ok (.int x.1):=rfl
def i1{x:dP}:aJ (fr x) (.int 1)=.ok (.int x.2):=rfl
def AS{x y:dP}{m n:Nat}(hx:Bd x m)(hy:Bd y n)(h:m+n<=5900):dJ [fr x,fr y,.int 1]=.ok (fr (pl x y)):=by
 have b1:=hx.c60 (by omega);have b2:=hy.c60 (by omega);have hp:=K51.un_bd hx hy;have hc:=hp.c13 (by omega);have m1:=cT (fK b1.1 b2.2);have m0:bI (.int 1) (.int y.1)=.ok (.int y.1):=by
  have:=cT (fK (i:=1) (Bs (i:=1) (by decide)) b2.1);rw[this,Int.one_mul]
 have m2:=cT (fK b2.1 b1.2);have m3:=cT (fK b1.2 b2.2);have hlo:bA [.int (x.1*y.2+y.1*x.2),.int (x.2*y.2)]=.ok (fr (pl x y)):=Cod.oK hp.q0 hc.1 hc.2;open_line with[dJ,gP,i0,i1,m0,m1,m2,m3,hlo]
def HV:cy=K51.cy:=rfl
section
variable {w:fR}(W:dy w)
include W
theorem Mv{z:Int}{n:Nat}{t:lR}(ht:w.ts[n]?=some t):pl (er z (lB w)) t.l=er (z+nu (lz w) n) (lB w):=by
 have hB:=(qR W).1;have T:=(W.ts t (List.mem_of_getElem? ht)).l;have hq:0<t.l.2:=by have:=T.q1;omega
 have hn:n<w.ts.length:=(List.getElem?_eq_some_iff.mp ht).1;have hl:val t.l=(nu (lz w) n:Rat) / (lB w:Rat):=by
  have:=z_len W hn;rw[show K12.lenAt w n=t.l by unfold K12.lenAt;rw[ht];rfl]at this;exact this
 have lq:0<(er z (lB w)).2:=by have:=(fT (a:=z) hB).q1;omega
 refine jf (fT (Int.mul_pos lq hq)) (fT hB) ?_;rw[FU lq hq,nz hB,nz hB,hl,Rat.intCast_add];have p1:=cB hB
 grind
theorem Ly(n:Nat):0<=nu (lz w) n/\nu (lz w) n<=M3:=by
 have h1:=FJ (JR W) n;have h2:=JS W n;refine⟨h1,?_⟩;unfold M3;have h3:((nu (lz w) n).natAbs:Int)<=((2 ^ 3000:Nat):Int):=Int.ofNat_le.mpr (Nat.le_of_lt h2);rw[Int.natAbs_of_nonneg h1]at h3;exact Int.le_trans h3 (by rw[Int.natCast_pow];exact Int.le_refl _)
theorem zT{z:Int}(h0:0<=z)(h1:z<=900*M3):Bd (er z (lB w)) 3010:=by
 have hB:=qR W;refine K51.low_bd hB.1 ?_ (Nat.lt_of_le_of_lt hB.2.1 (Nat.pow_lt_pow_right (by decide) (by decide)));have h2:(z.natAbs:Int)<((2 ^ 3010:Nat):Int):=by
  rw[Int.natAbs_of_nonneg h0];refine Int.lt_of_le_of_lt h1 ?_;unfold M3;decide
 exact Int.ofNat_lt.mp h2
end
structure Lb (w:fR) (c:Nat) (S:BS):Prop where
 nd:S.ks.Nodup
 pl:∀p∈S.ks,p∈w.ps
 bd:∀p∈S.ks,0<=S.Z p/\S.Z p<=(c:Int)*M3
def Lb.up{w:fR}{c c':Nat}{S:BS}(h:Lb w c S)(hc:c<=c'):Lb w c' S:=⟨h.nd,h.pl,λp hp=>⟨(h.bd p hp).1,Int.le_trans (h.bd p hp).2 (Int.mul_le_mul_of_nonneg_right (by omega) (Int.le_of_lt tJ))⟩⟩
noncomputable def IB:am :=
 (aq (cP (dN (aa (ae 4) (ae 1) bN) (aa (ae 6) (ae 2) sZ))
 (aq (ud 8 (ai (af (aa (ae 2) (ae 6) cE) (af (aa (ae 5) (dC (.int 3)) aJ) (af (dC (.int 1)) aA))) dJ))
 (aq (cP (gY (aa (ae 7) (ae 2) jZ) (ai (af (ae 8) (af (aa (ae 2) (ae 7) cE) aA)) cy))
 (aq (ip 2 (ae 8) (ae 7))
 ak)
 ak)
 ak))
 ak)
 ak)
def nD(w:fR)(tk:bi)(S:BS)(x3 x4 x5 x6 x7 x8:Sl):Ev:=[.sh (bg w),.sh (k8 tk),.ow (iO w S),x3,x4,x5,x6,x7,x8]
section
variable {w:fR}(W:dy w) {tk:bi}
include W
theorem Bw{n:Nat}{t:lR}(ht:w.ts[n]?=some t){a b:Str}(hbp:b∈w.ps){c:Nat}(hc:c<=500){S:BS}(L:Lb w c S){x3 x8:Sl}(h3:Pl x3)(h8:Pl x8) :
  ∃S' y8,Lb w (c+1) S'/\Pl y8/\IB (nD w tk S x3 (.sh (.int (n:Int))) (.sh (aL t)) (.sh (.str a)) (.sh (.str b)) x8)=.ok (.nx (nD w tk S' x3 (.sh (.int (n:Int))) (.sh (aL t)) (.sh (.str a)) (.sh (.str b)) y8)):=by
 have hni:bN (.int (n:Int)) (k8 tk)=.ok (.bl (!(decide (n∈tk)))):=K11.notIn_nums (ks:=tk) (n:=n);have i3:aJ (aL t) (.int 3)=.ok (fr t.l):=rfl;have Mp:=tJ
 by_cases hk:n∈tk
 .rw[decide_eq_true hk]at hni
  refine⟨S,x8,L.up (by omega),h8,?_⟩;unfold nD;open_line with[IB,hni]
 rw[decide_eq_false hk]at hni;have hin:=mh (w:=w) (S:=S) (p:=a)
 by_cases ha:a∈S.ks
 rotate_left
 .rw[decide_eq_false ha]at hin
  refine⟨S,x8,L.up (by omega),h8,?_⟩;unfold nD;open_line with[IB,hni,hin]
 rw[decide_eq_true ha]at hin;have hg:=iN (w:=w) ha;obtain⟨z0,z1⟩:=L.bd a ha;obtain⟨n0,n1⟩:=Ly W n;have c9:(c:Int)*M3<=500*M3:=Int.mul_le_mul_of_nonneg_right (by omega) (Int.le_of_lt Mp);have c1:((c+1:Nat):Int)*M3=(c:Int)*M3+M3:=by rw[Int.natCast_add,Int.add_mul];omega
 have hpl:=AS (zT W z0 (by omega)) (gs (W.ts t (List.mem_of_getElem? ht)).l) (by decide);rw[Mv W ht]at hpl;have hnd:DL.nd (fr (er (S.Z a+nu (lz w) n) (lB w)))=true:=rfl;have hoD:uq (nD w tk S x3 (.sh (.int (n:Int))) (.sh (aL t)) (.sh (.str a)) (.sh (.str b)) x8)=true:=by
  rcases h3 with rfl|⟨_,rfl⟩<;>rcases h8 with rfl|⟨_,rfl⟩<;>rfl
 unfold nD at hoD;have hnb:=iz (w:=w) (S:=S) (p:=b);have hlen:decide (S.ks.length<=900)=true:=decide_eq_true (by have:=Cod.nodup_le L.nd L.pl;have:=W.n7;omega);have hput:=lD (w:=w) (S:=S) (b:=b) (z:=S.Z a+nu (lz w) n);have hp1:∀(f k:al) (ρ:Ev),AL 2 f k ρ (some (.ow (iO w S)))=(f ρ).bind (AK 2 k ρ S.ks (S.ks.map λp=>fr (er (S.Z p) (lB w)))):=λ_ _ _=>lr;have put:Lb w (c+1) ⟨if b∈S.ks then S.ks else S.ks++[b],λp=>if p=b then S.Z a+nu (lz w) n else S.Z p⟩:=by
  refine⟨?_,?_,?_⟩
  .show(if b∈S.ks then S.ks else S.ks++[b]).Nodup
   split
   .exact L.nd
   .rename_i hb;exact Cod.nodup_snoc L.nd hb
  .intro p hp
   replace hp:p∈(if b∈S.ks then S.ks else S.ks++[b]):=hp;split at hp
   .exact L.pl p hp
   .rcases List.mem_append.mp hp with hp|hp
    .exact L.pl p hp
    .rw[List.mem_singleton.mp hp];exact hbp
  .intro p hp
   show 0<=(if p=b then S.Z a+nu (lz w) n else S.Z p)/\(if p=b then S.Z a+nu (lz w) n else S.Z p)<=((c+1:Nat):Int)*M3;rw[c1];split
   .omega
   .rename_i hpb
    replace hp:p∈(if b∈S.ks then S.ks else S.ks++[b]):=hp;have:p∈S.ks:=by
     split at hp
     .exact hp
     .rcases List.mem_append.mp hp with hp|hp
      .exact hp
      .exact absurd (List.mem_singleton.mp hp) hpb
    have:=L.bd p this;omega
 by_cases hb:b∈S.ks
 .rw[decide_eq_true hb]at hnb
  have hgb:=iN (w:=w) hb;obtain⟨b0,b1⟩:=L.bd b hb;have hls:=K51.lless_bd (zT W (z:=S.Z a+nu (lz w) n) (by omega) (by omega)) (zT W b0 (by omega)) (by decide) (by decide);rw[←HV]at hls;cases hlt:flt (er (S.Z a+nu (lz w) n) (lB w)) (er (S.Z b) (lB w)) with
  |true=>
   rw[hlt]at hls;refine⟨_,.sh (fr (er (S.Z a+nu (lz w) n) (lB w))),put,.inr ⟨_,rfl⟩,?_⟩;unfold nD;open_line with[IB,hni,hin,hg,i3,hpl,wI,sQ hnd hoD,hnb,hgb,hls,mf,hp1,jY,iL hlen,hput]
  |false=>
   rw[hlt]at hls;refine⟨S,.sh (fr (er (S.Z a+nu (lz w) n) (lB w))),L.up (by omega),.inr ⟨_,rfl⟩,?_⟩;unfold nD;open_line with[IB,hni,hin,hg,i3,hpl,wI,sQ hnd hoD,hnb,hgb,hls]
 .rw[decide_eq_false hb]at hnb
  refine⟨_,.sh (fr (er (S.Z a+nu (lz w) n) (lB w))),put,.inr ⟨_,rfl⟩,?_⟩;unfold nD;open_line with[IB,hni,hin,hg,i3,hpl,wI,sQ hnd hoD,hnb,mf,hp1,jY,iL hlen,hput]
end
open K51 (Bd pl)
open Bfd (BS iO mh iz iN lD jf Pl)
noncomputable def LI:al:=(eV (ai (af (ai (af (aa (ae 5) (dC (.int 0)) aJ) (af (aa (ae 5) (dC (.int 1)) aJ) aA)) df) (af (ai (af (aa (ae 5) (dC (.int 1)) aJ) (af (aa (ae 5) (dC (.int 0)) aJ) aA)) df) aA)) bM) dH (bZ (aa (dC (.int 1)) (ai (af (aa (aa (ae 5) (dC (.int 2)) aJ) (dC (.str "both")) fF) aA) (m1 mi)) bC)))
def TB:am:=(aq (kg LI (cD [6,7]) IB) ak)
def RB:am:=(aq (gG (ke (aa (ae 0) (dC (.int 1)) aJ)) (cD [4,5]) TB) ak)
def qL:Pl .no:=.inl rfl
def qK{d:D}:Pl (.sh d):=.inr ⟨_,rfl⟩
def JU{zs:List Str}{t:lR}(T:jc zs t){ρ:Ev}(h:(ij ρ)[5]?=some (.sh (aL t)))(h':ρ[5]?=some (.sh (aL t))):∃ps:List (Str×Str),LI ρ=.ok (.lst (ps.map λp=>D.tup [.str p.1,.str p.2]))/\LI (ij ρ)=.ok (.lst (ps.map λp=>D.tup [.str p.1,.str p.2]))/\ps.length<=2/\∀p∈ps,p.2∈zs:=by
 have t0:aJ (aL t) (.int 0)=.ok (.str t.a):=rfl;have t1:aJ (aL t) (.int 1)=.ok (.str t.b):=rfl;have t2:aJ (aL t) (.int 2)=.ok (.str t.w):=rfl;have v5:ae 5 ρ=.ok (aL t):=by unfold ae;rw[h']
 have v5':ae 5 (ij ρ)=.ok (aL t):=by unfold ae;rw[h]
 rcases T.w with e|e
 .have t2:aJ (aL t) (.int 2)=.ok (.str "one"):=by rw[t2,e]
  have c1:fF (.str "one") (.str "both")=.ok (.bl false):=rfl;have c2:mi (.bl false)=.ok (.int 0):=rfl;refine⟨[(t.a,t.b)],?_,?_,by simp,λp hp=>by rw[List.mem_singleton.mp hp];exact T.b⟩
  .open_line with[LI,h',t0,t1,t2,c1,c2]
   rfl
  .open_line with[LI,h,t0,t1,t2,c1,c2]
   rfl
 .have t2:aJ (aL t) (.int 2)=.ok (.str "both"):=by rw[t2,e]
  have c1:fF (.str "both") (.str "both")=.ok (.bl true):=rfl;have c2:mi (.bl true)=.ok (.int 1):=rfl;refine⟨[(t.a,t.b),(t.b,t.a)],?_,?_,by simp,λp hp=>by
   simp only[List.mem_cons,List.not_mem_nil,or_false]at hp;rcases hp with rfl|rfl
   .exact T.b
   .exact T.a⟩
  .open_line with[LI,h',t0,t1,t2,c1,c2]
   rfl
  .open_line with[LI,h,t0,t1,t2,c1,c2]
   rfl
open K51 (Bd pl)
open Bfd (BS iO mh iz iN lD jf Pl)
def JT{b:Int}(hb:0<b):er 0 b=(0,1):=by
 refine oJ (fT hb) ⟨by decide,by decide⟩ ?_;show(er 0 b).1*1=0*(er 0 b).2;unfold er;simp
section
variable {w:fR}(W:dy w) {tk:bi}
include W
theorem Al{n:Nat}{t:lR}(ht:w.ts[n]?=some t){c:Nat}(hc:c<=400){S:BS}(L:Lb w c S){x3 x6 x7 x8:Sl}(h3:Pl x3)(h6:Pl x6)(h7:Pl x7)(h8:Pl x8) :
  ∃S' y6 y7 y8,Lb w (c+2) S'/\Pl y6/\Pl y7/\Pl y8/\TB (nD w tk S x3 (.sh (.int (n:Int))) (.sh (aL t)) x6 x7 x8)=.ok (.nx (nD w tk S' x3 (.sh (.int (n:Int))) (.sh (aL t)) y6 y7 y8)):=by
 obtain⟨ps,l1,l2,hl,hp⟩:=JU (W.ts t (List.mem_of_getElem? ht)) (ρ:=nD w tk S x3 (.sh (.int (n:Int))) (.sh (aL t)) x6 x7 x8) rfl rfl;obtain⟨ρ',hf,S',y6,y7,y8,hρ,L',p6,p7,p8⟩:=eC (tg:=cD [6,7]) (body:=IB) (ds:=ps.map λp=>D.tup [.str p.1,.str p.2]) (λk ρ=>∃S' y6 y7 y8,ρ=nD w tk S' x3 (.sh (.int (n:Int))) (.sh (aL t)) y6 y7 y8/\Lb w (c+k) S'/\Pl y6/\Pl y7/\Pl y8) (λk d hd ρ z9=>by
   obtain⟨S1,y6,y7,y8,hρ,L1,p6,p7,p8⟩:=z9;subst hρ;rw[List.getElem?_map]at hd;cases e:ps[k]? with
   |none=>rw[e]at hd;cases hd
   |some p=>
    rw[e]at hd;cases hd;have hk:k<2:=by have:=(List.getElem?_eq_some_iff.mp e).1;omega
    obtain⟨S2,z8,L2,q8,h2⟩:=Bw W (tk:=tk) ht (a:=p.1) (hp p (List.mem_of_getElem? e)) (by omega) L1 h3 p8;exact⟨_,_,rfl,h2,S2,_,_,z8,rfl,L2,qK,qK,q8⟩) (ρ:=nD w tk S x3 (.sh (.int (n:Int))) (.sh (aL t)) x6 x7 x8) ⟨S,x6,x7,x8,rfl,L,h6,h7,h8⟩
 refine⟨S',y6,y7,y8,L'.up (by rw[List.length_map];omega),p6,p7,p8,?_⟩;have hl':(ps.map λp=>D.tup [.str p.1,.str p.2]).length<=900:=by rw[List.length_map];omega
 open_line with[TB,l1,l2,hf,hρ]
theorem yA{c:Nat}(hc:c<=300){S:BS}(L:Lb w c S){x3 x4 x5 x6 x7 x8:Sl}(h3:Pl x3)(h4:Pl x4)(h5:Pl x5)(h6:Pl x6)(h7:Pl x7)(h8:Pl x8) :
  ∃S' y4 y5 y6 y7 y8,Lb w (c+28) S'/\Pl y4/\Pl y5/\Pl y6/\Pl y7/\Pl y8/\RB (nD w tk S x3 x4 x5 x6 x7 x8)=.ok (.nx (nD w tk S' x3 y4 y5 y6 y7 y8)):=by
 have t14:=W.t14;obtain⟨ρ',hf,S',y4,y5,y6,y7,y8,hρ,L',p4,p5,p6,p7,p8⟩:=eC (tg:=cD [4,5]) (body:=TB) (ds:=bw 0 (w.ts.map aL)) (λk ρ=>∃S' y4 y5 y6 y7 y8,ρ=nD w tk S' x3 y4 y5 y6 y7 y8/\Lb w (c+2*k) S'/\Pl y4/\Pl y5/\Pl y6/\Pl y7/\Pl y8) (λk d hd ρ z9=>by
   obtain⟨S1,y4,y5,y6,y7,y8,hρ,L1,p4,p5,p6,p7,p8⟩:=z9;subst hρ;obtain⟨t,et,rfl⟩:=dR hd;have hk:k<w.ts.length:=(List.getElem?_eq_some_iff.mp et).1;obtain⟨S2,z6,z7,z8,L2,q6,q7,q8,h2⟩:=Al W (tk:=tk) et (by omega) L1 h3 p6 p7 p8;exact⟨_,_,rfl,h2,S2,_,_,z6,z7,z8,rfl,L2,qK,qK,q6,q7,q8⟩) (ρ:=nD w tk S x3 x4 x5 x6 x7 x8) ⟨S,x4,x5,x6,x7,x8,rfl,L,h4,h5,h6,h7,h8⟩
 have hn:(bw 0 (w.ts.map aL)).length=w.ts.length:=by rw[DL.numbered_len,List.length_map]
 refine⟨S',y4,y5,y6,y7,y8,L'.up (by omega),p4,p5,p6,p7,p8,?_⟩;have fw1:aJ (bg w) (.int 1)=.ok (.lst (w.ts.map aL)):=rfl;have v0:(nD w tk S x3 x4 x5 x6 x7 x8)[0]?=some (.sh (bg w)):=rfl;have v0':(ij (nD w tk S x3 x4 x5 x6 x7 x8))[0]?=some (.sh (bg w)):=rfl;open_line with[RB,sO,v0,v0',fw1,hf,hρ]
theorem zc:∃S,Lb w 200 S/\cN [bg w,k8 tk]=.ok (iO w S):=by
 have n7:=W.n7;have hB:=(qR W).1;have L0:Lb w 0 ⟨[w.fi],λ_=>0⟩:=⟨by simp,λp hp=>by rw[List.mem_singleton.mp hp];exact W.fi,λp _=>⟨Int.le_refl _,by simp⟩⟩
 obtain⟨ρ',hf,S',y3,y4,y5,y6,y7,y8,hρ,L',p3,p4,p5,p6,p7,p8⟩:=nH (i:=3) (body:=RB) (n:=w.ps.length) (λk ρ=>∃S' y3 y4 y5 y6 y7 y8,ρ=nD w tk S' y3 y4 y5 y6 y7 y8/\Lb w (28*k) S'/\Pl y3/\Pl y4/\Pl y5/\Pl y6/\Pl y7/\Pl y8) (λk hk ρ z9=>by
   obtain⟨S1,y3,y4,y5,y6,y7,y8,hρ,L1,p3,p4,p5,p6,p7,p8⟩:=z9;subst hρ;obtain⟨S2,z4,z5,z6,z7,z8,L2,q4,q5,q6,q7,q8,h2⟩:=yA W (tk:=tk) (c:=28*k) (by omega) L1 (qK (d:=.int (k:Int))) p4 p5 p6 p7 p8;exact⟨_,h2,S2,_,z4,z5,z6,z7,z8,rfl,L2.up (by omega),qK,q4,q5,q6,q7,q8⟩) (ρ:=nD w tk ⟨[w.fi],λ_=>0⟩ .no .no .no .no .no .no) ⟨_,_,_,_,_,_,_,rfl,L0,qL,qL,qL,qL,qL,qL⟩
 refine⟨S',L'.up (by omega),?_⟩;have hb:fz=aq (gF 2 (ra (aa (ae 0) (dC (.int 2)) aJ) (ai (af (dC (.int 0)) (af (dC (.int 1)) aA)) df))) (aq (kU (ai (af (aa (ae 0) (dC (.int 0)) aJ) aA) (m1 eO)) (dg 3) RB) (aq (bh (ae 2)) ak)):=rfl;have fw0:aJ (bg w) (.int 0)=.ok (.lst (w.ps.map D.str)):=rfl;have fw2:aJ (bg w) (.int 2)=.ok (.str w.fi):=rfl;have d0:D.dic [w.fi] [.tup [.int 0,.int 1]]=iO w ⟨[w.fi],λ_=>0⟩:=by
  unfold iO;show _=D.dic [w.fi] [fr (er 0 (lB w))];rw[JT hB];rfl
 have od:∀ρ:Ev,xC 2 ρ (iO w ⟨[w.fi],λ_=>0⟩)=.ok (.nx (ρ.set 2 (.ow (iO w ⟨[w.fi],λ_=>0⟩)))):=λ_=>rfl;unfold nD at hf;subst hρ;unfold nD at hf;rw[cN,hb];open_line with[fw0,fw2,wJ,Ez,BZ,d0,od,lh,List.length_map,k9 (show w.ps.length<=1000000 by omega),hf]
end
open K51 (Bd pl)
open Bfd (BS iO mh iz iN lD jf Pl)
theorem xI:∀(L:ac),(∀d∈L,∃k:Nat,d=.int (k:Int))->∃tk:bi,.lst L=k8 tk
 |[],_=>⟨[],rfl⟩
 |d::L,h=>by
  obtain⟨k,rfl⟩:=h d (by simp);obtain⟨tk,e⟩:=xI L λd hd=>h d (by simp[hd]);refine⟨k::tk,?_⟩;have:L=tk.map λ(k:Nat)=>D.int (k:Int):=D.lst.inj e;rw[this];rfl
def EY{w:fR}(W:dy w)(v:Int):∃tk,cV [bg w,.int v]=.ok (k8 tk):=by
 have h14:=W.t14;have hn:(bw 0 (w.ts.map aL)).length=w.ts.length:=by rw[DL.numbered_len,List.length_map]
 have hc:=mT (n:=2) (fr:=[1]) (tg:=cD [0,1]) (tt:=dN (aa (aa (ae 1) (dC (.int 4)) aJ) (dC (.non)) gA) (aa (aa (aa (ae 2) (ae 0) Ce) (dC (.int 1)) uZ) (dC (.int 1)) fF)) (fe:=ae 0) (ρ:=[.sh (bg w),.sh (.int v)]) (ds:=bw 0 (w.ts.map aL))
  (F:=λd=>match d with|.tup [x,_]=>x|d=>d) (p:=λd=>match d with|.tup [.int k,.tup [_,_,_,_,.non]]=>false|.tup [.int k,_]=>(Builtin.bitAnd (v / 2 ^ k.toNat) 1==1)|_=>false) (by omega) (λd hd=>by
   obtain⟨k,hk⟩:=List.getElem?_of_mem hd;obtain⟨t,et,rfl⟩:=dR hk;refine⟨[.sh (.int (k:Int)),.sh (aL t),.sh (.int v)],rfl,?_,λ_=>rfl⟩;have hs:Ce (.int v) (.int (k:Int))=.ok (.int (v / 2 ^ k)):=by
    show(if decide (0<=(k:Int))=true then ax.ok (D.int (v / 2 ^ (k:Int).toNat)) else .stuck)=_;rw[if_pos (decide_eq_true (by omega)),Int.toNat_natCast]
   have hb:uZ (.int (v / 2 ^ k)) (.int 1)=.ok (.int (Builtin.bitAnd (v / 2 ^ k) 1)):=rfl;have t4:aJ (aL t) (.int 4)=.ok (aI t.o):=rfl;cases ho:t.o with
   |none=>
    rw[ho]at t4;have t4:aJ (aL t) (.int 4)=.ok .non:=t4;rw[show aL t=.tup [.str t.a,.str t.b,.str t.w,fr t.l,.non] by unfold aL;rw[ho];rfl]at t4 ⊢;open_line with[t4]
   |some x=>
    rw[ho]at t4;have t4:aJ (aL t) (.int 4)=.ok (.tup [.int x.1,.int x.2]):=t4;rw[show aL t=.tup [.str t.a,.str t.b,.str t.w,fr t.l,.tup [.int x.1,.int x.2]] by unfold aL;rw[ho];rfl]at t4 ⊢;open_line with[t4,hs,hb]
    simp)
 obtain⟨tk,e⟩:=xI _ (λd hd=>by
  obtain⟨d0,h0,rfl⟩:=List.mem_map.mp hd;obtain⟨k,hk⟩:=List.getElem?_of_mem (List.mem_filter.mp h0).1;obtain⟨t,et,rfl⟩:=dR hk;exact⟨k,rfl⟩:∀d∈((bw 0 (w.ts.map aL)).filter λd=>match d with|.tup [.int k,.tup [_,_,_,_,.non]]=>false|.tup [.int k,_]=>(Builtin.bitAnd (v / 2 ^ k.toNat) 1==1)|_=>false).map λd=>match d with|.tup [x,_]=>x|d=>d,∃k:Nat,d=.int (k:Int))
 refine⟨tk,?_⟩;rw[e]at hc;have fw1:aJ (bg w) (.int 1)=.ok (.lst (w.ts.map aL)):=rfl;open_line with[cV,gQ,fw1,fU,hc]
def pg(w:fR)(S:BS)(part:Int)(p:Str):Option dP:=if p∈S.ks then some (er ((er (S.Z p) (lB w)).1*part) ((er (S.Z p) (lB w)).2*4)) else none
def C6{g:Str->D}{ks:List Str}{k:Str}{d:D}(h:k∉ks):kX ks (ks.map g) k d=.dic (ks++[k]) ((ks++[k]).map λx=>if x=k then d else g x):=by
 unfold kX;rw[if_neg h,List.map_append]
 congr 1
 congr 1
 .refine List.map_congr_left λx hx=>?_
  have:¬x=k:=λe=>h (e▸hx);rw[if_neg this]
 .simp
def C5{g:Str->D}{ks:List Str}{k:Str}{d:D}(h:k∈ks):kX ks (ks.map g) k d=.dic ks (ks.map λx=>if x=k then d else g x):=by
 unfold kX;rw[if_pos h,Bfd.rep_map]
noncomputable def PB:am :=
 (aq (ip 4 (dC (.non)) (ae 5))
 (aq (cP (aa (ae 5) (ae 3) sZ)
 (aq (ip 4 (ai (af (aa (aa (aa (ae 3) (ae 5) cE) (dC (.int 0)) aJ) (ae 2) bI) (af (aa (aa (aa (ae 3) (ae 5) cE) (dC (.int 1)) aJ) (dC (.int 4)) bI) aA)) bA) (ae 5))
 ak)
 ak)
 ak))
def prices_S{w:fR}(W:dy w){tk:bi}{part:Int}(h0:0<=part)(h5:part<5):∃S,Lb w 200 S/\cx [bg w,k8 tk,.int part]=.ok (.dic w.ps.reverse (w.ps.reverse.map λp=>aI (pg w S part p))):=by
 obtain⟨S,L,hl⟩:=zc W (tk:=tk);have n7:=W.n7;have nd:w.ps.reverse.Nodup:=(List.reverse_perm _).nodup_iff.mpr W.nm.1;refine⟨S,L,?_⟩;obtain⟨ρ',hf,b5,hP⟩:=eC (tg:=dg 5) (body:=PB) (ds:=w.ps.reverse.map D.str) (λk ρ=>∃b5,ρ=[.sh (bg w),.sh (k8 tk),.sh (.int part),.sh (iO w S),.ow (.dic (w.ps.reverse.take k) ((w.ps.reverse.take k).map λp=>aI (pg w S part p))),b5]) (λk d hd ρ z9=>by
   obtain⟨b5,hρ⟩:=z9;subst hρ;rw[List.getElem?_map]at hd;cases e:w.ps.reverse[k]? with
   |none=>rw[e]at hd;cases hd
   |some z=>
    rw[e]at hd;cases hd;have nb:=K64.not_before nd e;have e1:w.ps.reverse.take (k+1)=w.ps.reverse.take k++[z]:=by rw[List.take_succ,e];rfl
    have hl1:decide ((w.ps.reverse.take k).length<=900)=true:=decide_eq_true (by rw[List.length_take,List.length_reverse];omega);have hl2:decide ((w.ps.reverse.take k++[z]).length<=900)=true:=decide_eq_true (by rw[List.length_append,List.length_take,List.length_reverse];simp;omega);have p1:=C6 (g:=λp=>aI (pg w S part p)) (d:=.non) nb;have hin:=mh (w:=w) (S:=S) (p:=z);refine⟨_,[.sh (bg w),.sh (k8 tk),.sh (.int part),.sh (iO w S),.ow (.dic (w.ps.reverse.take (k+1)) ((w.ps.reverse.take (k+1)).map λp=>aI (pg w S part p))),.sh (.str z)],rfl,?_,_,rfl⟩;rw[e1]
    by_cases hz:z∈S.ks
    .rw[decide_eq_true hz]at hin
     have hg:=iN (w:=w) hz;obtain⟨z0,z1⟩:=L.bd z hz;have Mp:=tJ;have bx:=zT W z0 (by have:((200:Nat):Int)=200:=rfl;rw[this]at z1;omega);have b1:=bx.c60 (by decide);have bp:part.natAbs<2 ^ 3:=by omega
     have by_:Bd ((er (S.Z z) (lB w)).1*part,(er (S.Z z) (lB w)).2*4) 3013:=⟨Int.mul_pos bx.q0 (by decide),K51.mul_p2 bx.a bp,K51.mul_p2 bx.b (show(4:Int).natAbs<2 ^ 3 by decide)⟩
     have c1:=by_.c13 (by decide);have m1:=cT (fK b1.1 (Bs (i:=part) (by omega)));have m2:=cT (fK b1.2 (Bs (i:=4) (by decide)));have hlo:bA [.int ((er (S.Z z) (lB w)).1*part),.int ((er (S.Z z) (lB w)).2*4)]=.ok (fr (er ((er (S.Z z) (lB w)).1*part) ((er (S.Z z) (lB w)).2*4))):=Cod.oK by_.q0 c1.1 c1.2;have p2:=C5 (g:=λx=>if x=z then .non else aI (pg w S part x)) (d:=fr (er ((er (S.Z z) (lB w)).1*part) ((er (S.Z z) (lB w)).2*4))) (show z∈w.ps.reverse.take k++[z] by simp);have ef:(w.ps.reverse.take k++[z]).map (λx=>if x=z then fr (er ((er (S.Z z) (lB w)).1*part) ((er (S.Z z) (lB w)).2*4)) else(if x=z then .non else aI (pg w S part x)))=(w.ps.reverse.take k++[z]).map λp=>aI (pg w S part p):=List.map_congr_left λx _=>by
      by_cases c:x=z
      .subst c
       rw[if_pos rfl,pg,if_pos hz];rfl
      .rw[if_neg c,if_neg c]
     rw[ef]at p2;open_line with[PB,mf,lr,jY,iL hl1,iL hl2,p1,hin,hg,i0,i1,m1,m2,hlo,p2]
    .rw[decide_eq_false hz]at hin
     have ef:(w.ps.reverse.take k++[z]).map (λx=>if x=z then D.non else aI (pg w S part x))=(w.ps.reverse.take k++[z]).map λp=>aI (pg w S part p):=List.map_congr_left λx _=>by
      by_cases c:x=z
      .subst c
       rw[if_pos rfl,pg,if_neg hz];rfl
      .rw[if_neg c]
     rw[ef]at p1;open_line with[PB,mf,lr,jY,iL hl1,p1,hin]) (ρ:=[.sh (bg w),.sh (k8 tk),.sh (.int part),.sh (iO w S),.ow (.dic [] []),.no]) ⟨_,rfl⟩
 subst hP;rw[List.length_map,List.take_length]at hf;have hb:ft=aq (aV 3 (ai (af (ae 0) (af (ae 1) aA)) cN)) (aq (gF 4 (dC (.dic [] []))) (aq (kg (aS (aa (ae 0) (dC (.int 0)) aJ) nk) (dg 5) PB) (aq (bh (ae 4)) ak))):=rfl;have fw0:aJ (bg w) (.int 0)=.ok (.lst (w.ps.map D.str)):=rfl;have hr:nk (.lst (w.ps.map D.str))=.ok (.lst (w.ps.reverse.map D.str)):=by
  rw[List.map_reverse];rfl
 rw[cx,hb];open_line with[hl,wJ,yd,fw0,hr,hf]
def pg_bd{w:fR}(W:dy w){S:BS}(L:Lb w 200 S){part:Int}(h0:0<=part)(h5:part<5){p:Str}{x:dP}(e:pg w S part p=some x):Bd x 3013:=by
 unfold pg at e
 by_cases hz:p∈S.ks
 .rw[if_pos hz]at e
  cases e;obtain⟨z0,z1⟩:=L.bd p hz;have Mp:=tJ;have bx:=zT W z0 (by have:((200:Nat):Int)=200:=rfl;rw[this]at z1;omega);have bp:part.natAbs<2 ^ 3:=by omega
  exact K51.low_bd (Int.mul_pos bx.q0 (by decide)) (K51.mul_p2 bx.a bp) (K51.mul_p2 bx.b (show(4:Int).natAbs<2 ^ 3 by decide))
 .rw[if_neg hz]at e;cases e
open K64 (eJ eU ev_pl ev_pl1 oh not_before)
def sqF_eq{s t:am}{ρ ρ':Ev}(h:s ρ=.ok (.nx ρ')):ik s t ρ=t ρ':=by unfold ik;rw[h];rfl
open K64 (eJ eU lj fX eW)
open Bfd (Pl)
def ne_strL{zs:List Str}:ic (.lst (zs.map D.str)) (.lst (zs.map D.str))=.ok (.bl false):=by
 have hs:bb 40 (.lst (zs.map D.str))=true:=l4;unfold ic;rw[if_pos ⟨hs,hs⟩,gu 40 _ hs];rfl
theorem iw:∀(ds:ac),ds.all (bb 39)=true->eqDs ds ds=true
 |[],_=>by rw[eqDs]
 |d::ds,h=>by
  rw[List.all_cons,Bool.and_eq_true]at h;rw[eqDs,gu 39 d h.1,iw ds h.2];rfl
def Gg{o:Option dP}:bb 39 (aI o)=true:=by cases o<;>rfl
def uz{ks:List Str}{g:Str->Option dP}(nd:ks.Nodup):zy (.dic ks (ks.map λp=>aI (g p))) (.dic ks (ks.map λp=>aI (g p)))=.ok (.bl false):=by
 have hs:(ks.map λp=>aI (g p)).all (bb 39)=true:=List.all_eq_true.mpr λd hd=>by
  obtain⟨p,_,rfl⟩:=List.mem_map.mp hd;exact Gg
 unfold zy;exact(if_pos ⟨rfl,nd,hs,hs⟩).trans (by rw[iw _ hs];rfl)
theorem qE:∀(zs:List Str),kQ (zs.map D.str)=some zs
 |[]=>rfl
 |z::zs=>by rw[List.map_cons,kQ,qE zs];rfl
def qG{zs:List Str}(h:zs.length<=7):jJ (.lst (zs.map D.str))=.ok (.lst ((i5 zs).map D.str)):=by
 unfold jJ;simp only[qE];rw[if_pos (by omega)]
end K59
namespace Cod
open PySem L2 DL Com
structure Sm (x:dP):Prop where
 p:x.1.natAbs<1000000000000000000
 q:x.2.natAbs<1000
structure lQ (t:lR):Prop where
 l:Sm t.l
 o:∀v,t.o=some v->Sm v
def Gd:Sm (1,1):=⟨by decide,by decide⟩
def sm_low{p q:Int}(hp:0<=p/\p<1000000000000000000)(hq:1<=q/\q<1000):Sm (er p q):=by
 have h1:0<=p / (Int.gcd p q:Int):=Int.ediv_nonneg hp.1 (by omega);have h2:p / (Int.gcd p q:Int)<=p:=Int.ediv_le_self _ hp.1;have h3:0<=q / (Int.gcd p q:Int):=Int.ediv_nonneg (by omega) (by omega);have h4:q / (Int.gcd p q:Int)<=q:=Int.ediv_le_self _ (by omega);refine⟨?_,?_⟩
 .show(p / (Int.gcd p q:Int)).natAbs<_
  omega
 .show(q / (Int.gcd p q:Int)).natAbs<_
  omega
def mP{w a b:Int}(hw:0<=w/\w<5)(ha:0<=a/\a<1000000000000000000)(hb:0<=b/\b<30):∃x:dP,bD [.lst [.int w,.int a,.int b]]=.ok (fr x)/\je x/\0<=x.1/\Sm x:=by
 have hN:(1000000000000000000000:Int)<(rB:Int):=by decide
 have f7:=dM (a:=a) (b:=7) (by decide);have f60:=dM (a:=a) (b:=60) (by decide);have f1000:=dM (a:=a) (b:=1000) (by decide);have f4:=dM (a:=b) (b:=4) (by decide);obtain⟨p,q,hp,hq,i1,i2⟩:∃p q:Int,(0<=p/\p<1000000000000000000)/\(1<=q/\q<1000)/\aJ (.lst [.int 0,.int (a.fmod 7),.int (a.fmod 60),.int a,.int (a.fmod 1000)]) (.int w)=.ok (.int p)/\aJ (.lst [.int 1,.int 1,.int (1+b),.int 1,.int (1+b.fmod 4)]) (.int w)=.ok (.int q):=by
  have:w=0∨w=1∨w=2∨w=3∨w=4:=by omega
  rcases this with rfl|rfl|rfl|rfl|rfl
  .exact⟨0,1,by decide,by decide,rfl,rfl⟩
  .exact⟨a.fmod 7,1,by omega,by decide,rfl,rfl⟩
  .exact⟨a.fmod 60,1+b,by omega,by omega,rfl,rfl⟩
  .exact⟨a,1,by omega,by decide,rfl,rfl⟩
  .exact⟨a.fmod 1000,1+b.fmod 4,by omega,by omega,rfl,rfl⟩
 have hlo:=oK (a:=p) (b:=q) (by omega) (DJ (by omega) (by omega)) (DJ (by omega) (by omega));refine⟨er p q,?_,Bt (by omega) (by omega) (by omega),iJ (by omega) (by omega),sm_low (by omega) (by omega)⟩;open_line with[bD,fO,i1,i2,hlo]
set_option maxHeartbeats 1000000 in
def FX{zs:List Str}{c:Int}{k:Nat}(h2:2<=zs.length)(h8:zs.length<=8)(nd:zs.Nodup):∃t,bP [.int c,.int (k:Int),.lst (zs.map D.str)]=.ok (aL t)/\jc zs t/\lQ t:=by
 obtain⟨vs,hd,W⟩:=lC c [420,60,2,5,1000000000000000000,30,6,5,1000000000000000000,30,3] (by decide) (by decide);have hd':bQ [.int c,.lst [.int 420,.int 60,.int 2,.int 5,.int 1000000000000000000,.int 30,.int 6,.int 5,.int 1000000000000000000,.int 30,.int 3]]=.ok (.lst (vs.map D.int)):=hd;obtain⟨d0,g0,b0,i0⟩:=W.ix 0 0 rfl rfl;obtain⟨d1,g1,b1,i1⟩:=W.ix 1 1 rfl rfl;obtain⟨d2,g2,b2,i2⟩:=W.ix 2 2 rfl rfl;obtain⟨d3,g3,b3,_⟩:=W.at 3 rfl;obtain⟨d4,g4,b4,_⟩:=W.at 4 rfl;obtain⟨d5,g5,b5,_⟩:=W.at 5 rfl;obtain⟨d6,g6,b6,i6⟩:=W.ix 6 6 rfl rfl;obtain⟨d7,g7,b7,_⟩:=W.at 7 rfl;obtain⟨d8,g8,b8,_⟩:=W.at 8 rfl;obtain⟨d9,g9,b9,_⟩:=W.at 9 rfl;obtain⟨d10,g10,b10,i10⟩:=W.ix 10 10 rfl rfl;have c3:=Ku (x:=3) (y:=6) (i:=3) rfl rfl g3 g4 g5;have c7:=Ku (x:=7) (y:=10) (i:=7) rfl rfl g7 g8 g9;obtain⟨x,hx,fx,lx,sx⟩:=mP (w:=d3) (a:=d4) (b:=d5) b3 b4 b5;obtain⟨y,hy,fy,ly,sy⟩:=mP (w:=d7) (a:=d8) (b:=d9) b7 b8 b9;obtain⟨wd,hw,jw⟩:=CC b2.1 b2.2;have hn0:((zs.length:Int)==0)=false:=beq_eq_false_iff_ne.mpr (by omega);have hn1:((zs.length:Int)-1==0)=false:=beq_eq_false_iff_ne.mpr (by omega);obtain⟨p,q,hp,hq,hpq,hplace⟩:∃p q:Int,(0<=p/\p<(zs.length:Int))/\(0<=q/\q<(zs.length:Int))/\p≠q/\(((d10==0)=true/\p=(k:Int).fmod ((zs.length:Int)-1)/\q=p+1)∨((d10==0)=false/\p=d0.fmod (zs.length:Int)/\q=(d0.fmod (zs.length:Int)+1+d1.fmod ((zs.length:Int)-1)).fmod (zs.length:Int))):=by
  cases h10:(d10==0) with
  |true=>
   have f:=dM (a:=(k:Int)) (b:=(zs.length:Int)-1) (by omega);exact⟨(k:Int).fmod ((zs.length:Int)-1),(k:Int).fmod ((zs.length:Int)-1)+1,by omega,by omega,by omega,.inl ⟨rfl,rfl,rfl⟩⟩
  |false=>
   have f:=dM (a:=d0) (b:=(zs.length:Int)) (by omega);have f':=dM (a:=d1) (b:=(zs.length:Int)-1) (by omega);obtain⟨hr,hne⟩:=rq (n:=(zs.length:Int)) (d:=d0.fmod (zs.length:Int)) (e:=d1.fmod ((zs.length:Int)-1)) (by omega) f.1 f.2 f'.1 f'.2;exact⟨_,_,f,hr,Ne.symm hne,.inr ⟨rfl,rfl,rfl⟩⟩
 obtain⟨z1,k1,j1⟩:=Ap (zs:=zs) hp.1 hp.2;obtain⟨z2,k2,j2⟩:=Ap (zs:=zs) hq.1 hq.2;have hz12:z1≠z2:=uy nd k1 k2 (by omega);have f1:aJ (fr y) (.int 0)=.ok (.int y.1):=rfl;obtain⟨o,ho,hworth⟩:∃o:Option dP,(∀v,o=some v->(je v/\0<v.1)/\Sm v)/\((¬d6 > 0/\o=none)∨(d6 > 0/\(y.1==0)=true/\o=some (1,1))∨(d6 > 0/\(y.1==0)=false/\o=some y)):=by
  by_cases h6:d6 > 0
  .cases hy0:(y.1==0) with
   |true=>exact⟨some (1,1),λv hv=>by cases hv;exact⟨yt,Gd⟩,.inr (.inl ⟨h6,rfl,rfl⟩)⟩
   |false=>exact⟨some y,λv hv=>by cases hv;exact⟨⟨fy,by have:y.1≠0:=beq_eq_false_iff_ne.mp hy0;omega⟩,sy⟩,.inr (.inr ⟨h6,rfl,rfl⟩)⟩
  .exact⟨none,λv hv=>(nomatch hv),.inl ⟨h6,rfl⟩⟩
 refine⟨⟨z1,z2,wd,x,o⟩,?_,⟨List.mem_of_getElem? k1,List.mem_of_getElem? k2,hz12,hw,fx,lx,λv hv=>(ho v hv).1⟩,sx,λv hv=>(ho v hv).2⟩;rw[show aL ⟨z1,z2,wd,x,o⟩=.tup [.str z1,.str z2,.str wd,fr x,aI o] from rfl];rcases hplace with⟨h10,e1,e2⟩|⟨h10,e1,e2⟩<;>rcases hworth with⟨h6,e3⟩|⟨h6,hy0,e3⟩|⟨h6,hy0,e3⟩<;>subst e3
 .rw[e2,e1]at j2;rw[e1]at j1
  open_line with[bP,eF,iK,hd',i0,i1,i2,i6,i10,List.length_map,hn0,hn1,lE,h10,decide_eq_false h6,j1,j2,jw,c3,hx]
  rfl
 .rw[e2,e1]at j2;rw[e1]at j1
  open_line with[bP,eF,iK,hd',i0,i1,i2,i6,i10,List.length_map,hn0,hn1,lE,h10,decide_eq_true h6,c7,hy,f1,hy0,j1,j2,jw,c3,hx]
  rfl
 .rw[e2,e1]at j2;rw[e1]at j1
  open_line with[bP,eF,iK,hd',i0,i1,i2,i6,i10,List.length_map,hn0,hn1,lE,h10,decide_eq_true h6,c7,hy,f1,hy0,j1,j2,jw,c3,hx]
  rfl
 .rw[e2]at j2;rw[e1]at j1
  open_line with[bP,eF,iK,hd',i0,i1,i2,i6,i10,List.length_map,hn0,hn1,lE,h10,decide_eq_false h6,j1,j2,jw,c3,hx]
  rfl
 .rw[e2]at j2;rw[e1]at j1
  open_line with[bP,eF,iK,hd',i0,i1,i2,i6,i10,List.length_map,hn0,hn1,lE,h10,decide_eq_true h6,c7,hy,f1,hy0,j1,j2,jw,c3,hx]
  rfl
 .rw[e2]at j2;rw[e1]at j1
  open_line with[bP,eF,iK,hd',i0,i1,i2,i6,i10,List.length_map,hn0,hn1,lE,h10,decide_eq_true h6,c7,hy,f1,hy0,j1,j2,jw,c3,hx]
  rfl
def CL{ws:List Str}{cs:List Int}(h2:2<=ws.length)(h8:ws.length<=8)(nd:ws.Nodup)(h14:cs.length<=14){x0 x1 x2 x3 x4 x5 x7:Sl}:∃ts:List lR,ja 2 [6] (cD [0,1]) mYes (ai (af (ae 1) (af (ae 0) (af (ae 2) aA))) bP) [x0,x1,x2,x3,x4,x5,.sh (.lst (ws.map D.str)),x7] (bw 0 (cs.map D.int))=.ok (.lst (ts.map aL))/\ts.length=cs.length/\∀t∈ts,jc ws t/\lQ t:=by
 have key:∀(c:Int) (k:Nat),∃t,bP [.int c,.int (k:Int),.lst (ws.map D.str)]=.ok (aL t)/\jc ws t/\lQ t:=λc k=>FX h2 h8 nd;obtain⟨g,hg⟩:∃g:Int->Nat->lR,∀(c:Int) (k:Nat),bP [.int c,.int (k:Int),.lst (ws.map D.str)]=.ok (aL (g c k))/\(jc ws (g c k)/\lQ (g c k)):=⟨λc k=>Classical.choose (key c k),λc k=>Classical.choose_spec (key c k)⟩
 refine⟨(List.range cs.length).map λ(k:Nat)=>g (cs[k]?.getD 0) k,?_,by simp,λt ht=>?_⟩
 .rw[iB (F:=λd=>match d with|.tup [.int k,.int c]=>aL (g c k.toNat)|d=>d) (by rw[numbered_len,List.length_map];omega)]
  .congr 2
   apply List.ext_getElem?;intro i;rw[List.getElem?_map,c6,List.getElem?_map,List.getElem?_map,List.getElem?_map]
   by_cases h:i<cs.length
   .rw[List.getElem?_eq_getElem h,List.getElem?_range h]
    show some (aL (g cs[i] (((0+i:Nat):Int)).toNat))=some (aL (g (cs[i]?.getD 0) i));rw[List.getElem?_eq_getElem h,Option.getD_some,Int.toNat_natCast,Nat.zero_add]
   .rw[List.getElem?_eq_none (by omega),List.getElem?_eq_none (by simp;omega)];rfl
  .intro d hd
   obtain⟨i,hi⟩:=List.mem_iff_getElem?.mp hd;rw[c6,List.getElem?_map]at hi;cases e:cs[i]? with
   |none=>rw[e]at hi;cases hi
   |some c=>
    rw[e]at hi;have hi':D.tup [.int ((0+i:Nat):Int),.int c]=d:=Option.some.inj hi;rw[Nat.zero_add]at hi';subst hi';refine⟨[.sh (.int (i:Int)),.sh (.int c),.sh (.lst (ws.map D.str))],rfl,rfl,?_⟩;have h:=(hg c i).1;open_line with[h,Int.toNat_natCast]
 .obtain⟨k,_,rfl⟩:=List.mem_map.mp ht
  exact(hg _ _).2
set_option maxHeartbeats 1000000 in
def web_sm{ns:List Int}(hn:ns.length<=63):∃w,∃c1 c2:List Int,cv [.lst (ns.map D.int)]=.ok (.tup [.lst (c1.map D.int),.lst (c2.map D.int)])/\c2.length<=63/\w.ts.length=c1.length/\cC [.lst (ns.map D.int)]=.ok (bg w)/\dy w/\∀t∈w.ts,lQ t:=by
 obtain⟨vs,hd,W⟩:=lC (J2 ns) Jd (by decide) (by decide);have hvl:vs.length=73:=W.len;obtain⟨d0,g0,b0,i0⟩:=W.ix 0 0 rfl rfl;obtain⟨d1,g1,b1,i1⟩:=W.ix 1 1 rfl rfl;obtain⟨d2,g2,b2,i2⟩:=W.ix 2 2 rfl rfl;have W3:Drawn IE (vs.drop 3):=⟨by rw[List.length_drop,hvl];rfl,λi v s e1 e2=>by
  rw[List.getElem?_drop]at e1;refine W.bnd (3+i) v s e1 ?_;have:Jd[3+i]?=IE[i]?:=by
   unfold Jd;rw[List.getElem?_append_right (by simp)];simp
  rw[this];exact e2⟩
 obtain⟨m,rfl⟩:=Int.eq_ofNat_of_zero_le b0.1;obtain⟨css,hnm,hcl,hnd,hall⟩:=Bo W3 (n:=2+m) (by omega);have hnm':de [.lst ((vs.drop 3).map D.int),.int (2+(m:Int))]=.ok (.lst ((css.map S).map D.str)):=by
  have:gk css=(css.map S).map D.str:=by unfold gk;rw[List.map_map];rfl
  rw[←this];exact hnm
 have hzl:(css.map S).length=2+m:=by rw[List.length_map,hcl]
 have nd:(css.map S).Nodup:=by
  rw[List.nodup_iff_pairwise_ne,List.pairwise_map];exact List.Pairwise.imp (λh z=>h (FH z)) (List.nodup_iff_pairwise_ne.mp hnd)
 have nm:lU (css.map S):=⟨nd,λz hz=>by
  obtain⟨cs,hc,rfl⟩:=List.mem_map.mp hz;exact(hall cs hc).nameB⟩
 generalize css.map S=zs at *;have hcut:jL (vs.map D.int) (some 3) none=(vs.drop 3).map D.int:=by
  rw[j0,HT.sIx_none,show(3:Int)=((3:Nat):Int) from rfl,HT.sIx_nat,hvl];rw[List.take_of_length_le (by rw[List.length_drop];omega)];rfl
 have hn0:((zs.length:Int)==0)=false:=beq_eq_false_iff_ne.mpr (by omega);have hn1:((zs.length:Int)-1==0)=false:=beq_eq_false_iff_ne.mpr (by omega);have f1:=dM (a:=d1) (b:=(zs.length:Int)) (by omega);have f2:=dM (a:=d2) (b:=(zs.length:Int)-1) (by omega);obtain⟨hr,hne⟩:=rq (n:=(zs.length:Int)) (d:=d1.fmod (zs.length:Int)) (e:=d2.fmod ((zs.length:Int)-1)) (by omega) f1.1 f1.2 f2.1 f2.2;obtain⟨f,hf⟩:=Int.eq_ofNat_of_zero_le f1.1;obtain⟨l,hl⟩:=Int.eq_ofNat_of_zero_le hr.1;have hfn:f<zs.length:=by omega
 have hln:l<zs.length:=by omega
 have hfl:f≠l:=by omega
 have hixf:aJ (.lst (zs.map D.str)) (.int (f:Int))=.ok (.str zs[f]):=eZ (by rw[List.getElem?_map,List.getElem?_eq_getElem hfn];rfl);have hixl:aJ (.lst (zs.map D.str)) (.int (l:Int))=.ok (.str zs[l]):=eZ (by rw[List.getElem?_map,List.getElem?_eq_getElem hln];rfl);obtain⟨c1,c2,hcells,hc1,hc2⟩:=vc hn;obtain⟨w2,w8⟩:=Aa nd hfn hln hfl;have hwl:(tH zs f l).length+2=(m6 zs f l).length:=by unfold m6;simp
 have a1:bC (.lst [.str zs[f]]) (.lst ((tH zs f l).map D.str))=.ok (.lst (.str zs[f]::(tH zs f l).map D.str)):=by
  rw[lp (decide_eq_true (by rw[List.length_map];simp;omega))];rfl
 have a2:bC (.lst (.str zs[f]::(tH zs f l).map D.str)) (.lst [.str zs[l]])=.ok (.lst ((m6 zs f l).map D.str)):=by
  rw[lp (decide_eq_true (by simp;omega))];unfold m6;rw[List.map_cons,List.map_append,List.getElem?_eq_getElem hfn,List.getElem?_eq_getElem hln];rfl
 have hh:=xT (ns:=ns) (by omega) (ρ:=[.sh (.lst (ns.map D.int)),.no,.no,.no,.no,.no,.no,.no]) rfl;obtain⟨ts,hts,htl,htall⟩:=CL (ws:=m6 zs f l) (cs:=c1) w2 (by omega) (xc nd hfn hln hfl) hc1 (x0:=.sh (.lst (ns.map D.int))) (x1:=.sh (.lst (vs.map D.int))) (x2:=.sh (.lst (zs.map D.str))) (x3:=.sh (.int (f:Int))) (x4:=.sh (.int (l:Int))) (x5:=.sh (.lst ((tH zs f l).map D.str))) (x7:=.no);refine⟨⟨zs,ts,zs[f],zs[l]⟩,c1,c2,hcells,hc2,htl,?_,⟨by show 2<=zs.length;omega,by show zs.length<=7;omega,nm,by show ts.length<=14;omega,λt ht=>?_,List.getElem_mem hfn,List.getElem_mem hln,λz=>hfl ((List.getElem_inj nd).mp z)⟩,λt ht=>(htall t ht).2⟩
 .rw[cC,pR,wC]
  show((aq _ _) [.sh (.lst (ns.map D.int)),.no,.no,.no,.no,.no,.no,.no]).bind yI=_;rw[o8,wB,BW,ll,hh,uM,pd,ll,F9];open_line with[hd,hcut,i0,hnm',i1,i2,List.length_map,hn0,hn1,lE,hf]
  rw[hf]at hl;open_line with[hl,fU,sL,o6,zG (show zs.length<=8 by omega),hixf,hixl,a1,a2,hcells,hts]
  rfl
 .have T:=(htall t ht).1
  exact⟨nV hfn hln _ T.a,nV hfn hln _ T.b,T.ne,T.w,T.l,T.l0,T.o⟩
end Cod
namespace K61
open PySem L2 DL Com Pth
open K51 (Bd)
open K54 (xf rH)
open K64 (eJ eU lj fX eW)
open Cod (Sm lQ)
def sA(x y:dP):K51.mt x y=K51.mt y x:=by unfold K51.mt;rw[Int.mul_comm x.1,Int.mul_comm x.2]
def EA:m_times=K51.m_times:=rfl
def nX{x y:dP}{m n:Nat}(hx:Bd x m)(hy:Bd y n)(h:m+n<=6000):m_times [fr x,fr y]=.ok (fr (K51.mt x y)):=by rw[EA];exact K51.times_fr hx hy h
def md{x y:dP}{m n:Nat}(hx:Bd x m)(hy:Bd y n)(h:m+n<=6000):cu [fr x,fr y]=.ok (fr (K51.mt x y)):=by
 have b1:=hx.c60 (by omega);have b2:=hy.c60 (by omega);have hp:Bd (x.1*y.1,x.2*y.2) (m+n):=⟨Int.mul_pos hx.q0 hy.q0,K51.mul_p2 hx.a hy.a,K51.mul_p2 hx.b hy.b⟩
 have hc:=hp.c13 h;have m1:=cT (fK b1.1 b2.1);have m2:=cT (fK b1.2 b2.2);have hlo:bA [.int (x.1*y.1),.int (x.2*y.2)]=.ok (fr (K51.mt x y)):=Cod.oK hp.q0 hc.1 hc.2;open_line with[cu,lJ,K51.i0,K51.i1,m1,m2,hlo]
structure vE (x:dP):Prop where
 f:je x
 p:0<x.1
def vE.flip{x:dP}(h:vE x):vE (x.2,x.1):=⟨⟨⟨by have:=h.p;show 1<=x.1;omega,by show Int.gcd x.2 x.1=1;rw[Int.gcd_comm];exact h.f.g1⟩,h.f.qN,h.f.pN⟩,by have:=h.f.q1;show 0<x.2;omega⟩
def vE.q{x:dP}(h:vE x):0<x.2:=by have:=h.f.q1;omega
def n9{x:dP}(h:vE x):bV [fr x]=.ok .non:=by
 have r:=kC h.f.toLow;have hp:=h.p;have c:IF (.int x.1) (.int 0)=.ok (.bl false):=by
  show ax.ok (D.bl (decide (x.1<=0)))=_;rw[decide_eq_false (by omega)]
 open_line with[bV,jb,r,K51.i0,c]
def l5(s c:dP)(t:lR):lR:=⟨t.a,t.b,t.w,K51.mt s t.l,t.o.map (K51.mt c)⟩
def yG(w:fR)(s c:dP):fR:=⟨w.ps,w.ts.map (l5 s c),w.fi,w.la⟩
def xM{s x:dP}(hs:vE s)(hx:Low x):K51.mt (s.2,s.1) (K51.mt s x)=x:=by
 have hq:=hs.q;have hx2:0<x.2:=by have:=hx.q1;omega
 have h1:0<(K51.mt s x).2:=by have:=(fT (a:=s.1*x.1) (Int.mul_pos hq hx2)).q1;show 0<(er (s.1*x.1) (s.2*x.2)).2;omega
 refine xf (fT (Int.mul_pos hs.p h1)) hx ?_;rw[rH (x:=(s.2,s.1)) hs.p h1,rH hq hx2];have p1:=cB hq;have p2:=cB hs.p;unfold val;show((s.2:Int):Rat) / ((s.1:Int):Rat)*_=_
 grind
theorem CW{w:fR}(W:dy w){s c:dP}(hs:vE s)(hc:vE c):yG (yG w s c) (s.2,s.1) (c.2,c.1)=w:=by
 obtain⟨ps,ts,fi,la⟩:=w;show(⟨ps,(ts.map (l5 s c)).map (l5 (s.2,s.1) (c.2,c.1)),fi,la⟩:fR)=⟨ps,ts,fi,la⟩;rw[List.map_map]
 congr 1
 refine(List.map_congr_left λt ht=>?_).trans (List.map_id ts);have T:=W.ts t ht;obtain⟨a,b,d,l,o⟩:=t;show(⟨a,b,d,K51.mt (s.2,s.1) (K51.mt s l),(o.map (K51.mt c)).map (K51.mt (c.2,c.1))⟩:lR)=⟨a,b,d,l,o⟩;rw[xM hs T.l.toLow];cases o with
 |none=>rfl
 |some x=>
  show(⟨a,b,d,l,some (K51.mt (c.2,c.1) (K51.mt c x))⟩:lR)=_;rw[xM hc (T.o x rfl).1.toLow]
def Bp{s x:dP}(hs:Sm s)(hx:Sm x)(hq:0<s.2)(hq':0<x.2):je (K51.mt s x):=by
 refine Bt (Int.mul_pos hq hq') ?_ ?_
 .rw[Int.natAbs_mul]
  refine Nat.lt_of_lt_of_le (Nat.mul_lt_mul'' hs.p hx.p) (by decide)
 .rw[Int.natAbs_mul]
  refine Nat.lt_of_lt_of_le (Nat.mul_lt_mul'' hs.q hx.q) (by decide)
theorem Jj{w:fR}(W:dy w)(M:∀t∈w.ts,lQ t){s c:dP}(hs:vE s)(hc:vE c)(ss:Sm s)(sc:Sm c):dy (yG w s c):=by
 refine⟨W.n2,W.n7,W.nm,by show(w.ts.map _).length<=14;rw[List.length_map];exact W.t14,λt ht=>?_,W.fi,W.la,W.ne⟩;obtain⟨u,hu,rfl⟩:=List.mem_map.mp (show t∈w.ts.map _ from ht);have T:=W.ts u hu;have T':=M u hu;have q1:0<u.l.2:=by have:=T.l.q1;omega
 refine⟨T.a,T.b,T.ne,T.w,Bp ss T'.l hs.q q1,iJ (Int.mul_nonneg (Int.le_of_lt hs.p) T.l0) (Int.mul_pos hs.q q1),λx hx=>?_⟩;cases ho:u.o with
 |none=>rw[show(l5 s c u).o=u.o.map (K51.mt c) from rfl,ho]at hx;cases hx
 |some y=>
  rw[show(l5 s c u).o=u.o.map (K51.mt c) from rfl,ho]at hx;cases hx;obtain⟨y1,y2⟩:=T.o y ho;have q2:0<y.2:=by have:=y1.q1;omega
  refine⟨Bp sc (T'.o y ho) hc.q q2,?_⟩;have g0:0<=(K51.mt c y).1:=iJ (Int.mul_nonneg (Int.le_of_lt hc.p) (Int.le_of_lt y2)) (Int.mul_pos hc.q q2);have:val (K51.mt c y)=val c*val y:=rH hc.q q2;rcases Int.lt_or_eq_of_le g0 with g|g
  .exact g
  .exfalso
   have h0:(c.1*y.1) / (Int.gcd (c.1*y.1) (c.2*y.2):Int)=0:=g.symm;have hd:(Int.gcd (c.1*y.1) (c.2*y.2):Int)∣c.1*y.1:=Int.gcd_dvd_left _ _;have:=Int.ediv_mul_cancel hd;rw[h0,Int.zero_mul]at this;have:=Int.mul_pos hc.p y2;omega
section
variable {w:fR}(W:dy w) {s c:dP}(hs:vE s) (hc:vE c)
include W hs hc
theorem Ak{t:lR}(ht:t∈w.ts):cI [aL t,fr s,fr c]=.ok (aL (l5 s c t)):=by
 have T:=W.ts t ht;have t0:aJ (aL t) (.int 0)=.ok (.str t.a):=rfl;have t1:aJ (aL t) (.int 1)=.ok (.str t.b):=rfl;have t2:aJ (aL t) (.int 2)=.ok (.str t.w):=rfl;have t3:aJ (aL t) (.int 3)=.ok (fr t.l):=rfl;have t4:aJ (aL t) (.int 4)=.ok (aI t.o):=rfl;have m1:=nX (gs hs.f) (gs T.l) (by decide);cases ho:t.o with
 |none=>
  rw[ho]at t4;have t4:aJ (aL t) (.int 4)=.ok .non:=t4;have c1:kK .non .non=.ok (.bl true):=rfl;rw[show aL (l5 s c t)=.tup [.str t.a,.str t.b,.str t.w,fr (K51.mt s t.l),.non] by unfold l5 aL;rw[ho];rfl];open_line with[cI,iZ,t0,t1,t2,t3,t4,m1,c1]
 |some x=>
  rw[ho]at t4;have t4:aJ (aL t) (.int 4)=.ok (fr x):=t4;have m2:=nX (gs hc.f) (gs (T.o x ho).1) (by decide);have c1:kK (fr x) .non=.ok (.bl false):=rfl;rw[show aL (l5 s c t)=.tup [.str t.a,.str t.b,.str t.w,fr (K51.mt s t.l),fr (K51.mt c x)] by unfold l5 aL;rw[ho];rfl];open_line with[cI,iZ,t0,t1,t2,t3,t4,m1,m2,c1]
theorem qH:gq [bg w,fr s,fr c]=.ok (eJ (yG w s c)):=by
 have lw:=zZ W;have l1:=n9 hs;have l2:=n9 hc;have h14:=W.t14;have fw0:aJ (bg w) (.int 0)=.ok (.lst (w.ps.map D.str)):=rfl;have fw1:aJ (bg w) (.int 1)=.ok (.lst (w.ts.map aL)):=rfl;have fw2:aJ (bg w) (.int 2)=.ok (.str w.fi):=rfl;have fw3:aJ (bg w) (.int 3)=.ok (.str w.la):=rfl;have dl:iA (.lst (w.ps.map D.str))=.ok (.lst (w.ps.map D.str)):=rfl;have c1:ja 1 [1,2] (dg 0) mYes (ai (af (ae 0) (af (ae 1) (af (ae 2) aA))) cI) [.sh (bg w),.sh (fr s),.sh (fr c),.no] (w.ts.map aL)=.ok (.lst ((w.ts.map (l5 s c)).map aL)):=by
  obtain⟨F,hF⟩:∃F:D->D,∀t∈w.ts,F (aL t)=aL (l5 s c t):=⟨λd=>match cI [d,fr s,fr c] with|.ok d=>d|_=>d,λt ht=>by
   show(match cI [aL t,fr s,fr c] with|.ok d=>d|_=>_)=_;rw[Ak W hs hc ht]⟩
  rw[iB (F:=F) (by rw[List.length_map];omega)]
  .congr 2
   rw[List.map_map,List.map_map];exact List.map_congr_left λt ht=>hF t ht
  .intro d hd
   obtain⟨t,h1,rfl⟩:=List.mem_map.mp hd;refine⟨[.sh (aL t),.sh (fr s),.sh (fr c)],rfl,rfl,?_⟩;have h:=Ak W hs hc h1;open_line with[h,hF t h1]
 open_line with[gq,vm,lw,l1,l2,fw0,fw1,fw2,fw3,K64.ev_pl,fU,c1,K64.ev_pl1,dl]
 rfl
noncomputable def SB:am:=(aq (aV 9 (dC (.non)))
 (aq (cP (aa (ae 8) (dC (.non)) gA)
 (aq (aV 9 (ai (af (ae 8) (af (ae 2) aA)) cu))
 ak)
 ak)
 (aq (bW 3 (ai (af (ae 4) (af (ae 5) (af (ae 6) (af (ai (af (ae 7) (af (ae 1) aA)) cu) (af (ae 9) aA))))) df))
 ak)))
theorem wm:ee [bg w,fr s,fr c]=.ok (bg (yG w s c)):=by
 have t14:=W.t14;obtain⟨ρ',hf,b4,b5,b6,b7,b8,b9,hP⟩:=eC (tg:=cD [4,5,6,7,8]) (body:=SB) (ds:=w.ts.map aL) (λk ρ=>∃b4 b5 b6 b7 b8 b9,ρ=[.sh (bg w),.sh (fr s),.sh (fr c),.ow (.lst (((w.ts.take k).map (l5 s c)).map aL)),b4,b5,b6,b7,b8,b9]) (λk d hd ρ z9=>by
   obtain⟨b4,b5,b6,b7,b8,b9,hρ⟩:=z9;subst hρ;rw[List.getElem?_map]at hd;cases e:w.ts[k]? with
   |none=>rw[e]at hd;cases hd
   |some t=>
    rw[e]at hd;cases hd;have T:=W.ts t (List.mem_of_getElem? e);have hk:k<w.ts.length:=(List.getElem?_eq_some_iff.mp e).1;have e1:((w.ts.take (k+1)).map (l5 s c)).map aL=((w.ts.take k).map (l5 s c)).map aL++[aL (l5 s c t)]:=by
     rw[List.take_succ,e,List.map_append,List.map_append];rfl
    have hl9:decide ((((w.ts.take k).map (l5 s c)).map aL).length<=999)=true:=decide_eq_true (by rw[List.length_map,List.length_map,List.length_take];omega);have m1:=md (gs T.l) (gs hs.f) (by decide);rw[sA]at m1;rw[e1];cases ho:t.o with
    |none=>
     have c1:gA .non .non=.ok (.bl false):=rfl;refine⟨[.sh (bg w),.sh (fr s),.sh (fr c),.ow (.lst (((w.ts.take k).map (l5 s c)).map aL)),.sh (.str t.a),.sh (.str t.b),.sh (.str t.w),.sh (fr t.l),.sh .non,b9],[.sh (bg w),.sh (fr s),.sh (fr c),.ow (.lst (((w.ts.take k).map (l5 s c)).map aL++[aL (l5 s c t)])),.sh (.str t.a),.sh (.str t.b),.sh (.str t.w),.sh (fr t.l),.sh .non,.sh .non],by unfold aL;rw[ho];rfl,?_,_,_,_,_,_,_,rfl⟩;rw[show aL (l5 s c t)=.tup [.str t.a,.str t.b,.str t.w,fr (K51.mt s t.l),.non] by unfold l5 aL;rw[ho];rfl];open_line with[SB,c1,m1,dh hl9]
    |some x=>
     have c1:gA (fr x) .non=.ok (.bl true):=rfl;have m2:=md (gs (T.o x ho).1) (gs hc.f) (by decide);rw[sA]at m2;refine⟨[.sh (bg w),.sh (fr s),.sh (fr c),.ow (.lst (((w.ts.take k).map (l5 s c)).map aL)),.sh (.str t.a),.sh (.str t.b),.sh (.str t.w),.sh (fr t.l),.sh (fr x),b9],[.sh (bg w),.sh (fr s),.sh (fr c),.ow (.lst (((w.ts.take k).map (l5 s c)).map aL++[aL (l5 s c t)])),.sh (.str t.a),.sh (.str t.b),.sh (.str t.w),.sh (fr t.l),.sh (fr x),.sh (fr (K51.mt c x))],by unfold aL;rw[ho];rfl,?_,_,_,_,_,_,_,rfl⟩;rw[show aL (l5 s c t)=.tup [.str t.a,.str t.b,.str t.w,fr (K51.mt s t.l),fr (K51.mt c x)] by unfold l5 aL;rw[ho];rfl];open_line with[SB,c1,m1,m2,dh hl9]) (ρ:=[.sh (bg w),.sh (fr s),.sh (fr c),.ow (.lst []),.no,.no,.no,.no,.no,.no]) ⟨_,_,_,_,_,_,rfl⟩
 subst hP;rw[List.length_map,List.take_length]at hf;have hb:kr=aq (jq 3 (ai aA bM)) (aq (kg (aa (ae 0) (dC (.int 1)) aJ) (cD [4,5,6,7,8]) SB) (aq (bh (ai (af (aa (ae 0) (dC (.int 0)) aJ) (af (ae 3) (af (aa (ae 0) (dC (.int 2)) aJ) (af (aa (ae 0) (dC (.int 3)) aJ) aA)))) df)) ak)):=rfl;have fw0:aJ (bg w) (.int 0)=.ok (.lst (w.ps.map D.str)):=rfl;have fw1:aJ (bg w) (.int 1)=.ok (.lst (w.ts.map aL)):=rfl;have fw2:aJ (bg w) (.int 2)=.ok (.str w.fi):=rfl;have fw3:aJ (bg w) (.int 3)=.ok (.str w.la):=rfl;rw[ee,hb];open_line with[fw0,fw1,fw2,fw3,hf]
 rfl
end
open K64 (eJ eU lj fX eW)
def mF(t:lR):lR:=if t.w="both" then t else⟨t.b,t.a,t.w,t.l,t.o⟩
def Af(w:fR):fR:=⟨w.ps,w.ts.map mF,w.la,w.fi⟩
def CK(t:lR):mF (mF t)=t:=by
 unfold mF
 by_cases h:t.w="both"
 .rw[if_pos h,if_pos h]
 .rw[if_neg h,if_neg h]
def CJ(w:fR):Af (Af w)=w:=by
 obtain⟨ps,ts,fi,la⟩:=w;show(⟨ps,(ts.map mF).map mF,fi,la⟩:fR)=⟨ps,ts,fi,la⟩;rw[List.map_map]
 congr 1
 exact(List.map_congr_left λt _=>CK t).trans (List.map_id ts)
def Fe{w:fR}(W:dy w):dy (Af w):=by
 refine⟨W.n2,W.n7,W.nm,by show(w.ts.map _).length<=14;rw[List.length_map];exact W.t14,λt ht=>?_,W.la,W.fi,Ne.symm W.ne⟩;obtain⟨u,hu,rfl⟩:=List.mem_map.mp (show t∈w.ts.map _ from ht);have T:=W.ts u hu;show jc w.ps (mF u);unfold mF
 by_cases h:u.w="both"
 .rw[if_pos h];exact T
 .rw[if_neg h];exact⟨T.b,T.a,Ne.symm T.ne,T.w,T.l,T.l0,T.o⟩
def Ai{zs:List Str}{t:lR}(T:jc zs t):cH [aL t]=.ok (aL (mF t)):=by
 have t0:aJ (aL t) (.int 0)=.ok (.str t.a):=rfl;have t1:aJ (aL t) (.int 1)=.ok (.str t.b):=rfl;have t2:aJ (aL t) (.int 2)=.ok (.str t.w):=rfl;have t3:aJ (aL t) (.int 3)=.ok (fr t.l):=rfl;have t4:aJ (aL t) (.int 4)=.ok (aI t.o):=rfl;rcases T.w with e|e
 .have c:fF (.str "one") (.str "both")=.ok (.bl false):=rfl
  have hn:¬t.w="both":=by rw[e];decide
  rw[show mF t=⟨t.b,t.a,t.w,t.l,t.o⟩ from if_neg hn];have t2':aJ (aL t) (.int 2)=.ok (.str "one"):=by rw[t2,e]
  rw[show aL ⟨t.b,t.a,t.w,t.l,t.o⟩=.tup [.str t.b,.str t.a,.str "one",fr t.l,aI t.o] by unfold aL;rw[e]];open_line with[cH,iY,t0,t1,t2',t3,t4,c]
 .have c:fF (.str "both") (.str "both")=.ok (.bl true):=rfl
  rw[show mF t=t from if_pos e];have t2':aJ (aL t) (.int 2)=.ok (.str "both"):=by rw[t2,e]
  open_line with[cH,iY,t2',c]
section
variable {w:fR}(W:dy w)
include W
theorem lY:eT [bg w]=.ok (eJ (Af w)):=by
 have lw:=zZ W;have h14:=W.t14;have fw0:aJ (bg w) (.int 0)=.ok (.lst (w.ps.map D.str)):=rfl;have fw1:aJ (bg w) (.int 1)=.ok (.lst (w.ts.map aL)):=rfl;have fw2:aJ (bg w) (.int 2)=.ok (.str w.fi):=rfl;have fw3:aJ (bg w) (.int 3)=.ok (.str w.la):=rfl;have dl:iA (.lst (w.ps.map D.str))=.ok (.lst (w.ps.map D.str)):=rfl;have c1:ja 1 [] (dg 0) mYes (ai (af (ae 0) aA) cH) [.sh (bg w)] (w.ts.map aL)=.ok (.lst ((w.ts.map mF).map aL)):=by
  obtain⟨F,hF⟩:∃F:D->D,∀t∈w.ts,F (aL t)=aL (mF t):=⟨λd=>match cH [d] with|.ok d=>d|_=>d,λt ht=>by
   show(match cH [aL t] with|.ok d=>d|_=>_)=_;rw[Ai (W.ts t ht)]⟩
  rw[iB (F:=F) (by rw[List.length_map];omega)]
  .congr 2
   rw[List.map_map,List.map_map];exact List.map_congr_left λt ht=>hF t ht
  .intro d hd
   obtain⟨t,h1,rfl⟩:=List.mem_map.mp hd;refine⟨[.sh (aL t)],rfl,rfl,?_⟩;have h:=Ai (W.ts t h1);open_line with[h,hF t h1]
 open_line with[eT,vk,lw,fw0,fw1,fw2,fw3,K64.ev_pl,fU,c1,K64.ev_pl1,dl]
 rfl
noncomputable def UB:am:=(aq (aV 3 (eV (ae 2) dH (bZ (dC (.int 2)))))
 (aq (cP (aa (aa (ae 2) (dC (.int 2)) aJ) (dC (.str "one")) fF)
 (aq (aV 3 (ai (af (aa (ae 2) (dC (.int 1)) aJ) (af (aa (ae 2) (dC (.int 0)) aJ) aA)) df))
 ak)
 ak)
 (aq (bW 1 (aa (ae 3) (eV (ae 2) (bZ (dC (.int 2))) dH) bC))
 ak)))
theorem oI:cM [bg w]=.ok (bg (Af w)):=by
 have t14:=W.t14;obtain⟨ρ',hf,b2,b3,hP⟩:=eC (tg:=dg 2) (body:=UB) (ds:=w.ts.map aL) (λk ρ=>∃b2 b3,ρ=[.sh (bg w),.ow (.lst (((w.ts.take k).map mF).map aL)),b2,b3]) (λk d hd ρ z9=>by
   obtain⟨b2,b3,hρ⟩:=z9;subst hρ;rw[List.getElem?_map]at hd;cases e:w.ts[k]? with
   |none=>rw[e]at hd;cases hd
   |some t=>
    rw[e]at hd;cases hd;have T:=W.ts t (List.mem_of_getElem? e);have hk:k<w.ts.length:=(List.getElem?_eq_some_iff.mp e).1;have e1:((w.ts.take (k+1)).map mF).map aL=((w.ts.take k).map mF).map aL++[aL (mF t)]:=by
     rw[List.take_succ,e,List.map_append,List.map_append];rfl
    have hl9:decide ((((w.ts.take k).map mF).map aL).length<=999)=true:=decide_eq_true (by rw[List.length_map,List.length_map,List.length_take];omega);have t0:aJ (aL t) (.int 0)=.ok (.str t.a):=rfl;have t1:aJ (aL t) (.int 1)=.ok (.str t.b):=rfl;have t2:aJ (aL t) (.int 2)=.ok (.str t.w):=rfl;have s1:ua (aL t) none (some 2)=.ok (.tup [.str t.a,.str t.b]):=rfl;have s2:ua (aL t) (some 2) none=.ok (.tup [.str t.w,fr t.l,aI t.o]):=rfl;rw[e1];rcases T.w with ew|ew
    .have c:fF (.str "one") (.str "one")=.ok (.bl true):=rfl
     have hn:¬t.w="both":=by rw[ew];decide
     have t2':aJ (aL t) (.int 2)=.ok (.str "one"):=by rw[t2,ew]
     have a1:bC (.tup [.str t.b,.str t.a]) (.tup [.str t.w,fr t.l,aI t.o])=.ok (aL (mF t)):=by
      rw[show mF t=⟨t.b,t.a,t.w,t.l,t.o⟩ from if_neg hn];rfl
     refine⟨_,[.sh (bg w),.ow (.lst (((w.ts.take k).map mF).map aL++[aL (mF t)])),.sh (aL t),.sh (.tup [.str t.b,.str t.a])],rfl,?_,_,_,rfl⟩;open_line with[UB,s1,t0,t1,t2',c,s2,a1,dh hl9]
    .have c:fF (.str "both") (.str "one")=.ok (.bl false):=rfl
     have t2':aJ (aL t) (.int 2)=.ok (.str "both"):=by rw[t2,ew]
     have a1:bC (.tup [.str t.a,.str t.b]) (.tup [.str t.w,fr t.l,aI t.o])=.ok (aL (mF t)):=by
      rw[show mF t=t from if_pos ew];rfl
     refine⟨_,[.sh (bg w),.ow (.lst (((w.ts.take k).map mF).map aL++[aL (mF t)])),.sh (aL t),.sh (.tup [.str t.a,.str t.b])],rfl,?_,_,_,rfl⟩;open_line with[UB,s1,t0,t1,t2',c,s2,a1,dh hl9]) (ρ:=[.sh (bg w),.ow (.lst []),.no,.no]) ⟨_,_,rfl⟩
 subst hP;rw[List.length_map,List.take_length]at hf;have hb:kq=aq (jq 1 (ai aA bM)) (aq (kg (aa (ae 0) (dC (.int 1)) aJ) (dg 2) UB) (aq (bh (ai (af (aa (ae 0) (dC (.int 0)) aJ) (af (ae 1) (af (aa (ae 0) (dC (.int 3)) aJ) (af (aa (ae 0) (dC (.int 2)) aJ) aA)))) df)) ak)):=rfl;have fw0:aJ (bg w) (.int 0)=.ok (.lst (w.ps.map D.str)):=rfl;have fw1:aJ (bg w) (.int 1)=.ok (.lst (w.ts.map aL)):=rfl;have fw2:aJ (bg w) (.int 2)=.ok (.str w.fi):=rfl;have fw3:aJ (bg w) (.int 3)=.ok (.str w.la):=rfl;rw[cM,hb];open_line with[fw0,fw1,fw2,fw3,hf]
 rfl
end
open K51 (Bd)
open K64 (oh not_before)
open K59 (sqF_eq qG uz)
open Bfd (Pl)
theorem nJ:∀n,aM n=K64.aM n
 |0=>rfl
 |n+1=>by
  show bT 2 (cf (aM n))=bT 2 (K64.cf (K64.aM n));rw[nJ n];rfl
def lO{u:fR}(U:dy u):aN [bg u,bg u]=.ok (.bl true):=by
 show aM 5 _=_;rw[nJ];exact K64.alike_web U
def E1{o:Option dP}:aN [aI o,aI o]=.ok (.bl true):=by
 show aM 5 _=_;rw[nJ];cases o with|none=>exact K64.alike_non|some x=>exact K64.alike_fr
def yb{i:Nat}{sel:List Str->ac->ac}{tg:Ev->D->ax Ev}{s:am}{ρ ρ':Ev}{ks:List Str}{ds:ac}(h:ρ[i]?=some (.sh (.dic ks ds)))(hf:cA tg s (sel ks ds) ρ=.ok (.nx ρ')):kj i sel tg s ρ=.ok (.nx ρ'):=by
 unfold kj;rw[h];show DB (cA tg s (sel ks ds) ρ)=_;rw[hf];rfl
def QB:am:=(aq (ip 2 (IG (aa (aa (ae 0) (ae 3) cE) (dC (.non)) kK) (dC (.non)) (ai (af (ae 1) (af (aa (ae 0) (ae 3) cE) aA)) m_times)) (ae 3))
 ak)
section
variable {ks:List Str}(nd:ks.Nodup) (h7:ks.length<=7) {g:Str->Option dP}(hg:∀p x,g p=some x->Bd x 3013) {s:dP}(hs:vE s)
include nd h7 hg hs
theorem yK:eA [.dic ks (ks.map λp=>aI (g p)),fr s]=.ok (.dic ks (ks.map λp=>aI ((g p).map (K51.mt s)))):=by
 have sc:=n9 hs;obtain⟨ρ',hf,b3,hP⟩:=eC (tg:=dg 3) (body:=QB) (ds:=ks.map D.str) (λk ρ=>∃b3,ρ=[.sh (.dic ks (ks.map λp=>aI (g p))),.sh (fr s),.ow (.dic (ks.take k) ((ks.take k).map λp=>aI ((g p).map (K51.mt s)))),b3]) (λk d hd ρ z9=>by
   obtain⟨b3,hρ⟩:=z9;subst hρ;rw[List.getElem?_map]at hd;cases e:ks[k]? with
   |none=>rw[e]at hd;cases hd
   |some p=>
    rw[e]at hd;cases hd;have hp:=List.mem_of_getElem? e;have e1:ks.take (k+1)=ks.take k++[p]:=by rw[List.take_succ,e];rfl
    have hl1:decide ((ks.take k).length<=900)=true:=decide_eq_true (by rw[List.length_take];omega);have gp:cE (.dic ks (ks.map λp=>aI (g p))) (.str p)=.ok (aI (g p)):=by
     unfold cE;simp only[tu (g:=λp=>aI (g p)),if_pos hp]
    have ps_:=oh (g:=λp=>aI ((g p).map (K51.mt s))) (not_before nd e);refine⟨_,[.sh (.dic ks (ks.map λp=>aI (g p))),.sh (fr s),.ow (.dic (ks.take (k+1)) ((ks.take (k+1)).map λp=>aI ((g p).map (K51.mt s)))),.sh (.str p)],rfl,?_,_,rfl⟩;rw[e1];cases eg:g p with
    |none=>
     rw[eg]at gp;simp only[eg]at ps_;have gp:cE (.dic ks (ks.map λp=>aI (g p))) (.str p)=.ok .non:=gp;have ps_:kX (ks.take k) ((ks.take k).map λp=>aI ((g p).map (K51.mt s))) p .non=_:=ps_;have c1:kK .non .non=.ok (.bl true):=rfl;open_line with[QB,mf,lr,gp,c1,jY,iL hl1,ps_]
    |some x=>
     rw[eg]at gp;simp only[eg]at ps_;have gp:cE (.dic ks (ks.map λp=>aI (g p))) (.str p)=.ok (fr x):=gp;have ps_:kX (ks.take k) ((ks.take k).map λp=>aI ((g p).map (K51.mt s))) p (fr (K51.mt s x))=_:=ps_;have c1:kK (fr x) .non=.ok (.bl false):=rfl;have tm:=nX (gs hs.f) (hg p x eg) (by decide);open_line with[QB,mf,lr,gp,c1,tm,jY,iL hl1,ps_]) (ρ:=[.sh (.dic ks (ks.map λp=>aI (g p))),.sh (fr s),.ow (.dic [] []),.no]) ⟨_,rfl⟩
 subst hP;rw[List.length_map,List.take_length]at hf;have s1:f9 (ai (af (ae 1) aA) bV) [.sh (.dic ks (ks.map λp=>aI (g p))),.sh (fr s),.no,.no]=.ok (.nx [.sh (.dic ks (ks.map λp=>aI (g p))),.sh (fr s),.no,.no]):=by
  open_line with[sc]
 have s2:gF 2 (dC (.dic [] [])) [.sh (.dic ks (ks.map λp=>aI (g p))),.sh (fr s),.no,.no]=.ok (.nx [.sh (.dic ks (ks.map λp=>aI (g p))),.sh (fr s),.ow (.dic [] []),.no]):=rfl;have s3:=yb (i:=0) (sel:=uc) (tg:=dg 3) (s:=QB) (ρ:=[.sh (.dic ks (ks.map λp=>aI (g p))),.sh (fr s),.ow (.dic [] []),.no]) rfl hf;show(fN [.sh (.dic ks (ks.map λp=>aI (g p))),.sh (fr s),.no,.no]).bind Fq=_;rw[show fN=ik (f9 (ai (af (ae 1) aA) bV)) (ik (gF 2 (dC (.dic [] []))) (ik (kj 0 uc (dg 3) QB) (rM 2))) from rfl,sqF_eq s1,sqF_eq s2,sqF_eq s3];rfl
noncomputable def RB:am:=(aq (aV 7 (dC (.non)))
 (aq (cP (aa (ae 6) (dC (.non)) gA)
 (aq (aV 7 (ai (af (ae 6) (af (ae 1) aA)) cu))
 ak)
 ak)
 (aq (cP (bR (ai (af (aa (ae 4) (ae 5) cE) (af (ae 7) aA)) aN))
 (aq (bh (dC (.bl false)))
 ak)
 ak)
 ak)))
noncomputable def TB:am:=(aq (gF 4 (ai (af (ae 0) (af (ae 1) aA)) eA))
 (aq (cP (gY (bR (aS (ae 4) (cG "dict"))) (aa (ae 0) (ae 2) zy))
 (aq (bh (dC (.bl false)))
 ak)
 ak)
 (aq (cP (aa (ai (af (ai (af (ae 4) aA) (m1 iS)) aA) (m1 jJ)) (ai (af (ai (af (ae 0) aA) (m1 iS)) aA) (m1 jJ)) ic)
 (aq (bh (dC (.bl false)))
 ak)
 ak)
 (aq (kj 0 m9 (cD [5,6]) RB)
 (aq (qI 4)
 ak)))))
theorem Jz{b3 b5 b6 b7:Sl}(q5:Pl b5)(q6:Pl b6)(q7:Pl b7):∃y5 y6 y7,Pl y5/\Pl y6/\Pl y7/\cA (cD [5,6]) RB (m9 ks (ks.map λp=>aI (g p))) [.sh (.dic ks (ks.map λp=>aI (g p))),.sh (fr s),.sh (.dic ks (ks.map λp=>aI (g p))),b3,.ow (.dic ks (ks.map λp=>aI ((g p).map (K51.mt s)))),b5,b6,b7] =
  .ok (.nx [.sh (.dic ks (ks.map λp=>aI (g p))),.sh (fr s),.sh (.dic ks (ks.map λp=>aI (g p))),b3,.ow (.dic ks (ks.map λp=>aI ((g p).map (K51.mt s)))),y5,y6,y7]):=by
 obtain⟨ρ',hf,y5,y6,y7,p5,p6,p7,hP⟩:=eC (tg:=cD [5,6]) (body:=RB) (ds:=m9 ks (ks.map λp=>aI (g p))) (λk ρ=>∃y5 y6 y7,Pl y5/\Pl y6/\Pl y7/\ρ=[.sh (.dic ks (ks.map λp=>aI (g p))),.sh (fr s),.sh (.dic ks (ks.map λp=>aI (g p))),b3,.ow (.dic ks (ks.map λp=>aI ((g p).map (K51.mt s)))),y5,y6,y7]) (λk d hd ρ z9=>by
   obtain⟨y5,y6,y7,p5,p6,p7,hρ⟩:=z9;subst hρ;have hk:k<ks.length:=by
    have:=(List.getElem?_eq_some_iff.mp hd).1;unfold m9 at this;rw[nS,List.length_map,List.length_map,Nat.min_self]at this;exact this
   have hz:d=.tup [.str ks[k],aI (g ks[k])]:=by
    have:=nT (xs:=ks.map D.str) (ys:=ks.map λp=>aI (g p)) (c:=k) (x:=.str ks[k]) (y:=aI (g ks[k])) (by rw[List.getElem?_map,List.getElem?_eq_getElem hk];rfl) (by rw[List.getElem?_map,List.getElem?_eq_getElem hk];rfl);unfold m9 at hd;rw[this]at hd;cases hd;rfl
   subst hz;have hp:ks[k]∈ks:=List.getElem_mem hk;generalize ks[k]=p at hp ⊢;have gt:cE (.dic ks (ks.map λp=>aI ((g p).map (K51.mt s)))) (.str p)=.ok (aI ((g p).map (K51.mt s))):=by
    unfold cE;simp only[tu (g:=λp=>aI ((g p).map (K51.mt s))),if_pos hp]
   have ao:=E1 (o:=(g p).map (K51.mt s));refine⟨_,_,rfl,?_,.sh (.str p),.sh (aI (g p)),.sh (aI ((g p).map (K51.mt s))),.inr ⟨_,rfl⟩,.inr ⟨_,rfl⟩,.inr ⟨_,rfl⟩,rfl⟩;cases eg:g p with
   |none=>
    rw[eg]at gt ao;have gt:cE (.dic ks (ks.map λp=>aI ((g p).map (K51.mt s)))) (.str p)=.ok .non:=gt;have ao:aN [.non,.non]=.ok (.bl true):=ao;have c1:gA .non .non=.ok (.bl false):=rfl;open_line with[RB,cS,show aI none=D.non from rfl,show aI (Option.map (K51.mt s) none)=D.non from rfl,c1,gt,ao]
   |some x=>
    rw[eg]at gt ao;have gt:cE (.dic ks (ks.map λp=>aI ((g p).map (K51.mt s)))) (.str p)=.ok (fr (K51.mt s x)):=gt;have ao:aN [fr (K51.mt s x),fr (K51.mt s x)]=.ok (.bl true):=ao;have c1:gA (fr x) .non=.ok (.bl true):=rfl;have tm:=md (hg p x eg) (gs hs.f) (by decide);rw[sA]at tm;open_line with[RB,cS,show aI (some x)=fr x from rfl,show aI (Option.map (K51.mt s) (some x))=fr (K51.mt s x) from rfl,c1,tm,gt,ao]) (ρ:=[.sh (.dic ks (ks.map λp=>aI (g p))),.sh (fr s),.sh (.dic ks (ks.map λp=>aI (g p))),b3,.ow (.dic ks (ks.map λp=>aI ((g p).map (K51.mt s)))),b5,b6,b7]) ⟨b5,b6,b7,q5,q6,q7,rfl⟩
 exact⟨y5,y6,y7,p5,p6,p7,by rw[hf,hP]⟩
theorem C9{b3 b5 b6 b7:Sl}(q5:Pl b5)(q6:Pl b6)(q7:Pl b7):∃y5 y6 y7,Pl y5/\Pl y6/\Pl y7/\TB [.sh (.dic ks (ks.map λp=>aI (g p))),.sh (fr s),.sh (.dic ks (ks.map λp=>aI (g p))),b3,.no,b5,b6,b7] =
  .ok (.nx [.sh (.dic ks (ks.map λp=>aI (g p))),.sh (fr s),.sh (.dic ks (ks.map λp=>aI (g p))),b3,.no,y5,y6,y7]):=by
 obtain⟨y5,y6,y7,p5,p6,p7,hf⟩:=Jz nd h7 hg hs (b3:=b3) q5 q6 q7;have hz:=yb (i:=0) (sel:=m9) (tg:=cD [5,6]) (s:=RB) rfl hf;have ps:=yK nd h7 hg hs;have nK:=uz (g:=g) nd;have so:=qG (zs:=ks) h7;have lk:iS (.dic ks (ks.map λp=>aI (g p)))=.ok (.lst (ks.map D.str)):=rfl;have lk2:iS (.dic ks (ks.map λp=>aI ((g p).map (K51.mt s))))=.ok (.lst (ks.map D.str)):=rfl;have i1:cG "dict" (.dic ks (ks.map λp=>aI ((g p).map (K51.mt s))))=.ok (.bl true):=rfl;have cd:∀ρ:Ev,ρ[4]?=some (.ow (.dic ks (ks.map λp=>aI ((g p).map (K51.mt s)))))->qI 4 ρ=.ok (.nx (ρ.set 4 .no)):=λρ h=>by
  unfold qI;rw[h];rfl
 refine⟨y5,y6,y7,p5,p6,p7,?_⟩;open_line with[TB,wJ,yd,ps,i1,nK,lk,lk2,so,K59.ne_strL,hz,cd]
theorem rO:cn [.dic ks (ks.map λp=>aI (g p)),fr s]=.ok (.bl true):=by
 obtain⟨ρ',hf,y3,y5,y6,y7,p5,p6,p7,hP⟩:=nH (i:=3) (body:=TB) (n:=2) (λk ρ=>∃y3 y5 y6 y7,Pl y5/\Pl y6/\Pl y7/\ρ=[.sh (.dic ks (ks.map λp=>aI (g p))),.sh (fr s),.sh (.dic ks (ks.map λp=>aI (g p))),y3,.no,y5,y6,y7]) (λk hk ρ z9=>by
   obtain⟨y3,y5,y6,y7,p5,p6,p7,hρ⟩:=z9;subst hρ;obtain⟨z5,z6,z7,r5,r6,r7,ht⟩:=C9 nd h7 hg hs (b3:=.sh (.int (k:Int))) p5 p6 p7;exact⟨_,ht,_,z5,z6,z7,r5,r6,r7,rfl⟩) (ρ:=[.sh (.dic ks (ks.map λp=>aI (g p))),.sh (fr s),.sh (.dic ks (ks.map λp=>aI (g p))),.no,.no,.no,.no,.no]) ⟨_,_,_,_,.inl rfl,.inl rfl,.inl rfl,rfl⟩
 subst hP;have hb:fQ=aq (aV 2 (ai (af (ae 0) aA) (m1 pz))) (aq (kU (dC (.int 2)) (dg 3) TB) (aq (bh (dC (.bl true))) ak)):=rfl;have cp:pz (.dic ks (ks.map λp=>aI (g p)))=.ok (.dic ks (ks.map λp=>aI (g p))):=rfl;rw[cn,hb];have f2:∀ρ:Ev,xV (dg 3) TB ρ (.int 2)=cA (dg 3) TB (intsFrom 0 2) ρ:=λρ=>k9 (show 2<=1000000 by decide);open_line with[cp,lh,f2,hf]
end
end K61
namespace K34
open PySem L2 DL
noncomputable def ID:am:=(cP (dN (aa (ae 7) (ae 1) bN) (dN (aa (aa (ae 8) (dC (.int 0)) aJ) (ae 3) fF) (aa (aa (ae 8) (dC (.int 1)) aJ) (ae 4) bN))) (aq (bW 6 (ai (af (ae 7) (af (dC (.int 1)) (af (aa (ae 8) (dC (.int 1)) aJ) aA))) df)) ak) ak)
noncomputable def IC:am:=(cP (dN (aa (ae 7) (ae 1) bN) (dN (aa (aa (ae 8) (dC (.int 2)) aJ) (dC (.str "both")) fF) (dN (aa (aa (ae 8) (dC (.int 1)) aJ) (ae 3) fF) (aa (aa (ae 8) (dC (.int 0)) aJ) (ae 4) bN)))) (aq (bW 6 (ai (af (ae 7) (af (aS (dC (.int 1)) qu) (af (aa (ae 8) (dC (.int 0)) aJ) aA))) df)) ak) ak)
def qB:al:=(aa (ae 3) (aa (ae 0) (dC (.int 3)) aJ) ic)
noncomputable def mC:am:=(aq (jq 6 (ai aA bM)) (aq (gG (ke (aa (ae 0) (dC (.int 1)) aJ)) (cD [7,8]) (aq ID (aq IC ak))) (aq (ue 6 (cP (aa (ae 6) (ai aA bM) fF) (aq (bh (ai aA bM)) ak) ak)) (aq (ue 6 (xp [7,9,3] (aa (ae 6) (aa (aa (ae 2) (ai (af (ae 5) aA) (m1 eO)) aJ) (ai (af (ae 6) aA) (m1 eO)) du) aJ))) (aq (bW 5 (ai (af (ae 7) (af (ae 9) aA)) df)) (aq (bW 4 (ae 3)) ak))))))
def gD:am :=
 (aq (aV 3 (aa (ae 0) (dC (.int 2)) aJ)) (aq (jq 4 (ai (af (ae 3) aA) bM)) (aq (jq 5 (ai aA bM)) (aq (fZ (λ_=>8) qB mC) (aq (bh (ae 5)) ak)))))
def dI:ac->ax D:=bT 10 gD
end K34
namespace K35
open PySem L2 DL Com
def kG{d:D}{z:Str}:cL d (.str z)=true↔d=.str z:=by
 cases d with
 |str x=>rw[cL];simp
 |_=>constructor<;>intro h<;>first|cases h|(unfold cL at h;cases h)
end K35
namespace K36
open PySem L2 DL Com
def eqs{x y:Str}:fF (.str x) (.str y)=.ok (.bl (decide (x=y))):=by
 rw[nI]
 congr 2
end K36
namespace K35
open PySem L2 DL Com
def ix_mem{ds:ac}{v:Int}(h0:0<=v)(h1:v<(ds.length:Int)):∃d,aJ (.lst ds) (.int v)=.ok d/\d∈ds:=by
 have hk:v.toNat<ds.length:=by omega
 refine⟨ds[v.toNat],?_,List.getElem_mem hk⟩;have:=eZ (List.getElem?_eq_getElem hk);rw[show((v.toNat:Nat):Int)=v by omega]at this;exact this
end K35
namespace K34
open PySem L2 DL Com
def kc(c:Nat×Int×Str):D:=.tup [.int (c.1:Int),.int c.2.1,.str c.2.2]
def nZ(c:Nat×Int):D:=.tup [.int (c.1:Int),.int c.2]
def MH(ts:List lR)(p:Str)(k:Nat)(s:Int)(q:Str):Prop:=∃t,ts[k]?=some t/\((s=1/\t.a=p/\t.b=q)∨(s=-1/\t.w="both"/\t.b=p/\t.a=q))
def xa(w:fR)(p:Str)(been:List Str)(c:Nat×Int×Str):Prop:=MH w.ts p c.1 c.2.1 c.2.2/\c.2.2∉been/\c.2.2∈w.ps
def qQ{d:D}(h:bb 40 d=true):bN d (.lst [])=.ok (.bl true):=by
 have e:zj d (.lst [])=some ([].any λx=>cL x d):=if_pos ⟨h,rfl⟩;unfold bN;rw[e];rfl
section
variable {w:fR}{p:Str}{been:List Str}{st:List (Nat×Int)}{ws:List (Nat×Int×Str)}{k:Nat}{t:lR}{A2:D}{x9:Sl}
abbrev nv(w:fR)(A2:D)(p:Str)(been:List Str)(st:List (Nat×Int))(x6 x7 x8 x9:Sl):Ev:=[.sh (bg w),.sh (.lst []),.sh A2,.sh (.str p),.ow (.lst (been.map D.str)),.ow (.lst (st.map nZ)),x6,x7,x8,x9]
def Hc(ht:w.ts[k]?=some t)(hT:jc w.ps t)(hw:∀c∈ws,xa w p been c)(hl:ws.length<=100):∃ws':List (Nat×Int×Str),ID (nv w A2 p been st (.ow (.lst (ws.map kc))) (.sh (.int (k:Int))) (.sh (aL t)) x9)=.ok (.nx (nv w A2 p been st (.ow (.lst (ws'.map kc))) (.sh (.int (k:Int))) (.sh (aL t)) x9))/\(∀c∈ws',xa w p been c)/\ws'.length<=ws.length+1:=by
 have n0:=qQ (d:=.int (k:Int)) rfl;have i0:aJ (aL t) (.int 0)=.ok (.str t.a):=rfl;have i1:aJ (aL t) (.int 1)=.ok (.str t.b):=rfl;have hap:decide ((ws.map kc).length<=999)=true:=decide_eq_true (by rw[List.length_map];omega);unfold nv ID
 by_cases c1:t.a=p
 .by_cases c2:t.b∈been
  .exact⟨ws,by open_line with[n0,i0,i1,K36.eqs,decide_eq_true c1,gj,decide_eq_true c2],hw,by omega⟩
  .refine⟨ws++[((k,1,t.b):Nat×Int×Str)],?_,λc hc=>?_,by simp⟩
   .rw[List.map_append]
    open_line with[n0,i0,i1,K36.eqs,decide_eq_true c1,gj,decide_eq_false c2,dh hap]
    rfl
   .rcases List.mem_append.mp hc with hc|hc
    .exact hw c hc
    .have:c=(k,1,t.b):=by simpa using hc
     subst this;exact⟨⟨t,ht,.inl ⟨rfl,c1,rfl⟩⟩,c2,hT.b⟩
 .exact⟨ws,by open_line with[n0,i0,i1,K36.eqs,decide_eq_false c1],hw,by omega⟩
def G9(ht:w.ts[k]?=some t)(hT:jc w.ps t)(hw:∀c∈ws,xa w p been c)(hl:ws.length<=100):∃ws':List (Nat×Int×Str),IC (nv w A2 p been st (.ow (.lst (ws.map kc))) (.sh (.int (k:Int))) (.sh (aL t)) x9)=.ok (.nx (nv w A2 p been st (.ow (.lst (ws'.map kc))) (.sh (.int (k:Int))) (.sh (aL t)) x9))/\(∀c∈ws',xa w p been c)/\ws'.length<=ws.length+1:=by
 have n0:=qQ (d:=.int (k:Int)) rfl;have i0:aJ (aL t) (.int 0)=.ok (.str t.a):=rfl;have i1:aJ (aL t) (.int 1)=.ok (.str t.b):=rfl;have i2:aJ (aL t) (.int 2)=.ok (.str t.w):=rfl;have hap:decide ((ws.map kc).length<=999)=true:=decide_eq_true (by rw[List.length_map];omega);unfold nv IC
 by_cases c0:t.w="both"
 .by_cases c1:t.b=p
  .by_cases c2:t.a∈been
   .exact⟨ws,by open_line with[n0,i0,i1,i2,K36.eqs,decide_eq_true c0,decide_eq_true c1,gj,decide_eq_true c2],hw,by omega⟩
   .refine⟨ws++[((k,-1,t.a):Nat×Int×Str)],?_,λc hc=>?_,by simp⟩
    .rw[List.map_append]
     open_line with[n0,i0,i1,i2,K36.eqs,decide_eq_true c0,decide_eq_true c1,gj,decide_eq_false c2,dh hap]
     rfl
    .rcases List.mem_append.mp hc with hc|hc
     .exact hw c hc
     .have:c=(k,-1,t.a):=by simpa using hc
      subst this;exact⟨⟨t,ht,.inr ⟨rfl,c0,c1,rfl⟩⟩,c2,hT.a⟩
  .exact⟨ws,by open_line with[n0,i0,i1,i2,K36.eqs,decide_eq_true c0,decide_eq_false c1],hw,by omega⟩
 .exact⟨ws,by open_line with[n0,i0,i1,i2,K36.eqs,decide_eq_false c0],hw,by omega⟩
def CD(W:dy w)(x7 x8:Sl):∃(ws:List (Nat×Int×Str)) (x7' x8':Sl),cA (cD [7,8]) (aq ID (aq IC ak)) (bw 0 (w.ts.map aL)) (nv w A2 p been st (.ow (.lst [])) x7 x8 x9)=.ok (.nx (nv w A2 p been st (.ow (.lst (ws.map kc))) x7' x8' x9))/\(∀c∈ws,xa w p been c)/\ws.length<=28:=by
 have h14:=W.t14;obtain⟨ρ',hf,ws,x7',x8',rfl,hg,hl⟩:=eC (ds:=bw 0 (w.ts.map aL)) (tg:=cD [7,8]) (ρ:=nv w A2 p been st (.ow (.lst [])) x7 x8 x9) (body:=aq ID (aq IC ak))
  (λk ρ=>∃(ws:List (Nat×Int×Str)) (x7' x8':Sl),ρ=nv w A2 p been st (.ow (.lst (ws.map kc))) x7' x8' x9/\(∀c∈ws,xa w p been c)/\ws.length<=2*k) (by
   rintro k d hd ρ ⟨ws,x7',x8',rfl,hg,hl⟩;obtain⟨t,ht,rfl⟩:=dR hd;have hk:k<w.ts.length:=(List.getElem?_eq_some_iff.mp ht).1;have hT:=W.ts t (List.mem_of_getElem? ht);obtain⟨w1,h1,g1,l1⟩:=Hc (A2:=A2) (st:=st) (x9:=x9) ht hT hg (by omega);obtain⟨w2,h2,g2,l2⟩:=G9 (A2:=A2) (st:=st) (x9:=x9) ht hT g1 (by omega);refine⟨_,_,uP rfl,?_,w2,.sh (.int (k:Int)),.sh (aL t),rfl,g2,by omega⟩;show(aq ID (aq IC ak)) (nv w A2 p been st (.ow (.lst (ws.map kc))) (.sh (.int (k:Int))) (.sh (aL t)) x9)=_;rw[o8,h1,uM,sN,o8,h2,uM,sN,xY]) ⟨[],x7,x8,rfl,λc h=>(nomatch h),by simp⟩
 rw[numbered_len,List.length_map]at hl;exact⟨ws,x7',x8',hf,hg,by omega⟩
theorem oG:∀{a b:List Str},a.Nodup->(∀x∈a,x∈b)->a.length<=b.length
 |[],b,_,_=>Nat.zero_le _
 |x::a,b,h,s=>by
  rw[List.nodup_cons]at h;have hx:x∈b:=s x List.mem_cons_self;have:=oG (a:=a) (b:=b.erase x) h.2 λy hy=>by
   have hne:y≠x:=λe=>h.1 (e▸hy);exact(List.mem_erase_of_ne hne).mpr (s y (List.mem_cons_of_mem _ hy))
  rw[List.length_erase_of_mem hx]at this;have hb:0<b.length:=List.length_pos_of_mem hx;rw[List.length_cons];omega
end
def Ex{ws:List (Nat×Int×Str)}:fF (.lst (ws.map kc)) (.lst [])=.ok (.bl ws.isEmpty):=by
 have h1:bb 40 (.lst (ws.map kc))=true:=List.all_eq_true.mpr λd hd=>by
  obtain⟨c,_,rfl⟩:=List.mem_map.mp hd;rfl
 unfold fF;rw[if_pos ⟨h1,rfl⟩,sP];cases ws<;>rfl
def Mc{x y:Str}:ic (.str x) (.str y)=.ok (.bl (!(decide (x=y)))):=by
 unfold ic;rw[if_pos ⟨rfl,rfl⟩,cL];rfl
def IM{i j k:Nat}{ρ:Ev}{c:Nat×Int×Str}:tW [i,j,k] ρ (kc c)=.ok (.nx (((ρ.set i (.sh (.int (c.1:Int)))).set j (.sh (.int c.2.1))).set k (.sh (.str c.2.2)))):=rfl
def BM{is:bi}{f:al}{ρ:Ev}:xp is f ρ=(f (ij ρ)).bind (tW is ρ):=aQ rfl
def tU{w:fR}(W:dy w){p:Str}{been:List Str}{st:List (Nat×Int)}{es:List Int}{x6 x7 x8 x9:Sl}(hs:st.length<es.length)(hs2:st.length<=100)(hb:been.length<=100) :
  mC (nv w (.lst (es.map D.int)) p been st x6 x7 x8 x9)=.ok (.rt (.lst []))∨∃c y6 y7 y8 y9,xa w p been c/\mC (nv w (.lst (es.map D.int)) p been st x6 x7 x8 x9)=.ok (.nx (nv w (.lst (es.map D.int)) c.2.2 (been++[c.2.2]) (st++[(c.1,c.2.1)]) y6 y7 y8 y9)):=by
 obtain⟨ws,y7,y8,hf,hg,hl⟩:=CD (A2:=.lst (es.map D.int)) (p:=p) (been:=been) (st:=st) (x9:=x9) W x7 x8;have hmt:bM []=.ok (.lst []):=rfl;have i1:aJ (bg w) (.int 1)=.ok (.lst (w.ts.map aL)):=rfl;cases ws with
 |nil=>
  left;have he:fF (.lst []) (.lst [])=.ok (.bl true):=rfl;unfold mC;unfold nv at hf ⊢;rw[List.map_nil]at hf;open_line with[hmt,i1,hf,he]
 |cons c0 r=>
  right;have he:=Ex (ws:=c0::r);rw[List.isEmpty_cons]at he;have hlen:(((c0::r).map kc).length:Int)=((c0::r).length:Int):=by rw[List.length_map]
  have hst:aJ (.lst (es.map D.int)) (.int (st.length:Int))=.ok (.int es[st.length]):=eZ (by rw[List.getElem?_map,List.getElem?_eq_getElem hs];rfl);have hne:((c0::r).length:Int)≠0:=by rw[List.length_cons];omega
  have hfm:=dM (a:=es[st.length]) (b:=((c0::r).length:Int)) (by rw[List.length_cons];omega);obtain⟨d,hd,hm⟩:=K35.ix_mem (ds:=(c0::r).map kc) (v:=es[st.length].fmod ((c0::r).length:Int)) hfm.1 (by rw[List.length_map];exact hfm.2);obtain⟨c,hc,rfl⟩:=List.mem_map.mp hm;have hmod:=wg (a:=es[st.length]) hne;have ha1:decide ((st.map nZ).length<=999)=true:=decide_eq_true (by rw[List.length_map];omega);have ha2:decide ((been.map D.str).length<=999)=true:=decide_eq_true (by rw[List.length_map];omega);refine⟨c,.sh (.lst ((c0::r).map kc)),.sh (.int (c.1:Int)),y8,.sh (.int c.2.1),hg c hc,?_⟩;unfold mC;unfold nv at hf ⊢;rw[List.map_append,List.map_append];generalize hL:(c0::r).map kc=L at *;have hLl:(L.length:Int)=((c0::r).length:Int):=hlen;generalize ((c0::r).length:Int)=n at *;open_line with[hmt,i1,hf,he,BM,List.length_map,hLl,hst,hmod,hd,IM,dh ha1,dh ha2]
  rfl
def oY{fu:Ev->Nat}{c:al}{s:am}{ρ:Ev}:fZ fu c s ρ=cg c s (fu ρ) ρ:=rfl
end K34
namespace K61
open PySem L2 DL Com
open K34 (nv qB mC nZ oG Mc tU oY)
def yu{w:fR}(W:dy w){es:List Int}(he:es.length=6):∀(n:Nat) (p:Str) (been:List Str) (st:List (Nat×Int)) (x6 x7 x8 x9:Sl),been.Nodup->(∀x∈been,x∈w.ps)->st.length+1=been.length->9<=n+been.length->(p=w.la∨w.la∉been)->(∀x∈st,x.1<w.ts.length) ->
  cg qB mC n (nv w (.lst (es.map D.int)) p been st x6 x7 x8 x9)=.ok (.rt (.lst []))∨∃been' st' y6 y7 y8 y9,cg qB mC n (nv w (.lst (es.map D.int)) p been st x6 x7 x8 x9)=.ok (.nx (nv w (.lst (es.map D.int)) w.la been' st' y6 y7 y8 y9))/\(∀x∈st',x.1<w.ts.length)/\st'.length<=6:=by
 intro n
 induction n with
 |zero=>
  intro p been st x6 x7 x8 x9 nd sub hl hn _ _;exfalso;have:=oG nd sub;have:=W.n7;omega
 |succ n ih=>
  intro p been st x6 x7 x8 x9 nd sub hl hn hla hst;have h7:=oG nd sub;have n7:=W.n7;have i3:aJ (bg w) (.int 3)=.ok (.str w.la):=rfl;have hcond:qB (ij (nv w (.lst (es.map D.int)) p been st x6 x7 x8 x9))=.ok (.bl (!(decide (p=w.la)))):=by
   unfold nv qB;open_line with[i3,Mc]
  by_cases c:p=w.la
  .right
   subst c;rw[decide_eq_true rfl]at hcond;exact⟨been,st,x6,x7,x8,x9,ie hcond,hst,by omega⟩
  .rw[decide_eq_false c]at hcond
   have hnl:w.la∉been:=hla.resolve_left c;have h8:(w.la::been).length<=w.ps.length:=oG (List.nodup_cons.mpr ⟨hnl,nd⟩) λx hx=>by
    rcases List.mem_cons.mp hx with rfl|hx
    .exact W.la
    .exact sub x hx
   rw[List.length_cons]at h8;rcases tU W (p:=p) (been:=been) (st:=st) (es:=es) (x6:=x6) (x7:=x7) (x8:=x8) (x9:=x9) (by omega) (by omega) (by omega) with h|⟨c',y6,y7,y8,y9,hg,h⟩
   .left
    conv=>lhs;unfold cg
    rw[hcond,h];rfl
   .rw[kM hcond h]
    refine ih c'.2.2 (been++[c'.2.2]) (st++[(c'.1,c'.2.1)]) y6 y7 y8 y9 ?_ (λx hx=>?_) (by simp;omega) (by simp;omega) ?_ (λx hx=>?_)
    .rw[List.nodup_append]
     exact⟨nd,by simp,λa ha b hb=>by
      have:b=c'.2.2:=by simpa using hb
      subst this;intro e;subst e;exact hg.2.1 ha⟩
    .rcases List.mem_append.mp hx with hx|hx
     .exact sub x hx
     .have:x=c'.2.2:=by simpa using hx
      subst this;exact hg.2.2
    .by_cases z:c'.2.2=w.la
     .exact .inl z
     .refine .inr λhx=>?_
      rcases List.mem_append.mp hx with hx|hx
      .exact hnl hx
      .exact z (List.mem_singleton.mp hx).symm
    .rcases List.mem_append.mp hx with hx|hx
     .exact hst x hx
     .have:x=(c'.1,c'.2.1):=by simpa using hx
      subst this;obtain⟨t,ht,_⟩:=hg.1;exact(List.getElem?_eq_some_iff.mp ht).1
def Km:dI=K34.dI:=rfl
def FQ{w:fR}(W:dy w){es:List Int}(he:es.length=6):∃st:List (Nat×Int),dI [bg w,.lst [],.lst (es.map D.int)]=.ok (.lst (st.map nZ))/\(∀x∈st,x.1<w.ts.length)/\st.length<=6:=by
 have i2:aJ (bg w) (.int 2)=.ok (.str w.fi):=rfl;have hmt:bM []=.ok (.lst []):=rfl;have hm1:bM [.str w.fi]=.ok (.lst [.str w.fi]):=rfl;have hrun:dI [bg w,.lst [],.lst (es.map D.int)]=(K34.gD [.sh (bg w),.sh (.lst []),.sh (.lst (es.map D.int)),.no,.no,.no,.no,.no,.no,.no]).bind yI:=by rw[Km];rfl
 rw[hrun,K34.gD];rcases yu W he 8 w.fi [w.fi] [] .no .no .no .no (by simp) (λx hx=>by
  have:x=w.fi:=by simpa using hx
  subst this;exact W.fi) rfl (Nat.le_refl 9) (.inr λh=>W.ne (List.mem_singleton.mp h).symm) (λx h=>(nomatch h)) with h|⟨been',st',y6,y7,y8,y9,h,wk,hl⟩
 .refine⟨[],?_,λx h=>(nomatch h),by decide⟩
  unfold nv at h;rw[List.map_nil,List.map_cons,List.map_nil]at h;open_line with[i2,hmt,hm1,oY,h]
 .refine⟨st',?_,wk,hl⟩
  unfold nv at h;rw[List.map_nil,List.map_cons,List.map_nil]at h;open_line with[i2,hmt,hm1,oY,h]
end K61
namespace K61
open PySem L2 DL Com Pth
open K64 (eJ eU lj fX eW)
open Cod (Sm lQ)
open Bfd (Pl)
open K34 (nZ)
def sJ{L:ac}{w a b:Int}(h0:aJ (.lst L) (.int 0)=.ok (.int w))(h1:aJ (.lst L) (.int 1)=.ok (.int a))(h2:aJ (.lst L) (.int 2)=.ok (.int b))(hw:0<=w/\w<5)(ha:0<=a/\a<1000000000000000000)(hb:0<=b/\b<30):∃x:dP,bD [.lst L]=.ok (fr x)/\je x/\0<=x.1/\Sm x:=by
 have hN:(1000000000000000000000:Int)<(rB:Int):=by decide
 have f7:=dM (a:=a) (b:=7) (by decide);have f60:=dM (a:=a) (b:=60) (by decide);have f1000:=dM (a:=a) (b:=1000) (by decide);have f4:=dM (a:=b) (b:=4) (by decide);obtain⟨p,q,hp,hq,i1,i2⟩:∃p q:Int,(0<=p/\p<1000000000000000000)/\(1<=q/\q<1000)/\aJ (.lst [.int 0,.int (a.fmod 7),.int (a.fmod 60),.int a,.int (a.fmod 1000)]) (.int w)=.ok (.int p)/\aJ (.lst [.int 1,.int 1,.int (1+b),.int 1,.int (1+b.fmod 4)]) (.int w)=.ok (.int q):=by
  have:w=0∨w=1∨w=2∨w=3∨w=4:=by omega
  rcases this with rfl|rfl|rfl|rfl|rfl
  .exact⟨0,1,by decide,by decide,rfl,rfl⟩
  .exact⟨a.fmod 7,1,by omega,by decide,rfl,rfl⟩
  .exact⟨a.fmod 60,1+b,by omega,by omega,rfl,rfl⟩
  .exact⟨a,1,by omega,by decide,rfl,rfl⟩
  .exact⟨a.fmod 1000,1+b.fmod 4,by omega,by omega,rfl,rfl⟩
 have hlo:=Cod.oK (a:=p) (b:=q) (by omega) (DJ (by omega) (by omega)) (DJ (by omega) (by omega));refine⟨er p q,?_,Bt (by omega) (by omega) (by omega),iJ (by omega) (by omega),Cod.sm_low (by omega) (by omega)⟩;open_line with[Cod.bD,Cod.fO,h0,h1,h2,i1,i2,hlo]
def qW{L:ac}{w a b:Int}(h0:aJ (.lst L) (.int 0)=.ok (.int w))(h1:aJ (.lst L) (.int 1)=.ok (.int a))(h2:aJ (.lst L) (.int 2)=.ok (.int b))(hw:0<=w/\w<5)(ha:0<=a/\a<1000000000000000000)(hb:0<=b/\b<30):∃x:dP,cz [.lst L]=.ok (fr x)/\vE x/\Sm x:=by
 obtain⟨x,hx,fx,lx,sx⟩:=sJ h0 h1 h2 hw ha hb
 by_cases c:x.1=0
 .have e:fF (.int x.1) (.int 0)=.ok (.bl true):=by rw[c];rfl
  refine⟨(1,1+b),?_,⟨⟨⟨by show 1<=1+b;omega,by show Int.gcd 1 (1+b)=1;exact Int.one_gcd⟩,by show(1:Int).natAbs<rB;decide,?_⟩,by show(0:Int)<1;decide⟩,⟨by show(1:Int).natAbs<_;decide,by show(1+b).natAbs<1000;omega⟩⟩
  .open_line with[cz,ib,hx,K51.i0,e,h2]
   rfl
  .show(1+b).natAbs<rB
   exact Nat.lt_of_lt_of_le (show(1+b).natAbs<1000 by omega) (by decide)
 .have e:fF (.int x.1) (.int 0)=.ok (.bl false):=by
   show ax.ok (D.bl (cL (.int x.1) (.int 0)))=_;rw[show cL (.int x.1) (.int 0)=(x.1==0) by rw[cL]];rw[beq_eq_false_iff_ne.mpr c]
  exact⟨x,by open_line with[cz,ib,hx,K51.i0,e],⟨fx,by omega⟩,sx⟩
def wb{ks:bi}(h:ks.length<=900):cJ [.lst (ks.map λ(k:Nat)=>D.int (k:Int))]=.ok .non:=by
 have i1:cG "list" (.lst (ks.map λ(k:Nat)=>D.int (k:Int)))=.ok (.bl true):=rfl;obtain⟨ρ',hf,b1,b2,hP⟩:=eC (tg:=cD [1,2]) (body:=(aq (cP (gY (bR (ai (af (ae 2) aA) m_is_whole)) (aa (ae 2) (dC (.int 0)) FC)) (aq cX ak) ak) ak)) (ds:=bw 0 (ks.map λ(k:Nat)=>D.int (k:Int))) (λk ρ=>∃b1 b2,ρ=[.sh (.lst (ks.map λ(k:Nat)=>D.int (k:Int))),b1,b2]) (λk d hd ρ z9=>by
   obtain⟨b1,b2,hρ⟩:=z9;subst hρ;rw[c6,List.getElem?_map]at hd;cases e:ks[k]? with
   |none=>rw[e]at hd;cases hd
   |some n=>
    rw[e]at hd;cases hd;have wh:m_is_whole [.int (n:Int)]=.ok (.bl true):=rfl;have c:FC (.int (n:Int)) (.int 0)=.ok (.bl false):=by
     show ax.ok (D.bl (decide ((n:Int)<0)))=_;rw[decide_eq_false (by omega)]
    refine⟨_,_,rfl,?_,.sh (.int ((0+k:Nat):Int)),.sh (.int (n:Int)),rfl⟩;open_line with[cS,wh,c]) (ρ:=[.sh (.lst (ks.map λ(k:Nat)=>D.int (k:Int))),.no,.no]) ⟨_,_,rfl⟩
 subst hP;have hb:gO=(aq (cP (bR (aS (ae 0) (cG "list"))) (aq cX ak) ak) (aq (gG (ke (ae 0)) (cD [1,2]) (aq (cP (gY (bR (ai (af (ae 2) aA) m_is_whole)) (aa (ae 2) (dC (.int 0)) FC)) (aq cX ak) ak) ak)) ak)):=rfl;rw[cJ,hb];open_line with[i1,sO,sL,o6,hf]
def zY{ks:bi}(h:ks.length<=900):c8 [.lst (ks.map λ(k:Nat)=>D.int (k:Int))]=.ok (.lst (ks.reverse.map λ(k:Nat)=>D.int (k:Int))):=by
 have s1:f9 (ai (af (ae 0) aA) cJ) [.sh (.lst (ks.map λ(k:Nat)=>D.int (k:Int)))]=.ok (.nx [.sh (.lst (ks.map λ(k:Nat)=>D.int (k:Int)))]):=by
  open_line with[wb h]
 show(iX [.sh (.lst (ks.map λ(k:Nat)=>D.int (k:Int)))]).bind JJ=_;unfold iX;rw[K59.sqF_eq s1,List.map_reverse];rfl
def wX{ks:bi}(h:ks.length<=900):aN [.lst (ks.map λ(k:Nat)=>D.int (k:Int)),.lst (ks.map λ(k:Nat)=>D.int (k:Int))]=.ok (.bl true):=by
 show aM 5 _=_;rw[nJ];refine K64.alike_lst (by rw[List.length_map];omega) λd hd=>?_;obtain⟨k,_,rfl⟩:=List.mem_map.mp hd;exact K64.alike_int
def DD{ks:bi}:ic (.lst (ks.map λ(k:Nat)=>D.int (k:Int))) (.lst (ks.map λ(k:Nat)=>D.int (k:Int)))=.ok (.bl false):=by
 have hs:bb 40 (.lst (ks.map λ(k:Nat)=>D.int (k:Int)))=true:=List.all_eq_true.mpr λd hd=>by
  obtain⟨k,_,rfl⟩:=List.mem_map.mp hd;rfl
 unfold ic;rw[if_pos ⟨hs,hs⟩,gu 40 _ hs];rfl
def GS{ks:bi}(h:ks≠[]):ic (.lst (ks.map λ(k:Nat)=>D.int (k:Int))) (.lst [])=.ok (.bl true):=by
 cases ks with
 |nil=>exact absurd rfl h
 |cons k r=>
  have hs:bb 40 (.lst ((k::r).map λ(k:Nat)=>D.int (k:Int)))=true:=List.all_eq_true.mpr λd hd=>by
   obtain⟨k,_,rfl⟩:=List.mem_map.mp hd;rfl
  unfold ic;rw[if_pos ⟨hs,rfl⟩];rfl
def RT:am:=(aq (bh (dC (.bl false))) ak)
noncomputable def WB:am:=(aq (jq 8 (ai (af (ae 9) aA) c8)) (aq (cP (bR (ai (af (ae 8) (af (aS (ae 10) nk) aA)) aN)) RT ak) (aq (bW 8 (dC (.int 99))) (aq (ue 8 (cP (gY (aa (ae 9) (ae 10) ic) (bR (ai (af (ai (af (ae 9) aA) c8) (af (aS (ae 10) nk) aA)) aN))) RT ak)) ak))))
noncomputable def RS:am:=(aq (cP (bR (ai (af (ai (af (ae 1) (af (ai (af (ae 1) (af (aa (ae 3) (dC (.int 7)) aJ) aA)) cV) (af (aa (ae 3) (dC (.int 6)) aJ) aA))) cx) (af (ae 4) aA)) cn)) RT ak) (aq (aV 9 (dE 2 [] (vO (ai (af (ae 1) (af (ai aA bM) (af (eV (ae 3) (bZ (dC (.int 8))) dH) aA))) dI)) (cD [0,1]) mYes (ae 0))) (aq (aV 10 (ai (af (ae 9) aA) (m1 iA))) (aq (cP (aa (ae 9) (ai aA bM) ic) WB ak) (aq (cP (gY (bR (ai (af (ae 1) (af (ai (af (ae 0) aA) cC) aA)) aN)) (bR (ai (af (uY (ai (af (ae 1) aA) eT)) (af (ai (af (ae 1) aA) cM) aA)) aN))) RT ak) ak)))))
def T1:al:=(bR (ai (af (uY (ae 6)) (af (ai (af (ae 1) (af (ae 4) (af (ae 5) aA))) ee) aA)) aN))
def T2:al:=(bR (ai (af (uY (ai (af (uY (ae 6)) (af (aS (ae 4) pw) (af (aS (ae 5) pw) aA))) gq)) (af (ae 1) aA)) aN))
def T3:al:=(gY (bR (ai (af (uY (ae 7)) (af (ai (af (ae 1) aA) cM) aA)) aN)) (bR (ai (af (uY (ai (af (uY (ae 7)) aA) eT)) (af (ae 1) aA)) aN)))
def F6:al:=(ai (af (ae 1) (af (ae 4) (af (ae 5) aA))) gq)
def F7:al:=(ai (af (ae 1) aA) eT)
noncomputable def SZ:al:=(aa (ai (af (dC (.int 5)) (af (aa (dC (.int 10)) (dC (.int 18)) qt) (af (dC (.int 30)) (af (dC (.int 5)) (af (aa (dC (.int 10)) (dC (.int 18)) qt) (af (dC (.int 30)) (af (dC (.int 5)) (af (dC (.int 16384)) aA)))))))) bM) (nc (ai (af (dC (.int 360360)) aA) bM) (dC (.int 6))) bC)
def CE:al:=(aa (aa (ai (af (ae 0) aA) cv) (dC (.int 1)) aJ) (ai (af (dC (.int 7)) aA) bM) bC)
noncomputable def LB:am:=(aq (aV 3 (ai (af (ae 2) (af SZ aA)) bQ)) (aq (aV 4 (ai (af (ae 3) aA) cz)) (aq (aV 5 (ai (af (eV (ae 3) (bZ (dC (.int 3))) dH) aA) cz)) ((gU 6 [1,4,5] F6 (ku T1 RT (ku T2 RT (gU 7 [1] F7 (ku T3 RT (kO 8 6 7 RS)))))) []))))
def L7:List Int:=[5,1000000000000000000,30,5,1000000000000000000,30,5,16384,360360,360360,360360,360360,360360,360360]
def Fi{ρ:Ev}:SZ ρ=.ok (.lst (L7.map D.int)):=rfl
def GX:FG=(aq (aV 1 (ai (af (ae 0) aA) cC)) (aq (kg CE (dg 2) LB) (aq (bh (dC (.bl true))) ak))):=rfl
def HW:cV=K59.cV:=rfl
def B0:cx=K59.cx:=rfl
def oZ{f:al}{s:am}{g:List (Nat×D)->am}{T:List (Nat×D)}{ρ:Ev}(h:f (FR T ρ)=.ok (.bl false)):ku f s g T ρ=g T ρ:=by
 unfold ku;rw[h];rfl
def qX{x:Nat}{js:bi}{f:al}{g:List (Nat×D)->am}{T:List (Nat×D)}{ρ:Ev}{d:D}(h:f (mN js ρ)=.ok d)(hc:IA js ρ=true/\Iz d=true/\x<ρ.length/\(T.all λp=>p.1 != x)=true):gU x js f g T ρ=g (T++[(x,d)]) (ρ.set x .no):=by
 unfold gU;rw[h];exact if_pos hc
def JL{u:fR}(U:dy u):Iz (eJ u)=true:=by
 show decide ((u.ts.map aL).length<line)=true;have:=U.t14;exact decide_eq_true (by rw[List.length_map];exact Nat.lt_of_le_of_lt this (by decide))
def FD{vs:List Int}{n:Nat}(h:n<=vs.length)(h2:vs.length=14):jL (vs.map D.int) (some (n:Int)) none=(vs.drop n).map D.int:=by
 rw[j0,HT.sIx_none,HT.sIx_nat];rw[List.take_of_length_le (by rw[List.length_drop];omega)]
 congr 1
 congr 1
 omega
section
variable {w:fR}(W:dy w) (M:∀t∈w.ts,lQ t)
include W M
theorem CZ{ns:List Int}(hw:cC [.lst (ns.map D.int)]=.ok (bg w)){vs:List Int}(hvl:vs.length=14){v6 v7:Int}(i6:aJ (.lst (vs.map D.int)) (.int 6)=.ok (.int v6))(i7:aJ (.lst (vs.map D.int)) (.int 7)=.ok (.int v7))(b6:0<=v6/\v6<5){s:dP}(hs:vE s){c:D}{x5 x9 x10:Sl}(q9:Pl x9)(q10:Pl x10) :
  ∃y8 d9 d10,Pl y8/\RS [.sh (.lst (ns.map D.int)),.sh (bg w),.sh c,.sh (.lst (vs.map D.int)),.sh (fr s),x5,.no,.no,.no,x9,x10]=.ok (.nx [.sh (.lst (ns.map D.int)),.sh (bg w),.sh c,.sh (.lst (vs.map D.int)),.sh (fr s),x5,.no,.no,y8,.sh d9,.sh d10]):=by
 obtain⟨tk,hbits⟩:=K59.EY W v7;rw[←HW]at hbits;obtain⟨S,L,hpr⟩:=K59.prices_S W (tk:=tk) b6.1 b6.2;rw[←B0]at hpr;have n7:=W.n7;have ndr:w.ps.reverse.Nodup:=(List.reverse_perm _).nodup_iff.mpr W.nm.1;have hpri:=rO (ks:=w.ps.reverse) ndr (by rw[List.length_reverse];exact n7) (g:=K59.pg w S v6) (λp x e=>K59.pg_bd W L b6.1 b6.2 e) hs;have h8:jL (vs.map D.int) (some 8) none=(vs.drop 8).map D.int:=FD (vs:=vs) (n:=8) (by omega) hvl;obtain⟨st,hwy,_,hsl⟩:=FQ W (es:=vs.drop 8) (by rw[List.length_drop];omega);have cmp:∀ρ:Ev,ja 2 [] (cD [0,1]) mYes (ae 0) ρ (st.map nZ)=.ok (.lst ((st.map (·.1)).map λ(k:Nat)=>D.int (k:Int))):=λρ=>by
  rw[iB (F:=λd=>match d with|.tup [x,_]=>x|d=>d) (by rw[List.length_map];omega)]
  .rw[List.map_map,List.map_map]
   exact congrArg (λl=>ax.ok (D.lst l)) (List.map_congr_left λx _=>rfl)
  .intro d hd
   obtain⟨x,_,rfl⟩:=List.mem_map.mp hd;refine⟨[.sh (.int (x.1:Int)),.sh (.int x.2)],?_,rfl,?_⟩
   .exact uP rfl
   .open_line with[nZ]
 have hkl:(st.map (·.1)).length<=900:=by rw[List.length_map];omega
 generalize st.map (·.1)=ks at cmp hkl;have aw:=lO W;have htu:=lY W;have hlt:=oI W;have av:=lO (Fe W);have fg:=eU (Af w);have dl:iA (.lst (ks.map λ(k:Nat)=>D.int (k:Int)))=.ok (.lst (ks.map λ(k:Nat)=>D.int (k:Int))):=rfl
 by_cases hk:ks=[]
 .subst hk
  have ne0:ic (.lst []) (.lst [])=.ok (.bl false):=rfl;have dl:iA (.lst [])=.ok (.lst []):=rfl;simp only[List.map_nil]at cmp;refine⟨.no,.lst [],.lst [],.inl rfl,?_⟩;open_line with[RS,i6,i7,hbits,hpr,hpri,h8,hwy,fU,cmp,dl,ne0,hw,aw,lj,htu,fg,hlt,av]
 .have ne1:=GS hk
  have hwt:=zY hkl;have hrv:nk (.lst (ks.map λ(k:Nat)=>D.int (k:Int)))=.ok (.lst (ks.reverse.map λ(k:Nat)=>D.int (k:Int))):=by rw[List.map_reverse];rfl
  have an:=wX (ks:=ks.reverse) (by rw[List.length_reverse];exact hkl);have ns_:=DD (ks:=ks);have hap:decide ((ks.reverse.map λ(k:Nat)=>D.int (k:Int)).length<=999)=true:=decide_eq_true (by rw[List.length_map,List.length_reverse];omega);refine⟨.sh (.lst ((ks.reverse.map λ(k:Nat)=>D.int (k:Int))++[.int 99])),.lst (ks.map λ(k:Nat)=>D.int (k:Int)),.lst (ks.map λ(k:Nat)=>D.int (k:Int)),.inr ⟨_,rfl⟩,?_⟩;open_line with[RS,WB,i6,i7,hbits,hpr,hpri,h8,hwy,fU,cmp,dl,ne1,hwt,hrv,an,dh hap,ns_,hw,aw,lj,htu,fg,hlt,av]
set_option maxHeartbeats 1000000 in
theorem CI{ns:List Int}(hw:cC [.lst (ns.map D.int)]=.ok (bg w))(cl:Int){b3 b4 b5 b8 b9 b10:Sl}(h8:Pl b8)(h9:Pl b9)(h10:Pl b10):∃d3 d4 d5 y8 d9 d10,Pl y8 /\
  LB [.sh (.lst (ns.map D.int)),.sh (bg w),.sh (.int cl),b3,b4,b5,.no,.no,b8,b9,b10]=.ok (.nx [.sh (.lst (ns.map D.int)),.sh (bg w),.sh (.int cl),.sh d3,.sh d4,.sh d5,.no,.no,y8,.sh d9,.sh d10]):=by
 obtain⟨vs,hd,Dr⟩:=Cod.lC cl L7 (by decide) (by decide);have hvl:vs.length=14:=Dr.len;obtain⟨v0,g0,b0,i0⟩:=Dr.ix 0 0 rfl rfl;obtain⟨v1,g1,b1,i1⟩:=Dr.ix 1 1 rfl rfl;obtain⟨v2,g2,b2,i2⟩:=Dr.ix 2 2 rfl rfl;obtain⟨v3,g3,b3',_⟩:=Dr.ix 3 3 rfl rfl;obtain⟨v4,g4,b4',_⟩:=Dr.ix 4 4 rfl rfl;obtain⟨v5,g5,b5',_⟩:=Dr.ix 5 5 rfl rfl;obtain⟨v6,g6,b6,i6⟩:=Dr.ix 6 6 rfl rfl;obtain⟨v7,g7,b7,i7⟩:=Dr.ix 7 7 rfl rfl;have j3:aJ (.lst ((vs.drop 3).map D.int)) (.int 0)=.ok (.int v3):=eZ (k:=0) (by rw[List.getElem?_map,List.getElem?_drop,g3];rfl);have j4:aJ (.lst ((vs.drop 3).map D.int)) (.int 1)=.ok (.int v4):=eZ (k:=1) (by rw[List.getElem?_map,List.getElem?_drop,g4];rfl);have j5:aJ (.lst ((vs.drop 3).map D.int)) (.int 2)=.ok (.int v5):=eZ (k:=2) (by rw[List.getElem?_map,List.getElem?_drop,g5];rfl);obtain⟨s,hsf,hs,ss⟩:=qW i0 i1 i2 b0 b1 b2;obtain⟨c,hcf,hc,sc⟩:=qW j3 j4 j5 b3' b4' b5';have c3:jL (vs.map D.int) (some 3) none=(vs.drop 3).map D.int:=FD (vs:=vs) (n:=3) (by omega) hvl;have U:=Jj W M hs hc ss sc;have hsc:=qH W hs hc;have hls:=wm W hs hc;have hbk:=qH U hs.flip hc.flip;rw[CW W hs hc]at hbk;have r1:pw (fr s)=.ok (fr (s.2,s.1)):=rfl;have r2:pw (fr c)=.ok (fr (c.2,c.1)):=rfl;have V:=Fe W;have htu:=lY W;have hlt:=oI W;have htb:=lY V;rw[CJ]at htb;have aw:=lO W;have au:=lO U;have av:=lO V;have fw:=eU w;have fu:=eU (yG w s c);have fv:=eU (Af w);obtain⟨y8,d9,d10,p8,hR⟩:=CZ W M hw hvl i6 i7 b6 hs (c:=.int cl) (x5:=.sh (fr c)) h9 h10;refine⟨.lst (vs.map D.int),fr s,fr c,y8,d9,d10,p8,?_⟩;have hT:gU 6 [1,4,5] F6 (ku T1 RT (ku T2 RT (gU 7 [1] F7 (ku T3 RT (kO 8 6 7 RS))))) [] [.sh (.lst (ns.map D.int)),.sh (bg w),.sh (.int cl),.sh (.lst (vs.map D.int)),.sh (fr s),.sh (fr c),.no,.no,b8,b9,b10]=.ok (.nx [.sh (.lst (ns.map D.int)),.sh (bg w),.sh (.int cl),.sh (.lst (vs.map D.int)),.sh (fr s),.sh (fr c),.no,.no,y8,.sh d9,.sh d10]):=by
  have ek:F6 (mN [1,4,5] [.sh (.lst (ns.map D.int)),.sh (bg w),.sh (.int cl),.sh (.lst (vs.map D.int)),.sh (fr s),.sh (fr c),.no,.no,b8,b9,b10])=.ok (eJ (yG w s c)):=hsc;have o1:IA [1,4,5] [.sh (.lst (ns.map D.int)),.sh (bg w),.sh (.int cl),.sh (.lst (vs.map D.int)),.sh (fr s),.sh (fr c),.no,.no,b8,b9,b10]=true:=by
   show(bO (bg w)&&(bO (fr s)&&(bO (fr c)&&true)))=true;rw[fX];rfl
  rw[qX ek ⟨o1,JL U,by show 6<11;decide,rfl⟩];show ku T1 RT _ [(6,eJ (yG w s c))] [.sh (.lst (ns.map D.int)),.sh (bg w),.sh (.int cl),.sh (.lst (vs.map D.int)),.sh (fr s),.sh (fr c),.no,.no,b8,b9,b10]=_;obtain⟨x8,x9,x10,ev⟩:∃x8 x9 x10,FR [(6,eJ (yG w s c))] [.sh (.lst (ns.map D.int)),.sh (bg w),.sh (.int cl),.sh (.lst (vs.map D.int)),.sh (fr s),.sh (fr c),.no,.no,b8,b9,b10]=[.sh (.lst (ns.map D.int)),.sh (bg w),.sh (.int cl),.sh (.lst (vs.map D.int)),.sh (fr s),.sh (fr c),.sh (eJ (yG w s c)),.no,x8,x9,x10]:=⟨_,_,_,rfl⟩
  rw[oZ (by
   rw[ev];open_line with[T1,lj,fu,hls,au]),oZ (by rw[ev];open_line with[T2,lj,fu,r1,r2,hbk,fw,aw])]
  have ek7:F7 (mN [1] [.sh (.lst (ns.map D.int)),.sh (bg w),.sh (.int cl),.sh (.lst (vs.map D.int)),.sh (fr s),.sh (fr c),.no,.no,b8,b9,b10])=.ok (eJ (Af w)):=htu;have o7:IA [1] [.sh (.lst (ns.map D.int)),.sh (bg w),.sh (.int cl),.sh (.lst (vs.map D.int)),.sh (fr s),.sh (fr c),.no,.no,b8,b9,b10]=true:=by
   show(bO (bg w)&&true)=true;rw[fX];rfl
  rw[qX ek7 ⟨o7,JL V,by show 7<11;decide,rfl⟩];show ku T3 RT _ [(6,eJ (yG w s c)),(7,eJ (Af w))] [.sh (.lst (ns.map D.int)),.sh (bg w),.sh (.int cl),.sh (.lst (vs.map D.int)),.sh (fr s),.sh (fr c),.no,.no,b8,b9,b10]=_;obtain⟨z8,z9,z10,ev2⟩:∃x8 x9 x10,FR [(6,eJ (yG w s c)),(7,eJ (Af w))] [.sh (.lst (ns.map D.int)),.sh (bg w),.sh (.int cl),.sh (.lst (vs.map D.int)),.sh (fr s),.sh (fr c),.no,.no,b8,b9,b10]=[.sh (.lst (ns.map D.int)),.sh (bg w),.sh (.int cl),.sh (.lst (vs.map D.int)),.sh (fr s),.sh (fr c),.sh (eJ (yG w s c)),.sh (eJ (Af w)),x8,x9,x10]:=⟨_,_,_,rfl⟩
  rw[oZ (by
   rw[ev2];open_line with[T3,lj,fv,hlt,av,htb,fw,aw])]
  have nO:wc [.sh (.lst (ns.map D.int)),.sh (bg w),.sh (.int cl),.sh (.lst (vs.map D.int)),.sh (fr s),.sh (fr c),.no,.no,b8,b9,b10]=true:=by
   rcases h8 with rfl|⟨_,rfl⟩<;>rcases h9 with rfl|⟨_,rfl⟩<;>rcases h10 with rfl|⟨_,rfl⟩<;>rfl
  refine(if_pos ⟨nO,by show 8<11;decide,rfl,rfl⟩).trans ?_;exact hR
 open_line with[LB,Fi,hd,hsf,c3,hcf,hT]
end
def zB{ns:List Int}(hn:ns.length<=63):∃cs:List Int,cs.length<=100/\∀x:List Sl,CE (.sh (.lst (ns.map D.int))::x)=.ok (.lst (cs.map D.int)):=by
 obtain⟨c1,c2,hc,_,h2⟩:=Cod.vc hn;refine⟨c2++[7],by rw[List.length_append];simp;omega,λx=>?_⟩;have i1:aJ (.tup [.lst (c1.map D.int),.lst (c2.map D.int)]) (.int 1)=.ok (.lst (c2.map D.int)):=rfl;have a1:bC (.lst (c2.map D.int)) (.lst [.int 7])=.ok (.lst ((c2++[7]).map D.int)):=by
  rw[lp (decide_eq_true (by rw[List.length_map];simp;omega)),List.map_append];rfl
 open_line with[CE,hc,i1,a1]
set_option maxHeartbeats 1000000 in
def Bu(ns:List Int)(h:ns.length<=63):m_law [.lst (ns.map D.int)]=.ok (.bl true):=by
 obtain⟨w,_,_,_,_,_,hw,W,M⟩:=Cod.web_sm h;obtain⟨cs,hcl,hcs⟩:=zB h;obtain⟨ρ',hf,b2,b3,b4,b5,b8,b9,b10,_,_,_,hP⟩:=eC (tg:=dg 2) (body:=LB) (ds:=cs.map D.int) (λk ρ=>∃b2 b3 b4 b5 b8 b9 b10,Pl b8/\Pl b9/\Pl b10/\ρ=[.sh (.lst (ns.map D.int)),.sh (bg w),b2,b3,b4,b5,.no,.no,b8,b9,b10]) (λk d hd ρ z9=>by
   obtain⟨b2,b3,b4,b5,b8,b9,b10,p8,p9,p10,hρ⟩:=z9;subst hρ;rw[List.getElem?_map]at hd;cases e:cs[k]? with
   |none=>rw[e]at hd;cases hd
   |some c=>
    rw[e]at hd;cases hd;obtain⟨d3,d4,d5,y8,d9,d10,q8,ht⟩:=CI W M hw c (b3:=b3) (b4:=b4) (b5:=b5) p8 p9 p10;exact⟨_,_,rfl,ht,.sh (.int c),.sh d3,.sh d4,.sh d5,y8,.sh d9,.sh d10,q8,.inr ⟨_,rfl⟩,.inr ⟨_,rfl⟩,rfl⟩) (ρ:=[.sh (.lst (ns.map D.int)),.sh (bg w),.no,.no,.no,.no,.no,.no,.no,.no,.no]) ⟨_,_,_,_,_,_,_,.inl rfl,.inl rfl,.inl rfl,rfl⟩
 subst hP;rw[m_law,GX];open_line with[hw,BQ,hcs,hf]
end K61
namespace K61
open PySem L2 DL
def sp_law(K:W.Frag)(H:Hp)(a:Addr)(ns:List Int)(hl:ns.length<=63)(hS:dF K H a (ns.map V.int)):spD K 1 m_law [.ref a] H (λv _=>v=.bl true) λ_ _ _=>False:=by
 refine⟨rfl,H,[.lst (ns.map D.int)],aF.refl _,Reps.cons (aB.mpr ⟨a,_,rfl,hS,mz ns⟩) Reps.nil,?_⟩;rw[Bu ns hl];exact λv H' Ha' _ r=>aK.mp r
end K61
structure PySem.W.Fast:Prop where(tw9230585038165966769 tw9598905177539160578 tw11404534588076190771 tw9254851162242674406 tw16401663652479491969 tw2202565441150794233 tw17138538654744281432 tw15150915513473404840 tw12235523820435976400 tw2312869542008236925 tw10902421042678045737 tw5738265455435472325 tw5754334369752281832 tw4809487809367776471 tw11450391061467030866 tw18045374483216744893 tw5672133435008526688 tw3858629883069652200 tw13541052460875968871 tw13445163722733176545 tw15358424332537524220 tw11261970913775389099 tw10350454849799263160 tw4502045949643422797 tw3656892515858014777 tw5388730889498528893 tw17922974427424959833 tw5714983220598542676 tw7257634194111923786 tw15867289179069276100 tw15054683196231532729 tw7933678106696747349 tw12412810903719858431 tw14287547289789988863 tw797949870731016265 tw12139294846565609739 tw8397989691295194447 tw7955771704728413816 tw4249599244496852349 tw7644386789978558603 tw10249494454772282104 tw15323458754046325812 tw11999288894303863927 tw15377571082821421570 tw12277556493676437582 tw10099356735167421175 tw8702325776047346513 tw11626290065447471237 tw8474871412179334547 tw2779150148420837050 tw7133608111071059657 tw758659139028282870 tw16620069484620051992 tw10253644270364181673 tw2906050587995452911 tw12893017913677906410 tw4321406962712368713 tw2529109137619538694 tw10067507011418081218 tw6053223511252055305 tw9785367937076986507 tw17777529407332236285 tw11180540648716823091 tw16374256970664568434 tw14943830488880670608 tw8642914283092638156 tw8310494642736946063 tw18442740181023691114 tw11859797270156220227 tw13495339953530035928 tw4303413319025863486 tw10234290586217359715 tw6352715468048897067 tw386838260540690890 tw17116201510940081015 tw2430334866026614937 tw15692075398649396755 tw2437091089443489148 tw16388454941092721976 tw2180155754167853277 tw2142711621839667935 tw465740274043403227 tw10491697728894624674 tw9888582214475636256 tw15619241461817508114 tw17076846521407702965 tw7769183100623603060 tw337962306758341189 tw7499329511197517349 tw14640320463381466512 tw16737832427886296439 tw7666416483739161858 tw16300346502771392475 tw121835942705400771 tw18057954538957564838 tw3916637501890126892 tw13893011185310028733 tw14751514951686072188 tw9642113122921484118 tw12337224028931949552 tw11595393775462778975 tw10906760584185536289 tw9666417328479597573 tw15357372661723657800 tw12094271077182589403 tw2949360962683737298 tw7016399627128572981 tw16407198093853212149:True)
open PySem PySem.W PyProof.Rows
set_option maxRecDepth 100000 in
set_option maxHeartbeats 0 in
theorem PySem.Challenge.cw_farthestcut_k61_turned_about_and_scaled_holds : PySem.Challenge.rw_farthestcut_k61_turned_about_and_scaled.Holds := by
 w_on;o_law;k_head;(case hw=>w_witness2)
 k_fill
 refine L2.walk_ofK (l:=PySem.Challenge.rw_farthestcut_k61_turned_about_and_scaled) (n:=63) (k:=8) (x:="_law_script") (CX:=L2.CX0) (sp:=fun K=>DL.spD K 1 K61.m_law) ?I rfl (by decide) rfl ⟨rfl,by decide,by decide,rfl⟩ (fun w h Y=>W.kIn_of Y) ?F ?S ?C
 case S=>exact fun K H a ns hl _ hS=>K61.sp_law K H a ns hl hS
 case C=>exact fun _ _ _ _ h=>h
 case I=>rfl
 case F =>
  intro w mg fa h KX G hmg;have T:∃ t:K61.Adr,K61.Txt (L2.KOf KX) mg t/\mg "law"=some (.ref (t.A 40))/\∃ kV doc pm an cdv ct,t.Q 40=W.fnOf "law" "law" (L2.defArgs (K61.top 68)) (L2.defBody (K61.top 68)) (L2.defScope (K61.top 68)) .none kV doc pm an cdv ct:=by
   dsimp only[L2.KOf];refine' K61.txt_wr (K61.txt_mk KX G ?QS ?_ ?_ ?_ ?_ ?_ ?_ ?_ ?_ ?_ ?_ ?_ ?_ ?_ ?_ ?_ ?_ ?_ ?_ ?_ ?_ ?_ ?_ ?_ ?_ ?_ ?_ ?_ ?_ ?_ ?_ ?_ ?_ ?_)
   case' QS=>iterate 41 refine DL.QAs.cons ⟨by k_is,by k_is,_,_,_,_,_,_,_,_,_,by k_is,by k_is⟩ ?_
   case QS=>trivial
   all_goals try first |k_is |k_exc |rfl
   exact⟨_,_,_,_,[.str "one",.str "both"],rfl,.cons ⟨_,rfl⟩ (.cons ⟨_,rfl⟩ (.nil)),by decide,fun H=>DL.Reps.cons (DL.Rep.str_iff.mpr rfl) (DL.Reps.cons (DL.Rep.str_iff.mpr rfl) (DL.Reps.nil))⟩
  obtain⟨t,T,e0,kV,doc,pm,an,cdv,ct,ed⟩:=T;have e1:=hmg.symm.trans e0;cases e1;refine⟨t.Q 40,fun s u=>?_,fun base kb nb=>(K61.ok_law T).F⟩;rw[ed];exact .of_eq rfl
