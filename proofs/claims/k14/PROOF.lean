import PyProof.Rows.All
import Wide.All
import OpenK.AllK
import Wide.FinOn
import PyProof.EqAt
import PyProof.EqKinds
import PyProof.NeKinds
import PyProof.TupleCall
import PyProof.StrWalks
import PyProof.EnumMake
import PyProof.WalksEnum
import PyProof.ZipIter
import PyProof.Rows.ZipGen
import PyProof.Rows.SortWalk
import KE.KSortedM
import PyProof.StrLawsIdx
import PyProof.StrLawsNeg
import PyProof.ExcInit
import PyProof.InstStoreFacts
import PyProof.AttrMissHeap
import PyProof.FactsAll.enumerate
import PyProof.FactsAll.dict_1
import KE.KDictOf
import KE.KItemsList
import PyProof.ReprRoads
import PyProof.FitsInt
import KE.LcSums
import PySem.Challenge.RW_farthestcut_k14_least_ways_told
set_option compiler.extract_closed false
set_option bootstrap.genMatcherCode false
set_option autoImplicit true
set_option Elab.async false
set_option linter.all false
set_option maxRecDepth 100000
set_option maxHeartbeats 4000000
noncomputable section
abbrev bi:=List Nat
namespace L2
open PySem PySem.Spec PyProof.Rows
abbrev eA:=Sum Int Str
def pd:eA->Value->Bool
 |.inl k,v=>Value.isInt k v
 |.inr x,v=>Value.isStrOf x v
def LP(w:World):eA->Int
 |.inl k=>hashInt k
 |.inr x=>hashStr w x
theorem cm:∀{k:eA}{v:Value},pd k v=true->(∃i t,k=Sum.inl i/\v=Value.int i t)∨(∃x t,k=Sum.inr x/\v=Value.str x t)
 |.inl i,v,h=>by
  obtain⟨t,e⟩:=Value.isInt_shape (k:=i) (v:=v) h;exact .inl ⟨i,t,rfl,e⟩
 |.inr x,v,h=>by
  obtain⟨t,e⟩:=Value.isStrOf_shape (x:=x) (v:=v) h;exact .inr ⟨x,t,rfl,e⟩
def AX(i:Int)(t:Tok):pd (.inl i) (.int i t)=true:=by simp[pd,Value.isInt]
def AW(x:Str)(t:Tok):pd (.inr x) (.str x t)=true:=by simp[pd,Value.isStrOf]
def Ij(a b:Int):decide ((Sum.inl a:eA)=Sum.inl b)=(a==b):=by
 by_cases e:a=b
 .subst e;simp
 .have h:¬(Sum.inl a:eA)=Sum.inl b:=λq=>e (Sum.inl.inj q)
  rw[decide_eq_false h];exact(beq_eq_false_iff_ne.mpr e).symm
def Ig(a b:Str):decide ((Sum.inr a:eA)=Sum.inr b)=decide (a=b):=by
 by_cases e:a=b
 .subst e;simp
 .have h:¬(Sum.inr a:eA)=Sum.inr b:=λq=>e (Sum.inr.inj q)
  rw[decide_eq_false h,decide_eq_false e]
def Ii(a:Int)(b:Str):decide ((Sum.inl a:eA)=Sum.inr b)=false:=decide_eq_false (λq=>nomatch q)
def Ih(a:Str)(b:Int):decide ((Sum.inr a:eA)=Sum.inl b)=false:=decide_eq_false (λq=>nomatch q)
noncomputable def cB(prog:Program) (w:World):PySem.KeyKind prog w eA where
 is:=pd
 hash:=LP w
 inj:=λv a b ha hb=>by
  rcases cm ha with⟨i,t,rfl,rfl⟩|⟨x,t,rfl,rfl⟩
  .rcases cm hb with⟨j,u,rfl,e⟩|⟨y,u,rfl,e⟩
   .injection e with e1 _;rw[e1]
   .exact nomatch e
  .rcases cm hb with⟨j,u,rfl,e⟩|⟨y,u,rfl,e⟩
   .exact nomatch e
   .injection e with e1 _;rw[e1]
 byValue:=λk v h=>by
  rcases cm h with⟨i,t,rfl,rfl⟩|⟨x,t,rfl,rfl⟩<;>rfl
 pyHash:=λhv h=>by
  rcases cm hv with⟨i,t,rfl,rfl⟩|⟨x,t,rfl,rfl⟩
  .exact wpAny_pyHash_int h
  .exact wpAny_pyHash_str h
 eqBool:=λhu hv h=>by
  rcases cm hu with⟨i,t,rfl,rfl⟩|⟨x,t,rfl,rfl⟩
  .rcases cm hv with⟨j,u,rfl,rfl⟩|⟨y,u,rfl,rfl⟩
   .rw[Ij]at h;exact wpAny_eqBool_int h
   .rw[Ii]at h;exact SeqAt.EqAt.int_str i t y u _ _ _ _ h
  .rcases cm hv with⟨j,u,rfl,rfl⟩|⟨y,u,rfl,rfl⟩
   .rw[Ih]at h;exact SeqAt.EqAt.str_int x t j u _ _ _ _ h
   .rw[Ig]at h;exact wpAny_eqBool_str h
 «strs»:=λk x t v h=>by
  rcases cm h with⟨i,u,rfl,e⟩|⟨y,u,rfl,e⟩
  .exact nomatch e
  .injection e with e1 _
   subst e1;cases v<;>rfl
def vq(prog:Program)(w:World)(i:Int)(t:Tok):(cB prog w).is (.inl i) (.int i t)=true:=AX i t
def vp(prog:Program)(w:World)(x:Str)(t:Tok):(cB prog w).is (.inr x) (.str x t)=true:=AW x t
inductive V where
 |non|bl (b:Bool)|int (i:Int)|str (x:Str)|byt (b:Array UInt8)|flt (b:UInt64)|ref (a:Addr)|ty (n:String)
 deriving DecidableEq
abbrev ad:=List V
noncomputable def bo:V->Value->Prop
 |.non,u=>u=Value.none
 |.bl b,u=>u=Value.bool b
 |.int i,u=>∃t,u=Value.int i t
 |.str x,u=>∃t,u=Value.str x t
 |.byt b,u=>∃t,u=Value.bytes b t
 |.flt b,u=>∃t,u=Value.float b t
 |.ref a,u=>u=Value.ref a
 |.ty n,u=>u=Value.type n
abbrev bD:ad->List Value->Prop:=Paired bo
def bD.length(r:bD xs us):xs.length=us.length:=Paired.length r
theorem bD.get:∀{xs:ad}{us:List Value}{i:Nat}{x:V},bD xs us->xs[i]?=some x->∃u,us[i]?=some u/\bo x u
 |_,_,_,_,.nil,e=>by simp at e
 |_,_,0,_,.cons r _,e=>by simp at e;subst e;exact⟨_,rfl,r⟩
 |_,_,i+1,x,.cons _ t,e=>by
  obtain⟨u,h1,h2⟩:=bD.get (i:=i) (x:=x) t (by simpa using e);exact⟨u,by simpa using h1,h2⟩
theorem bD.set(r:bo x u):∀{xs:ad}{us:List Value}(i:Nat),bD xs us->bD (xs.set i x) (us.set i u)
 |_,_,_,.nil=>.nil
 |_,_,0,.cons _ t=>.cons r t
 |_,_,i+1,.cons q t=>.cons q (bD.set r i t)
theorem bD.append:∀{xs ys:ad}{us ws:List Value},bD xs us->bD ys ws->bD (xs++ys) (us++ws)
 |_,_,_,_,.nil,s=>s
 |_,_,_,_,.cons r t,s=>.cons r (bD.append t s)
theorem bD.take:∀{xs:ad}{us:List Value}(n:Nat),bD xs us->bD (xs.take n) (us.take n)
 |_,_,0,_=>.nil
 |_,_,_+1,.nil=>.nil
 |_,_,n+1,.cons r t=>.cons r (bD.take n t)
theorem bD.drop:∀{xs:ad}{us:List Value}(n:Nat),bD xs us->bD (xs.drop n) (us.drop n)
 |_,_,0,r=>r
 |_,_,_+1,.nil=>.nil
 |_,_,n+1,.cons _ t=>bD.drop n t
def wR:Option V->Option Value->Prop
 |some v,some u=>bo v u
 |none,none=>True
 |_,_=>False
def KV{κ:Type}:List (κ×V)->List (κ×Value)->Prop:=Paired λ(p:κ×V) (q:κ×Value)=>p.1=q.1/\bo p.2 q.2
def kV:eA->V
 |.inl i=>.int i
 |.inr x=>.str x
inductive HO where
 |lst (xs:ad)
 |tup (xs:ad)
 |dK (kvs:List (eA×V))|dT (kvs:List (List eA×V))
 |set (S:Int->Bool) (n:Nat)
 |ins (C dx:Addr) (fs:List (Str×V))
 |own (x:Addr)
 |xd (fs:List (Str×V))
 |met (f x:Addr)
 |rng (lo hi:Int)
 |frz (o:Obj) (u:HO)
 |tbl (ps:Array Value)
 |ext (φ:Heap->Prop)
abbrev Hp:=Addr->Option HO
def upd(H:Hp)(a:Addr)(o:HO):Hp:=λb=>if b=a then some o else H b
def aI:upd H a o a=some o:=by unfold upd;rw[if_pos rfl]
def az(h:b≠a):upd H a o b=H b:=by unfold upd;rw[if_neg h]
def Kh{H:Hp}(h:H a=some o)(h':H b=some u)(d:o≠u):a≠b:=by
 intro e;subst e;rw[h]at h';exact d (Option.some.inj h')
def bq{H:Hp}(h:H a=some o)(h':H b=none):a≠b:=by
 intro e;subst e;rw[h]at h';cases h'
section
variable (P:Program) (w:World)
noncomputable def cg(H:Hp) (h:Heap) (a:Addr):HO->Prop
 |.lst xs=>xs.length<=sizeLine/\∃(its:List Value) (n:Nat),bD xs its/\h.get? a=some { cls:=.type "list",data:=.seq its.toArray n }
 |.tup xs=>xs.length<=sizeLine/\∃its:List Value,bD xs its/\IsTup h a its.toArray
 |.dK kvs=>kvs.length<=sizeLine/\(a==sysModules)=false/\∃vs,KV kvs vs/\h.DictOf (cB P w) a vs
 |.dT kvs=>kvs.length<=sizeLine/\(a==sysModules)=false/\∃xs:List (List eA×Addr×Value),
   Paired (λ(p:List eA×V) (q:List eA×Addr×Value)=>p.1=q.1/\H q.2.1=some (.tup (p.1.map kV))/\bo p.2 q.2.2) kvs xs /\
   ∃o es ep,h.get? a=some o/\o.ExactDict/\o.data=.dict es ep/\es.toList=xs.map (entryOfKey (tupleKind (cB P w)))/\(xs.map (·.1)).Nodup
 |.set S n=>h.SetOf (intKind P w) a S n
 |.ins C dx fs=>H dx=some (.own a)/\fs.length<=1000/\dx≠a/\h.get? a=some (W.instObj C dx) /\
   ∃mA,h.Ns1 dx mA/\(∀f,wR (fs.lookup f) (mA f))/\PySem.Within mA (fs.map (·.1))
 |.own _=>∃o,h.get? a=some o
 |.xd fs=>∃mA,h.Ns1 a mA/\∀f,wR (fs.lookup f) (mA f)
 |.rng lo hi=>∃t u v,h.get? a=some { cls:=.type "range",data:=.fields #[.int lo t,.int hi u,.int 1 v] }
 |.frz o u=>h.get? a=some o/\cg H h a u
 |.tbl ps=>h.get? a=some { cls:=.none,data:=.fields ps }
 |.met f x=>h.get? a=some (W.methodObj (.ref f) (.ref x))
 |.ext φ=>φ h/\(∃o,h.get? a=some o)/\∀h1 h2:Heap,φ h1->(∀o,h1.get? a=some o->h2.get? a=some o)->φ h2
def kj(H:Hp)(h:Heap):Prop:=∀a o,H a=some o->cg P w H h a o
end
section
variable {P:Program}{w:World}{H H':Hp}{h h':Heap}{a:Addr}{o:HO}
def cg.lt(x:cg P w H h a o):a<h.objs.size:=by
 cases o with|lst xs=>obtain⟨_,_,_,_,e⟩:=x;exact Heap.lt_size e|tup xs=>obtain⟨_,_,_,p⟩:=x;exact p.lt|dK kvs|dT kvs=>obtain⟨_,_,_,_,o,_,_,e,_⟩:=x;exact Heap.lt_size e|set S n=>obtain⟨o,_,_,_,e,_⟩:=x;exact Heap.lt_size e|ins C dx fs=>obtain⟨_,_,_,e,_⟩:=x;exact Heap.lt_size e|own y=>obtain⟨_,e⟩:=x;exact Heap.lt_size e|xd fs=>obtain⟨_,⟨_,_,_,e,_⟩,_⟩:=x;exact Heap.lt_size e|rng lo hi=>obtain⟨_,_,_,e⟩:=x;exact Heap.lt_size e|frz ob u=>obtain⟨e,_⟩:=x;exact Heap.lt_size e|tbl ps|met f y=>exact Heap.lt_size (show h.get? a=some _ from x)|ext φ=>obtain⟨_,⟨_,e⟩,_⟩:=x;exact Heap.lt_size e
theorem jl{α β:Type}{F G:α->β->Prop}:∀{lb:List α}{lc:List β},Paired F lb lc->(∀a b,F a b->G a b)->Paired G lb lc
 |_,_,.nil,_=>.nil
 |_,_,.cons r t,f=>.cons (f _ _ r) (jl t f)
def cg.stay(x:cg P w H h a o)(k:∀b u,(b=a∨H b=some (.own a))->h.get? b=some u->h'.get? b=some u)
  (ho:∀b,H b=some (.own a)->H' b=some (.own a))(ht:∀b xs,H b=some (.tup xs)->H' b=some (.tup xs)):cg P w H' h' a o:=by
 induction o with
 |lst xs=>obtain⟨z,its,n,r,e⟩:=x;exact⟨z,its,n,r,k _ _ (.inl rfl) e⟩|tup xs=>obtain⟨z,its,r,ob,e,c⟩:=x;exact⟨z,its,r,ob,k _ _ (.inl rfl) e,c⟩|dK kvs=>obtain⟨z,y,vs,r,ob,es,ep,e,c⟩:=x;exact⟨z,y,vs,r,ob,es,ep,k _ _ (.inl rfl) e,c⟩
 |dT kvs=>
  obtain⟨z,y,xs,r,ob,es,ep,e,c⟩:=x;exact⟨z,y,xs,jl r λp q z=>⟨z.1,ht _ _ z.2.1,z.2.2⟩,ob,es,ep,k _ _ (.inl rfl) e,c⟩
 |set S n=>obtain⟨ob,es,ep,t,e,c⟩:=x;exact⟨ob,es,ep,t,k _ _ (.inl rfl) e,c⟩
 |ins C dx fs=>
  obtain⟨d,z,ne,e,mA,⟨od,es,ep,e2,c⟩,r⟩:=x;exact⟨ho _ d,z,ne,k _ _ (.inl rfl) e,mA,⟨od,es,ep,k _ _ (.inr d) e2,c⟩,r⟩
 |own y=>obtain⟨ob,e⟩:=x;exact⟨ob,k _ _ (.inl rfl) e⟩|xd fs=>obtain⟨mA,⟨od,es,ep,e,c⟩,r⟩:=x;exact⟨mA,⟨od,es,ep,k _ _ (.inl rfl) e,c⟩,r⟩|rng lo hi=>obtain⟨t,u,v,e⟩:=x;exact⟨t,u,v,k _ _ (.inl rfl) e⟩|frz ob u ih=>obtain⟨e,q⟩:=x;exact⟨k _ _ (.inl rfl) e,ih q⟩
 |tbl ps=>
  have e:h.get? a=some { cls:=.none,data:=.fields ps }:=x;show h'.get? a=some { cls:=.none,data:=.fields ps };exact k a _ (.inl rfl) e
 |met f y=>
  have e:h.get? a=some (W.methodObj (.ref f) (.ref y)):=x;show h'.get? a=some (W.methodObj (.ref f) (.ref y));exact k a _ (.inl rfl) e
 |ext φ=>obtain⟨p,⟨o,e⟩,st⟩:=x;exact⟨st _ _ p λo q=>k _ _ (.inl rfl) q,⟨o,k _ _ (.inl rfl) e⟩,st⟩
def kj.lt(x:kj P w H h)(e:H a=some o):a<h.objs.size:=(x a o e).lt
def kj.fresh(x:kj P w H h)(e:h.objs.size<=a):H a=none:=by
 cases q:H a with|none=>rfl|some u=>exact absurd (Nat.lt_of_lt_of_le (x.lt q) e) (Nat.lt_irrefl _)
def kj.kept(x:kj P w H h)(k:∀b u,h.get? b=some u->h'.get? b=some u):kj P w H h':=λa o e=>
 (x a o e).stay (λb u _ q=>k b u q) (λ_ q=>q) λ_ _ q=>q
def kj.laid(x:kj P w H h)(k:∀b u,h.get? b=some u->h'.get? b=some u)(hp:h.objs.size<=a)(new:cg P w (upd H a o) h' a o):kj P w (upd H a o) h':=λb u e=>by
 have hn:=x.fresh hp
 by_cases hb:b=a
 .subst hb;rw[aI]at e;cases e;exact new
 .rw[az hb]at e
  exact(x b u e).stay (λc v _ q=>k c v q) (λc q=>by rw[az (bq q hn)];exact q) λc xs q=>by rw[az (bq q hn)];exact q
end
def Rd(H:Hp)(a:Addr)(u:HO):Prop:=H a=some u∨∃o,H a=some (.frz o u)
def Rd.ok{h:Heap}(r:Rd H a u)(x:kj P w H h):cg P w H h a u:=by
 rcases r with r|⟨o,r⟩
 .exact x a u r
 .obtain⟨_,q⟩:=x a _ r
  exact q
def K1:Option HO->Prop
 |some (.lst _)=>True
 |some (.dK _)=>True
 |some (.dT _)=>True
 |some (.set _ _)=>True
 |some (.ins _ _ _)=>True
 |some (.ext _)=>True
 |_=>False
section
variable {P:Program}{w:World}{H:Hp}{h h':Heap}{x e:Addr}{o':HO}
def kj.write(ok:kj P w H h)(mu:K1 (H x))(he:e=x∨H e=some (.own x))(k:∀b u,b≠e->h.get? b=some u->h'.get? b=some u)(heo:∃u,h'.get? e=some u)
  (new:cg P w (upd H x o') h' x o'):kj P w (upd H x o') h':=λb u q=>by
 have nown:∀c y,H c=some (.own y)->c≠x:=λc y r z=>by subst z;rw[r]at mu;exact mu
 have ntup:∀c xs,H c=some (.tup xs)->c≠x:=λc xs r z=>by subst z;rw[r]at mu;exact mu
 by_cases hb:b=x
 .subst hb;rw[aI]at q;cases q;exact new
 .rw[az hb]at q
  by_cases hbe:b=e
  .have q':H b=some (.own x):=by
    rcases he with z|z
    .exact absurd (hbe.trans z) hb
    .rw[hbe];exact z
   rw[q]at q';cases q';obtain⟨v,hv⟩:=heo;exact⟨v,by rw[hbe];exact hv⟩
  .refine(ok b u q).stay (λc v hc r=>k c v ?_ r) (λc r=>by rw[az (nown c b r)];exact r) λc xs r=>by rw[az (ntup c xs r)];exact r
   rcases hc with rfl|hc
   .exact hbe
   .rintro rfl
    rcases he with z|z
    .exact nown c b hc z
    .rw[hc]at z;cases z;exact hb rfl
end
structure Un (fs ex:List Addr) (H H':Hp) (h h':Heap):Prop where
 keep:∀b o,h.get? b=some o->H b=none->b∉fs->b∉ex->h'.get? b=some o
 slot:∀b o,h.get? b=some o->H b=none->b∈fs->b∉ex->∃sl,h'.get? b=some { o with slots:=sl }
 free:∀b o,h.get? b=some o->H b=none->b∉ex->H' b=none
 there:∀b o,h.get? b=some o->b∉ex->∃o',h'.get? b=some o'
 tups:∀b xs,H b=some (.tup xs)->H' b=some (.tup xs)
 frzs:∀b o u,H b=some (.frz o u)->H' b=some (.frz o u)
 tbls:∀b ps,H b=some (.tbl ps)->∃more,H' b=some (.tbl (ps++more))
section
variable {fs fs' ex ex':List Addr}{H H1 H2:Hp}{h h1 h2 h':Heap}{a x e:Addr}{o:HO}
def Un.any(u:Un fs ex H H1 h h1)(q:h.get? b=some ob)(n:H b=none)(hx:b∉ex):∃sl,h1.get? b=some { ob with slots:=sl }:=by
 by_cases hb:b∈fs
 .exact u.slot b ob q n hb hx
 .exact⟨ob.slots,u.keep b ob q n hb hx⟩
def Un.kept(k:∀b u,h.get? b=some u->h'.get? b=some u):Un fs ex H H h h' :=
 ⟨λb ob q _ _ _=>k b ob q,λb ob q _ _ _=>⟨ob.slots,k b ob q⟩,λ_ _ _ n _=>n,λb ob q _=>⟨ob,k b ob q⟩,λ_ _ q=>q,λ_ _ _ q=>q,λ_ ps q=>⟨#[],by rw[q];simp⟩⟩
def Un.refl:Un fs ex H H h h:=Un.kept λ_ _ q=>q
def Un.laid(k:∀b u,h.get? b=some u->h'.get? b=some u)(hp:h.objs.size<=a)(hn:H a=none):Un fs ex H (upd H a o) h h' where
 keep:=λb u q _ _ _=>k b u q
 slot:=λb u q _ _ _=>⟨u.slots,k b u q⟩
 free:=λb u q n _=>by rw[az (Nat.ne_of_lt (Nat.lt_of_lt_of_le (Heap.lt_size q) hp))];exact n
 there:=λb u q _=>⟨u,k b u q⟩
 tups:=λb xs q=>by rw[az (bq q hn)];exact q
 frzs:=λb u xs q=>by rw[az (bq q hn)];exact q
 tbls:=λb ps q=>⟨#[],by rw[az (bq q hn),q];simp⟩
def Un.write(mu:K1 (H x))(he:e=x∨H e=some (.own x))(k:∀b u,b≠e->h.get? b=some u->h'.get? b=some u)(heo:∃u,h'.get? e=some u):Un fs ex H (upd H x o) h h':=by
 have hx:∀b,H b=none->b≠x:=λb n z=>by subst z;rw[n]at mu;exact mu
 have hb:∀b,H b=none->b≠e:=λb n z=>by
  subst z;rcases he with r|r
  .exact hx b n r
  .rw[n]at r;cases r
 have hm:∀b u,H b=some u->¬K1 (some u)->b≠x:=λb u q nm z=>by subst z;rw[q]at mu;exact nm mu
 refine⟨λb u q n _ _=>k b u (hb b n) q,λb u q n _ _=>⟨u.slots,k b u (hb b n) q⟩,λb u q n _=>by rw[az (hx b n)];exact n,λb u q _=>?_,
  λb xs q=>by rw[az (hm b _ q λz=>z)];exact q,λb u xs q=>by rw[az (hm b _ q λz=>z)];exact q,λb ps q=>⟨#[],by rw[az (hm b _ q λz=>z),q];simp⟩⟩
 by_cases hbe:b=e
 .subst hbe;exact heo
 .exact⟨u,k b u hbe q⟩
end
def K6(h:Heap)(H:Hp):List Addr:=(List.range h.objs.size).filter λa=>(H a).isSome
def uh(h:Heap)(H:Hp):Heap:=W.hideAll h (K6 h H)
def A1(h:Heap)(H:Hp):(uh h H).objs.size=h.objs.size:=W.hideAll_size _ _
def CU{h:Heap}(e:h.get? b=some o)(n:H b=none):(uh h H).get? b=some o :=
 W.hideAll_get _ e λhm=>by
  have q:(H b).isSome=true:=(List.mem_filter.mp hm).2;rw[n]at q;simp at q
def E5{h:Heap}(e:(uh h H).get? b=some o):h.get? b=some o/\H b=none:=by
 have e':h.get? b=some o:=W.of_hideAll (K6 h H) e;refine⟨e',?_⟩;cases q:H b with
 |none=>rfl
 |some x=>
  have hm:b∈K6 h H:=List.mem_filter.mpr ⟨List.mem_range.mpr (Heap.lt_size e'),by simp[q]⟩;have z:(uh h H).get? b=none:=W.hideAll_none (K6 h H) hm;rw[z]at e;cases e
structure Mod (K:W.Frag) (mg:Str->Option Value) (base:Heap):Prop where
 kin:K.In base
 glob:base.Ns mainGlobals mg
 blt:∃mb,base.Ns builtinsNs mb/\∀x:Str,x≠"__name__"->mb x=bootBuiltins x
 nolimit:base.NoLimit
 sm:∃mm,base.Ns sysModules mm
structure Cx where
 prog:Program
 w:World
 K:W.Frag
 mg:Str->Option Value
 base:Heap
 A:Around
 N:List Str
 sf:Shared
 Ha:Hp
 env:Env
 outer:List Env
 stack:List Env
 ex:List Addr
 fn:Str->Bool
 calm:Bool
 pn:List (Addr×Obj)
 xe:Value->Shared->Prop
def Bq(l:List Env):List Addr:=l.filterMap (·.frame)
abbrev Cx.fs(X:Cx):List Addr:=Bq X.outer
def Bm(sc:Scope)(x:Str):Prop:=sc.names.lookup x=some .local ∨ sc.names.lookup x=some .cell∨sc.names.lookup x=some .free
def Af(sc:Scope)(x:Str):Prop:=sc.names.lookup x=some .local ∨ sc.names.lookup x=some .cell
def Mc(env:Env)(h:Heap)(m:Str->Option Value)(x:Str)(u:Value):Prop :=
 (env.kindOf x=some .local /\ m x=some u)∨((env.kindOf x=some .cell∨env.kindOf x=some .free)/\∃c,env.cells.lookup x=some c/\h.IsCell c (some u))
structure Cx.Ok (X:Cx):Prop where
 mod:Mod X.K X.mg X.base
 kind:X.env.scope.kind=.function
 glob:X.env.globals=mainGlobals
 blt:X.env.builtins=builtinsNs
 above:X.sf.heap.objs.size<=X.env.locals
 inj:∀x y c,X.env.cells.lookup x=some c->X.env.cells.lookup y=some c->x=y
 has:∀x,(X.env.kindOf x=some .cell∨X.env.kindOf x=some .free)->∃c,X.env.cells.lookup x=some c
 cab:∀x c,X.fn x=true->X.env.cells.lookup x=some c->X.sf.heap.objs.size<=c
 hd:X.calm=true->X.A.handled=none
 frames:X.A.frames=some X.stack
 stk:X.stack=X.outer∨(X.stack=X.env::X.outer/\X.env.frame=some X.env.locals)
 exf:∀b∈X.ex,b≠X.env.locals/\∀x c,X.env.cells.lookup x=some c->c≠b
 bs:∀b o,X.base.get? b=some o->X.sf.heap.get? b=some o/\X.Ha b=none
 bsz:X.base.objs.size<=X.sf.heap.objs.size
 noex:∀b o,X.base.get? b=some o->b∉X.ex
 exfs:∀b∈X.ex,b∉X.fs
 funs:X.sf.heap.FunFrames X.base X.outer
 frf:∀b∈X.fs,X.Ha b=none
structure Inv (X:Cx) (pins:List (Addr×Obj)) (σ:List (Option V)) (H:Hp) (s:Shared):Prop where
 ok:X.Ok
 os:s.os=X.sf.os
 bare:AllBare s.gens
 base:Un X.fs X.ex X.Ha H X.sf.heap s.heap
 loc:∃m,s.heap.Ns X.env.locals m/\∀(i:Nat) (x:Str) (v:V),X.N[i]?=some x->σ[i]?=some (some v)->Bm X.env.scope x->∃u,bo v u/\Mc X.env s.heap m x u
 cell:∀x c,X.env.cells.lookup x=some c->∃v,s.heap.IsCell c v
 free:H X.env.locals=none
 freeC:∀x c,X.env.cells.lookup x=some c->H c=none
 pin:∀p∈X.pn++pins,s.heap.get? p.1=some p.2/\H p.1=none/\p.1≠X.env.locals/\p.1∉X.fs/\∀v,p.2.data≠.cell v
 hok:kj X.prog X.w H s.heap
 len:σ.length=X.N.length
section
variable {X:Cx}{pins:List (Addr×Obj)}{σ:List (Option V)}{H H':Hp}{s:Shared}{h':Heap}
def Cx.Ok.nofr(ok:X.Ok)(e:X.base.get? b=some o):b∉X.fs:=λhb=>by
 have:=(ok.funs.mem hb).1;rw[e]at this;cases this
def Inv.bs(I:Inv X pins σ H s):∀b o,X.base.get? b=some o->s.heap.get? b=some o/\H b=none:=λb o e=>
 ⟨I.base.keep b o (I.ok.bs b o e).1 (I.ok.bs b o e).2 (I.ok.nofr e) (I.ok.noex b o e),I.base.free b o (I.ok.bs b o e).1 (I.ok.bs b o e).2 (I.ok.noex b o e)⟩
def Inv.bk(I:Inv X pins σ H s):∀b o,X.base.get? b=some o->s.heap.get? b=some o:=λb o e=>(I.bs b o e).1
def Inv.mod(I:Inv X pins σ H s):Mod X.K X.mg X.base:=I.ok.mod
def Inv.kIn(I:Inv X pins σ H s):X.K.In s.heap:=I.ok.mod.kin.keeps I.bk
def Inv.lt(I:Inv X pins σ H s):X.env.locals<s.heap.objs.size:=let ⟨_,hn,_⟩:=I.loc;hn.lt
def Inv.sz(I:Inv X pins σ H s):X.sf.heap.objs.size<=s.heap.objs.size:=Nat.le_trans I.ok.above (Nat.le_of_lt I.lt)
def Inv.nofs(I:Inv X pins σ H s)(h:s.heap.objs.size<=a):a∉X.fs:=λhb=>by
 obtain⟨_,o,ho,_⟩:=I.ok.funs.mem hb;exact absurd (Nat.lt_of_lt_of_le (Heap.lt_size ho) (Nat.le_trans I.sz h)) (Nat.lt_irrefl _)
def Inv.cne(I:Inv X pins σ H s):∀x c,X.env.cells.lookup x=some c->c≠X.env.locals:=λx c e z=>by
 obtain⟨v,o,ho,hd⟩:=I.cell x c e;obtain⟨m,⟨o',es,ep,ho',hd',_⟩,_⟩:=I.loc;rw[z,ho']at ho;cases ho;rw[hd']at hd;cases hd
def Inv.funs(I:Inv X pins σ H s):s.heap.FunFrames X.base X.outer:=by
 have all:∀(l:List Env),(∀b∈Bq l,b∈X.fs)->X.sf.heap.FunFrames X.base l->s.heap.FunFrames X.base l:=by
  intro l
  induction l with
  |nil=>intro _ _;trivial
  |cons env r ih=>
   intro hs hl;obtain⟨hk,⟨L,o,hf,hn,ho,hd⟩,hr⟩:=hl;have hL:L∈X.fs:=hs L (by unfold Bq;rw[List.filterMap_cons,hf];exact List.mem_cons_self);obtain⟨sl,e⟩:=I.base.slot L o ho (I.ok.frf L hL) hL λz=>I.ok.exfs L z hL;exact⟨hk,⟨L,_,hf,hn,e,hd⟩,ih (λb hb=>hs b (by unfold Bq;rw[List.filterMap_cons,hf];exact List.mem_cons_of_mem _ hb)) hr⟩
 exact all X.outer (λ_ hb=>hb) I.ok.funs
def Inv.stack(I:Inv X pins σ H s):s.heap.FunFrames X.base X.stack:=by
 rcases I.ok.stk with e|⟨e,hf⟩
 .rw[e];exact I.funs
 .rw[e]
  obtain⟨m,hn,_⟩:=I.loc;refine .cons (by rw[I.ok.kind];decide) hf hn ?_ I.funs;exact Heap.get?_none_of_le (Nat.le_trans I.ok.bsz I.ok.above)
def Inv.stkSub(I:Inv X pins σ H s):∀b∈Bq X.stack,b∈X.env.locals::X.fs:=λb hb=>by
 rcases I.ok.stk with e|⟨e,hf⟩
 .rw[e]at hb;exact List.mem_cons_of_mem _ hb
 .rw[e]at hb
  unfold Bq at hb;rw[List.filterMap_cons,hf]at hb;exact hb
def Inv.stkFree(I:Inv X pins σ H s):∀b∈Bq X.stack,H b=none:=λb hb=>by
 rcases List.mem_cons.mp (I.stkSub b hb) with e|hb
 .rw[e];exact I.free
 .obtain⟨_,o,ho,_⟩:=I.ok.funs.mem hb
  exact I.base.free b o ho (I.ok.frf b hb) λz=>I.ok.exfs b z hb
def Inv.step{ch:List Addr}(I:Inv X pins σ H s)
  (hch:∀b∈ch,(b∈X.ex∨X.sf.heap.objs.size<=b)/\b≠X.env.locals/\(∀x c,X.env.cells.lookup x=some c->c≠b)/\∀p∈X.pn++pins,p.1≠b)
  (keep:∀b o,b≠X.env.locals->b∉X.fs->b∉ch->s.heap.get? b=some o->H b=none->h'.get? b=some o)
  (slot:∀b o,b≠X.env.locals->b∈X.fs->b∉ch->s.heap.get? b=some o->H b=none->∃sl,h'.get? b=some { o with slots:=sl })(free:∀b o,b∉ch->s.heap.get? b=some o->H b=none->H' b=none)
  (there:∀b o,b∉ch->s.heap.get? b=some o->∃o',h'.get? b=some o')
  (tups:∀b xs,H b=some (.tup xs)->H' b=some (.tup xs))(frzs:∀b o u,H b=some (.frz o u)->H' b=some (.frz o u))(tbls:∀b ps,H b=some (.tbl ps)->∃more,H' b=some (.tbl (ps++more)))
  (ns:∀m,s.heap.Ns X.env.locals m->h'.Ns X.env.locals m)(hok:kj X.prog X.w H' h')(hg:AllBare g') :
  Inv X pins σ H' { s with heap:=h',gens:=g',drawn:=d',toks:=t' }:=by
 have neL:∀b o,X.sf.heap.get? b=some o->b≠X.env.locals:=λb o e=>Nat.ne_of_lt (Nat.lt_of_lt_of_le (Heap.lt_size e) I.ok.above);have neC:∀b o,X.sf.heap.get? b=some o->b∉X.ex->b∉ch:=λb o e hx hb=>by
  rcases(hch b hb).1 with z|z
  .exact hx z
  .exact absurd (Nat.lt_of_lt_of_le (Heap.lt_size e) z) (Nat.lt_irrefl _)
 have cellK:∀x c,X.env.cells.lookup x=some c->∀v,s.heap.IsCell c v->h'.IsCell c v:=λx c e v z9=>by
  obtain⟨o,ho,hd⟩:=z9;have nch:c∉ch:=λz=>(hch c z).2.2.1 x c e rfl
  by_cases hc:c∈X.fs
  .obtain⟨sl,q⟩:=slot c o (I.cne x c e) hc nch ho (I.freeC x c e)
   exact⟨_,q,hd⟩
  .exact⟨o,keep c o (I.cne x c e) hc nch ho (I.freeC x c e),hd⟩
 refine⟨I.ok,I.os,hg,⟨λb o e n hb hx=>?_,λb o e n hb hx=>?_,λb o e n hx=>?_,λb o e hx=>?_,λb xs e=>tups b xs (I.base.tups b xs e),λb o xs e=>frzs b o xs (I.base.frzs b o xs e),λb ps e=>?_⟩,?_,λx c e=>?_,?_,λx c e=>?_,λp hp=>?_,hok,I.len⟩
 .exact keep b o (neL b o e) hb (neC b o e hx) (I.base.keep b o e n hb hx) (I.base.free b o e n hx)
 .obtain⟨sl,e1⟩:=I.base.slot b o e n hb hx
  obtain⟨sl',e2⟩:=slot b _ (neL b o e) hb (neC b o e hx) e1 (I.base.free b o e n hx);exact⟨sl',e2⟩
 .obtain⟨o',e1⟩:=I.base.there b o e hx
  exact free b o' (neC b o e hx) e1 (I.base.free b o e n hx)
 .obtain⟨o',e1⟩:=I.base.there b o e hx
  exact there b o' (neC b o e hx) e1
 .obtain⟨m1,e1⟩:=I.base.tbls b ps e
  obtain⟨m2,e2⟩:=tbls b _ e1;exact⟨m1++m2,by rw[e2,Array.append_assoc]⟩
 .obtain⟨m,hn,hl⟩:=I.loc
  refine⟨m,ns m hn,λi x v e1 e2 e3=>?_⟩;obtain⟨u,r,l⟩:=hl i x v e1 e2 e3;refine⟨u,r,?_⟩;rcases l with l|⟨k,c,e,z⟩
  .exact .inl l
  .exact .inr ⟨k,c,e,cellK x c e _ z⟩
 .obtain⟨v,z⟩:=I.cell x c e
  exact⟨v,cellK x c e v z⟩
 .obtain⟨m,⟨o,_,_,ho,_⟩,_⟩:=I.loc
  exact free _ o (λz=>(hch _ z).2.1 rfl) ho I.free
 .obtain⟨v,o,ho,hd⟩:=I.cell x c e
  exact free c o (λz=>(hch c z).2.2.1 x c e rfl) ho (I.freeC x c e)
 .obtain⟨e,n,ne,nf,d⟩:=I.pin p hp
  have nch:p.1∉ch:=λz=>(hch p.1 z).2.2.2 p hp rfl;exact⟨keep p.1 p.2 ne nf nch e n,free p.1 p.2 nch e n,ne,nf,d⟩
def Inv.un(I:Inv X pins σ H s)(u:Un X.fs [] H H' s.heap h')(hok:kj X.prog X.w H' h'):Inv X pins σ H' { s with heap:=h',toks:=t' }:=by
 obtain⟨m,⟨o,es,ep,ho,r⟩,_⟩:=id I.loc;obtain⟨sl,hL⟩:=u.any ho I.free (by simp);exact I.step (g':=s.gens) (d':=s.drawn) (ch:=[]) (λ_ z=>nomatch z) (λb o _ hb _ e n=>u.keep b o e n hb (by simp)) (λb o _ hb _ e n=>u.slot b o e n hb (by simp)) (λb o _ e n=>u.free b o e n (by simp)) (λb o _ e=>u.there b o e (by simp)) u.tups u.frzs u.tbls (λm' hm=>by
  obtain⟨o',es',ep',ho',r'⟩:=hm;rw[ho]at ho';cases ho';exact⟨_,es',ep',hL,r'⟩) hok I.bare
def Inv.call(I:Inv X pins σ H s)(u:Un (Bq X.stack) ch H H' s.heap h')(hok:kj X.prog X.w H' h')(hg:AllBare g')
  (hch:∀b∈ch,(b∈X.ex∨X.sf.heap.objs.size<=b)/\b≠X.env.locals/\(∀x c,X.env.cells.lookup x=some c->c≠b)/\∀p∈X.pn++pins,p.1≠b) :
  Inv X pins σ H' { s with heap:=h',gens:=g',drawn:=d',toks:=t' }:=by
 obtain⟨m,⟨o,es,ep,ho,r⟩,_⟩:=id I.loc;obtain⟨sl,hL⟩:=u.any ho I.free λz=>(hch _ z).2.1 rfl;exact I.step (ch:=ch) hch (λb o hL hb hc e n=>u.keep b o e n (λz=>(List.mem_cons.mp (I.stkSub b z)).elim hL hb) hc) (λb o _ _ hc e n=>u.any e n hc) (λb o hc e n=>u.free b o e n hc) (λb o hc e=>u.there b o e hc) u.tups u.frzs u.tbls (λm' hm=>by
  obtain⟨o',es',ep',ho',r'⟩:=hm;rw[ho]at ho';cases ho';exact⟨_,es',ep',hL,r'⟩) hok hg
def Inv.turned(I:Inv X pins σ H s)(k:∀b o,b≠it->s.heap.get? b=some o->h'.get? b=some o)(hn:H it=none)(hL:it≠X.env.locals)
  (h1:it∈X.ex∨X.sf.heap.objs.size<=it)(h2:∀x c,X.env.cells.lookup x=some c->c≠it)(h3:∀p∈X.pn++pins,p.1≠it):Inv X pins σ H { s with heap:=h',toks:=t' }:=by
 have nit:∀b u,H b=some u->b≠it:=λb u e z=>by rw[z,hn]at e;cases e
 refine I.step (g':=s.gens) (d':=s.drawn) (ch:=[it]) (λb hb=>?_) (λb o _ _ hc e _=>k b o (λz=>hc (by simp[z])) e) (λb o _ _ hc e _=>⟨o.slots,k b o (λz=>hc (by simp[z])) e⟩) (λ_ _ _ _ n=>n)
  (λb o hc e=>⟨o,k b o (λz=>hc (by simp[z])) e⟩) (λ_ _ e=>e) (λ_ _ _ e=>e) (λb ps e=>⟨#[],by rw[e];simp⟩) (λm hm=>?_) (λb u e=>?_) I.bare
 .have e:b=it:=by simpa using hb
  subst e;exact⟨h1,hL,h2,h3⟩
 .obtain⟨o,es,ep,ho,r⟩:=hm
  exact⟨o,es,ep,k _ o (Ne.symm hL) ho,r⟩
 .refine(I.hok b u e).stay (λc v hc q=>k c v ?_ q) (λ_ q=>q) λ_ _ q=>q
  rcases hc with z|z
  .rw[z];exact nit b u e
  .exact nit c _ z
def Inv.tok(I:Inv X pins σ H s)(t:Nat):Inv X pins σ H { s with toks:=t }:=I.un (h':=s.heap) (t':=t) Un.refl I.hok
def Inv.kept(I:Inv X pins σ H s)(k:∀b u,s.heap.get? b=some u->h'.get? b=some u):Inv X pins σ H { s with heap:=h',toks:=t' }:=I.un (Un.kept k) (I.hok.kept k)
def Inv.laid(I:Inv X pins σ H s)(k:∀b u,s.heap.get? b=some u->h'.get? b=some u)(hp:s.heap.objs.size<=a)(new:cg X.prog X.w (upd H a o) h' a o) :
  Inv X pins σ (upd H a o) { s with heap:=h',toks:=t' }:=I.un (Un.laid k hp (I.hok.fresh hp)) (I.hok.laid k hp new)
def Inv.write(I:Inv X pins σ H s)(mu:K1 (H x))(he:e=x∨H e=some (.own x))(k:∀b u,b≠e->s.heap.get? b=some u->h'.get? b=some u)(heo:∃u,h'.get? e=some u)
  (new:cg X.prog X.w (upd H x o) h' x o):Inv X pins σ (upd H x o) { s with heap:=h',toks:=t' }:=I.un (Un.write mu he k heo) (I.hok.write mu he k heo new)
def Inv.pins_of(I:Inv X pins σ H s)(h:∀p∈pins',s.heap.get? p.1=some p.2/\H p.1=none/\p.1≠X.env.locals/\p.1∉X.fs/\∀v,p.2.data≠.cell v):Inv X pins' σ H s :=
 ⟨I.ok,I.os,I.bare,I.base,I.loc,I.cell,I.free,I.freeC,λp hp=>(List.mem_append.mp hp).elim (λz=>I.pin p (List.mem_append_left _ z)) (h p),I.hok,I.len⟩
def vn{N:List Str}(hN:N.Nodup){i j:Nat}(a:N[i]?=some x)(b:N[j]?=some x):i=j:=by
 obtain⟨h1,e1⟩:=List.getElem?_eq_some_iff.mp a;obtain⟨h2,e2⟩:=List.getElem?_eq_some_iff.mp b;exact(List.getElem_inj hN).mp (e1.trans e2.symm)
def ml(I:Inv X pins σ H s)(hN:X.N.Nodup)(hi:X.N[i]?=some x)(hx:Af X.env.scope x)(r:bo v u)
  (h:∀s',Inv X pins (σ.set i (some v)) H s'->(∃a,Heap.SameBut a s.heap s'.heap/\(a=X.env.locals∨X.env.cells.lookup x=some a))->Q () s')(hf:X.fn x=true∨X.env.scope.names.lookup x=some .local := by first|exact .inl rfl|exact .inr rfl|assumption):wpAny M A (storeName X.env x u) Q E s:=by
 obtain⟨m,hn,hl⟩:=id I.loc;have hcls:(X.env.scope.kind==.class||(X.env.scope.kind==.module&&X.env.locals != X.env.globals))=false:=by rw[I.ok.kind];rfl
 have hiσ:i<σ.length:=by rw[I.len];exact(List.getElem?_eq_some_iff.mp hi).1
 have cne:=I.cne;have tracked:∀{a:Addr}{h':Heap},(∃o,s.heap.get? a=some o/\H a=none)->Heap.SameBut a s.heap h'->kj X.prog X.w H h':=λ{a h'} ha hs b ob e=>by
  obtain⟨_,_,hfree⟩:=ha;refine(I.hok b ob e).stay (λc w' hc q=>(hs.2 c ?_).trans q) (λ_ q=>q) λ_ _ q=>q;rintro rfl;rcases hc with rfl|hc
  .rw[hfree]at e;cases e
  .rw[hfree]at hc;cases hc
 rcases hx with hk|hk
 .refine wpAny_storeName_local hk hn (λh' hn' hs=>?_) hcls
  obtain⟨oL,_,_,hoL,_⟩:=id hn;refine h _ ⟨I.ok,I.os,I.bare,⟨λb o e n hb hx=>?_,λb o e n hb hx=>?_,I.base.free,λb o e hx=>?_,I.base.tups,I.base.frzs,I.base.tbls⟩,⟨_,hn',λj y v' e1 e2 e3=>?_⟩,λy c e=>?_,I.free,I.freeC,λp hp=>?_,tracked ⟨oL,hoL,I.free⟩ hs,by simpa using I.len⟩ ⟨_,hs,.inl rfl⟩
  .exact(hs.2 b (Nat.ne_of_lt (Nat.lt_of_lt_of_le (Heap.lt_size e) I.ok.above))).trans (I.base.keep b o e n hb hx)
  .obtain⟨sl,e1⟩:=I.base.slot b o e n hb hx
   exact⟨sl,(hs.2 b (Nat.ne_of_lt (Nat.lt_of_lt_of_le (Heap.lt_size e) I.ok.above))).trans e1⟩
  .obtain⟨o',e1⟩:=I.base.there b o e hx
   exact⟨o',(hs.2 b (Nat.ne_of_lt (Nat.lt_of_lt_of_le (Heap.lt_size e) I.ok.above))).trans e1⟩
  .by_cases hj:j=i
   .subst hj
    rw[hi]at e1;cases e1;rw[List.getElem?_set_self hiσ]at e2;cases e2;exact⟨u,r,.inl ⟨hk,by simp⟩⟩
   .rw[List.getElem?_set_ne (Ne.symm hj)]at e2
    obtain⟨u',r',q⟩:=hl j y v' e1 e2 e3;refine⟨u',r',?_⟩;rcases q with⟨k,e⟩|⟨k,c,e,z⟩
    .refine .inl ⟨k,?_⟩
     have:y≠x:=λe=>hj (vn hN e1 (e▸hi));simp[this,e]
    .exact .inr ⟨k,c,e,z.sameBut hs (cne y c e)⟩
  .obtain⟨w',z⟩:=I.cell y c e
   exact⟨w',z.sameBut hs (cne y c e)⟩
  .obtain⟨e,n,ne,nf,d⟩:=I.pin p hp
   exact⟨(hs.2 p.1 ne).trans e,n,ne,nf,d⟩
 .have hfn:X.fn x=true:=by
   rcases hf with z|z
   .exact z
   .rw[z]at hk;cases hk
  obtain⟨c,hc⟩:=I.ok.has x (.inl hk);obtain⟨w',z⟩:=I.cell x c hc;refine wpAny_storeName_cell I.ok.kind hk hc z (λh' hc' hs=>?_);obtain⟨oc,hoc,hocd⟩:=id z;refine h { s with heap:=h' } ⟨I.ok,I.os,I.bare,⟨λb o e n hb hx=>?_,λb o e n hb hx=>?_,I.base.free,λb o e hx=>?_,I.base.tups,I.base.frzs,I.base.tbls⟩,⟨m,hn.sameBut hs (Ne.symm (cne x c hc)),λj y v' e1 e2 e3=>?_⟩,λy c' e=>?_,I.free,I.freeC,λp hp=>?_,tracked ⟨oc,hoc,I.freeC x c hc⟩ hs,by simpa using I.len⟩ ⟨c,hs,.inr hc⟩
  .exact(hs.2 b (Nat.ne_of_lt (Nat.lt_of_lt_of_le (Heap.lt_size e) (I.ok.cab x c hfn hc)))).trans (I.base.keep b o e n hb hx)
  .obtain⟨sl,e1⟩:=I.base.slot b o e n hb hx
   exact⟨sl,(hs.2 b (Nat.ne_of_lt (Nat.lt_of_lt_of_le (Heap.lt_size e) (I.ok.cab x c hfn hc)))).trans e1⟩
  .obtain⟨o',e1⟩:=I.base.there b o e hx
   exact⟨o',(hs.2 b (Nat.ne_of_lt (Nat.lt_of_lt_of_le (Heap.lt_size e) (I.ok.cab x c hfn hc)))).trans e1⟩
  .by_cases hj:j=i
   .subst hj
    rw[hi]at e1;cases e1;rw[List.getElem?_set_self hiσ]at e2;cases e2;exact⟨u,r,.inr ⟨.inl hk,c,hc,hc'⟩⟩
   .rw[List.getElem?_set_ne (Ne.symm hj)]at e2
    obtain⟨u',r',q⟩:=hl j y v' e1 e2 e3;refine⟨u',r',?_⟩;rcases q with q|⟨k,c',e,z'⟩
    .exact .inl q
    .refine .inr ⟨k,c',e,z'.sameBut hs ?_⟩
     rintro rfl;exact hj (vn hN e1 (I.ok.inj _ _ _ e hc▸hi))
  .by_cases hcc:c'=c
   .subst hcc;exact⟨_,hc'⟩
   .obtain⟨w2,z2⟩:=I.cell y c' e
    exact⟨w2,z2.sameBut hs hcc⟩
  .obtain⟨e,n,ne,nf,d⟩:=I.pin p hp
   refine⟨(hs.2 p.1 ?_).trans e,n,ne,nf,d⟩;intro q;rw[q,hoc]at e;have q':oc=p.2:=Option.some.inj e;exact d w' (by rw[←q'];exact hocd)
def ko(I:Inv X pins σ H s)(hN:X.N.Nodup)(hi:X.N[i]?=some x)(hx:Af X.env.scope x)(r:bo v u)
  (h:∀s',Inv X pins (σ.set i (some v)) H s'->Q () s')(hf:X.fn x=true∨X.env.scope.names.lookup x=some .local := by first|exact .inl rfl|exact .inr rfl|assumption):wpAny M A (storeName X.env x u) Q E s :=
 ml I hN hi hx r (λs' I' _=>h s' I') hf
def Inv.call'(I:Inv X pins σ H s)(ho:s'.os=s.os)(u:Un (Bq X.stack) ch H H' s.heap s'.heap)(hok:kj X.prog X.w H' s'.heap)(hg:AllBare s'.gens)
  (hch:∀b∈ch,(b∈X.ex∨X.sf.heap.objs.size<=b)/\b≠X.env.locals/\(∀x c,X.env.cells.lookup x=some c->c≠b)/\∀p∈X.pn++pins,p.1≠b):Inv X pins σ H' s':=by
 obtain⟨h',g',d',t',o'⟩:=s';have e:o'=s.os:=ho;subst e;exact I.call (g':=g') (t':=t') (d':=d') u hok hg hch
end
abbrev XK:=Value->Option Addr->Hp->Prop
abbrev St:=List (Option V)
abbrev VK:=V->Hp->Prop
abbrev TE:=St->Hp->VK->Prop
abbrev TT:=St->Hp->(Bool->Hp->Prop)->Prop
abbrev TA:=St->Hp->(ad->Hp->Prop)->Prop
structure mf where
 nx:St->Hp->Prop
 rt:VK
 bk:St->Hp->Prop:=λ_ _=>False
 ct:St->Hp->Prop:=λ_ _=>False
abbrev TS:=mf->St->Hp->Prop
def EP(X:Cx)(pins:List (Addr×Obj))(σ:St)(Q:VK)(u:Value)(s':Shared):Prop:=∃v H',Inv X pins σ H' s'/\bo v u/\Q v H'
def TP(X:Cx)(pins:List (Addr×Obj))(σ:St)(Q:Bool->Hp->Prop)(b:Bool)(s':Shared):Prop:=∃H',Inv X pins σ H' s'/\Q b H'
def AP(X:Cx)(pins:List (Addr×Obj))(σ:St)(Q:ad->Hp->Prop)(us:List Value)(s':Shared):Prop:=∃vs H',Inv X pins σ H' s'/\bD vs us/\Q vs H'
noncomputable def SP(X:Cx) (pins:List (Addr×Obj)) (D:mf) (f:Flow) (s':Shared):Prop :=
 match f with
 |.next=>∃σ' H',Inv X pins σ' H' s'/\D.nx σ' H'
 |.brk=>∃σ' H',Inv X pins σ' H' s'/\D.bk σ' H'
 |.cont=>∃σ' H',Inv X pins σ' H' s'/\D.ct σ' H'
 |.ret u=>∃v σ' H',Inv X pins σ' H' s'/\bo v u/\D.rt v H'
def PE(X:Cx)(e:Expr)(t:TE):Prop :=
 ∀(pins:List (Addr×Obj)) (s:Shared) (σ:St) (H:Hp) (Q:VK),Inv X pins σ H s->t σ H Q->wpAny (model X.prog X.w) X.A (eval e X.env) (EP X pins σ Q) X.xe s
def PT(X:Cx)(e:Expr)(t:TT):Prop :=
 ∀(pins:List (Addr×Obj)) (s:Shared) (σ:St) (H:Hp) (Q:Bool->Hp->Prop),Inv X pins σ H s->t σ H Q->wpAny (model X.prog X.w) X.A (isTrue e X.env (eval e X.env)) (TP X pins σ Q) X.xe s
def PW(X:Cx)(e:Expr)(t:TT):Prop :=
 ∀(whole:Sem Value) (pins:List (Addr×Obj)) (s:Shared) (σ:St) (H:Hp) (Q:Bool->Hp->Prop),Inv X pins σ H s->t σ H Q->wpAny (model X.prog X.w) X.A (isTrue e X.env whole) (TP X pins σ Q) X.xe s
def PW.pt(h:PW X e t):PT X e t:=h _
def PA(X:Cx)(es:List Expr)(t:TA):Prop :=
 ∀(pos:Pos) (pins:List (Addr×Obj)) (s:Shared) (σ:St) (H:Hp) (Q:ad->Hp->Prop),Inv X pins σ H s->t σ H Q->wpAny (model X.prog X.w) X.A (spliced (backTo pos (starEach es X.env))) (AP X pins σ Q) X.xe s
def PS(X:Cx)(st:Stmt)(t:TS):Prop :=
 ∀(pins:List (Addr×Obj)) (s:Shared) (σ:St) (H:Hp) (D:mf),Inv X pins σ H s->t D σ H->wpAny (model X.prog X.w) X.A (exec st X.env) (SP X pins D) X.xe s
def qZ(X:Cx)(st:List Stmt)(t:TS):Prop :=
 ∀(pins:List (Addr×Obj)) (s:Shared) (σ:St) (H:Hp) (D:mf),Inv X pins σ H s->t D σ H->wpAny (model X.prog X.w) X.A (execs st X.env) (SP X pins D) X.xe s
def cC{Q Q':α->Shared->Prop}(h:wpAny M A t Q E s)(hQ:∀a s,Q a s->Q' a s):wpAny M A t Q' E s:=wpAny_mono h hQ λ_ _ x=>x
section
variable {X:Cx}
def Lq(i:Nat):TE:=λσ H Q=>∃v,σ[i]?=some (some v)/\Q v H
def tC(v:V):TE:=λ_ H Q=>Q v H
def gZ(hN:X.N[i]?=some x)(hv:Bm X.env.scope x)(hd:(x==("__debug__":Str))=false:=by decide)(hcd:(x==("__classdict__":Str))=false:=by decide):PE X (.Name x pos) (Lq i):=by
 intro pins s σ H Q I h;obtain⟨v,e,h⟩:=h;obtain⟨m,hn,hl⟩:=I.loc;obtain⟨u,r,l⟩:=hl i x v hN e hv;have fin:EP X pins σ Q u s:=⟨v,H,I,r,h⟩
 rcases l with⟨hk,hm⟩|⟨hk,c,hc,hcell⟩
 .exact wpAny_Name (wpAny_loadName_local I.ok.kind hk hn hm fin) hd
 .rcases hk with hk|hk
  .exact wpAny_Name (wpAny_loadName_cell I.ok.kind hk hc hcell fin) hd
  .exact wpAny_Name (wpAny_loadName_free I.ok.kind hk hc hcell fin hcd) hd
def tX{i j pos}:PE X (.Constant (.int i) j pos) (tC (.int i)):=λ_ _ _ H _ I h=>wpAny_Constant_int ⟨.int i,H,I.tok _,⟨_,rfl⟩,h⟩
def J5{b j pos}:PE X (.Constant (.bool b) j pos) (tC (.bl b)):=λ_ _ _ H _ I h=>Constant_bool ⟨.bl b,H,I,rfl,h⟩
def Co{j pos}:PE X (.Constant .none j pos) (tC .non):=λ_ _ _ H _ I h=>Constant_none ⟨.non,H,I,rfl,h⟩
def HQ{x j pos}:PE X (.Constant (.str x) j pos) (tC (.str x)):=λ_ _ _ H _ I h=>Calls.Constant_str ⟨.str x,H,I.tok _,⟨_,rfl⟩,h⟩
def Gl(X:Cx)(x:Str):Prop:=X.env.kindOf x=some .globalImplicit
def zd(I:Inv X pins σ H s)(hg:Gl X x)(hm:X.mg x=some u)(h:Q u s)
  (hd:(x==("__debug__":Str))=false:=by decide):wpAny (model X.prog X.w) X.A (eval (.Name x pos) X.env) Q E s :=
 Calls.Name_function_global I.ok.kind hg (Calls.loadGlobal_global (by rw[I.ok.glob];exact I.mod.glob.keeps I.bk) hm h) hd
def o8(I:Inv X pins σ H s)(hg:Gl X x)(hm:X.mg x=none)(hv:bootBuiltins x=some u)(h:Q u s)
  (hn:x≠"__name__":=by decide)(hd:(x==("__debug__":Str))=false:=by decide):wpAny (model X.prog X.w) X.A (eval (.Name x pos) X.env) Q E s:=by
 obtain⟨mb,h1,h2⟩:=I.mod.blt;exact Calls.Name_function_global I.ok.kind hg (Calls.loadGlobal_builtin (by rw[I.ok.glob];exact I.mod.glob.keeps I.bk) hm (by rw[I.ok.blt];exact h1.keeps I.bk) ((h2 x hn).trans hv) h) hd
def EV(hg:Gl X x)(hm:X.mg x=some u)(r:bo v u)(hd:(x==("__debug__":Str))=false:=by decide):PE X (.Name x pos) (tC v) :=
 λ_ _ _ H _ I h=>zd I hg hm ⟨v,H,I,r,h⟩ hd
def EY(hg:Gl X x)(hm:X.mg x=none)(hv:bootBuiltins x=some u)(r:bo v u)(hn:x≠"__name__":=by decide)(hd:(x==("__debug__":Str))=false:=by decide):PE X (.Name x pos) (tC v) :=
 λ_ _ _ H _ I h=>o8 I hg hm hv ⟨v,H,I,r,h⟩ hn hd
variable {a b:Expr}{ta tb:TE}{pos:Pos}
noncomputable def PC(X:Cx) (op:CmpOp) (a b:Expr) (t:TE):Prop :=
 ∀(pins:List (Addr×Obj)) (s:Shared) (σ:St) (H:Hp) (Q:VK),Inv X pins σ H s->t σ H Q ->
  wpAny (model X.prog X.w) X.A (eval a X.env) (λv sg=>wpAny (model X.prog X.w) X.A (eval b X.env) (λu si=>wpAny (model X.prog X.w) X.A (compareOp op v u) (EP X pins σ Q) X.xe si) X.xe sg) X.xe s
def CB(b:Expr)(h:op≠.In)(h2:op≠.NotIn):behindInMarks op b=false:=by
 have e1:(op==CmpOp.In)=false:=by cases op<;>first|rfl|exact absurd rfl h
 have e2:(op==CmpOp.NotIn)=false:=by cases op<;>first|rfl|exact absurd rfl h2
 cases b<;>simp[behindInMarks,e1,e2]
def tB(t:TE):TT:=λσ H Q=>t σ H λx H1=>∃c,x=.bl c/\Q c H1
def HG(h:PE X e t)(he:∀whole,isTrue e X.env whole=(do let v ←whole;standAt e.pos;holding [v] (truthy v)):=by intro _;rfl):PT X e (tB t):=by
 intro pins s σ H Q I hw;refine isTrue_plain (cC (h pins s σ H _ I hw) λv s1 z9=>?_) (he _);obtain⟨x,H1,I1,r1,q1⟩:=z9;obtain⟨d,rfl,q⟩:=q1;cases r1;exact wpAny_truthy_bool ⟨H1,I1,q⟩
variable {tA tB':TT}{rest:List Expr}
def LH(t u:TT):TT:=λσ H Q=>t σ H λc H1=>if c=true then u σ H1 Q else Q false H1
def MT(t u:TT):TT:=λσ H Q=>t σ H λc H1=>if c=true then Q true H1 else u σ H1 Q
def Lx(t:TT):TT:=λσ H Q=>t σ H λc H1=>Q (!c) H1
def yG(ha:PT X a tA):PW X (.BoolOp .And [a] pos) tA:=by
 intro wh pins s σ H Q I h;refine isTrue_and (cC (ha pins s σ H Q I h) λc s1 e=>?_);cases c with|true=>exact isTrue_and_nil e|false=>exact e
def HF(ha:PT X a tA):PW X (.BoolOp .Or [a] pos) tA:=by
 intro wh pins s σ H Q I h;refine isTrue_or (cC (ha pins s σ H Q I h) λc s1 e=>?_);cases c with|false=>exact isTrue_or_nil e|true=>exact e
def B7(ha:PT X a tA)(hb:PW X (.BoolOp .And (b::rest) pos) tB'):PW X (.BoolOp .And (a::b::rest) pos) (LH tA tB'):=by
 intro wh pins s σ H Q I h;refine isTrue_and (cC (ha pins s σ H _ I h) λc s1 z9=>?_);obtain⟨H1,I1,q1⟩:=z9;cases c with|true=>exact hb wh pins s1 σ H1 Q I1 q1|false=>exact⟨H1,I1,q1⟩
def JX(ha:PT X a tA)(hb:PW X (.BoolOp .Or (b::rest) pos) tB'):PW X (.BoolOp .Or (a::b::rest) pos) (MT tA tB'):=by
 intro wh pins s σ H Q I h;refine isTrue_or (cC (ha pins s σ H _ I h) λc s1 z9=>?_);obtain⟨H1,I1,q1⟩:=z9;cases c with|true=>exact⟨H1,I1,q1⟩|false=>exact hb wh pins s1 σ H1 Q I1 q1
def HH(ha:PT X a tA):PT X (.UnaryOp .Not a pos) (Lx tA):=by
 intro pins s σ H Q I h;exact isTrue_not (ha pins s σ H (λc H1=>Q (!c) H1) I h)
def JH(ta tb:TE):TE:=λσ H Q=>ta σ H λx H1=>∃c,x=.bl c/\if c=true then tb σ H1 Q else Q (.bl false) H1
def Lw(ta tb:TE):TE:=λσ H Q=>ta σ H λx H1=>∃c,x=.bl c/\if c=true then Q (.bl true) H1 else tb σ H1 Q
def JA(ta:TE):TE:=λσ H Q=>ta σ H λx H1=>∃c,x=.bl c/\Q (.bl (!c)) H1
def HR{op}(h:PE X a t):PE X (.BoolOp op [a] pos) t:=λpins s σ H Q I hw=>BoolOp_one (h pins s σ H Q I hw)
def HU(ha:PE X a ta)(hb:PE X (.BoolOp .And (b::rest) pos) tb):PE X (.BoolOp .And (a::b::rest) pos) (JH ta tb):=by
 intro pins s σ H Q I h;refine BoolOp_and (cC (ha pins s σ H _ I h) λv s1 ⟨x,H1,I1,r1,q1⟩=>?_);obtain⟨c,rfl,q1⟩:=q1;cases r1;refine wpAny_truthy_bool ?_;cases c with|true=>exact hb pins s1 σ H1 Q I1 q1|false=>exact⟨.bl false,H1,I1,rfl,q1⟩
def J4(ha:PE X a ta)(hb:PE X (.BoolOp .Or (b::rest) pos) tb):PE X (.BoolOp .Or (a::b::rest) pos) (Lw ta tb):=by
 intro pins s σ H Q I h;refine BoolOp_or (cC (ha pins s σ H _ I h) λv s1 ⟨x,H1,I1,r1,q1⟩=>?_);obtain⟨c,rfl,q1⟩:=q1;cases r1;refine wpAny_truthy_bool ?_;cases c with|false=>exact hb pins s1 σ H1 Q I1 q1|true=>exact⟨.bl true,H1,I1,rfl,q1⟩
def HS(ha:PE X a ta):PE X (.UnaryOp .Not a pos) (JA ta):=by
 intro pins s σ H Q I h;refine UnaryOp_ (cC (ha pins s σ H _ I h) λv s1 z9=>?_);obtain⟨x,H1,I1,r1,q1⟩:=z9;obtain⟨c,rfl,q1⟩:=q1;cases r1;exact not_of (wpAny_truthy_bool ⟨.bl (!c),H1,I1,rfl,q1⟩)
def tIf(t:TT)(ta tb:TE):TE:=λσ H Q=>t σ H λc H1=>if c=true then ta σ H1 Q else tb σ H1 Q
def Cq(hc:PT X c tA)(ha:PE X a ta)(hb:PE X b tb):PE X (.IfExp c a b pos) (tIf tA ta tb):=by
 intro pins s σ H Q I h;refine wpAny_IfExp (cC (hc pins s σ H _ I h) λd s1 z9=>?_);obtain⟨H1,I1,q1⟩:=z9;cases d with|true=>exact ha pins s1 σ H1 Q I1 q1|false=>exact hb pins s1 σ H1 Q I1 q1
end
def eN(K:W.Frag)(H:Hp)(a:Addr)(xs:ad):Prop :=
 Rd H a (.lst xs) ∨
  ∃(o:Obj) (its:Array Value) (n:Nat),K.lookup a=some o/\o.cls=.type "list"/\o.dict=none/\o.data=.seq its n/\its.size<=sizeLine/\bD xs its.toList
def ji(K:W.Frag)(H:Hp)(a:Addr)(xs:ad):Prop :=
 Rd H a (.tup xs) ∨
  ∃(o:Obj) (its:Array Value) (n:Nat),K.lookup a=some o/\o.cls=.type "tuple"/\o.data=.seq its n/\its.size<=sizeLine/\bD xs its.toList
def L7:Value->Option V
 |.none=>some .non
 |.bool b=>some (.bl b)
 |.int i _=>some (.int i)
 |.str x _=>some (.str x)
 |.bytes b _=>some (.byt b)
 |.float b _=>some (.flt b)
 |.ref a=>some (.ref a)
 |.type n=>some (.ty n)
 |_=>none
def bo.abs(r:bo x u):L7 u=some x:=by
 cases x with|non|bl _=>cases r;rfl|int _|str _|byt _|flt _=>obtain⟨t,rfl⟩:=r;rfl|ref _|ty _=>cases r;rfl
def bo.inj(r:bo x u)(q:bo y u):x=y:=Option.some.inj (r.abs.symm.trans q.abs)
theorem bD.inj:∀{xs ys:ad}{us:List Value},bD xs us->bD ys us->xs=ys
 |_,_,_,.nil,.nil=>rfl
 |_,_,_,.cons r t,.cons r' t'=>by rw[r.inj r',bD.inj t t']
section
variable {X:Cx}{pins:List (Addr×Obj)}{σ:St}{H:Hp}{s:Shared}{a:Addr}{xs ys:ad}
def eN.of{K:W.Frag}(h:H a=some (.lst xs)):eN K H a xs:=.inl (.inl h)
def ji.of{K:W.Frag}(h:H a=some (.tup xs)):ji K H a xs:=.inl (.inl h)
def Inv.list(I:Inv X pins σ H s)(h:eN X.K H a xs):∃its:List Value,bD xs its/\PlainL s.heap a its.toArray/\xs.length<=sizeLine:=by
 rcases h with h|⟨o,its,n,hk,hc,hd,hs,hz,r⟩
 .obtain⟨z,its,n,r,e⟩:=h.ok I.hok
  exact⟨its,r,⟨_,n,e,rfl,rfl,rfl⟩,z⟩
 .refine⟨its.toList,r,⟨o,n,I.kIn a o hk,hc,hd,by simpa using hs⟩,?_⟩
  have e:=r.length;simp only[Array.length_toList]at e;omega
def Inv.tuple(I:Inv X pins σ H s)(h:ji X.K H a xs):∃its:List Value,bD xs its/\IsTup s.heap a its.toArray/\xs.length<=sizeLine:=by
 rcases h with h|⟨o,its,n,hk,hc,hs,hz,r⟩
 .obtain⟨z,its,r,p⟩:=h.ok I.hok
  exact⟨its,r,p,z⟩
 .refine⟨its.toList,r,⟨o,I.kIn a o hk,hc,n,by simpa using hs⟩,?_⟩
  have e:=r.length;simp only[Array.length_toList]at e;omega
def Inv.list_inj(I:Inv X pins σ H s)(h:eN X.K H a xs)(h':eN X.K H a ys):xs=ys:=by
 obtain⟨its,r,⟨o,n,e,_,_,d⟩,_⟩:=I.list h;obtain⟨its',r',⟨o',n',e',_,_,d'⟩,_⟩:=I.list h';rw[e]at e';cases e';rw[d]at d';injection d' with d1 _;have:its=its':=by simpa using congrArg Array.toList d1
 subst this;exact r.inj r'
def Inv.tuple_inj(I:Inv X pins σ H s)(h:ji X.K H a xs)(h':ji X.K H a ys):xs=ys:=by
 obtain⟨its,r,⟨o,e,_,n,d⟩,_⟩:=I.tuple h;obtain⟨its',r',⟨o',e',_,n',d'⟩,_⟩:=I.tuple h';rw[e]at e';cases e';rw[d]at d';injection d' with d1 _;have:its=its':=by simpa using congrArg Array.toList d1
 subst this;exact r.inj r'
end
abbrev Cx.wish(X:Cx)(E:Value->Shared->Prop):Cx:={ X with xe:=E }
abbrev Cx.nox(X:Cx):Cx:=X.wish λ_ _=>False
def Cx.Ok.wish{X:Cx}(ok:X.Ok)(E:Value->Shared->Prop):(X.wish E).Ok :=
 ⟨ok.mod,ok.kind,ok.glob,ok.blt,ok.above,ok.inj,ok.has,ok.cab,ok.hd,ok.frames,ok.stk,ok.exf,ok.bs,ok.bsz,ok.noex,ok.exfs,ok.funs,ok.frf⟩
def Cx.Ok.unwish{X:Cx}(ok:(X.wish E).Ok):X.Ok :=
 ⟨ok.mod,ok.kind,ok.glob,ok.blt,ok.above,ok.inj,ok.has,ok.cab,ok.hd,ok.frames,ok.stk,ok.exf,ok.bs,ok.bsz,ok.noex,ok.exfs,ok.funs,ok.frf⟩
section
variable {X:Cx}{pins:List (Addr×Obj)}{σ:St}{H:Hp}{s:Shared}{E:Value->Shared->Prop}
def Inv.wish(I:Inv X pins σ H s)(E:Value->Shared->Prop):Inv (X.wish E) pins σ H s:=⟨I.ok.wish E,I.os,I.bare,I.base,I.loc,I.cell,I.free,I.freeC,I.pin,I.hok,I.len⟩
def Inv.unwish(I:Inv (X.wish E) pins σ H s):Inv X pins σ H s:=⟨I.ok.unwish,I.os,I.bare,I.base,I.loc,I.cell,I.free,I.freeC,I.pin,I.hok,I.len⟩
def SP.unwish{D:mf}(h:SP (X.wish E) pins D f s'):SP X pins D f s':=by
 cases f with|next|brk|cont=>obtain⟨σ',H',I,q⟩:=h;exact⟨σ',H',I.unwish,q⟩|ret u=>obtain⟨v,σ',H',I,r,q⟩:=h;exact⟨v,σ',H',I.unwish,r,q⟩
def qZ.nox{st:List Stmt}(h:qZ X.nox st t):qZ X st t:=λpins s σ H D I hw=>
 wpAny_mono (h pins s σ H D (I.wish _) hw) (λ_ _ q=>q.unwish) λ_ _ z=>False.elim z
end
section
variable {X:Cx}{st:Stmt}{rest:List Stmt}{t u:TS}{e:Expr}{te:TE}{pos:Pos}
def JB:TS:=λD σ H=>D.nx σ H
def Ls(t u:TS):TS:=λD σ H=>t { D with nx:=u D } σ H
def jq:qZ X [] JB:=λ_ _ σ H _ I h=>wpAny_execs_nil ⟨σ,H,I,h⟩
def c6(h1:PS X st t)(h2:qZ X rest u):qZ X (st::rest) (Ls t u):=by
 intro pins s σ H D I h;refine wpAny_execs_cons (cC (h1 pins s σ H { D with nx:=u D } I h) λf s1 q=>?_);cases f with
 |next=>
  obtain⟨σ',H',I',q⟩:=q;exact h2 pins s1 σ' H' D I' q
 |ret v|brk|cont=>exact q
def Inv.quiet(I:Inv X pins σ H s):interactive X.env=false:=by simp[interactive,I.ok.kind]
def JC(te:TE):TS:=λD σ H=>te σ H λ_ H1=>D.nx σ H1
def nI(he:PE X e te)(hs:swapsWith e none pos.line X.env=pure false:=by rfl):PS X (.Expr e pos) (JC te):=by
 intro pins s σ H D I h;exact wpAny_Expr_any (cC (he pins s σ H _ I h) λv s1 ⟨x,H1,I1,r1,q1⟩=>⟨σ,H1,I1,q1⟩) I.quiet hs
def Lu(te:TE):TS:=λD σ H=>te σ H D.rt
def tT(he:PE X e te):PS X (.Return (some e) pos) (Lu te):=by
 intro pins s σ H D I h;exact wpAny_Return_some (cC (he pins s σ H _ I h) λv s1 ⟨x,H1,I1,r1,q1⟩=>⟨x,σ,H1,I1,r1,q1⟩)
def LB(c:TT)(t u:TS):TS:=λD σ H=>c σ H λb H1=>if b=true then t D σ H1 else u D σ H1
def yI(hc:PT X c tc)(ha:qZ X a t)(hb:qZ X b u):PS X (.If c a b pos) (LB tc t u):=by
 intro pins s σ H D I h;refine wpAny_If (cC (hc pins s σ H _ I h) λd s1 z9=>?_);obtain⟨H1,I1,q1⟩:=z9;cases d with|true=>exact ha pins s1 σ H1 D I1 q1|false=>exact hb pins s1 σ H1 D I1 q1
def Hg:TS:=λ_ _ _=>False
def Ce:PS X st Hg:=λ_ _ _ _ _ _ h=>h.elim
end
abbrev TG:=V->St->Hp->(St->Hp->Prop)->Prop
abbrev Jo:=ad->St->Hp->(St->Hp->Prop)->Prop
noncomputable def PG(X:Cx) (target:Expr) (t:TG):Prop :=
 ∀(pins:List (Addr×Obj)) (s:Shared) (σ:St) (H:Hp) (v:V) (u:Value) (Q:St->Hp->Prop),Inv X pins σ H s->bo v u->t v σ H Q ->
  wpAny (model X.prog X.w) X.A (assign target X.env u) (λ_ s'=>∃σ' H',Inv X pins σ' H' s'/\Q σ' H') X.xe s
noncomputable def Bn(X:Cx) (ts:List Expr) (t:Jo):Prop :=
 ∀(pins:List (Addr×Obj)) (s:Shared) (σ:St) (H:Hp) (vs:ad) (us:List Value) (Q:St->Hp->Prop),Inv X pins σ H s->bD vs us->t vs σ H Q ->
  wpAny (model X.prog X.w) X.A (assignInOrder ((assignEach ts X.env).map (·.2)) us) (λ_ s'=>∃σ' H',Inv X pins σ' H' s'/\Q σ' H') X.xe s
abbrev KU:=V->V->V->Hp->(Hp->Prop)->Prop
noncomputable def KY(X:Cx) (t:KU):Prop :=
 ∀(pins:List (Addr×Obj)) (s:Shared) (σ:St) (H:Hp) (o i v:V) (ov iv u:Value) (Q:Hp->Prop),Inv X pins σ H s->bo o ov->bo i iv->bo v u->t o i v H Q ->
  wpAny (model X.prog X.w) X.A (setItem ov iv u) (λ_ s'=>∃H',Inv X pins σ H' s'/\Q H') X.xe s
section
variable {X:Cx}{pos:Pos}
def zo(i:Nat):TG:=λv σ H Q=>Q (σ.set i (some v)) H
def yN(hN:X.N.Nodup)(hi:X.N[i]?=some x)(hx:Af X.env.scope x)(hf:X.fn x=true∨X.env.scope.names.lookup x=some .local := by first|exact .inl rfl|exact .inr rfl|assumption):PG X (.Name x pos) (zo i):=by
 intro pins s σ H v u Q I r h;exact wpAny_assign_Name (ko I hN hi hx r (λs' I'=>⟨_,H,I',h⟩) hf)
def LX:Jo:=λvs σ H Q=>vs=[]/\Q σ H
def Kx(t:TG)(u:Jo):Jo:=λvs σ H Q=>∃v r,vs=v::r/\t v σ H λσ' H'=>u r σ' H' Q
def ET:Bn X [] LX:=by
 intro pins s σ H vs us Q I r h;obtain⟨e,h⟩:=h;subst e;cases r;exact assignInOrder_nil ⟨σ,H,I,h⟩
def Ck(h1:PG X e t)(h2:Bn X es u)
  (hs:(assignEach (e::es) X.env).map (·.2)=assign e X.env::(assignEach es X.env).map (·.2):=by rfl):Bn X (e::es) (Kx t u):=by
 intro pins s σ H vs us Q I r h;obtain⟨v,vr,e1,h⟩:=h;subst e1;cases r with
 |cons r rr=>
  rw[hs];refine assignInOrder_cons (cC (h1 pins s σ H _ _ _ I r h) λ_ s1 z9=>?_);obtain⟨σ1,H1,I1,q1⟩:=z9;exact h2 pins s1 σ1 H1 _ _ Q I1 rr q1
def LV(K:W.Frag)(n:Nat)(t:Jo):TG:=λv σ H Q=>∃a xs,v=.ref a/\ji K H a xs/\xs.length=n/\t xs σ H Q
def HL{k:Nat}(hc:X.calm=true)(h:Bn X es t)
  (hn:(assignEach es X.env).length=n:=by rfl)(hst:(assignEach es X.env).findIdx? (·.1)=none:=by rfl):PG X (.Tuple es k pos) (LV X.K n t):=by
 intro pins s σ H v u Q I r hw;obtain⟨a,xs,e1,hq,hl,hw⟩:=hw;subst e1;cases r;obtain⟨its,rv,ht,hz⟩:=I.tuple hq;refine assign_Tuple_tuple (I.ok.hd hc) ht (by simp[hn,←hl,rv.length]) hst λh' hx=>?_;have I1:Inv X pins σ H { s with heap:=h' }:=I.kept (t':=s.toks) λb o e=>hx b o (Nat.ne_of_lt (Heap.lt_size e)) e;exact h pins _ σ H xs _ Q I1 (by simpa using rv) hw
def LW(to ti:TE)(t:KU):TG:=λv σ H Q=>to σ H λo H1=>ti σ H1 λi H2=>t o i v H2 λH3=>Q σ H3
def Cm(ho:PE X o to)(hi:PE X i ti)(hs:KY X t)
  (ha:∀v,assign (.Subscript o i pos) X.env v=(do
   let ov ←holding [v] (eval o X.env)
   let iv ←holding [v,ov] (eval i X.env)
   standAt pos
   holding [v,ov,iv] (setItem ov iv v)
   release [v,ov,iv] []):=by intro _;rfl):PG X (.Subscript o i pos) (LW to ti t):=by
 intro pins s σ H v u Q I r h;rw[ha];refine wpAny_bind (wpAny_holding (cC (ho pins s σ H _ I h) λov s1 ⟨x,H1,I1,r1,q1⟩=>?_));refine wpAny_bind (wpAny_holding (cC (hi pins s1 σ H1 _ I1 q1) λiv s2 ⟨y,H2,I2,r2,q2⟩=>?_));refine wpAny_bind (wpAny_standAt (wpAny_bind (wpAny_holding (cC (hs pins s2 σ H2 x y v ov iv u _ I2 r1 r2 r q2) λ_ s3 z9=>?_))));obtain⟨H3,I3,q3⟩:=z9;exact wpAny_release ⟨σ,H3,I3,q3⟩
def Ez(te:TE)(g:TG):TS:=λD σ H=>te σ H λx H1=>g x σ H1 D.nx
def xr(he:PE X e te)(hg:PG X tg g)(hs:swapsWithSole [tg] e pos.line X.env=pure false:=by rfl)(hw:swappedStores [tg] e X.env=pure none:=by rfl)
  (h1:(assignEach [tg] X.env).map (·.2)=[assign tg X.env]:=by rfl):PS X (.Assign [tg] e pos) (Ez te g):=by
 intro pins s σ H D I h;refine wpAny_Assign_stores (cC (he pins s σ H _ I h) λv s1 z9=>?_) hs hw;obtain⟨x,H1,I1,r1,q1⟩:=z9;rw[h1];exact cC (hg pins s1 σ H1 x v _ I1 r1 q1) λ_ s2 q=>q
def iM(hN:X.N.Nodup)(hi:X.N[i]?=some x)(hx:Af X.env.scope x)(he:PE X e te)(hs:swapsWith e (some (.Name x pos')) pos.line X.env=pure false:=by rfl)(hf:X.fn x=true∨X.env.scope.names.lookup x=some .local := by first|exact .inl rfl|exact .inr rfl|assumption) :
  PS X (.Assign [.Name x pos'] e pos) (Ez te (zo i)):=by
 intro pins s σ H D I h;refine wpAny_Assign_Name (cC (he pins s σ H _ I h) λv s1 z9=>?_) hs;obtain⟨y,H1,I1,r1,q1⟩:=z9;exact ko I1 hN hi hx r1 (λs2 I2=>⟨_,H1,I2,q1⟩) hf
def Lv(i j:Nat)(ta:TA):TS:=λD σ H=>ta σ H λvs H1=>∃v w,vs=[v,w]/\D.nx ((σ.set i (some v)).set j (some w)) H1
def HI{px py pt:Pos}{kt k2 pt2}(hc:X.calm=true)(hN:X.N.Nodup)(hi:X.N[i]?=some x)(hj:X.N[j]?=some y)(hij:i≠j)
  (hx:X.env.scope.names.lookup x=some .local)(hy:X.env.scope.names.lookup y=some .local)(ha:PA X [a,b] ta)
  (hw:swappedStores [.Tuple [.Name x px,.Name y py] kt pt] (.Tuple [a,b] k2 pt2) X.env=pure (some [x,y]))
  (hs:swapsWithSole [.Tuple [.Name x px,.Name y py] kt pt] (.Tuple [a,b] k2 pt2) pos.line X.env=pure false:=by rfl) :
  PS X (.Assign [.Tuple [.Name x px,.Name y py] kt pt] (.Tuple [a,b] k2 pt2) pos) (Lv i j ta):=by
 intro pins s σ H D I h;rw[exec_Assign_arm];refine wpAny_bind (wpAny_standAt ?_);rw[hs];refine wpAny_bind (wpAny_pure ?_);rw[if_neg (by decide)];refine wpAny_bind (Tuple_ (cC (ha _ pins s σ H _ I h) λus s1 z9=>?_));obtain⟨vs,H1,I1,r1,q1⟩:=z9;obtain⟨v,w,e1,q1⟩:=q1;subst e1;obtain⟨u1,u2,rfl,rv,rw'⟩:∃u1 u2,us=[u1,u2]/\bo v u1/\bo w u2:=by
  cases r1 with
  |cons p q=>
   cases q with
   |cons p' q'=>
    cases q';exact⟨_,_,rfl,p,p'⟩
 refine wpAny_newObj_type ?_ (by show 2<=sizeLine;decide);have I2:Inv X pins σ H1 { s1 with heap:=s1.heap.push { cls:=.type "tuple",data:=.seq [u1,u2].toArray } }:=I1.kept (t':=s1.toks) λb o e=>Heap.get?_push_of_some _ e;rw[hw];refine wpAny_bind (wpAny_pure ?_);show wpAny (model X.prog X.w) X.A (do rule "assign.swapped-stores";let items ←unpackItems (.ref s1.heap.objs.size) 2 none;assignInOrder [λv=>bindName X.env y v,λv=>bindName X.env x v] items.reverse;pure Flow.next) _ _ _;refine wpAny_bind (wpAny_rule (wpAny_bind (unpackItems_tuple (items:=#[u1,u2]) (I.ok.hd hc) (IsTup.new s1.heap _) λh' hx'=>?_)));have I3:=I2.kept (h':=h') (t':=s1.toks) λb o e=>hx' b o (Nat.ne_of_lt (Heap.lt_size e)) e;show wpAny _ _ (assignInOrder [λv=>bindName X.env y v,λv=>bindName X.env x v] [u2,u1] >>= λ_=>pure Flow.next) _ _ _;refine wpAny_bind (assignInOrder_cons (wpAny_bindName (ko I3 hN hj (.inl hy) rw' (λs2 I4=>?_) (.inr hy))));refine assignInOrder_cons (wpAny_bindName (ko I4 hN hi (.inl hx) rv (λs3 I5=>assignInOrder_nil (wpAny_pure ?_)) (.inr hx)));rw[List.set_comm _ _ (Ne.symm hij)]at I5;exact⟨_,H1,I5,q1⟩
end
section
variable {X:Cx}{pos:Pos}
def Hf(c:TT)(tb:TS):TS:=λD σ H=>∃W:Nat->St->Hp->Prop,(∃m,W m σ H)/\∀m σ H,W m σ H ->
 c σ H λb H1=>if b=true then ∃N:St->Hp->Prop,(∀σ' H',N σ' H'->∃m',m' < m/\W m' σ' H')/\tb { D with nx:=N,ct:=N,bk:=D.nx } σ H1 else D.nx σ H1
def Cd(hp:PassesOwn (model X.prog X.w) X.A X.env X.xe)(hc:PT X c tc)(hb:qZ X body tb):PS X (.While c body [] pos) (Hf tc tb):=by
 intro pins s σ H D I h;obtain⟨W,⟨m0,w0⟩,turn⟩:=h;refine wpAny_While (codeAny_whileLoop (λn s'=>∃σ' H',Inv X pins σ' H' s'/\W n σ' H') ?_ m0 ⟨σ,H,I,w0⟩);rintro n s1 ⟨σ1,H1,I1,w1⟩;refine wpAny_passesOwn hp (cC (hc pins s1 σ1 H1 _ I1 (turn n σ1 H1 w1)) λb s2 z9=>?_);obtain⟨H2,I2,q2⟩:=z9;cases b with
 |true=>
  obtain⟨N,hN,q2⟩:=q2;rw[if_pos rfl];refine wpAny_passesOwn hp (cC (hb pins s2 σ1 H2 _ I2 q2) λf s3 q3=>?_);cases f with
  |next=>
   obtain⟨σ3,H3,I3,n3⟩:=q3;obtain⟨m',hm,w3⟩:=hN σ3 H3 n3;exact⟨m',hm,σ3,H3,I3,w3⟩
  |cont=>
   obtain⟨σ3,H3,I3,n3⟩:=q3;obtain⟨m',hm,w3⟩:=hN σ3 H3 n3;exact⟨m',hm,σ3,H3,I3,w3⟩
  |brk|ret v=>exact q3
 |false=>
  rw[if_neg Bool.false_ne_true];exact wpAny_execs_nil ⟨σ1,H2,I2,q2⟩
end
structure It where
 go:Nat->Hp->Prop
 yld:Nat->Hp->V->Hp->Prop
 stop:Nat->Hp->Prop
def me(X:Cx)(pins:List (Addr×Obj))(H:Hp)(b:Addr):Prop :=
 H b=none/\b≠X.env.locals/\b∉X.fs/\(b∈X.ex∨X.sf.heap.objs.size<=b)/\(∀x c,X.env.cells.lookup x=some c->c≠b)/\∀p∈X.pn++pins,p.1≠b
def Inv.fpOk(I:Inv X pins σ H s)(hb:s.heap.objs.size<=b)(hn:H' b=none):me X pins H' b:=by
 refine⟨hn,Nat.ne_of_gt (Nat.lt_of_lt_of_le I.lt hb),I.nofs hb,.inr (Nat.le_trans I.sz hb),λx c e z=>?_,λp hp z=>?_⟩
 .obtain⟨v,q⟩:=I.cell x c e
  exact absurd (Nat.lt_of_lt_of_le q.lt (by rw[z];exact hb)) (Nat.lt_irrefl _)
 .exact absurd (Nat.lt_of_lt_of_le (Heap.lt_size (I.pin p hp).1) (by rw[z];exact hb)) (Nat.lt_irrefl _)
structure yf (P:Program) (w:World) (K:W.Frag) (tg:Expr) (J:It) (fp:List Addr) (it:Addr) (tn:Nat->Heap->Prop):Prop where
 mem:it∈fp
 obj:∀i h,tn i h->∀b∈fp,∃o,h.get? b=some o/\∀v,o.data≠.cell v
 keep:∀i h h',tn i h->(∀b∈fp,∀o,h.get? b=some o->h'.get? b=some o)->tn i h'
 item:∀(X:Cx),X.prog=P->X.w=w->X.K=K->X.calm=true->∀(i:Nat) (pins:List (Addr×Obj)) (s:Shared) (σ:St) (H:Hp) (E:Value->Shared->Prop),Inv X pins σ H s->(∀b∈fp,me X pins H b)->tn i s.heap->J.go i H ->
  wpAny (model P w) X.A (pyNext (.ref it)) (λr s1=>∃u,r=some u /\
   wpAny (model P w) X.A (letOwnedTupleGo tg (.ref it) u) (λ_ s2=>∃x H',Inv X pins σ H' s2/\bo x u/\J.yld i H x H'/\tn (i+1) s2.heap/\∀b∈fp,H' b=none) E s1) E s
 done:∀(X:Cx),X.prog=P->X.w=w->X.K=K->X.calm=true->∀(i:Nat) (pins:List (Addr×Obj)) (s:Shared) (σ:St) (H:Hp) (E:Value->Shared->Prop),Inv X pins σ H s->(∀b∈fp,me X pins H b)->tn i s.heap->J.stop i H ->
  wpAny (model P w) X.A (pyNext (.ref it)) (λr s1=>r=none/\Inv X pins σ H s1) E s
 self:∀(A:Around) (i:Nat) (s:Shared) (Q:Value->Shared->Prop) (E:Value->Shared->Prop),tn i s.heap->Q (.ref it) s->wpAny (model P w) A (pyIter (.ref it)) Q E s
abbrev TI:=St->Hp->(It->Hp->Prop)->Prop
noncomputable def Ma(X:Cx) (pins:List (Addr×Obj)) (σ:St) (tg:Expr) (R:It->Hp->Prop) (itv:Value) (s2:Shared):Prop :=
 ∃(it:Addr) (fp:List Addr) (tn:Nat->Heap->Prop) (J:It) (H':Hp),itv=.ref it/\Inv X pins σ H' s2/\yf X.prog X.w X.K tg J fp it tn/\tn 0 s2.heap/\(∀b∈fp,me X pins H' b)/\R J H'
noncomputable def PI(X:Cx) (tg iter:Expr) (wi:TI):Prop :=
 ∀(pins:List (Addr×Obj)) (s:Shared) (σ:St) (H:Hp) (R:It->Hp->Prop),Inv X pins σ H s->wi σ H R ->
  wpAny (model X.prog X.w) X.A (eval iter X.env) (λv s1=>wpAny (model X.prog X.w) X.A (pyIter v) (Ma X pins σ tg R) X.xe s1) X.xe s
def vK(ho:s.heap.get? it=some o)(hc:o.cls=.type n)(hd:o.data=.fields vs)
  (hn:["enumerate","zip","dict_itemiterator","dict_reverseitemiterator","odict_iterator","itertools.zip_longest","itertools.pairwise"].contains n=false)(hQ:Q () s):wpAny M A (letOwnedTupleGo tg (.ref it) u) Q E s:=by
 unfold letOwnedTupleGo;cases tg<;>first
  |exact wpAny_pure hQ
  |(cases u<;>first
    |exact wpAny_pure hQ
    |(refine wpAny_bind (wpAny_load ho ?_);rw[hc,hd];show wpAny M A (if(["enumerate","zip","dict_itemiterator","dict_reverseitemiterator","odict_iterator","itertools.zip_longest","itertools.pairwise"].contains n&&vs[0]?==some (rawInt _))=true then _ else _) Q E s;rw[if_neg (by intro h;rw[hn,Bool.false_and]at h;cases h)];exact wpAny_pure hQ))
def K3(K:W.Frag)(a:Addr):It :=
 ⟨λi H=>∃xs x,eN K H a xs/\xs[i]?=some x,λi H x H'=>H'=H/\∀xs,eN K H a xs->xs[i]?=some x,λi H=>∃xs,eN K H a xs/\xs.length<=i⟩
def MK(K:W.Frag)(a:Addr):It :=
 ⟨λi H=>∃xs x,ji K H a xs/\xs[i]?=some x,λi H x H'=>H'=H/\∀xs,ji K H a xs->xs[i]?=some x,λi H=>∃xs,ji K H a xs/\xs.length<=i⟩
def Jc(lo:Int)(n:Nat):It:=⟨λi _=>i<n,λi H x H'=>H'=H/\x=.int (lo+i),λi _=>n<=i⟩
def Am{P:Program}{w:World}{K:W.Frag}{tg:Expr}(a it:Addr):yf P w K tg (K3 K a) [it] it (λi h=>h.IsListIter it a i) where
 mem:=by simp
 obj:=λi h st b hb=>by
  have e:b=it:=by simpa using hb
  subst e;obtain⟨o,e,c,d⟩:=st;exact⟨o,e,λv z=>by rw[d]at z;cases z⟩
 keep:=λi h h' st k=>st.at λo e=>k it (by simp) o e
 item:=by
  intro X hP hw hK hc i pins s σ H E I hf st hg;subst hP hw hK;obtain⟨xs,x,hq,hx⟩:=hg;obtain⟨its,rv,p,hz⟩:=I.list hq;obtain⟨u,hu,ru⟩:=rv.get hx;obtain⟨f0,f1,f2,f3,f4,f5⟩:=hf it (by simp);refine wpAny_pyNext_list_item st p.isList (x:=u) (by simpa using hu) λh' st' sb=>?_;have I1:Inv X pins σ H { s with heap:=h' }:=I.turned (t':=s.toks) (λb o hb e=>(sb.2 b hb).trans e) f0 f1 f3 f4 f5;obtain⟨o,e,c,d⟩:=id st';exact⟨u,rfl,vK (s:={ s with heap:=h' }) e c d (by decide) ⟨x,H,I1,ru,⟨rfl,λys hy=>by rw[I.list_inj hy hq];exact hx⟩,st',λb hb=>(hf b hb).1⟩⟩
 done:=by
  intro X hP hw hK hc i pins s σ H E I hf st hg;subst hP hw hK;obtain⟨xs,hq,hx⟩:=hg;obtain⟨its,rv,p,hz⟩:=I.list hq;obtain⟨f0,f1,f2,f3,f4,f5⟩:=hf it (by simp);have hl:=rv.length;exact wpAny_pyNext_list_end (I.ok.hd hc) st p.isList (by simp;omega) λh' eb=>⟨rfl,I.turned (t':=s.toks) (λb o hb e=>eb b o hb e) f0 f1 f3 f4 f5⟩
 self:=λ_ _ _ _ _ st h=>wpAny_pyIter_listiter st h
def wZ{P:Program}{w:World}{K:W.Frag}{tg:Expr}(a it:Addr):yf P w K tg (MK K a) [it] it (λi h=>h.IsTupleIter it a i) where
 mem:=by simp
 obj:=λi h st b hb=>by
  have e:b=it:=by simpa using hb
  subst e;obtain⟨o,e,c,d⟩:=st;exact⟨o,e,λv z=>by rw[d]at z;cases z⟩
 keep:=λi h h' st k=>st.at λo e=>k it (by simp) o e
 item:=by
  intro X hP hw hK hc i pins s σ H E I hf st hg;subst hP hw hK;obtain⟨xs,x,hq,hx⟩:=hg;obtain⟨its,rv,p,hz⟩:=I.tuple hq;obtain⟨u,hu,ru⟩:=rv.get hx;obtain⟨f0,f1,f2,f3,f4,f5⟩:=hf it (by simp);refine wpAny_pyNext_tuple_item st (show s.heap.IsTuple a its.toArray from p) (x:=u) (by simpa using hu) λh' st' sb=>?_;have I1:Inv X pins σ H { s with heap:=h' }:=I.turned (t':=s.toks) (λb o hb e=>(sb.2 b hb).trans e) f0 f1 f3 f4 f5;obtain⟨o,e,c,d⟩:=id st';exact⟨u,rfl,vK (s:={ s with heap:=h' }) e c d (by decide) ⟨x,H,I1,ru,⟨rfl,λys hy=>by rw[I.tuple_inj hy hq];exact hx⟩,st',λb hb=>(hf b hb).1⟩⟩
 done:=by
  intro X hP hw hK hc i pins s σ H E I hf st hg;subst hP hw hK;obtain⟨xs,hq,hx⟩:=hg;obtain⟨its,rv,p,hz⟩:=I.tuple hq;obtain⟨f0,f1,f2,f3,f4,f5⟩:=hf it (by simp);have hl:=rv.length;exact wpAny_pyNext_tuple_end (I.ok.hd hc) st (show s.heap.IsTuple a its.toArray from p) (by simp;omega) λh' eb=>⟨rfl,I.turned (t':=s.toks) (λb o hb e=>eb b o hb e) f0 f1 f3 f4 f5⟩
 self:=λ_ _ _ _ _ st h=>wpAny_pyIter_tupleiter st h
def w6{P:Program}{w:World}{K:W.Frag}{tg:Expr}(it:Addr)(lo:Int)(n:Nat):yf P w K tg (Jc lo n) [it] it (λi h=>IsRangeIter h it (lo+(i:Nat)*1) ((n:Int)-(i:Nat)) 1) where
 mem:=by simp
 obj:=λi h st b hb=>by
  have e:b=it:=by simpa using hb
  subst e;exact⟨_,st,λv z=>by
   have z':Data.fields _=Data.cell v:=z;cases z'⟩
 keep:=λi h h' st k=>k it (by simp) _ st
 item:=by
  intro X hP hw hK hc i pins s σ H E I hf st hg;subst hP hw hK;obtain⟨f0,f1,f2,f3,f4,f5⟩:=hf it (by simp);have W:=Walks.range (prog:=X.prog) (w:=X.w) (I.ok.hd hc) it lo 1 n;refine W.item i s _ _ hg st λv h' tk hv st' kk=>?_;obtain⟨t,rfl⟩:=hv;have I1:Inv X pins σ H { s with heap:=h',toks:=tk }:=I.turned (λb o hb e=>kk b o (by simpa using hb) e) f0 f1 f3 f4 f5;refine⟨_,rfl,vK (s:={ s with heap:=h',toks:=tk }) (n:="range_iterator") st' rfl rfl (by decide) ⟨.int (lo+i),H,I1,⟨t,?_⟩,⟨rfl,rfl⟩,st',λb hb=>(hf b hb).1⟩⟩;rw[Int.mul_one]
 done:=by
  intro X hP hw hK hc i pins s σ H E I hf st hg;subst hP hw hK;obtain⟨f0,f1,f2,f3,f4,f5⟩:=hf it (by simp);exact wpAny_pyNext_range_end (I.ok.hd hc) st (by have:n<=i:=hg;omega) λh' eb=>⟨rfl,I.turned (t':=s.toks) (λb o hb e=>eb b o hb e) f0 f1 f3 f4 f5⟩
 self:=λ_ _ _ _ _ st h=>wpAny_pyIter_rangeiter st h
section
variable {X:Cx}{tg:Expr}
def Ku(K:W.Frag)(tl:TE):TI:=λσ H R=>tl σ H λx H1=>∃a,x=.ref a/\(∃xs,eN K H1 a xs)/\R (K3 K a) H1
def LR(K:W.Frag)(tl:TE):TI:=λσ H R=>tl σ H λx H1=>∃a,x=.ref a/\(∃xs,ji K H1 a xs)/\R (MK K a) H1
def yM(hl:PE X l tl):PI X tg l (Ku X.K tl):=by
 intro pins s σ H R I h;refine cC (hl pins s σ H _ I h) λv s1 ⟨x,H1,I1,r1,q1⟩=>?_;obtain⟨a,e,⟨xs,hq⟩,q⟩:=q1;subst e;cases r1;obtain⟨its,rv,p,hz⟩:=I1.list hq;refine wpAny_pyIter_list p.isList ?_;refine⟨s1.heap.objs.size,[s1.heap.objs.size],_,_,H1,rfl,I1.kept (t':=s1.toks) λb o e=>Heap.get?_push_of_some _ e,Am a _,⟨_,Heap.get?_push_size _ rfl,rfl,rfl⟩,λb hb=>?_,q⟩;have e:b=s1.heap.objs.size:=by simpa using hb
 subst e;exact I1.fpOk (Nat.le_refl _) (I1.hok.fresh (Nat.le_refl _))
def HJ(hl:PE X l tl):PI X tg l (LR X.K tl):=by
 intro pins s σ H R I h;refine cC (hl pins s σ H _ I h) λv s1 ⟨x,H1,I1,r1,q1⟩=>?_;obtain⟨a,e,⟨xs,hq⟩,q⟩:=q1;subst e;cases r1;obtain⟨its,rv,p,hz⟩:=I1.tuple hq;refine wpAny_pyIter_tuple (show s1.heap.IsTuple a its.toArray from p) ?_;refine⟨s1.heap.objs.size,[s1.heap.objs.size],_,_,H1,rfl,I1.kept (t':=s1.toks) λb o e=>Heap.get?_push_of_some _ e,wZ a _,⟨_,Heap.get?_push_size _ rfl,rfl,rfl⟩,λb hb=>?_,q⟩;have e:b=s1.heap.objs.size:=by simpa using hb
 subst e;exact I1.fpOk (Nat.le_refl _) (I1.hok.fresh (Nat.le_refl _))
def B4{lo hi:Int}(I:Inv X pins σ H s)(h1:-(2 ^ 62)<=lo)(h2:lo<2 ^ 62)(h3:-(2 ^ 62)<=hi)(h4:hi<2 ^ 62)
  (q:R (Jc lo (hi-lo).toNat) H):wpAny (model X.prog X.w) X.A (pyIter (.ref s.heap.objs.size)) (Ma X pins σ tg R) E { s with heap:=s.heap.push { cls:=.type "range",data:=.fields #[.int lo t,.int hi u,.int 1 v] },toks:=tk }:=by
 refine wpAny_pyIter_range (IsRange.new ..) (small_one h1 h2 h3 h4) ?_;have I1:Inv X pins σ H { s with heap:=s.heap.push { cls:=.type "range",data:=.fields #[.int lo t,.int hi u,.int 1 v] },toks:=tk }:=I.kept λb o e=>Heap.get?_push_of_some _ e;refine⟨(s.heap.push { cls:=.type "range",data:=.fields #[.int lo t,.int hi u,.int 1 v] }).objs.size,[(s.heap.push { cls:=.type "range",data:=.fields #[.int lo t,.int hi u,.int 1 v] }).objs.size],_,_,H,rfl,
  I1.kept (t':=tk) λb o e=>Heap.get?_push_of_some _ e,w6 _ lo (hi-lo).toNat,?_,λb hb=>?_,q⟩
 .have e1:lo+((0:Nat):Int)*1=lo:=by simp
  have e2:(((hi-lo).toNat:Nat):Int)-((0:Nat):Int)=Builtin.Range.rangeSize lo hi 1:=by rw[rangeSize_one];split<;>omega
  show IsRangeIter _ _ (lo+((0:Nat):Int)*1) ((((hi-lo).toNat:Nat):Int)-((0:Nat):Int)) 1;rw[e1,e2];exact Heap.get?_push_size _ rfl
 .have e:b=(s.heap.push { cls:=.type "range",data:=.fields #[.int lo t,.int hi u,.int 1 v] }).objs.size:=by simpa using hb
  subst e;exact I1.fpOk (Nat.le_refl _) (I1.hok.fresh (Nat.le_refl _))
def Kt(ta:TA):TI:=λσ H R=>ta σ H λvs H1=>∃j:Int,vs=[.int j]/\-(2 ^ 62)<=j/\j<2 ^ 62/\R (Jc 0 j.toNat) H1
def mq(hg:Gl X "range")(hm:X.mg "range"=none)(ha:PA X [a] ta)(hs:starEach [a] X.env=[(false,eval a X.env)]:=by rfl):PI X tg (.Call (.Name "range" p) [a] [] pos) (Kt ta):=by
 intro pins s σ H R I h;refine Call_ (o8 I hg hm boot_range (PyProof.Rows.callWith_type1 (cC (ha pos pins s σ H _ I h) λus s1 z9=>?_) hs rfl));obtain⟨vs,H1,I1,r1,q1⟩:=z9;obtain⟨j,e,q1,q2,q⟩:=q1;subst e;cases r1 with
 |cons r rr=>
  cases rr;obtain⟨t,rfl⟩:=r;exact call_range_1 (B4 I1 (by omega) (by omega) q1 q2 (by simpa using q))
noncomputable def LF(wi:TI) (g:TG) (tb:TS):TS:=λD σ H=>wi σ H λJ H1=>∃W:Nat->Nat->St->Hp->Prop,(∃m,W 0 m σ H1)/\∀i m σ H,W i m σ H ->
 (J.stop i H/\D.nx σ H)∨(J.go i H/\∃N:St->Hp->Prop,(∀σ' H',N σ' H'->∃m',m' < m/\W (i+1) m' σ' H')/\∀x H',J.yld i H x H'->g x σ H' λσ2 H2=>tb { D with nx:=N,ct:=N,bk:=D.nx } σ2 H2)
def oN(fp:List Addr)(h:Heap):List (Addr×Obj):=fp.filterMap λb=>(h.get? b).map λo=>(b,o)
def ie{h:Heap}(hb:b∈fp)(e:h.get? b=some o):(b,o)∈oN fp h:=List.mem_filterMap.mpr ⟨b,hb,by rw[e];rfl⟩
def AK{h:Heap}(hp:p∈oN fp h):p.1∈fp/\h.get? p.1=some p.2:=by
 obtain⟨b,hb,e⟩:=List.mem_filterMap.mp hp;cases q:h.get? b with
 |none=>rw[q]at e;cases e
 |some o=>
  rw[q]at e;have e':(b,o)=p:=Option.some.inj e;subst e';exact⟨hb,q⟩
def Inv.pinned(I:Inv X pins σ H s)(hf:∀b∈fp,me X pins H b)(ho:∀b∈fp,∃o,s.heap.get? b=some o/\∀v,o.data≠.cell v):Inv X (pins++oN fp s.heap) σ H s :=
 I.pins_of λp hp=>(List.mem_append.mp hp).elim (λz=>I.pin p (List.mem_append_right _ z)) λz=>by
  obtain⟨hb,e⟩:=AK z;obtain⟨f0,f1,f2,_⟩:=hf p.1 hb;obtain⟨o,e',d⟩:=ho p.1 hb;rw[e]at e';cases e';exact⟨e,f0,f1,f2,d⟩
def Inv.unpinned{pins pl:List (Addr×Obj)}(I:Inv X (pins++pl) σ H s):Inv X pins σ H s:=I.pins_of λp hp=>I.pin p (List.mem_append_right _ (List.mem_append_left _ hp))
def tU(hp:PassesOwn (model X.prog X.w) X.A X.env X.xe)(hc:X.calm=true)(hi:PI X tg iter wi)(hg:PG X tg g)(hb:qZ X body tb)
  (hs:∀x,foldedSetIterable iter X.env x=pure x:=by intro _;rfl):PS X (.For tg iter body [] pos) (LF wi g tb):=by
 intro pins s σ H D I h;refine wpAny_For (cC (hi pins s σ H _ I h) λv s1 h1=>cC h1 λitv s2 h2=>?_) hs;obtain⟨it,fp,tn,J,H2,e,I2,T,st2,f2,W,⟨m0,w0⟩,turn⟩:=h2;subst e;have stat:∀{H':Hp},(∀b∈fp,H' b=none)->∀b∈fp,me X pins H' b:=λhn b hb=>⟨hn b hb,(f2 b hb).2⟩
 refine codeAny_forLoop_any (λn s'=>∃i σ' H',Inv X pins σ' H' s'/\tn i s'.heap/\(∀b∈fp,H' b=none)/\W i n σ' H') ?_ m0 ⟨0,σ,H2,I2,st2,λb hb=>(f2 b hb).1,w0⟩;rintro n s3 ⟨i,σ3,H3,I3,st3,fr3,w3⟩;rcases turn i n σ3 H3 w3 with⟨stop,qn⟩|⟨go,N,hN,step⟩
 .refine wpAny_passesOwn hp (cC (T.done X rfl rfl rfl hc i pins s3 σ3 H3 X.xe I3 (stat fr3) st3 stop) λr s4 ⟨hr,I4⟩=>?_)
  subst hr;exact wpAny_execs_nil ⟨σ3,H3,I4,qn⟩
 .refine wpAny_passesOwn hp (cC (T.item X rfl rfl rfl hc i pins s3 σ3 H3 X.xe I3 (stat fr3) st3 go) λr s4 ⟨u,hr,h4⟩=>?_)
  subst hr;refine wpAny_passesOwn hp (cC h4 λ_ s5 ⟨x,H5,I5,r5,y5,st5,fr5⟩=>?_);have I5':=I5.pinned (stat fr5) (T.obj _ _ st5);refine wpAny_passesOwn hp (cC (hg _ s5 σ3 H5 x u _ I5' r5 (step x H5 y5)) λ_ s6 ⟨σ6,H6,I6,q6⟩=>?_);refine wpAny_passesOwn hp (cC (hb _ s6 σ6 H6 _ I6 q6) λf s7 q7=>?_);have again:∀{σ7:St}{H7:Hp},Inv X (pins++oN fp s5.heap) σ7 H7 s7->N σ7 H7->∃m,m<n/\∃i σ' H',Inv X pins σ' H' s7/\tn i s7.heap/\(∀b∈fp,H' b=none)/\W i m σ' H':=λ{σ7 H7} I7 n7=>by
   obtain⟨m',hm,w7⟩:=hN σ7 H7 n7;refine⟨m',hm,i+1,σ7,H7,I7.unpinned,T.keep _ _ _ st5 λb hb o e=>(I7.pin (b,o) (List.mem_append_right _ (List.mem_append_right _ (ie hb e)))).1,λb hb=>?_,w7⟩;obtain⟨o,e,d⟩:=T.obj _ _ st5 b hb;exact(I7.pin (b,o) (List.mem_append_right _ (List.mem_append_right _ (ie hb e)))).2.1
  cases f with|next|cont=>obtain⟨σ7,H7,I7,n7⟩:=q7;exact again I7 n7|brk=>obtain⟨σ7,H7,I7,q7⟩:=q7;exact⟨σ7,H7,I7.unpinned,q7⟩|ret v=>obtain⟨x7,σ7,H7,I7,r7,q7⟩:=q7;exact⟨x7,σ7,H7,I7.unpinned,r7,q7⟩
end
def CY{K:W.Frag}{g:TG}{tb:TS}{D:mf}(Pv:Nat->St->Hp->Prop)(h0:Pv 0 σ H)(hl:∀i σ H,i<=xs.length->Pv i σ H->eN K H a xs)
  (hs:∀i x σ H,xs[i]?=some x->Pv i σ H->g x σ H λσ2 H2=>tb { D with nx:=Pv (i+1),ct:=Pv (i+1),bk:=D.nx } σ2 H2)(hd:∀σ H,Pv xs.length σ H->D.nx σ H) :
  ∃W:Nat->Nat->St->Hp->Prop,(∃m,W 0 m σ H)/\∀i m σ H,W i m σ H ->
   ((K3 K a).stop i H/\D.nx σ H)∨((K3 K a).go i H/\∃N:St->Hp->Prop,(∀σ' H',N σ' H'->∃m',m' < m/\W (i+1) m' σ' H')/\∀x H',(K3 K a).yld i H x H'->g x σ H' λσ2 H2=>tb { D with nx:=N,ct:=N,bk:=D.nx } σ2 H2):=by
 refine⟨λi m σ H=>m=xs.length-i/\i<=xs.length/\Pv i σ H,⟨xs.length,by simp,Nat.zero_le _,h0⟩,?_⟩;rintro i m σ H ⟨rfl,hi,p⟩;have q:=hl i σ H hi p
 by_cases hlt:i<xs.length
 .refine .inr ⟨⟨xs,xs[i],q,by simp[hlt]⟩,Pv (i+1),λσ' H' p'=>⟨xs.length-(i+1),by omega,rfl,hlt,p'⟩,λx H' y=>?_⟩
  obtain⟨e,y⟩:=y;subst e;exact hs i x σ _ (y xs q) p
 .have e:i=xs.length:=by omega
  subst e;exact .inl ⟨⟨xs,q,Nat.le_refl _⟩,hd σ H p⟩
def A2{lo:Int}{g:TG}{tb:TS}{D:mf}(Pv:Nat->St->Hp->Prop)(h0:Pv 0 σ H)
  (hs:∀i σ H,i<n->Pv i σ H->g (.int (lo+i)) σ H λσ2 H2=>tb { D with nx:=Pv (i+1),ct:=Pv (i+1),bk:=D.nx } σ2 H2)(hd:∀σ H,Pv n σ H->D.nx σ H) :
  ∃W:Nat->Nat->St->Hp->Prop,(∃m,W 0 m σ H)/\∀i m σ H,W i m σ H ->
   ((Jc lo n).stop i H/\D.nx σ H)∨((Jc lo n).go i H/\∃N:St->Hp->Prop,(∀σ' H',N σ' H'->∃m',m' < m/\W (i+1) m' σ' H')/\∀x H',(Jc lo n).yld i H x H'->g x σ H' λσ2 H2=>tb { D with nx:=N,ct:=N,bk:=D.nx } σ2 H2):=by
 refine⟨λi m σ H=>m=n-i/\i<=n/\Pv i σ H,⟨n,by simp,Nat.zero_le _,h0⟩,?_⟩;rintro i m σ H ⟨rfl,hi,p⟩
 by_cases hlt:i<n
 .refine .inr ⟨hlt,Pv (i+1),λσ' H' p'=>⟨n-(i+1),by omega,rfl,hlt,p'⟩,λx H' y=>?_⟩
  obtain⟨e,y⟩:=y;subst e y;exact hs i σ _ hlt p
 .have e:i=n:=by omega
  subst e;exact .inl ⟨Nat.le_refl _,hd σ H p⟩
abbrev R2:=V->V->Hp->VK->Prop
def ez(X:Cx)(f:Value->Value->Sem Value)(r:R2):Prop :=
 ∀(pins:List (Addr×Obj)) (s:Shared) (σ:St) (H:Hp) (x y:V) (v u:Value) (Q:VK),Inv X pins σ H s->bo x v->bo y u->r x y H Q ->
  wpAny (model X.prog X.w) X.A (f v u) (EP X pins σ Q) X.xe s
def Lf(X:Cx)(f:Value->Sem Value)(r:V->Hp->VK->Prop):Prop :=
 ∀(pins:List (Addr×Obj)) (s:Shared) (σ:St) (H:Hp) (x:V) (v:Value) (Q:VK),Inv X pins σ H s->bo x v->r x H Q ->
  wpAny (model X.prog X.w) X.A (f v) (EP X pins σ Q) X.xe s
def iE(X:Cx)(f:Value)(r:ad->Hp->VK->Prop):Prop :=
 ∀(pins:List (Addr×Obj)) (s:Shared) (σ:St) (H:Hp) (xs:ad) (us:List Value) (Q:VK),Inv X pins σ H s->bD xs us->r xs H Q ->
  wpAny (model X.prog X.w) X.A (call f us) (EP X pins σ Q) X.xe s
def Nd(X:Cx)(r:V->Hp->(Bool->Hp->Prop)->Prop):Prop :=
 ∀(pins:List (Addr×Obj)) (s:Shared) (σ:St) (H:Hp) (x:V) (v:Value) (Q:Bool->Hp->Prop),Inv X pins σ H s->bo x v->r x H Q ->
  wpAny (model X.prog X.w) X.A (truthy v) (TP X pins σ Q) X.xe s
def Jk(r:R2)(ta tb:TE):TE:=λσ H Q=>ta σ H λx H1=>tb σ H1 λy H2=>r x y H2 Q
def MQ(r:V->Hp->VK->Prop)(ta:TE):TE:=λσ H Q=>ta σ H λx H1=>r x H1 Q
def rI(C:Int->Int->Prop)(g:Int->Int->V):R2:=λx y H Q=>∃i j,x=.int i/\y=.int j/\C i j/\Q (g i j) H
def D2(g:Int->Int->V):R2:=λx y H Q=>∃i j,x=.int i/\y=.int j/\Q (g i j) H
def rU(g:Int->V):V->Hp->VK->Prop:=λx H Q=>∃i,x=.int i/\Q (g i) H
section
variable {X:Cx}{a b c:Expr}{ta tb tc:TE}{pos:Pos}
def IM(ha:PE X a ta)(hb:PE X b tb){R:V->V->Hp->Prop}(I:Inv X pins σ H s)
  (h:ta σ H λx H1=>tb σ H1 λy H2=>R x y H2){f:Value->Value->Sem Value}
  (hf:∀v u s2 x y H2,Inv X pins σ H2 s2->bo x v->bo y u->R x y H2->wpAny (model X.prog X.w) X.A (f v u) Q X.xe s2) :
  wpAny (model X.prog X.w) X.A (eval a X.env) (λv sg=>wpAny (model X.prog X.w) X.A (eval b X.env) (λu si=>wpAny (model X.prog X.w) X.A (f v u) Q X.xe si) X.xe sg) X.xe s:=by
 refine cC (ha pins s σ H _ I h) λv s1 ⟨x,H1,I1,r1,q1⟩=>?_;refine cC (hb pins s1 σ H1 _ I1 q1) λu s2 ⟨y,H2,I2,r2,q2⟩=>?_;exact hf v u s2 x y H2 I2 r1 r2 q2
def Gk(ho:ez X (binaryOp op) r)(ha:PE X a ta)(hb:PE X b tb):PE X (.BinOp a op b pos) (Jk r ta tb):=by
 intro pins s σ H Q I h;exact wpAny_BinOp (IM ha hb I h λv u s2 x y H2 I2 rx ry q=>ho pins s2 σ H2 x y v u Q I2 rx ry q)
def J3(ho:Lf X (unaryOp op) r)(ha:PE X a ta):PE X (.UnaryOp op a pos) (MQ r ta):=by
 intro pins s σ H Q I h;exact UnaryOp_ (cC (ha pins s σ H _ I h) λv s1 ⟨x,H1,I1,r1,q1⟩=>ho pins s1 σ H1 x v Q I1 r1 q1)
def Lb{g:Int->Int->Int}
  (rule:∀(i j:Int) (t u:Tok) (s:Shared) (Q:Value->Shared->Prop) (E:Value->Shared->Prop),C i j->Q (.int (g i j) s.toks) { s with toks:=s.toks+1 }->wpAny (model X.prog X.w) X.A (f (.int i t) (.int j u)) Q E s) :
  ez X f (rI C λi j=>.int (g i j)):=by
 intro pins s σ H x y v u Q I rx ry h;obtain⟨i,j,rfl,rfl,hc,q⟩:=h;obtain⟨t,rfl⟩:=rx;obtain⟨t',rfl⟩:=ry;exact rule i j t t' s _ _ hc ⟨.int (g i j),H,I.tok _,⟨_,rfl⟩,q⟩
def J9{g:Int->Int->Int}
  (rule:∀(i j:Int) (t u:Tok) (s:Shared) (Q:Value->Shared->Prop) (E:Value->Shared->Prop),Q (.int (g i j) s.toks) { s with toks:=s.toks+1 }->wpAny (model X.prog X.w) X.A (f (.int i t) (.int j u)) Q E s) :
  ez X f (D2 λi j=>.int (g i j)):=by
 intro pins s σ H x y v u Q I rx ry h;obtain⟨i,j,rfl,rfl,q⟩:=h;obtain⟨t,rfl⟩:=rx;obtain⟨t',rfl⟩:=ry;exact rule i j t t' s _ _ ⟨.int (g i j),H,I.tok _,⟨_,rfl⟩,q⟩
def E3{g:Int->Int->Bool}
  (rule:∀(i j:Int) (t u:Tok) (s:Shared) (Q:Value->Shared->Prop) (E:Value->Shared->Prop),Q (.bool (g i j)) s->wpAny (model X.prog X.w) X.A (f (.int i t) (.int j u)) Q E s) :
  ez X f (D2 λi j=>.bl (g i j)):=by
 intro pins s σ H x y v u Q I rx ry h;obtain⟨i,j,rfl,rfl,q⟩:=h;obtain⟨t,rfl⟩:=rx;obtain⟨t',rfl⟩:=ry;exact rule i j t t' s _ _ ⟨.bl (g i j),H,I,rfl,q⟩
def Mg(i j:Int):Prop:=0<=j/\j<=1000000/\i.natAbs<2 ^ 64
def K4(i j:Int):Prop:=(-(2 ^ 64)<i/\i<2 ^ 64)∨(-(2 ^ 64)<j/\j<2 ^ 64)
def K4.ok(h:K4 i j):IntMulOk i j:=by
 rcases h with⟨h1,h2⟩|⟨h1,h2⟩
 .exact .of_left (intBits_le_64 h1 h2)
 .exact .of_right (intBits_le_64 h1 h2)
def Cw:ez X (binaryOp .Add) (D2 λi j=>.int (i+j)):=J9 λ_ _ _ _ _ _ _ q=>add_int q
def HX:ez X (binaryOp .Sub) (D2 λi j=>.int (i-j)):=J9 λ_ _ _ _ _ _ _ q=>sub_int q
def yT:ez X (binaryOp .Mod) (rI (λ_ j=>j≠0) λi j=>.int (i.fmod j)):=Lb λ_ _ _ _ _ _ _ hc q=>mod_int' hc q
def HY:ez X (binaryOp .Pow) (rI Mg λi j=>.int (i ^ j.toNat)):=Lb λ_ _ _ _ _ _ _ hc q=>pow_int_small hc.1 hc.2.1 hc.2.2 q
def MP{g:Int->Int}
  (rule:∀(i:Int) (t:Tok) (s:Shared) (Q:Value->Shared->Prop) (E:Value->Shared->Prop),Q (.int (g i) s.toks) { s with toks:=s.toks+1 }->wpAny (model X.prog X.w) X.A (f (.int i t)) Q E s) :
  Lf X f (rU λi=>.int (g i)):=by
 intro pins s σ H x v Q I rx h;obtain⟨i,rfl,q⟩:=h;obtain⟨t,rfl⟩:=rx;exact rule i t s _ _ ⟨.int (g i),H,I.tok _,⟨_,rfl⟩,q⟩
def G4:Lf X (unaryOp .USub) (rU λi=>.int (-i)):=MP λ_ _ _ _ _ q=>neg_int q
end
section
variable {X:Cx}{a b c:Expr}{ta tb tc:TE}{pos:Pos}
def xP{k k':Bool}(I:Inv X pins σ H s)(q:Q (.bl k) H)(e:k=k'):EP X pins σ Q (.bool k') s:=by
 subst e;exact⟨.bl k,H,I,rfl,q⟩
def rW:ez X (compareOp .Lt) (D2 λi j=>.bl (decide (i<j))):=E3 λ_ _ _ _ _ _ _ q=>lt_int q
def oO:ez X (compareOp .LtE) (D2 λi j=>.bl (decide (i<=j))):=E3 λ_ _ _ _ _ _ _ q=>le_int q
def vb:ez X (compareOp .Gt) (D2 λi j=>.bl (decide (j<i))):=E3 λ_ _ _ _ _ _ _ q=>gt_int q
def yV:ez X (compareOp .GtE) (D2 λi j=>.bl (decide (j<=i))):=E3 λ_ _ _ _ _ _ _ q=>ge_int q
def AI:ez X (compareOp .In) (λx y H Q=>∃i j,x=.str i/\y=.str j/\Q (.bl (!(Builtin.Str.occurrences j i 0 j.length 1).isEmpty)) H):=by
 intro pins s σ H x y v u Q I rx ry h;obtain⟨i,j,rfl,rfl,q⟩:=h;obtain⟨t,rfl⟩:=rx;obtain⟨t',rfl⟩:=ry;exact in_str (xP I q rfl)
def eY:ez X (compareOp .Is) (λx y H Q=>y=.non/\Q (.bl (decide (x=.non))) H):=by
 intro pins s σ H x y v u Q I rx ry h;obtain⟨rfl,q⟩:=h;cases ry;refine is_none_gen (xP I q ?_);cases x<;>first
  |(cases rx;rfl)
  |(obtain⟨t,rfl⟩:=rx;rfl)
def g6:ez X (compareOp .IsNot) (λx y H Q=>y=.non/\Q (.bl (!decide (x=.non))) H):=by
 intro pins s σ H x y v u Q I rx ry h;obtain⟨rfl,q⟩:=h;cases ry;refine isnot_none_gen (xP I q ?_);cases x<;>first
  |(cases rx;rfl)
  |(obtain⟨t,rfl⟩:=rx;rfl)
def ez.or(h:ez X f r)(h':ez X f r'):ez X f (λx y H Q=>r x y H Q∨r' x y H Q):=by
 intro pins s σ H x y v u Q I rx ry q;rcases q with q|q
 .exact h pins s σ H x y v u Q I rx ry q
 .exact h' pins s σ H x y v u Q I rx ry q
def yP(ho:ez X (compareOp op) r)(ha:PE X a ta)(hb:PE X b tb)(hm:behindInMarks op b=false):PE X (.Compare a [op] [b] pos) (Jk r ta tb):=by
 intro pins s σ H Q I h;exact wpAny_Compare1 (IM ha hb I h λv u s2 x y H2 I2 rx ry q=>ho pins s2 σ H2 x y v u Q I2 rx ry q) hm
def Ga(t:TE):TT:=λσ H Q=>t σ H λx H'=>∃k,x=.bl k/\Q k H'
def yH(ho:ez X (compareOp op) r)(ha:PE X a ta)(hb:PE X b tb)(hm:behindInMarks op b=false):PT X (.Compare a [op] [b] pos) (Ga (Jk r ta tb)):=by
 intro pins s σ H Q I h;refine wpAny_isTrue_Compare1 (cC (ha pins s σ H _ I h) λv s1 ⟨x,H1,I1,r1,q1⟩=>cC (hb pins s1 σ H1 _ I1 q1) λu s2 ⟨y,H2,I2,r2,q2⟩ =>
  cC (ho pins s2 σ H2 x y v u _ I2 r1 r2 q2) λc s3 ⟨z,H3,I3,r3,k,e,q3⟩=>?_) hm
 subst e;cases r3;exact wpAny_truthy_bool ⟨H3,I3,q3⟩
def xf(r r':R2)(ta tb tc:TE):TE:=λσ H Q=>ta σ H λx H1=>tb σ H1 λy H2=>r x y H2 λz H3=>∃k,z=.bl k /\
 (if k=true then tc σ H3 λw' H4=>r' y w' H4 Q else Q (.bl false) H3)
def Cs(ho:ez X (compareOp op) r)(ho':ez X (compareOp op') r')(ha:PE X a ta)(hb:PE X b tb)(hc:PE X c tc)
  (hm:lastMarks [op,op'] [b,c]=false:=by with_unfolding_all rfl):PE X (.Compare a [op,op'] [b,c] pos) (xf r r' ta tb tc):=by
 intro pins s σ H Q I h;refine Compare_chain (cC (ha pins s σ H _ I h) λv s1 ⟨x,H1,I1,r1,q1⟩=>chain_link (cC (hb pins s1 σ H1 _ I1 q1) λu s2 ⟨y,H2,I2,r2,q2⟩ =>
  cC (ho pins s2 σ H2 x y v u _ I2 r1 r2 q2) λd s3 ⟨z,H3,I3,r3,k,e,q3⟩=>?_)) hm
 subst e;cases r3;refine wpAny_truthy_bool ?_;cases k with|false=>exact ite_ff ⟨.bl false,H3,I3,rfl,q3⟩|true=>exact ite_tt (chain_last (cC (hc pins s3 σ H3 _ I3 q3) λw' s4 ⟨z',H4,I4,r4,q4⟩=>ho' pins s4 σ H4 y z' u w' Q I4 r2 r4 q4))
def Cb(ho:ez X (compareOp op) r)(ho':ez X (compareOp op') r')(ha:PE X a ta)(hb:PE X b tb)(hc:PE X c tc)
  (hm:lastMarks [op,op'] [b,c]=false:=by with_unfolding_all rfl):PT X (.Compare a [op,op'] [b,c] pos) (Ga (xf r r' ta tb tc)):=by
 intro pins s σ H Q I h;refine isTrue_chain (cC (ha pins s σ H _ I h) λv s1 ⟨x,H1,I1,r1,q1⟩=>test_link (cC (hb pins s1 σ H1 _ I1 q1) λu s2 ⟨y,H2,I2,r2,q2⟩ =>
  cC (ho pins s2 σ H2 x y v u _ I2 r1 r2 q2) λd s3 ⟨z,H3,I3,r3,k,e,q3⟩=>?_)) hm
 subst e;cases r3;refine wpAny_truthy_bool ?_;cases k with
 |false=>
  obtain⟨k',e',q'⟩:=q3;cases e';exact ite_ff ⟨H3,I3,q'⟩
 |true=>
  refine ite_tt (test_last (cC (hc pins s3 σ H3 _ I3 q3) λw' s4 ⟨z',H4,I4,r4,q4⟩=>cC (ho' pins s4 σ H4 y z' u w' _ I4 r2 r4 q4) λd' s5 z9=>?_));obtain⟨z2,H5,I5,r5,k2,e2,q5⟩:=z9;subst e2;cases r5;exact wpAny_truthy_bool ⟨H5,I5,q5⟩
noncomputable def Nc(K:W.Frag) (x:V) (H:Hp) (k:Bool):Prop :=
 match x with
 |.non=>k=false
 |.bl b=>k=b
 |.int i=>k=(i != 0)
 |.str y=>y.length<=sizeLine/\k=((y.length:Int) != 0)
 |.byt y=>y.size<=sizeLine/\k=((y.size:Int) != 0)
 |.ref p=>(∃xs,eN K H p xs/\k=!xs.isEmpty)∨(∃xs,ji K H p xs/\k=!xs.isEmpty)∨∃kvs,H p=some (.dK kvs)/\k=!kvs.isEmpty
 |_=>False
def Im{vs:List (κ×Value)}(r:KV kvs vs):(!vs.isEmpty)=!kvs.isEmpty:=by
 cases r<;>rfl
def Il(r:bD xs its):(!its.toArray.isEmpty)=!xs.isEmpty:=by
 cases r<;>simp
def o6:(sizeLine:Nat)<2 ^ 63:=by rw[sizeLine_eq];decide
def oP:ez X (binaryOp .Add) (λx y H Q=>∃i j,x=.str i/\y=.str j/\i.length+j.length<=sizeLine/\Q (.str (i++j)) H):=by
 intro pins s σ H x y v u Q I rx ry h;obtain⟨i,j,rfl,rfl,hz,q⟩:=h;obtain⟨t,rfl⟩:=rx;obtain⟨t',rfl⟩:=ry;exact add_str (λt' tk=>⟨.str (i++j),H,I.tok _,⟨_,rfl⟩,q⟩) hz
def oh(r:bD [x] us):∃u,us=[u]/\bo x u:=by
 cases r with|cons r1 r2=>cases r2;exact⟨_,rfl,r1⟩
def F7(r:bD [x,y] us):∃u w',us=[u,w']/\bo x u/\bo y w':=by
 cases r with
 |cons r1 r2=>
  cases r2 with|cons r3 r4=>cases r4;exact⟨_,_,rfl,r1,r3⟩
def qG:iE X (.builtin "abs") (λxs H Q=>∃i,xs=[.int i]/\Q (.int (if i<0 then -i else i)) H):=by
 intro pins s σ H xs us Q I r h;obtain⟨i,rfl,q⟩:=h;obtain⟨u,rfl,t,rfl⟩:=oh r;exact call_abs_int λu tk=>⟨.int (if i<0 then -i else i),H,I.tok _,⟨_,rfl⟩,q⟩
def Bf(hc:X.calm=true):iE X (.builtin "max") (λxs H Q=>∃i j,xs=[.int i,.int j]/\Q (.int (if j > i then j else i)) H):=by
 intro pins s σ H xs us Q I r h;obtain⟨i,j,rfl,q⟩:=h;obtain⟨u,w',rfl,⟨t,rfl⟩,⟨t',rfl⟩⟩:=F7 r;refine max_two_ints (I.ok.hd hc) λh' tk k=>⟨_,H,I.kept k,?_,q⟩
 by_cases hj:j > i
 .rw[if_pos hj,if_pos hj];exact⟨_,rfl⟩
 .rw[if_neg hj,if_neg hj];exact⟨_,rfl⟩
def Be(hc:X.calm=true):iE X (.builtin "min") (λxs H Q=>∃i j,xs=[.int i,.int j]/\Q (.int (if j<i then j else i)) H):=by
 intro pins s σ H xs us Q I r h;obtain⟨i,j,rfl,q⟩:=h;obtain⟨u,w',rfl,⟨t,rfl⟩,⟨t',rfl⟩⟩:=F7 r;refine min_two_ints (I.ok.hd hc) λh' tk k=>⟨_,H,I.kept k,?_,q⟩
 by_cases hj:j<i
 .rw[if_pos hj,if_pos hj];exact⟨_,rfl⟩
 .rw[if_neg hj,if_neg hj];exact⟨_,rfl⟩
def Bh:iE X (.type "int") (λxs H Q=>(∃i,xs=[.int i]/\Q (.int i) H)∨∃k,xs=[.bl k]/\Q (.int (if k then 1 else 0)) H):=by
 intro pins s σ H xs us Q I r h;rcases h with⟨i,rfl,q⟩|⟨k,rfl,q⟩
 .obtain⟨u,rfl,t,rfl⟩:=oh r
  exact call_int_int ⟨.int i,H,I,⟨_,rfl⟩,q⟩
 .obtain⟨u,rfl,r1⟩:=oh r
  cases r1;exact call_int_bool ⟨.int (if k then 1 else 0),H,I.tok _,⟨_,rfl⟩,q⟩
def Jb(K:W.Frag)(x:V)(H:Hp)(n:Nat):Prop :=
 match x with
 |.str y=>y.length<=sizeLine/\n=y.length
 |.byt y=>y.size<=sizeLine/\n=y.size
 |.ref p=>(∃xs,eN K H p xs/\n=xs.length)∨∃xs,ji K H p xs/\n=xs.length
 |_=>False
def bN:iE X (.builtin "len") (λxs H Q=>∃x n,xs=[x]/\Jb X.K x H n/\Q (.int n) H):=by
 intro pins s σ H xs us Q I r h;obtain⟨x,n,rfl,e,q⟩:=h;obtain⟨u,rfl,rx⟩:=oh r;have hl:=o6;have hs:sizeLine=16777216:=sizeLine_eq;cases x with
 |str y=>
  obtain⟨t,rfl⟩:=rx;obtain⟨hy,e'⟩:y.length<=sizeLine/\n=y.length:=e;subst e';exact len_str (by omega) ⟨.int _,H,I.tok _,⟨_,rfl⟩,q⟩
 |byt y=>
  obtain⟨t,rfl⟩:=rx;obtain⟨hy,e'⟩:y.size<=sizeLine/\n=y.size:=e;subst e';exact W.len_bytes (by omega) ⟨.int _,H,I.tok _,⟨_,rfl⟩,q⟩
 |ref p=>
  cases rx;have e':(∃xs,eN X.K H p xs/\n=xs.length)∨∃xs,ji X.K H p xs/\n=xs.length:=e;rcases e' with⟨xs,hx,e'⟩|⟨xs,hx,e'⟩
  .subst e'
   obtain⟨its,r',pl,hz⟩:=I.list hx;have hlen:=r'.length;exact Calls.call_len_list pl.isList (by simp only[List.size_toArray];omega) ⟨.int xs.length,H,I.tok _,⟨_,by simp only[List.size_toArray];rw[hlen]⟩,q⟩
  .subst e'
   obtain⟨its,r',pl,hz⟩:=I.tuple hx;have hlen:=r'.length;exact len_tuple pl (by simp only[List.size_toArray];omega) ⟨.int xs.length,H,I.tok _,⟨_,by simp only[List.size_toArray];rw[hlen]⟩,q⟩
 |_=>exact(show False from e).elim
end
structure IY (h:Heap) (x dx C:Addr) (mA:Str->Option Value):Prop where
 obj:h.get? x=some (W.instObj C dx)
 ns:h.Ns1 dx mA
 ne:dx≠x
def AR{h:Heap}{mA:Str->Option Value}(n:h.Ns1 dx mA):∃od,h.get? dx=some od/\∀name,W.lookIn name od=some (mA name):=by
 obtain⟨o,es,ep,ho,hd,hk,_,hm⟩:=n;refine⟨o,ho,λname=>?_⟩;have e:=hm name;unfold nsFind findBy at e;rw[←Array.find?_toList]at e;unfold W.lookIn;rw[hd];dsimp only;split
 .rename_i y q
  rw[q]at e;exact congrArg some e
 .rename_i q
  rw[q]at e;have a:es.toList.any (·.refKey)=false:=by
   rw[List.any_eq_false];intro y hy;obtain⟨z,t,hkey⟩:=hk y (Array.mem_toList_iff.mp hy);simp[DictEntry.refKey,hkey]
  have a':¬es.toList.any (·.refKey)=true:=by rw[a];exact Bool.false_ne_true
  rw[if_neg a'];exact congrArg some e
def IY.look{h:Heap}{mA:Str->Option Value}(I:IY h x dx C mA):∃od,W.InstAt h x (W.instObj C dx) C (some od)/\∀name,W.lookIn name od=some (mA name) :=
 let ⟨od,ho,hl⟩:=AR I.ns
 ⟨od,⟨I.obj,rfl,rfl,ho⟩,hl⟩
def l9(r:wR (some v) o):∃u,o=some u/\bo v u:=by
 cases o with|none=>exact(show False from r).elim|some u=>exact⟨u,rfl,r⟩
section
variable {P:Program}{w:World}{H H':Hp}{h h':Heap}{a C dx:Addr}{fs fs':List (Str×V)}
def zj(hok:kj P w H h)(e:H a=some (.ins C dx fs)):∃mA,IY h a dx C mA/\(∀f,wR (fs.lookup f) (mA f))/\PySem.Within mA (fs.map (·.1))/\fs.length<=1000/\H dx=some (.own a):=by
 obtain⟨d,z,ne,ob,mA,n,r,q⟩:=(show cg P w H h a (.ins C dx fs) from hok a _ e)
 exact⟨mA,⟨ob,n,ne⟩,r,q,z,d⟩
end
structure Ll (K:W.Frag) (C:Addr):Prop where
 pg:W.plainGet K C Str.empty=true
 hd:W.hasDictIn K C=true
 po:W.plainOver K C=true
 sa:W.findIn K (.ref C) "__setattr__"=some (some (.builtin "object.__setattr__"))
def Ll.get{K:W.Frag}(c:Ll K C)(f:Str):W.plainGet K C f=true:=c.pg
def I0(K:W.Frag)(C:Addr)(f:Str):Prop:=W.findIn K (.ref C) f=some none
section
variable {X:Cx}{pins:List (Addr×Obj)}{σ:St}{H:Hp}{s:Shared}{A:Around}{E:Value->Shared->Prop}{Q:Value->Shared->Prop}{c:Value}{b:Bool}
inductive nG (K:W.Frag) (H:Hp):V->Value->Prop where
 |non:nG K H .non (.type "NoneType")
 |bl (x:Bool):nG K H (.bl x) (.type "bool")
 |int (i:Int):nG K H (.int i) (.type "int")
 |str (x:Str):nG K H (.str x) (.type "str")
 |flt (x:UInt64):nG K H (.flt x) (.type "float")
 |lst {a:Addr}{xs:ad}(e:H a=some (.lst xs)):nG K H (.ref a) (.type "list")
 |frz {a:Addr}{o:Obj}{xs:ad}(e:H a=some (.frz o (.lst xs))):nG K H (.ref a) (.type "list")
 |tup {a:Addr}{xs:ad}(e:H a=some (.tup xs)):nG K H (.ref a) (.type "tuple")
 |dK {a:Addr}{kvs:List (eA×V)}(e:H a=some (.dK kvs)):nG K H (.ref a) (.type "dict")
 |dT {a:Addr}{kvs:List (List eA×V)}(e:H a=some (.dT kvs)):nG K H (.ref a) (.type "dict")
 |ins {a C dx:Addr}{fs:List (Str×V)}(e:H a=some (.ins C dx fs)) (cl:Ll K C) (ha:W.findIn K (.ref C) "__class__"=some (some (.builtin "object.__class__")))
   (hn:W.specialIn K (.builtin "object.__class__") "__get__"=some (some (.builtin "getset_descriptor.__get__"))) (htk:W.takesIn K (.builtin "object.__class__")=some true)
   (hm:W.mroIn K C (.type "object")=some true):nG K H (.ref a) (.ref C)
def jx(I:Inv X pins σ H s)(rx:bo x u)(ty:nG X.K H x t)(e:W.kitOne X.K t c=some b)(h:∀tk,Q (.bool b) { s with toks:=tk }) :
  wpAny (model X.prog X.w) A (call (.builtin "isinstance") [u,c]) Q E s:=by
 cases ty with
 |non=>cases (show u=Value.none from rx);exact W.kia_one W.kitx_none I.kIn True.intro e (λz=>nomatch z) h|bl y=>cases (show u=Value.bool y from rx);exact W.kia_one W.kitx_bool I.kIn True.intro e (λz=>nomatch z) h|int i=>obtain⟨t,q⟩:=(show ∃t,u=Value.int i t from rx);cases q;exact W.kia_one W.kitx_int I.kIn True.intro e (λz=>nomatch z) h|str y=>obtain⟨t,q⟩:=(show ∃t,u=Value.str y t from rx);cases q;exact W.kia_one W.kitx_str I.kIn True.intro e (λz=>nomatch z) h|flt y=>obtain⟨t,q⟩:=(show ∃t,u=Value.float y t from rx);cases q;exact W.kia_one W.kitx_float I.kIn True.intro e (λz=>nomatch z) h
 |@lst a xs ea=>
  cases (show u=Value.ref a from rx);obtain⟨_,_,n,_,h1⟩:=(show cg X.prog X.w H s.heap a (.lst xs) from I.hok a _ ea)
  exact W.kia_one W.kitx_list I.kIn ⟨_,h1,rfl⟩ e (λz=>nomatch z) h
 |@frz a ob xs ea=>
  cases (show u=Value.ref a from rx);obtain⟨_,_,_,n,_,h1⟩:=(show cg X.prog X.w H s.heap a (.frz ob (.lst xs)) from I.hok a _ ea)
  exact W.kia_one W.kitx_list I.kIn ⟨_,h1,rfl⟩ e (λz=>nomatch z) h
 |@tup a xs ea=>
  cases (show u=Value.ref a from rx);obtain⟨_,_,_,p⟩:=(show cg X.prog X.w H s.heap a (.tup xs) from I.hok a _ ea)
  obtain⟨o,h1,h2,_⟩:=p;exact W.kia_one W.kitx_tuple I.kIn ⟨o,h1,h2⟩ e (λz=>nomatch z) h
 |@dK a kvs ea=>
  cases (show u=Value.ref a from rx);obtain⟨_,_,vs,_,p⟩:=(show cg X.prog X.w H s.heap a (.dK kvs) from I.hok a _ ea)
  obtain⟨o,es,ep,h1,h2,_⟩:=p;exact W.kia_one W.kitx_dict I.kIn ⟨o,h1,h2.1⟩ e (λz=>nomatch z) h
 |@dT a kvs ea=>
  cases (show u=Value.ref a from rx);obtain⟨_,_,xs,_,o,es,ep,h1,h2,_⟩:=(show cg X.prog X.w H s.heap a (.dT kvs) from I.hok a _ ea)
  exact W.kia_one W.kitx_dict I.kIn ⟨o,h1,h2.1⟩ e (λz=>nomatch z) h
 |@ins a C dx fs ea cl ha hn htk hm=>
  cases (show u=Value.ref a from rx);obtain⟨mA,O,_⟩:=zj I.hok ea;obtain⟨od,J,_⟩:=O.look;exact W.kia_one (W.kitx_own (cl.get _) cl.hd ha hn htk hm) I.kIn J e (λz=>nomatch z) h
end
structure c5 (k:Nat) (A:Around):Prop where
 hd:A.handled=none
 dp:A.depth+3*k+5<recursionLimit
 un:A.units+16*k+200<cLine
 gd:A.guards=some []
def c5.mono{j k:Nat}(r:c5 k A)(h:j<=k):c5 j A:=⟨r.hd,by have:=r.dp;omega,by have:=r.un;omega,r.gd⟩
def c5.deeper{k:Nat}(r:c5 (k+1) A)(env:Env):c5 k (A.deeper env) :=
 ⟨r.hd,by have:=r.dp;show A.depth+1+3*k+5<_;omega,by have:=r.un;show A.units+3+16*k+200<_;omega,r.gd⟩
def c5.depth{k:Nat}(r:c5 k A):A.depth<recursionLimit:=by have:=r.dp;omega
def c5.units{k:Nat}(r:c5 k A):A.units+64<cLine:=by have:=r.un;omega
def Ly:TA:=λ_ H Q=>Q [] H
def JF(ta:TE)(tr:TA):TA:=λσ H Q=>ta σ H λx H1=>tr σ H1 λxs H2=>Q (x::xs) H2
section
variable {X:Cx}{e:Expr}{es:List Expr}{te:TE}{t:TA}{pos:Pos}
def gr:PA X [] Ly:=λ_ _ _ _ H Q I h=>Calls.spliced_nil ⟨[],H,I,.nil,h⟩
def dM(ha:PE X e te)(hr:PA X es t)(hs:starEach (e::es) X.env=(false,eval e X.env)::starEach es X.env:=by rfl):PA X (e::es) (JF te t):=by
 intro pos pins s σ H Q I h;rw[hs];show wpAny _ _ (spliced ((false,eval e X.env)::backTo pos (starEach es X.env))) _ _ s;refine Calls.spliced_cons (cC (ha pins s σ H _ I h) λu s1 ⟨x,H1,I1,r1,q1⟩=>?_);exact cC (hr pos pins s1 σ H1 _ I1 q1) λus s2 ⟨xs,H2,I2,r2,q2⟩=>⟨x::xs,H2,I2,.cons r1 r2,q2⟩
def Lr(t:TA):TE:=λσ H Q=>t σ H λxs H1=>xs.length<=sizeLine/\∀p,H1 p=none->Q (.ref p) (upd H1 p (.tup xs))
def LA(t:TA):TE:=λσ H Q=>t σ H λxs H1=>xs.length<=sizeLine/\∀p,H1 p=none->Q (.ref p) (upd H1 p (.lst xs))
def HP{x1}(h:PA X es t):PE X (.Tuple es x1 pos) (Lr t):=by
 intro pins s σ H Q I hq;refine wpAny_Tuple_spliced (cC (h pos pins s σ H _ I hq) λus s1 ⟨xs,H1,I1,r,z,q⟩=>⟨by rw[←r.length];exact z,?_⟩);have hf:H1 s1.heap.objs.size=none:=I1.hok.fresh (Nat.le_refl _);refine⟨.ref s1.heap.objs.size,upd H1 s1.heap.objs.size (.tup xs),I1.laid (t':=s1.toks) (λb u e=>Heap.get?_push_of_some _ e) (Nat.le_refl _) ?_,rfl,q _ hf⟩;exact⟨z,us,r,⟨_,Heap.get?_push_size _ rfl,rfl,_,rfl⟩⟩
def Cp(h:PA X es t):PE X (.List es pos) (LA t):=by
 intro pins s σ H Q I hq;refine wpAny_List_spliced (cC (h pos pins s σ H _ I hq) λus s1 ⟨xs,H1,I1,r,z,q⟩=>⟨by rw[←r.length];exact z,?_⟩);have hf:H1 s1.heap.objs.size=none:=I1.hok.fresh (Nat.le_refl _);refine⟨.ref s1.heap.objs.size,upd H1 s1.heap.objs.size (.lst xs),I1.laid (t':=s1.toks) (λb u e=>Heap.get?_push_of_some _ e) (Nat.le_refl _) ?_,rfl,q _ hf⟩;exact⟨z,us,0,r,Heap.get?_push_size _ rfl⟩
end
abbrev Sp:=ad->Hp->VK->XK->Prop
abbrev Bo:=List Env->Hp->Shared->XK->Value->Shared->Prop
structure DX (P:Program) (w:World) (K:W.Frag) (mg:Str->Option Value) (base:Heap) (A:Around) (outer:List Env) (s:Shared) (H:Hp):Prop where
 frames:A.frames=some outer
 mod:Mod K mg base
 bs:∀b o,base.get? b=some o->s.heap.get? b=some o/\H b=none
 bsz:base.objs.size<=s.heap.objs.size
 funs:s.heap.FunFrames base outer
 frf:∀b∈Bq outer,H b=none
 hok:kj P w H s.heap
 bare:AllBare s.gens
def CE(outer:List Env)(P:Program)(w:World)(H:Hp)(s:Shared)(Q:VK)(u:Value)(s':Shared):Prop :=
 ∃v H',s'.os=s.os/\AllBare s'.gens/\Un (Bq outer) [] H H' s.heap s'.heap/\kj P w H' s'.heap/\bo v u/\Q v H'
def CR(CX:Bo)(outer:List Env)(P:Program)(w:World)(H:Hp)(s:Shared)(Q:VK)(E:XK)(r:Result)(s':Shared):Prop :=
 match r with
 |.ok (.ret u)=>CE outer P w H s Q u s'
 |.ok _=>False
 |.error e=>CX outer H s E e s'
structure iy (P:Program) (w:World) (K:W.Frag) (mg:Str->Option Value) (base:Heap) (CX:Bo) (k:Nat) (f:Addr) (fd:FuncData) (ps:List Str) (sp:Sp):Prop where
 len:∀vs H Q E,sp vs H Q E->vs.length=ps.length
 run:∀(A:Around) (outer:List Env) (s:Shared) (H:Hp) (args:Args) (us:List Value) (vs:ad) (Q:VK) (E:XK),c5 k A->DX P w K mg base A outer s H->BindsTo s fd args (ps.zip us)->bD vs us->sp vs H Q E ->
  codeAny (model P w) A (.call (.ref f) args) (CR CX outer P w H s Q E) s
def iy.mono{K:W.Frag}{j k:Nat}{ps:List Str}(F:iy P w K mg base CX j f fd ps sp)(h:j<=k) :
  iy P w K mg base CX k f fd ps sp:=⟨F.len,λA outer s H args us vs Q E hr=>F.run A outer s H args us vs Q E (hr.mono h)⟩
section
variable {X:Cx}{pins:List (Addr×Obj)}{σ:St}{H:Hp}{s s':Shared}
def Inv.env0(I:Inv X pins σ H s):DX X.prog X.w X.K X.mg X.base X.A X.stack s H :=
 ⟨I.ok.frames,I.ok.mod,I.bs,Nat.le_trans I.ok.bsz I.sz,I.stack,I.stkFree,I.hok,I.bare⟩
def Inv.after(I:Inv X pins σ H s)(h:CE X.stack X.prog X.w H s Q u s'):EP X pins σ Q u s':=by
 obtain⟨v,H',os,bare,un,hok,r,q⟩:=h;obtain⟨hh,g,d,t,os'⟩:=s';obtain rfl:os'=s.os:=os;exact⟨v,H',I.call (h':=hh) (g':=g) (d':=d) (t':=t) (ch:=[]) un hok bare (λb z=>absurd z (by simp)),r,q⟩
end
def JG(sp:Sp)(dvs:ad)(E:XK)(t:TA):TE:=λσ H Q=>t σ H λvs H1=>sp (vs++dvs) H1 Q E
def jV(K:W.Frag)(fd:FuncData)(ps:List Str)(ds:List Value):Prop :=
 ∀(s:Shared) (us:List Value),K.In s.heap->(us++ds).length=ps.length->BindsTo s fd ⟨us,[]⟩ (ps.zip (us++ds))
def jV.all{K:W.Frag}{ps:List Str}(h:∀us:List Value,us.length=ps.length->bindArgs fd ⟨us,[]⟩=pure (ps.zip us)):jV K fd ps []:=λs us _ hl=>by
 rw[List.append_nil]at hl ⊢;exact .of_eq (h us hl)
def fT(CX:Bo)(X:Cx)(E:XK):Prop:=∀(pins:List (Addr×Obj)) (σ:St) (H:Hp) (s:Shared) (e:Value) (s':Shared),Inv X pins σ H s->CX X.stack H s E e s'->X.xe e s'
section
variable {X:Cx}{CX:Bo}{k:Nat}{f C:Addr}{fd:FuncData}{ps:List Str}{sp:Sp}{dvs:ad}{ds:List Value}{E:XK}{x m:Str}{p pos apos:Pos}{e o:Expr}{es:List Expr}{ta:TE}{t:TA}
def Hw(F:iy X.prog X.w X.K X.mg X.base CX k f fd ps sp)(hr:c5 k X.A)(hb:jV X.K fd ps ds)(hd:bD dvs ds)(hx:fT CX X E)
  (I:Inv X pins σ H s)(r:bD vs us)(h:sp (vs++dvs) H Q E):wpAny (model X.prog X.w) X.A (call (.ref f) us) (EP X pins σ Q) X.xe s:=by
 have r2:bD (vs++dvs) (us++ds):=r.append hd;have hl:(us++ds).length=ps.length:=by rw[←r2.length];exact F.len _ _ _ _ h
 refine wpAny_call (codeAny_mono (F.run X.A X.stack s H ⟨us,[]⟩ (us++ds) (vs++dvs) Q E hr I.env0 (hb s us I.kIn hl) r2 h) λr s' hq=>?_);cases r with
 |error e=>exact hx pins σ H s e s' I hq
 |ok fl=>
  cases fl with|ret u=>exact I.after hq|next|brk|cont=>exact False.elim hq
def nJ(F:iy X.prog X.w X.K X.mg X.base CX k f fd ps sp)(hr:c5 k X.A)(hg:Gl X x)(hm:X.mg x=some (.ref f))(hk:W.keepIn X.K (.ref f)=true)(hb:jV X.K fd ps ds)(hd:bD dvs ds)(hx:fT CX X E)
  (ha:PA X (e::es) t)(hdb:(x==("__debug__":Str))=false:=by decide)(he:starEach (e::es) X.env=(false,eval e X.env)::starEach es X.env:=by rfl)(hpl:(backTo pos (starEach es X.env)).any (·.1)=false:=by rfl) :
  PE X (.Call (.Name x p) (e::es) [] pos) (JG sp dvs E t):=by
 intro pins s σ H Q I h;refine wpAny_Call_Name_kw (zd I hg hm ?_ hdb);refine W.callWith_K (h₀:=X.base) I.ok.mod.kin hk (cC (ha pos pins s σ H _ I h) λus s1 z9=>?_) he hpl;obtain⟨vs,H1,I1,r,q⟩:=z9;refine⟨I1.kIn,?_⟩;exact Hw F hr hb hd hx I1 r q
end
structure gk (N P:List Str) (sc:Scope):Prop where
 kind:sc.kind=.function
 co:sc.isCoroutine=false
 gen:sc.isGenerator=false
 nd:N.Nodup
 pre:N.take P.length=P
 par:∀x∈P,sc.names.lookup x=some .local ∨ sc.names.lookup x=some .cell
 nofree:∀y∈sc.names,y.2≠.free
theorem sX{kindOf:Str->Option NameKind}:∀{binds:List (Str×Value)}{m:Str->Option Value},(∀v,(x,v)∉binds)->bindL kindOf binds m x=m x
 |[],_,_=>rfl
 |(n,v)::r,m,h=>by
  unfold bindL;rw[sX λw hw=>h w (List.mem_cons_of_mem _ hw)];split
  .have:x≠n:=by rintro rfl;exact h v List.mem_cons_self
   simp[this]
  .rfl
theorem tf{kindOf:Str->Option NameKind}:∀{binds:List (Str×Value)}{m:Str->Option Value},(∀v,(x,v)∉binds)->bindC kindOf binds m x=m x
 |[],_,_=>rfl
 |(n,v)::r,m,h=>by
  unfold bindC;rw[tf λw hw=>h w (List.mem_cons_of_mem _ hw)];split
  .rfl
  .have:x≠n:=by rintro rfl;exact h v List.mem_cons_self
   simp[this]
theorem sY{kindOf:Str->Option NameKind}{x:Str}{v:Value}:∀{P:List Str}{vs:List Value}{i:Nat}{m:Str->Option Value},P.Nodup->P[i]?=some x->vs[i]?=some v->kindOf x=some .local ->
  bindL kindOf (P.zip vs) m x=some v
 |[],_,_,_,_,h,_,_=>by simp at h
 |_::_,[],_,_,_,_,h,_=>by simp at h
 |p::P,w::vs,0,m,nd,h1,h2,hk=>by
  simp at h1 h2;subst h1;subst h2;show bindL kindOf ((p,w)::P.zip vs) m p=_;unfold bindL;rw[sX λv hv=>(List.nodup_cons.mp nd).1 (List.of_mem_zip hv).1,if_pos hk];simp
 |p::P,w::vs,i+1,m,nd,h1,h2,hk=>by
  show bindL kindOf ((p,w)::P.zip vs) m x=_;unfold bindL;exact sY (i:=i) (List.nodup_cons.mp nd).2 (by simpa using h1) (by simpa using h2) hk
theorem tj{kindOf:Str->Option NameKind}{x:Str}{v:Value}:∀{P:List Str}{vs:List Value}{i:Nat}{m:Str->Option Value},P.Nodup->P[i]?=some x->vs[i]?=some v->kindOf x≠some .local ->
  bindC kindOf (P.zip vs) m x=some v
 |[],_,_,_,_,h,_,_=>by simp at h
 |_::_,[],_,_,_,_,h,_=>by simp at h
 |p::P,w::vs,0,m,nd,h1,h2,hk=>by
  simp at h1 h2;subst h1;subst h2;show bindC kindOf ((p,w)::P.zip vs) m p=_;unfold bindC;rw[tf λv hv=>(List.nodup_cons.mp nd).1 (List.of_mem_zip hv).1,if_neg hk];simp
 |p::P,w::vs,i+1,m,nd,h1,h2,hk=>by
  show bindC kindOf ((p,w)::P.zip vs) m x=_;unfold bindC;exact tj (i:=i) (List.nodup_cons.mp nd).2 (by simpa using h1) (by simpa using h2) hk
def start(N:List Str)(vs:ad):St:=vs.map some++List.replicate (N.length-vs.length) none
noncomputable def nE(CX:Bo) (P:Program) (w:World) (K:W.Frag) (mg:Str->Option Value) (base:Heap) (N:List Str) (qual:Str) (scope:Scope) (f:Addr) (cd:Value) (A:Around) (outer:List Env) (s:Shared) (H:Hp) (E:XK):Cx where
 prog:=P
 w:=w
 K:=K
 mg:=mg
 base:=base
 A:=A.deeper (envOfC qual scope s.heap.objs.size f cd)
 N:=N
 sf:=s
 Ha:=H
 env:=envOfC qual scope s.heap.objs.size f cd
 outer:=outer
 stack:=envOfC qual scope s.heap.objs.size f cd::outer
 ex:=[]
 calm:=true
 fn:=λ_=>true
 pn:=[]
 xe:=λe s'=>wpAny (model P w) (A.deeper (envOfC qual scope s.heap.objs.size f cd)) (leaving (envOfC qual scope s.heap.objs.size f cd) e) (λ_ s''=>CX outer H s E e s'') (λe' s''=>CX outer H s E e' s'') s'
def wM{sc:Scope}(h:sc.names.lookup x=some .cell):∃c,(cellsFrom n sc.names []).lookup x=some c:=by
 have q:=W.cellsFrom_some sc.names n [] (.inl h);exact Option.isSome_iff_exists.mp q
def A0{K:W.Frag}{N ps:List Str} 
  (S:gk N ps scope)(hd:A.handled=none)(e0:DX P w K mg base A outer s H)(hl:vs.length=ps.length)(r:bD vs us)
  (x:InCallC s s.heap.objs.size (bindL (envOfC qual scope s.heap.objs.size f cd).kindOf (ps.zip us) λ_=>none) (cellsFrom (s.heap.objs.size+1) scope.names []) (bindC (envOfC qual scope s.heap.objs.size f cd).kindOf (ps.zip us) λ_=>none) s1) :
  Inv (nE CX P w K mg base N qual scope f cd A outer s H E) [] (start N vs) H s1:=by
 have hpl:ps.length<=N.length:=by have:=congrArg List.length S.pre;rw[List.length_take]at this;omega
 obtain⟨h1,tk,rfl,hk⟩:=x.done;have noA:∀b:Addr,b∉(nE CX P w K mg base N qual scope f cd A outer s H E).ex:=λb z=>absurd (show b∈([]:List Addr) from z) (by simp);refine⟨⟨e0.mod,S.kind,rfl,rfl,Nat.le_refl _,λy z c h1 h2=>?_,λy hy=>?_,λy c _ h=>?_,λ_=>hd,Around.frames_deeper e0.frames,.inr ⟨rfl,rfl⟩,λb z=>absurd z (noA b),e0.bs,e0.bsz,λb _ _=>noA b,λb z=>absurd z (noA b),e0.funs,e0.frf⟩,
  rfl,e0.bare,Un.kept hk,⟨_,x.toInCall.ns,λi y v h1 h2 h3=>?_⟩,λy c h=>⟨_,x.cell y c h⟩,e0.hok.fresh (Nat.le_refl _),λy c h=>?_,λp hp=>absurd (show p∈([]:List (Addr×Obj)) from hp) (by simp),e0.hok.kept hk,?_⟩
 .exact name_of_addr x.apart (PySem.mem_of_lookup h1) (PySem.mem_of_lookup h2)
 .have hy:scope.names.lookup y=some .cell∨scope.names.lookup y=some .free:=hy
  rcases hy with hy|hy
  .exact wM hy
  .exact absurd rfl (S.nofree _ (PySem.mem_of_lookup hy))
 .exact Nat.le_of_lt (x.above y c (PySem.mem_of_lookup h))
 .have hi:i<vs.length:=by
   unfold start at h2
   by_cases hi:i<vs.length
   .exact hi
   .rw[List.getElem?_append_right (by simpa using hi)]at h2
    rw[List.getElem?_replicate]at h2;split at h2<;>cases h2
  have ha:vs[i]?=some v:=by
   unfold start at h2;rw[List.getElem?_append_left (by simpa using hi),List.getElem?_map]at h2;cases e:vs[i]? with|none=>rw[e]at h2;cases h2|some a=>rw[e]at h2;cases h2;rfl
  obtain⟨u,hu,rv⟩:=r.get ha;have hp:ps[i]?=some y:=by
   rw[←S.pre,List.getElem?_take_of_lt (by omega)];exact h1
  have ndP:ps.Nodup:=by rw[←S.pre];exact S.nd.sublist (List.take_sublist _ _)
  refine⟨u,rv,?_⟩;rcases S.par y (List.mem_of_getElem? hp) with k|k
  .exact .inl ⟨k,sY ndP hp hu k⟩
  .obtain⟨c,e⟩:=wM (n:=s.heap.objs.size+1) k
   refine .inr ⟨.inl k,c,e,?_⟩;have q:=x.cell y c e;rw[tj ndP hp hu (by show scope.names.lookup y≠_;rw[k];decide)]at q;exact q
 .exact e0.hok.fresh (Nat.le_of_lt (x.above y c (PySem.mem_of_lookup h)))
 .unfold start
  show _=N.length;rw[List.length_append,List.length_map,List.length_replicate];omega
def KA{K:W.Frag}{k:Nat}{dV kV doc pm cdv ct oc:Value}
  {N ps:List Str}(lk:K.lookup f=some ⟨oc,od,.func (W.fnOf name qual params body scope dV kV doc pm an cdv ct),osl⟩) (hcd:W.codeIn K cdv qual=true) (S:gk N ps scope)
  (len:∀vs H Q E,sp vs H Q E->vs.length=ps.length)
  (hbody:∀(A:Around) (outer:List Env) (s:Shared) (H:Hp) (vs:ad) (Q:VK) (E:XK),c5 k (A.deeper (envOfC qual scope s.heap.objs.size f cdv))->sp vs H Q E ->
   ∃t,qZ (nE CX P w K mg base N qual scope f cdv A outer s H E) body t/\t { nx:=λ_ H'=>Q .non H',rt:=Q } (start N vs) H) :
  iy P w K mg base CX (k+1) f (W.fnOf name qual params body scope dV kV doc pm an cdv ct) ps sp:=by
 refine⟨len,λA outer s H args us vs Q E hr e0 hb r hsp=>?_⟩;have hl:=len _ _ _ _ hsp;have KX:K.In s.heap:=e0.mod.kin.keeps λb o e=>(e0.bs b o e).1;have lim:s.heap.NoLimit:=e0.mod.nolimit.keeps λb o e=>(e0.bs b o e).1;have hkind:∀y∈ps.zip us,scope.names.lookup y.1=some .local ∨ (scope.names.lookup y.1=some .cell/\((cellsFrom (s.heap.objs.size+1) scope.names []).lookup y.1).isSome=true):=λ⟨n,v⟩ hy=>by
  rcases S.par n (List.of_mem_zip hy).1 with q|q
  .exact .inl q
  .exact .inr ⟨q,W.cellsFrom_some _ _ _ (.inl q)⟩
 refine codeAny_call_function hr.depth (KX _ _ lk) rfl S.co S.gen rfl (W.codeRec_of KX hcd) (hb _ _ _ _ ?_);refine wpAny_newFunctionEnv_cells S.kind hkind λenv he s1 x=>?_;subst he;refine⟨lim.keeps x.toInCall.keep,codeAny_func ?_⟩;obtain⟨t,ht,hq⟩:=hbody A outer s H vs Q E (hr.deeper _) hsp;have I:Inv (nE CX P w K mg base N qual scope f cdv A outer s H E) [] (start N vs) H s1:=A0 S hr.hd e0 hl r x;refine wpAny_mono (ht [] s1 (start N vs) H _ I hq) (λfl s' hs=>?_) λe s' hs=>hs;have fin:∀{σ':St}{H':Hp}{v:V}{u:Value},Inv (nE CX P w K mg base N qual scope f cdv A outer s H E) [] σ' H' s'->bo v u->Q v H'->CE outer P w H s Q u s' :=
  λ{σ' H' v u} J rv q=>⟨v,H',J.os,J.bare,J.base,J.hok,rv,q⟩
 cases fl with
 |ret u=>
  obtain⟨v,σ',H',J,rv,q⟩:=hs;exact fin J rv q
 |next=>
  obtain⟨σ',H',J,q⟩:=hs;exact fin (v:=V.non) (u:=Value.none) J rfl q
 |brk=>
  obtain⟨_,_,_,q⟩:=hs;exact False.elim q
 |cont=>
  obtain⟨_,_,_,q⟩:=hs;exact False.elim q
section
variable {X:Cx}{x:Str}{p pos:Pos}{e:Expr}{es:List Expr}{t:TA}{id T:String}{r:ad->Hp->VK->Prop}
def Mo(r:ad->Hp->VK->Prop)(t:TA):TE:=λσ H Q=>t σ H λvs H1=>r vs H1 Q
def u7(hc:iE X (.builtin id) r)(hg:Gl X x)(hm:X.mg x=none)(hv:bootBuiltins x=some (.builtin id))(ha:PA X (e::es) t)(hn:x≠"__name__":=by decide)(hdb:(x==("__debug__":Str))=false:=by decide)
  (he:starEach (e::es) X.env=(false,eval e X.env)::starEach es X.env:=by rfl)(hpl:(backTo pos (starEach es X.env)).any (·.1)=false:=by rfl):PE X (.Call (.Name x p) (e::es) [] pos) (Mo r t):=by
 intro pins s σ H Q I h;refine wpAny_Call_Name_kw (o8 I hg hm hv ?_ hn hdb);exact PyProof.Rows.callWith_builtin1 (cC (ha pos pins s σ H _ I h) λus s1 ⟨vs,H1,I1,r1,q1⟩=>hc pins s1 σ H1 vs us Q I1 r1 q1) he hpl
def AF(hc:iE X (.type T) r)(hg:Gl X x)(hm:X.mg x=none)(hv:bootBuiltins x=some (.type T))(ha:PA X (e::es) t)(hn:x≠"__name__":=by decide)(hdb:(x==("__debug__":Str))=false:=by decide)
  (he:starEach (e::es) X.env=(false,eval e X.env)::starEach es X.env:=by rfl)(hpl:(backTo pos (starEach es X.env)).any (·.1)=false:=by rfl):PE X (.Call (.Name x p) (e::es) [] pos) (Mo r t):=by
 intro pins s σ H Q I h;refine wpAny_Call_Name_kw (o8 I hg hm hv ?_ hn hdb);exact PyProof.Rows.callWith_type1 (cC (ha pos pins s σ H _ I h) λus s1 ⟨vs,H1,I1,r1,q1⟩=>hc pins s1 σ H1 vs us Q I1 r1 q1) he hpl
end
end L2
namespace HT
open PySem PyProof.Rows
section
variable {prog:Program}{w:World}{A:Around}{E:Value->Shared->Prop}{s:Shared}
def cat_tup(ht:IsTup s.heap t vs.toArray)(hb:IsTup s.heap b ws.toArray)(hv:vs≠[])
  (h1:ws=[]->Q (.ref t) s)(h2:ws≠[]->Q (.ref s.heap.objs.size) { s with heap:=s.heap.push { cls:=.type "tuple",data:=.seq (vs++ws).toArray } })
  (hsz:vs.length+ws.length<=sizeLine):wpAny (model prog w) A (binaryOp .Add (.ref t) (.ref b)) Q E s:=by
 obtain⟨⟨cls,dd,data,sl⟩,ho,hc,n,hd⟩:=id ht;obtain⟨⟨cls2,dd2,data2,sl2⟩,ho2,hc2,n2,hd2⟩:=id hb;simp only at hc hd hc2 hd2;subst hc hd hc2 hd2;have e:vs.toArray++ws.toArray=(vs++ws).toArray:=by simp
 by_cases hw:ws=[]
 .exact concat_meets ⟨_,ho,rfl⟩ ⟨_,ho2,rfl⟩ noFill_tuple_add seq_tuple_add PySem.F.slot_tuple_add PySem.F.entry_tuple_add (PySem.F.args_tuple_add_2 _ _)
   (tuple_addW1 t b vs.toArray ws.toArray n n2 dd dd2 sl sl2 (by simpa using hv) (by simp[hw])) ⟨ho,ho2,h1 hw⟩
 .refine concat_meets ⟨_,ho,rfl⟩ ⟨_,ho2,rfl⟩ noFill_tuple_add seq_tuple_add PySem.F.slot_tuple_add PySem.F.entry_tuple_add (PySem.F.args_tuple_add_2 _ _)
   (tuple_addW2 t b vs.toArray ws.toArray n n2 dd dd2 sl sl2 (by simpa using hv) (by simpa using hw) (by rw[List.size_toArray,List.size_toArray];exact hsz)) ⟨ho,ho2,?_⟩
  rw[e];exact h2 hw
def sIx(n d:Nat):Option Int->Nat
 |none=>d
 |some v=>if v<0 then(v+(n:Int)).toNat else min v.toNat n
def sIx_none(n d:Nat):sIx n d none=d:=rfl
def sIx_nat(n d k:Nat):sIx n d (some (k:Int))=min k n:=by
 show(if(k:Int)<0 then((k:Int)+(n:Int)).toNat else min (k:Int).toNat n)=min k n;rw[if_neg (by omega),Int.toNat_natCast]
def Hv(n d:Nat)(hd:d<=n)(o:Option Int):sIx n d o<=n:=by
 cases o with
 |none=>exact hd
 |some v=>
  show(if v<0 then(v+(n:Int)).toNat else min v.toNat n)<=n
  by_cases hv:v<0
  .rw[if_pos hv];omega
  .rw[if_neg hv];exact Nat.min_le_right _ _
def zY(v:Int)(n d:Nat):(if v<0 then max (v+(n:Int)) 0 else min v (n:Int))=((sIx n d (some v):Nat):Int):=by
 show(if v<0 then max (v+(n:Int)) 0 else min v (n:Int))=(((if v<0 then(v+(n:Int)).toNat else min v.toNat n):Nat):Int)
 by_cases hv:v<0
 .simp only[if_pos hv];omega
 .simp only[if_neg hv];omega
def yd(lo hi:Option Int)(n:Nat):Builtin.Slice.sliceAdjust lo hi 1 (n:Int)=(((sIx n 0 lo:Nat):Int),((sIx n n hi:Nat):Int)):=by
 have h1:¬((1:Int)<0):=by omega
 unfold Builtin.Slice.sliceAdjust;simp only[h1,if_false];refine Prod.ext ?_ ?_
 .cases lo with
  |none=>rfl
  |some v=>exact zY v n 0
 .cases hi with
  |none=>rfl
  |some v=>exact zY v n n
def xu(i j:Nat):Builtin.Slice.slicePlaces (i:Int) (j:Int) 1=j-i:=by
 unfold Builtin.Slice.slicePlaces;have h1:(1:Int) > 0:=by omega
 simp only[h1,if_true,Int.ediv_one];split<;>omega
def ou(p:IsPart v o)(h:Q o s):wpAny (model prog w) A (Builtin.Slice.slicePartIndex v) Q E s:=by
 cases p with|none=>exact slicePart_none h|int i t=>exact slicePart_int h
def mn{lo hi:Option Int}{Q:Int×Int×Nat->Shared->Prop}(hs:s.heap.IsSliceOf sl vl vu .none)(pl:IsPart vl lo)(pu:IsPart vu hi)
  (h:Q (((sIx n 0 lo:Nat):Int),1,sIx n n hi-sIx n 0 lo) s):wpAny (model prog w) A (Builtin.Slice.sliceApplied (.ref sl) (pure (n:Int))) Q E s:=by
 obtain⟨os,hos,hcs,hds⟩:=id hs;unfold Builtin.Slice.sliceApplied Builtin.Slice.sliceFields;refine wpAny_bind (wpAny_bind (wpAny_field hos hds (x:=vl) rfl (wpAny_bind (wpAny_field hos hds (x:=vu) rfl (wpAny_bind (wpAny_field hos hds (x:=.none) rfl (wpAny_pure ?_)))))));refine wpAny_bind (slicePart_none ?_);show wpAny _ _ (if((1:Int)==0)=true then _ else _) _ _ s;rw[if_neg (by decide)];refine wpAny_bind (ou pl (wpAny_bind (ou pu (wpAny_bind (wpAny_pure ?_)))));show wpAny _ _ (match Builtin.Slice.sliceAdjust lo hi 1 (n:Int) with|(lo,hi)=>pure (lo,(1:Int),Builtin.Slice.slicePlaces lo hi 1)) _ _ s;rw[yd lo hi n];show wpAny _ _ (pure (((sIx n 0 lo:Nat):Int),(1:Int),Builtin.Slice.slicePlaces ((sIx n 0 lo:Nat):Int) ((sIx n n hi:Nat):Int) 1)) _ _ s;rw[xu];exact wpAny_pure h
def Cj(xs:Array Value)(i k:Nat):((List.range k).filterMap λ(m:Nat)=>xs[((i:Int)+(m:Int)*1).toNat]?).toArray=((xs.toList.drop i).take k).toArray:=by
 have e:(λ(m:Nat)=>xs[((i:Int)+(m:Int)*1).toNat]?)=λm=>xs[i+m]?:=by
  funext m;have:((i:Int)+(m:Int)*1).toNat=i+m:=by omega
  rw[this]
 rw[e];have:=pick_run xs i k;rw[List.filterMap_map]at this;have e2:((λx=>xs[x]?)∘λx=>i+x)=λm=>xs[i+m]?:=rfl;rw[e2]at this;rw[this]
def getItem_tuple_cut{lo hi:Option Int}(ht:IsTup s.heap t items)(hs:s.heap.IsSliceOf sl vl vu .none)(pl:IsPart vl lo)(pu:IsPart vu hi)
  (hw:¬(sIx items.size 0 lo=0/\sIx items.size items.size hi=items.size))
  (h:Q (.ref s.heap.objs.size) { s with heap:=s.heap.push { cls:=.type "tuple",data:=.seq ((items.toList.drop (sIx items.size 0 lo)).take (sIx items.size items.size hi-sIx items.size 0 lo)).toArray } })
  (hsz:items.size<=sizeLine):wpAny (model prog w) A (getItem (.ref t) (.ref sl)) Q E s:=by
 have htake:sizeOk (.seq ((items.toList.drop (sIx items.size 0 lo)).take (sIx items.size items.size hi-sIx items.size 0 lo)).toArray):=by
  show((items.toList.drop (sIx items.size 0 lo)).take (sIx items.size items.size hi-sIx items.size 0 lo)).toArray.size<=sizeLine;rw[List.size_toArray,List.length_take,List.length_drop,Array.length_toList];omega
 have hj:sIx items.size items.size hi<=items.size:=Hv _ _ (Nat.le_refl _) hi;obtain⟨os,hos,hcs,hds⟩:=id hs;have hTs:s.TypeIs (.ref sl) "slice":=⟨os,hos,hcs⟩
 unfold getItem
 try with_reducible refine wpAny_holding ?_
 first|refine wpAny_bind (wpAny_pure ?_)|skip
 refine wpAny_bind (wpAny_sequenceKey ht.typeIs (by decide) ?_);refine wpAny_bind (wpAny_callSpecial?_slot (name:=Str.ofString "__getitem__") ht.typeIs PyProof.Rows.slot_tuple_getitem
  (wpAny_call_entry PyProof.Rows.slot_tuple_getitem ht.typeIs entry_tuple_getitem ?_ (args_tuple_getitem _ _)))
 show wpAny _ _ (Builtin.Tuple.tupleItemsOf (.ref t) >>= _) _ _ s;refine wpAny_bind (tupleItemsOf_ ht ?_);refine wpAny_bind (wpAny_typeOf hTs ?_);rw[if_pos (by decide)];refine wpAny_bind (mn hs pl pu ?_);have hno:¬((((sIx items.size 0 lo:Nat):Int)==0&&(1:Int)==1&&(sIx items.size items.size hi-sIx items.size 0 lo)==items.size)=true):=by
  intro q;rw[Bool.and_eq_true,Bool.and_eq_true]at q;have q1:((sIx items.size 0 lo:Nat):Int)=0:=eq_of_beq q.1.1;have q2:sIx items.size items.size hi-sIx items.size 0 lo=items.size:=eq_of_beq q.2;exact hw ⟨by omega,by omega⟩
 show wpAny _ _ (if(((sIx items.size 0 lo:Nat):Int)==0&&(1:Int)==1&&(sIx items.size items.size hi-sIx items.size 0 lo)==items.size)=true then _ else _) _ _ s;rw[if_neg hno,Cj]
 first
  |exact wpAny_bind (m:=Builtin.Tuple.tupleExact _) (wpAny_newObj_type (wpAny_pure ⟨_,rfl,wpAny_pure h⟩) htake)
  |exact wpAny_bind (m:=Builtin.Tuple.tupleExact _) (wpAny_newObj_type (wpAny_bind (wpAny_pure (wpAny_pure ⟨_,rfl,wpAny_pure h⟩))) htake)
  |exact wpAny_bind (wpAny_bind (m:=Builtin.Tuple.tupleExact _) (wpAny_newObj_type (wpAny_pure (wpAny_pure ⟨_,rfl,wpAny_pure h⟩)) htake))
  |exact wpAny_bind (wpAny_bind (m:=Builtin.Tuple.tupleExact _) (wpAny_newObj_type (wpAny_pure ⟨_,rfl,wpAny_pure h⟩) htake))
end
end HT
namespace L2
open PySem PySem.Spec PyProof.Rows
abbrev TO:=St->Hp->(Option Int->Hp->Prop)->Prop
def PO(X:Cx)(e:Option Expr)(t:TO):Prop :=
 ∀(pins:List (Addr×Obj)) (s:Shared) (σ:St) (H:Hp) (Q:Option Int->Hp->Prop),Inv X pins σ H s->t σ H Q ->
  wpAny (model X.prog X.w) X.A (evalPart e X.env) (λu s'=>∃o H',Inv X pins σ H' s'/\IsPart u o/\Q o H') X.xe s
def Ey:TO:=λ_ H Q=>Q none H
def Jz(t:TE):TO:=λσ H Q=>t σ H λx H1=>∃i,x=.int i/\Q (some i) H1
section
variable {X:Cx}{e:Expr}{te:TE}{lo hi:Option Expr}{tl th:TO}{pos p2:Pos}
def EN:PO X none Ey:=by
 intro pins s σ H Q I h;rw[evalPart_none];exact wpAny_pure ⟨none,H,I,.none,h⟩
def EM(h:PE X e te):PO X (some e) (Jz te):=by
 intro pins s σ H Q I hw;rw[evalPart_some];refine cC (h pins s σ H _ I hw) λu s1 ⟨x,H1,I1,r1,q1⟩=>?_;obtain⟨i,rfl,q⟩:=q1;obtain⟨t,rfl⟩:=r1;exact⟨some i,H1,I1,.int i t,q⟩
noncomputable def D6(X:Cx) (r:V->Option Int->Option Int->Hp->VK->Prop):Prop :=
 ∀(pins:List (Addr×Obj)) (s:Shared) (σ:St) (H:Hp) (x:V) (v vl vu:Value) (lo hi:Option Int) (sl:Addr) (Q:VK),Inv X pins σ H s->bo x v->s.heap.IsSliceOf sl vl vu .none->IsPart vl lo->IsPart vu hi->r x lo hi H Q ->
  ∃T id,typeLookup (.type T) "__getitem__"=pure (some (.builtin id))/\s.TypeIs v T/\wpAny (model X.prog X.w) X.A (getItem v (.ref sl)) (EP X pins σ Q) X.xe s
def D6.or(h:D6 X r)(h':D6 X r'):D6 X (λx lo hi H Q=>r x lo hi H Q∨r' x lo hi H Q):=by
 intro pins s σ H x v vl vu lo hi sl Q I rx hs pl pu q;rcases q with q|q
 .exact h pins s σ H x v vl vu lo hi sl Q I rx hs pl pu q
 .exact h' pins s σ H x v vl vu lo hi sl Q I rx hs pl pu q
def Ml(r:V->Option Int->Option Int->Hp->VK->Prop)(te:TE)(tl th:TO):TE:=λσ H Q=>te σ H λx H1=>tl σ H1 λl H2=>th σ H2 λu H3=>r x l u H3 Q
def u6(hr:D6 X r)(he:PE X e te)(hl:PO X lo tl)(hu:PO X hi th):PE X (.Subscript e (.Slice lo hi none p2) pos) (Ml r te tl th):=by
 intro pins s σ H Q I h;refine Subscript_ (cC (he pins s σ H _ I h) λv s1 ⟨x,H1,I1,r1,q1⟩=>?_);refine wpAny_Slice (cC (hl pins s1 σ H1 _ I1 q1) λvl s2 ⟨l,H2,I2,pl,q2⟩=>cC (hu pins s2 σ H2 _ I2 q2) λvu s3 ⟨u,H3,I3,pu,q3⟩=>?_);rw[evalPart_none];refine wpAny_pure ?_;have I4:Inv X pins σ H3 { s3 with heap:=s3.heap.push { cls:=.type "slice",data:=.fields #[vl,vu,.none] } }:=I3.kept (t':=s3.toks) λb ob q=>Heap.get?_push_of_some _ q;obtain⟨T,id,hT,ht,hg⟩:=hr pins { s3 with heap:=s3.heap.push { cls:=.type "slice",data:=.fields #[vl,vu,.none] } } σ H3 x v vl vu l u s3.heap.objs.size Q I4 r1 (Heap.IsSliceOf.new ..) pl pu q3;show wpAny (model X.prog X.w) X.A (subscriptTail e (.Slice lo hi none p2) v (.ref s3.heap.objs.size)) (EP X pins σ Q) X.xe { s3 with heap:=s3.heap.push { cls:=.type "slice",data:=.fields #[vl,vu,.none] } };exact tail_any (ops:=[.ref s3.heap.objs.size,v]) ht hT hg (by with_unfolding_all rfl)
def wG(xs:ad)(lo hi:Option Int):ad:=(xs.drop (HT.sIx xs.length 0 lo)).take (HT.sIx xs.length xs.length hi-HT.sIx xs.length 0 lo)
def mY(xs:ad)(lo hi:Option Int):(wG xs lo hi).length<=xs.length:=by
 unfold wG;rw[List.length_take,List.length_drop];omega
def LJ(K:W.Frag):V->Option Int->Option Int->Hp->VK->Prop:=λx lo hi H Q=>∃a xs,x=.ref a/\ji K H a xs /\
 ¬(HT.sIx xs.length 0 lo=0/\HT.sIx xs.length xs.length hi=xs.length)/\∀p,H p=none->Q (.ref p) (upd H p (.tup (wG xs lo hi)))
def Hk:D6 X (LJ X.K):=by
 intro pins s σ H x v vl vu lo hi sl Q I rx hs pl pu h;obtain⟨a,xs,rfl,hx,hw,q⟩:=h;cases rx;obtain⟨its,r,ht,hz⟩:=I.tuple hx;have hlen:its.toArray.size=xs.length:=by rw[List.size_toArray];exact r.length.symm
 refine⟨"tuple",_,PyProof.Rows.slot_tuple_getitem.lookup,ht.typeIs,?_⟩;refine HT.getItem_tuple_cut ht hs pl pu (by rw[hlen];exact hw) ?_ (by rw[hlen];exact hz);rw[hlen];refine⟨.ref s.heap.objs.size,_,I.laid (t':=s.toks) (o:=.tup (wG xs lo hi)) (λb ob q=>Heap.get?_push_of_some _ q) (Nat.le_refl _) ?_,rfl,q _ (I.hok.fresh (Nat.le_refl _))⟩;exact⟨Nat.le_trans (mY xs lo hi) hz,_,(r.drop (HT.sIx xs.length 0 lo)).take (HT.sIx xs.length xs.length hi-HT.sIx xs.length 0 lo),IsTup.new _ _⟩
def JV(K:W.Frag):R2:=λx y H Q=>∃a b xs ys,x=.ref a/\y=.ref b/\ji K H a xs/\ji K H b ys/\xs≠[]/\xs.length+ys.length<=sizeLine /\
 (ys=[]->Q (.ref a) H)/\(ys≠[]->∀p,H p=none->Q (.ref p) (upd H p (.tup (xs++ys))))
def bD.nil_iff(r:bD xs us):us=[]↔xs=[]:=by
 cases r with|nil|cons _ _=>simp
def yW:ez X (binaryOp .Add) (JV X.K):=by
 intro pins s σ H x y v u Q I rx ry h;obtain⟨a,b,xs,ys,rfl,rfl,ha,hb,hx,hz,q1,q2⟩:=h;cases rx;cases ry;obtain⟨its,r1,p1,_⟩:=I.tuple ha;obtain⟨its2,r2,p2,_⟩:=I.tuple hb;refine HT.cat_tup p1 p2 (λz=>hx (r1.nil_iff.mp z)) (λz=>⟨.ref a,H,I,rfl,q1 (r2.nil_iff.mp z)⟩) (λz=>?_) (by rw[←r1.length,←r2.length];exact hz);refine⟨.ref s.heap.objs.size,_,I.laid (t':=s.toks) (o:=.tup (xs++ys)) (λb ob q=>Heap.get?_push_of_some _ q) (Nat.le_refl _) ?_,rfl,q2 (λw=>z (r2.nil_iff.mpr w)) _ (I.hok.fresh (Nat.le_refl _))⟩;exact⟨by rw[List.length_append];exact hz,_,r1.append r2,IsTup.new _ _⟩
end
def wW(n:Nat)(i:Int):Option Nat:=if 0<=i then(if i<n then some i.toNat else none) else if -(n:Int)<=i then some (i+n).toNat else none
def atI{α:Type}(xs:List α)(i:Int):Option α:=(wW xs.length i).bind λj=>xs[j]?
def zg(h:wW n i=some j):seqIndex? i n=some j/\j<n/\-(n:Int)<=i/\i<n:=by
 unfold wW at h
 by_cases h0:0<=i
 .rw[if_pos h0]at h
  by_cases h1:i<n
  .rw[if_pos h1]at h
   have e:i.toNat=j:=Option.some.inj h;exact⟨by rw[seqIndex_of h0 h1,e],by omega,by omega,h1⟩
  .rw[if_neg h1]at h;cases h
 .rw[if_neg h0]at h
  by_cases h1:-(n:Int)<=i
  .rw[if_pos h1]at h
   have e:(i+n).toNat=j:=Option.some.inj h;exact⟨by rw[seqIndex_neg (by omega) h1,e],by omega,h1,by omega⟩
  .rw[if_neg h1]at h;cases h
def uH{v:α}(h:atI xs i=some v):∃j,seqIndex? i xs.length=some j/\xs[j]?=some v/\j<xs.length/\-(xs.length:Int)<=i/\i<xs.length:=by
 unfold atI at h;cases e:wW xs.length i with
 |none=>rw[e]at h;cases h
 |some j=>
  rw[e]at h;obtain⟨h1,h2,h3,h4⟩:=zg e;exact⟨j,h1,h,h2,h3,h4⟩
def eM{j:Nat}{v:α}(h:xs[j]?=some v):atI xs (j:Int)=some v:=by
 have hj:j<xs.length:=(List.getElem?_eq_some_iff.mp h).1;have e:wW xs.length (j:Int)=some j:=by
  unfold wW;rw[if_pos (by omega),if_pos (by omega)];simp
 unfold atI;rw[e];exact h
def ix(b:Expr):Prop:=∀o i,subscripted b false o i=operate [o,i] (getItem o i)
noncomputable def DV(X:Cx) (r:R2):Prop :=
 ∀(value slice:Expr) (pins:List (Addr×Obj)) (s:Shared) (σ:St) (H:Hp) (x y:V) (v u:Value) (Q:VK),Inv X pins σ H s->bo x v->bo y u->r x y H Q ->
  subscripted slice false v u=operate [v,u] (getItem v u)->wpAny (model X.prog X.w) X.A (subscriptTail value slice v u) (EP X pins σ Q) X.xe s
noncomputable def MJ(X:Cx) (id:String) (r:V->ad->Hp->VK->Prop):Prop :=
 ∀(pins:List (Addr×Obj)) (s:Shared) (σ:St) (H:Hp) (x:V) (xs:ad) (v:Value) (us:List Value) (Q:VK),Inv X pins σ H s->bo x v->bD xs us->r x xs H Q ->
  wpAny (model X.prog X.w) X.A (call (.builtin id) (v::us)) (EP X pins σ Q) X.xe s
section
variable {X:Cx}{a b:Expr}{ta tb:TE}{pos:Pos}
def DV.or(h:DV X r)(h':DV X r'):DV X (λx y H Q=>r x y H Q∨r' x y H Q):=by
 intro value slice pins s σ H x y v u Q I rx ry q hs;rcases q with q|q
 .exact h value slice pins s σ H x y v u Q I rx ry q hs
 .exact h' value slice pins s σ H x y v u Q I rx ry q hs
def yO(hr:DV X r)(ha:PE X a ta)(hb:PE X b tb)(hs:ix b):PE X (.Subscript a b pos) (Jk r ta tb):=by
 intro pins s σ H Q I h;exact Subscript_ (IM ha hb I h λv u s2 x y H2 I2 rx ry q=>hr a b pins s2 σ H2 x y v u Q I2 rx ry q (hs _ _))
def JR(K:W.Frag):R2:=λx y H Q=>∃p xs i v,x=.ref p/\y=.int i/\eN K H p xs/\atI xs i=some v/\Q v H
def JP(K:W.Frag):R2:=λx y H Q=>∃p xs i v,x=.ref p/\y=.int i/\ji K H p xs/\atI xs i=some v/\Q v H
def JQ:R2:=λx y H Q=>∃z i c,x=.str z/\y=.int i/\z.length<=sizeLine/\atI z.cps.toList i=some c/\Q (.str ⟨#[c]⟩) H
def Fq:DV X (JR X.K):=by
 intro value slice pins s σ H x y v u Q I rx ry h hs;obtain⟨p,xs,i,z,rfl,rfl,hq,he,q⟩:=h;cases rx;obtain⟨t,rfl⟩:=ry;obtain⟨its,r,pl,hz⟩:=I.list hq;obtain⟨j,h1,h2,h3,h4,h5⟩:=uH he;obtain⟨w,ew,rw'⟩:=r.get h2;have hl:=r.length;have hn:=o6;have fin:EP X pins σ Q w s:=⟨z,H,I,rw',q⟩
 by_cases h0:0<=i
 .have hj:i.toNat=j:=by
   rw[seqIndex_of h0 h5]at h1;exact Option.some.inj h1
  exact item_listR pl.isList h0 (by omega) (by rw[hj];simpa using ew) fin hs
 .have hj:(i+(its.toArray.size:Int)).toNat=j:=by
   rw[seqIndex_neg (by omega) h4]at h1;rw[List.size_toArray,←hl];exact Option.some.inj h1
  exact subscriptTail_builtinR (x:=w) pl.isList.typeIs slot_list_getitem.lookup
   (wpAny_getItem_list_neg (Q:=λr s'=>r=w/\EP X pins σ Q r s') pl.isList (by omega) (by rw[List.size_toArray]<;>omega) (by omega) (by rw[hj];simpa using ew) ⟨rfl,fin⟩) hs
def xI:DV X (JP X.K):=by
 intro value slice pins s σ H x y v u Q I rx ry h hs;obtain⟨p,xs,i,z,rfl,rfl,hq,he,q⟩:=h;cases rx;obtain⟨t,rfl⟩:=ry;obtain⟨its,r,pl,hz⟩:=I.tuple hq;obtain⟨j,h1,h2,h3,h4,h5⟩:=uH he;obtain⟨w,ew,rw'⟩:=r.get h2;have hl:=r.length;have hn:=o6;have fin:EP X pins σ Q w s:=⟨z,H,I,rw',q⟩
 exact subscriptTail_builtinR (x:=w) pl.typeIs slot_tuple_getitem.lookup
  (getItem_tuple (j:=j) (Q:=λr s'=>r=w/\EP X pins σ Q r s') pl (by omega) (by omega) (by rw[List.size_toArray,←hl];exact h1) (by simpa using ew) ⟨rfl,fin⟩) hs
def Ik:DV X JQ:=by
 intro value slice pins s σ H x y v u Q I rx ry h hs;obtain⟨z,i,c,rfl,rfl,hz,he,q⟩:=h;obtain⟨t,rfl⟩:=rx;obtain⟨t',rfl⟩:=ry;obtain⟨j,h1,h2,h3,h4,h5⟩:=uH he;have hl:z.cps.toList.length=z.length:=by simp[Str.length]
 rw[hl]at h1 h4 h5;have hn:=o6;exact tail_any (typeIs_str s z t) slot_str_getitem.lookup (getItem_str (c:=c) (by
  have e1:decide (i < -(2 ^ 63:Int))=false:=decide_eq_false (by omega);have e2:decide (i≥2 ^ 63)=false:=decide_eq_false (by omega);rw[e1,e2,Bool.or_false]) (by rw[h1];simpa using h2) ⟨.str ⟨#[c]⟩,H,I.tok _,⟨_,rfl⟩,q⟩) hs
def Mp(K:W.Frag):R2:=λx y H Q=>JR K x y H Q∨JP K x y H Q∨JQ x y H Q
def CS:DV X (Mp X.K):=Fq.or (xI.or Ik)
def xD(its:List Value)(n j:Nat)(u:Value):Obj.mapSeq (·.setIfInBounds j u) { cls:=.type "list",data:=.seq its.toArray n }={ cls:=.type "list",data:=.seq (its.set j u).toArray n }:=by
 simp[Obj.mapSeq]
def Inv.lst(I:Inv X pins σ H s)(h:H p=some (.lst xs)) :
  ∃(its:List Value) (n:Nat),bD xs its/\s.heap.get? p=some { cls:=.type "list",data:=.seq its.toArray n }/\xs.length<=sizeLine:=by
 obtain⟨z,its,n,r,e⟩:=I.hok p _ h;exact⟨its,n,r,e,z⟩
def Inv.lstUpd{its its':List Value}(I:Inv X pins σ H s)(h:H p=some (.lst xs))
  (ho:s.heap.get? p=some { cls:=.type "list",data:=.seq its.toArray n })(hf:f { cls:=.type "list",data:=.seq its.toArray n }={ cls:=.type "list",data:=.seq its'.toArray n' })(r:bD ys its')(hz:ys.length<=sizeLine)(t:Nat) :
  Inv X pins σ (upd H p (.lst ys)) { s with heap:=s.heap.update p f,toks:=t }:=by
 have e:(s.heap.update p f).get? p=some { cls:=.type "list",data:=.seq its'.toArray n' }:=by
  rw[Heap.get?_update_self f ho (by rw[hf]<;>rfl),hf]
 refine I.write (x:=p) (e:=p) (by rw[h];trivial) (.inl rfl) (λb u hb q=>(Heap.get?_update_other _ _ (Ne.symm hb)).trans q) ⟨_,e⟩ ?_;exact⟨hz,its',n',r,e⟩
def Gg:V->V->V->Hp->(Hp->Prop)->Prop:=λo i v H Q=>∃p xs k j,o=.ref p/\i=.int k/\H p=some (.lst xs)/\wW xs.length k=some j/\Q (upd H p (.lst (xs.set j v)))
def uS:KY X Gg:=by
 intro pins s σ H o i v ov iv u Q I ro ri rv h;obtain⟨p,xs,k,j,rfl,rfl,hp,hj,q⟩:=h;cases ro;obtain⟨t,rfl⟩:=ri;obtain⟨its,n,r,ho,hz⟩:=I.lst hp;obtain⟨h1,h2,h3,h4⟩:=zg hj;have hl:=r.length;have hn:=o6;have I':Inv X pins σ (upd H p (.lst (xs.set j v))) { s with heap:=s.heap.update p (Obj.mapSeq (·.setIfInBounds j u)) } :=
  I.lstUpd hp ho (xD its n j u) (r.set rv j) (by rw[List.length_set];exact hz) s.toks
 by_cases h0:0<=k
 .have hk:k.toNat=j:=by
   rw[seqIndex_of h0 h4]at h1;exact Option.some.inj h1
  exact W.ki_setAt ho h0 (by omega) (by rw[List.size_toArray,←hl];exact h4) (by rw[hk];exact⟨_,I',q⟩)
 .have hk:(k+(its.toArray.size:Int)).toNat=j:=by
   rw[seqIndex_neg (by omega) h3]at h1;rw[List.size_toArray,←hl];exact Option.some.inj h1
  exact W.ki_setBack ho (by omega) (by rw[List.size_toArray,←hl];exact h3) (by omega) (by rw[hk];exact⟨_,I',q⟩)
def tP(lo hi:Option Int)(n:Nat):(sliceBounds lo hi none n).1=((HT.sIx n 0 lo:Nat):Int)/\(sliceBounds lo hi none n).2.1=((HT.sIx n n hi:Nat):Int)/\(sliceBounds lo hi none n).2.2=1:=by
 refine⟨?_,?_,rfl⟩
 .cases lo with
  |none=>simp[sliceBounds,HT.sIx]
  |some i=>
   simp only[sliceBounds,HT.sIx,Option.getD_none,show(1:Int) > 0 by decide,if_true]
   by_cases h:i<0
   .simp only[h,if_true]<;>omega
   .simp only[h,if_false]<;>omega
 .cases hi with
  |none=>simp[sliceBounds,HT.sIx]
  |some i=>
   simp only[sliceBounds,HT.sIx,Option.getD_none,show(1:Int) > 0 by decide,if_true]
   by_cases h:i<0
   .simp only[h,if_true]<;>omega
   .simp only[h,if_false]<;>omega
def rg(its:List Value)(lo hi:Option Int):slicePick its.toArray lo hi none=((its.drop (HT.sIx its.length 0 lo)).take (HT.sIx its.length its.length hi-HT.sIx its.length 0 lo)).toArray:=by
 obtain⟨h1,h2,h3⟩:=tP lo hi its.toArray.size;unfold slicePick;rw[h1,h2,h3];simp only[sliceRange_one,pick_run,List.size_toArray]<;>rfl
def LL(K:W.Frag):V->Option Int->Option Int->Hp->VK->Prop:=λx lo hi H Q=>∃a xs,x=.ref a/\eN K H a xs/\∀p,H p=none->Q (.ref p) (upd H p (.lst (wG xs lo hi)))
def yx:D6 X (LL X.K):=by
 intro pins s σ H x v vl vu lo hi sl Q I rx hs pl pu h;obtain⟨a,xs,rfl,hx,q⟩:=h;cases rx;obtain⟨its,r,ht,hz⟩:=I.list hx;have hlen:=r.length;refine⟨"list",_,slot_list_getitem.lookup,ht.isList.typeIs,?_⟩;refine wpAny_getItem_list_slice ht.isList hs pl pu .none (by simp) ?_ (by rw[List.size_toArray]<;>omega);rw[rg,←hlen];refine⟨.ref s.heap.objs.size,_,I.laid (t':=s.toks) (o:=.lst (wG xs lo hi)) (λb ob q=>Heap.get?_push_of_some _ q) (Nat.le_refl _) ?_,rfl,q _ (I.hok.fresh (Nat.le_refl _))⟩;exact⟨Nat.le_trans (mY xs lo hi) hz,_,0,(r.drop (HT.sIx xs.length 0 lo)).take (HT.sIx xs.length xs.length hi-HT.sIx xs.length 0 lo),Heap.get?_push_size _ rfl⟩
def tY:ez X (compareOp .NotIn) (λx y H Q=>∃i j,x=.str i/\y=.str j/\Q (.bl (!(!(Builtin.Str.occurrences j i 0 j.length 1).isEmpty))) H):=by
 intro pins s σ H x y v u Q I rx ry h;obtain⟨i,j,rfl,rfl,q⟩:=h;obtain⟨t,rfl⟩:=rx;obtain⟨t',rfl⟩:=ry;exact notIn_str ⟨.bl _,H,I,rfl,q⟩
noncomputable def Mi(K:W.Frag) (T:String) (x:V) (H:Hp):Prop:=match x with
 |.str _=>T="str"
 |.int _=>T="int"
 |.ref p=>(T="list"/\∃xs,eN K H p xs)∨(T="tuple"/\∃o,K.lookup p=some o/\o.cls=.type "tuple"/\o.dict=none) ∨
   (T="dict"/\((∃kvs,H p=some (.dK kvs))∨∃kvs,H p=some (.dT kvs)))∨(T="set"/\∃S n,H p=some (.set S n))
 |_=>False
def G6(I:Inv X pins σ H s)(r:bo x v)(ty:Mi X.K T x H) :
  s.TypeIs v T/\∀a,v=.ref a->∃ob,s.heap.get? a=some ob/\ob.dict=none:=by
 cases x with
 |str z=>
  obtain⟨t,rfl⟩:=r;cases (show T="str" from ty);exact⟨typeIs_str s z t,λ_ e=>nomatch e⟩
 |int i=>
  obtain⟨t,rfl⟩:=r;cases (show T="int" from ty);exact⟨typeIs_int s i t,λ_ e=>nomatch e⟩
 |ref p=>
  cases r;rcases ty with⟨rfl,xs,hq⟩|⟨rfl,o,hk,hc,hd⟩|⟨rfl,hk⟩|⟨rfl,S,n,hk⟩
  .obtain⟨its,_,pl,_⟩:=I.list hq
   refine⟨pl.isList.typeIs,λa e=>?_⟩;cases e;obtain⟨o,n,e,c,hd,_⟩:=pl;exact⟨o,e,hd⟩
  .refine⟨⟨o,I.kIn p o hk,hc⟩,λa e=>?_⟩
   cases e;exact⟨o,I.kIn _ o hk,hd⟩
  .have z:∃o,s.heap.get? p=some o/\o.ExactDict:=by
    rcases hk with⟨kvs,hk⟩|⟨kvs,hk⟩
    .obtain⟨_,_,_,_,o,_,_,e,ex,_⟩:=I.hok p _ hk
     exact⟨o,e,ex⟩
    .obtain⟨_,_,_,_,o,_,_,e,ex,_⟩:=I.hok p _ hk
     exact⟨o,e,ex⟩
   obtain⟨o,e,ex⟩:=z;refine⟨⟨o,e,ex.1⟩,λa e2=>?_⟩;cases e2;exact⟨o,e,ex.2.1⟩
  .obtain⟨o,_,_,_,e,ex,_⟩:=I.hok p _ hk
   refine⟨⟨o,e,ex.1⟩,λa e2=>?_⟩;cases e2;exact⟨o,e,ex.2.1⟩
 |_=>exact False.elim ty
def MY(K:W.Frag)(T:String)(r:V->ad->Hp->VK->Prop)(to:TE)(t:TA):TE:=λσ H Q=>to σ H λx H1=>Mi K T x H1/\t σ H1 λxs H2=>r x xs H2 Q
variable {o e:Expr}{es:List Expr}{to:TE}{t:TA}{name:Str}{apos cpos:Pos}{T id:String}{r:V->ad->Hp->VK->Prop}
def yQ(pa:PlainAttrs T)(slot:Slot T name id)(hty:typeOf (.builtin id)=pure (.type "method_descriptor"))(hm:MJ X id r)(ho:PE X o to)(ha:PA X (e::es) t)
  (hbase:attributeBase o name X.env (eval o X.env)=eval o X.env:=by rfl)
  (hfew:((backTo cpos (starEach (e::es) X.env)).all (λx=>!x.1)&&(backToKw cpos (keywordEach [] X.env)).all (λx=>x.1.isSome)
  &&decide ((e::es).length+([]:List Keyword).length+(if([]:List Keyword).isEmpty then 0 else 1)<30))=true:=by rfl)
  (hline:(apos.endLine==cpos.line)=true:=by rfl) (hs:starEach (e::es) X.env=(false,eval e X.env)::starEach es X.env:=by rfl) (hplain:(backTo cpos (starEach es X.env)).any (·.1)=false:=by rfl) :
  PE X (.Call (.Attribute o name apos) (e::es) [] cpos) (MY X.K T r to t):=by
 intro pins s σ H Q I h;refine wpAny_Call_method_late hbase hfew hline rfl (cC (ho pins s σ H _ I h) λv s1 ⟨x,H1,I1,r1,ty,q1⟩=>?_);obtain⟨h1,h2⟩:=G6 I1 r1 ty;refine⟨T,id,pa,slot,hty,h1,h2,?_⟩;have hA:=ha cpos pins s1 σ H1 _ I1 q1;rw[hs]at hA ⊢;refine Calls.callWith_builtin (by show(false||(backTo cpos (starEach es X.env)).any (·.1))=false;rw[hplain]<;>rfl) (Calls.evalArgs_plain ?_);exact cC hA λus s2 ⟨vs,H2,I2,r2,q2⟩=>hm pins s2 σ H2 x vs v us Q I2 r1 r2 q2
end
noncomputable def Nf(X:Cx) (id:String) (r:V->ad->Hp->VK->Prop):Prop :=
 ∀(pins:List (Addr×Obj)) (s:Shared) (σ:St) (H:Hp) (x:V) (xs:ad) (v:Value) (us:List Value) (Q:VK),Inv X pins σ H s->bo x v->bD xs us->r x xs H Q ->
  wpAny (model X.prog X.w) X.A (call (.builtin id) (v::us)) (EP X pins σ Q) X.xe s
theorem bD.one:∀{x:V}{us:List Value},bD [x] us->∃u,us=[u]/\bo x u
 |_,_,.cons r .nil=>⟨_,rfl,r⟩
section
variable {X:Cx}{pins:List (Addr×Obj)}{σ:St}{H:Hp}{s:Shared}{l b:Addr}{xs ys zs:ad}
def Inv.lset{its its':List Value}(I:Inv X pins σ H s)(hH:H l=some (.lst xs))
  (e:s.heap.get? l=some { cls:=.type "list",data:=.seq its.toArray n })(hf:f its.toArray=its'.toArray)(hv:bD ys its')(hz:ys.length<=sizeLine) :
  Inv X pins σ (upd H l (.lst ys)) { s with heap:=s.heap.update l (Obj.mapSeq f),toks:=t' }:=by
 have q:=PySem.IsL.update e f;rw[hf]at q;refine I.write (x:=l) (e:=l) (by rw[hH];exact trivial) (.inl rfl) (λb' u hb hu=>(Heap.get?_update_other s.heap (Obj.mapSeq f) (Ne.symm hb)).trans hu) ⟨_,q⟩ ?_;exact⟨hz,its',_,hv,q⟩
def Inv.lnew(I:Inv X pins σ H s)(hv:bD ys its)(hz:ys.length<=sizeLine) :
  Inv X pins σ (upd H s.heap.objs.size (.lst ys)) { s with heap:=s.heap.push { cls:=.type "list",data:=.seq its.toArray },toks:=t' } :=
 I.laid (λ_ _ q=>Heap.get?_push_of_some _ q) (Nat.le_refl _) ⟨hz,its,0,hv,Heap.get?_push_size _ rfl⟩
def Inv.fresh(I:Inv X pins σ H s):H s.heap.objs.size=none:=I.hok.fresh (Nat.le_refl _)
def Inv.lstM(I:Inv X pins σ H s)(hH:H l=some (.lst xs)):xs.length<=sizeLine/\∃(its:List Value) (n:Nat),bD xs its/\xs.length=its.length/\s.heap.get? l=some { cls:=.type "list",data:=.seq its.toArray n }:=by
 obtain⟨z,its,n,r,e⟩:=I.hok l _ hH;exact⟨z,its,n,r,r.length,e⟩
end
section
variable {X:Cx}
def EH:V->ad->Hp->VK->Prop:=λx vs H Q=>∃l xs y,x=.ref l/\vs=[y]/\H l=some (.lst xs)/\xs.length<sizeLine/\Q .non (upd H l (.lst (xs++[y])))
def ju:Nf X "list.append" EH:=by
 intro pins s σ H x vs v us Q I rx rv h;obtain⟨l,xs,y,rfl,rfl,hH,hz,q⟩:=h;cases rx;obtain⟨u,rfl,ru⟩:=rv.one;obtain⟨z,its,n,r,hl,e⟩:=I.lstM hH;refine call_meets F.slot_list_append ⟨_,e,rfl⟩ F.entry_list_append (F.args_list_append_2 _ _) (PySem.list_append l its.toArray n u (by rw[List.size_toArray];omega)) ⟨e,?_⟩;refine⟨.non,_,I.lset (its':=its++[u]) hH e (by simp) (r.append (.cons ru .nil)) ?_,rfl,q⟩;rw[List.length_append,List.length_singleton];omega
end
end L2
namespace Att
open PySem PySem.W PySem.Calls PyProof.Rows
def nC{h:Heap}:∀(ns:List Int) (vs:List Value),WellAll P h vs (ns.map WData.int)->IntsAre vs ns:=by
 intro ns
 induction ns with
 |nil=>
  intro vs w;rw[List.map_nil]at w;cases w;exact .nil
 |cons n ns ih=>
  intro vs w;rw[List.map_cons]at w;cases w with
  |cons a b=>
   cases a;exact .cons _ _ (ih _ b)
def Aw{l:OpenLaw}(hn:l.most=some n){h:Heap} 
  (hpre:l.row.toRowW.claim.pre args=true)(hwl:WellAll P h vals args) :
  ∃a vs ns,vals=[Value.ref a]/\args=[WData.list (ns.map WData.int)]/\h.get? a=some { cls:=.type "list",data:=.seq vs.toArray }/\IntsAre vs ns/\ns.length<=n:=by
 have hsh:WShape.hasAll [] args [.list .int]=true:=(pre_splitW hpre).1;have hc:l.pre.holds [] { args:=args }=true:=(pre_splitW hpre).2;obtain⟨d,r,rfl,h1,h2⟩:=hasAllW_cons hsh;obtain rfl:=hasAllW_nil h2;obtain⟨xs,rfl,h3⟩:=hasW_list h1;obtain⟨ns,rfl⟩:=items_int h3;have hlen:ns.length<=n:=by
  unfold OpenLaw.pre at hc;have h4:(WTm.not (.lt (.lit (.int (n:Int))) (.len (.arg 0)))).holds [] { args:=[.list (ns.map .int)] }=true:=by
   have h4:=(holds_andW hc).1;rw[hn]at h4;exact h4
  have h5:=condW_of h4 (w_not (w_lt w_lit (w_len_list (w_arg rfl))));rw[List.length_map]at h5;refine Nat.le_of_not_lt λq=>?_;have q':(n:Int)<((ns.length:Nat):Int):=by omega
  first
   |(rw[decide_eq_true q']at h5;exact absurd h5 (by decide))
   |(simp at h5;omega)
 cases hwl with
 |cons w1 w2=>
  cases w2;cases w1 with|list ho hall=>exact⟨_,_,ns,rfl,rfl,ho,nC ns _ hall,hlen⟩
def AA(l:OpenLaw)(args:List WData):l.row.toRowW.claim.post args (.bool true) args=true :=
 postW_of (r:=l.row.toRowW) (X:=(true==true))
  (show WShape.has [] (.bool true) .bool=true by first|rfl|decide|simp[WShape.has,WShape.arms,WShape.armsAll])
  (show(WTm.eq .res (.lit (.bool true))).value [] { args:=args,res:=some (.bool true),after:=args }=some (.bool (true==true)) from w_eq_bool (w_res rfl) w_lit) rfl
def attach_call{l:OpenLaw}{q:Program} 
  (hn:l.most=some n)(hdf:d.params.defaults=[])
  (call:∀(w:World) (sf sg:Shared) (mg mb:Str->Option Value) (fa:Addr) (o:Obj) (pm cd doc:Value) (a:Addr) (vs:List Value) (ns:List Int),
   Ground q loose [] XP w sf mg mb sg.heap->YP w sg.heap ->
   sg.heap.get? fa=some o->o.data=.func (docDef d.name d.params d.body d.scope pm cd doc)->sg.heap.CodeRec cd d.name->mg d.name=some (.ref fa) ->
   sg.heap.get? a=some { cls:=.type "list",data:=.seq vs.toArray }->IntsAre vs ns->ns.length<=n->sg.gens=#[] ->
   codeAny (model l.prog w) callerA (.call (.ref fa) ⟨[.ref a],[]⟩) (λr s'=>r=.ok (.ret (.bool true))/\OldK sg.heap s'.heap/\s'.os=sg.os/\AllBare s'.gens) sg) :
  WalkO q loose XP YP l.row.toRowW d [] (λf vs=>PySem.call f vs):=by
 intro w sf sg mg mb G Y fa o pm cd doc dV kV ho hd hcd hD hmg hg args vals as hpre hlay hrd hwl hlo;obtain rfl:dV=.none:=Dflts.none hD hdf;obtain rfl:kV=.none:=Dflts.noKw hD;obtain⟨a,vs,ns,rfl,rfl,hobj,hints,hlen⟩:=Aw hn hpre hwl;refine enter_call (codeAny_mono (call w sf sg mg mb fa o pm cd doc a vs ns G Y ho (fd_plain hd) hcd hmg hobj hints hlen hg) λr s' hq=>?_);obtain⟨rfl,h2,h3,h4⟩:=hq;exact⟨.inl ⟨.bool true,.bool true,[],rfl,λ_=>rfl,.bool true,AA l _,λ_=>⟨List.Pairwise.nil,λ_ hm=>(nomatch hm)⟩⟩,h2,h3,h4⟩
end Att
namespace L2
open PySem PySem.Spec PyProof.Rows
theorem rL:∀{vs:List Value}{ns:List Int},IntsAre vs ns->bD (ns.map V.int) vs
 |_,_,.nil=>.nil
 |_,_,.cons n t h=>.cons ⟨t,rfl⟩ (rL h)
def F2(H:Hp):Prop:=∀b,H b=none∨∃o xs,H b=some (.frz o (.lst xs))
def CP{K:W.Frag}{k:Nat} 
  (KX:K.In sg.heap)(hns:sg.heap.Ns mainGlobals mg)(hb:sg.heap.Ns builtinsNs mb)(hbb:∀x:Str,x≠"__name__"->mb x=bootBuiltins x)(hlim:sg.heap.NoLimit)(hsm:∃mm,sg.heap.Ns sysModules mm)(hg:sg.gens=#[])
  (ha:sg.heap.get? a=some { cls:=.type "list",data:=.seq vs.toArray })(hi:IntsAre vs ns)(hl:ns.length<=sizeLine)(hr:c5 k callerA)
  (F:∀base:Heap,K.In base->base.Ns mainGlobals mg->iy P w K mg base CX k fa fd [x] sp)(hbind:∀(s:Shared) (u:Value),BindsTo s fd ⟨[u],[]⟩ [(x,u)])
  (hsp:∀H:Hp,F2 H->eN K H a (ns.map V.int)->sp [.ref a] H (λv _=>v=.bl true) λ_ _ _=>False)
  (hCX:∀H e s',CX [] H sg (λ_ _ _=>False) e s'->False) :
  codeAny (model P w) callerA (.call (.ref fa) ⟨[.ref a],[]⟩) (λr s'=>r=.ok (.ret (.bool true))/\OldK sg.heap s'.heap/\s'.os=sg.os/\AllBare s'.gens) sg:=by
 have rv:=rL hi;have lenV:=hi.length;have core:∀H:Hp,F2 H->eN K H a (ns.map V.int)->kj P w H sg.heap->(∀b,H b≠none->b=a)->(H a≠none->K.lookup a=none) ->
   codeAny (model P w) callerA (.call (.ref fa) ⟨[.ref a],[]⟩) (λr s'=>r=.ok (.ret (.bool true))/\OldK sg.heap s'.heap/\s'.os=sg.os/\AllBare s'.gens) sg:=by
  intro H hO hS hok hA hK;have base_of:∀{b:Addr}{o:Obj},sg.heap.get? b=some o->H b=none->(uh sg.heap H).get? b=some o:=λe n=>CU e n;have noA:∀{b:Addr}{o:Obj}{es:Array DictEntry}{ep:Nat},sg.heap.get? b=some o->o.data=.dict es ep->H b=none:=λ{b o es ep} e d=>by
   cases q:H b with
   |none=>rfl
   |some u=>
    have e':b=a:=hA b (by rw[q];simp);subst e';rw[ha]at e;cases e;have d':Data.seq vs.toArray _=Data.dict es ep:=d;cases d'
  have nsK:∀{b:Addr}{m:Str->Option Value},sg.heap.Ns b m->(uh sg.heap H).Ns b m:=λ{b m} ⟨o,es,ep,e,d,r⟩=>⟨o,es,ep,base_of e (noA e d),d,r⟩
  have hKb:K.In (uh sg.heap H):=λb o e=>base_of (KX b o e) (by
   cases q:H b with
   |none=>rfl
   |some u=>
    have e':b=a:=hA b (by rw[q];simp);subst e';rw[hK (by rw[q];simp)]at e;cases e)
  have hM:Mod K mg (uh sg.heap H):=⟨hKb,nsK hns,⟨mb,nsK hb,hbb⟩,let ⟨mc,h1,h2⟩:=hlim;⟨mc,nsK h1,h2⟩,let ⟨mm,h1⟩:=hsm;⟨mm,nsK h1⟩⟩
  have e0:DX P w K mg (uh sg.heap H) callerA [] sg H:=⟨rfl,hM,λb o e=>E5 e,Nat.le_of_eq (A1 _ _),trivial,λb hb=>absurd (show b∈([]:List Addr) from hb) (by simp),hok,.of_eq hg⟩
  refine codeAny_mono ((F _ hKb (nsK hns)).run callerA [] sg H ⟨[.ref a],[]⟩ [.ref a] [.ref a] _ _ hr e0 (hbind sg (.ref a)) (.cons rfl .nil) (hsp H hO hS)) λr s' h=>?_;cases r with
  |error e=>exact(hCX H e s' h).elim
  |ok fl=>
   cases fl with
   |next|brk|cont=>exact False.elim h
   |ret u=>
    obtain⟨v,H',os,bare,un,hok',r',q⟩:=h;have q':v=.bl true:=q;subst q';obtain rfl:u=Value.bool true:=r';refine⟨rfl,OldK.of_keep λb o e=>?_,os,bare⟩;cases q:H b with
    |none=>exact un.keep b o e q (by intro z;exact absurd (show b∈([]:List Addr) from z) (by simp)) (by simp)
    |some u=>
     rcases hO b with z|⟨ob,xs,z⟩
     .rw[q]at z;cases z
     .have z2:=un.frzs b ob _ z
      obtain⟨e1,_⟩:=hok b _ z;obtain⟨e2,_⟩:=hok' b _ z2;rw[e]at e1;cases e1;exact e2
 cases hk:K.lookup a with
 |some o=>
  have e:=KX a o hk;rw[ha]at e;cases e;refine core (λ_=>none) (λ_=>.inl rfl) (.inr ⟨_,vs.toArray,_,hk,rfl,rfl,rfl,by rw[List.size_toArray,lenV];exact hl,by simpa using rv⟩) (λb u z=>by have z':(none:Option HO)=some u:=z;cases z') (λb z=>absurd rfl z) λz=>absurd rfl z
 |none=>
  refine core (λb=>if b=a then some (.frz { cls:=.type "list",data:=.seq vs.toArray } (.lst (ns.map V.int))) else none) (λb=>?_) (.inl (.inr ⟨{ cls:=.type "list",data:=.seq vs.toArray },if_pos rfl⟩)) (λb u z=>?_) (λb z=>?_) λ_=>hk
  .by_cases hb:b=a
   .exact .inr ⟨_,_,if_pos hb⟩
   .exact .inl (if_neg hb)
  .by_cases hb:b=a
   .have z':=(if_pos hb).symm.trans z
    cases z';subst hb;exact⟨ha,by rw[List.length_map];exact hl,vs,_,rv,ha⟩
   .have z':=(if_neg hb).symm.trans z
    cases z'
  .by_cases hb:b=a
   .exact hb
   .exact absurd (if_neg hb) z
abbrev KOf{K:W.Frag}{h:Heap}(_:K.In h):W.Frag:=K
def Ej{l:W.OpenLaw}{n k:Nat}{q:Program}{K:Params->W.Frag}{CX:World->Bo}{sp:World->Sp} 
  (hi:importsNone q=true)(hn:l.most=some n)(hn2:n<=sizeLine)(hdf:d.params.defaults=[])(hr:c5 k callerA)
  (hY:∀(w:World) (h:Heap),YP w h->(K w.params).In h)
  (F:∀(w:World) (mg:Str->Option Value) (fa:Addr) (h:Heap),(K w.params).In h->h.Ns mainGlobals mg->mg d.name=some (.ref fa) ->
   ∃fd:FuncData,(∀(s:Shared) (u:Value),BindsTo s fd ⟨[u],[]⟩ [(x,u)]) /\
    ∀base:Heap,(K w.params).In base->base.Ns mainGlobals mg->iy l.prog w (K w.params) mg base (CX w) k fa fd [x] (sp w))
  (hsp:∀(w:World) (H:Hp) (a:Addr) (ns:List Int),ns.length<=n->F2 H->eN (K w.params) H a (ns.map V.int)->sp w [.ref a] H (λv _=>v=.bl true) λ_ _ _=>False)
  (hCX:∀(w:World) (H:Hp) (s:Shared) (e:Value) (s':Shared),CX w [] H s (λ_ _ _=>False) e s'->False) :
  W.WalkO q loose XP YP l.row.toRowW d [] (λf vs=>PySem.call f vs):=by
 refine Att.attach_call hn hdf λw sf sg mg mb fa o pm cd doc a vs ns G Y ho hd hcd hmg hobj hints hlen hg=>?_;have KX:=hY w _ Y;obtain⟨fd,hb,hF⟩:=F w mg fa _ KX G.T.g hmg;exact CP KX G.T.g G.T.b G.T.builtins G.T.nolimit (let ⟨mm,h1,_⟩:=(G.T.seer hi).mods;⟨mm,h1⟩) hg hobj hints (Nat.le_trans hlen hn2) hr hF hb (λH hO hS=>hsp w H a ns hlen hO hS) λH e s'=>hCX w H sg e s'
def walk_ofK{l:W.OpenLaw}{n k:Nat}{q:Program}{K:Params->W.Frag}{sp:W.Frag->Sp} 
  (hi:importsNone q=true)(hn:l.most=some n)(hn2:n<=sizeLine)(hdf:d.params.defaults=[])(hr:c5 k callerA)
  (hY:∀(w:World) (h:Heap),YP w h->(K w.params).In h)
  (F:∀(w:World) (mg:Str->Option Value) (fa:Addr) (h:Heap),(K w.params).In h->h.Ns mainGlobals mg->mg d.name=some (.ref fa) ->
   ∃fd:FuncData,(∀(s:Shared) (u:Value),BindsTo s fd ⟨[u],[]⟩ [(x,u)]) /\
    ∀base:Heap,(K w.params).In base->base.Ns mainGlobals mg->iy l.prog w (K w.params) mg base CX k fa fd [x] (sp (K w.params)))
  (hsp:∀(K:W.Frag) (H:Hp) (a:Addr) (ns:List Int),ns.length<=n->F2 H->eN K H a (ns.map V.int)->sp K [.ref a] H (λv _=>v=.bl true) λ_ _ _=>False)
  (hCX:∀(H:Hp) (s:Shared) (e:Value) (s':Shared),CX [] H s (λ_ _ _=>False) e s'->False) :
  W.WalkO q loose XP YP l.row.toRowW d [] (λf vs=>PySem.call f vs) :=
 Ej (K:=K) (CX:=λ_=>CX) (sp:=λw=>sp (K w.params)) hi hn hn2 hdf hr hY F (λw H a ns h1 h2 h3=>hsp (K w.params) H a ns h1 h2 h3) λ_ H s e s'=>hCX H s e s'
def defArgs(s:Stmt):Arguments:=match s with
 |.FunctionDef _ a _ _ _ _ _ _ _ _=>a
 |_=>{ posonlyargs:=[],args:=[],vararg:=none,kwonlyargs:=[],kw_defaults:=[],kwarg:=none,defaults:=[] }
def defBody(s:Stmt):List Stmt:=match s with
 |.FunctionDef _ _ b _ _ _ _ _ _ _=>b
 |_=>[]
def defScope(s:Stmt):Scope:=match s with
 |.FunctionDef _ _ _ _ _ _ sc _ _ _=>sc
 |_=>{ kind:=.function,names:=[],isGenerator:=false,isCoroutine:=false }
abbrev CX0:Bo:=λ_ _ _ _ _ _=>False
abbrev E0:XK:=λ_ _ _=>False
def yR:fT CX0 X E0:=λ_ _ _ _ _ _ _ h=>h.elim
structure F6 (K:W.Frag) (x qual:Str) (st:Stmt) (f:Addr) (fd:FuncData):Prop where
 ex:∃(oc:Value) (od:Option Addr) (kV doc pm:Value) (an:Option Addr) (cdv ct:Value) (osl:Array (Option Value)),
  fd=W.fnOf x qual (defArgs st) (defBody st) (defScope st) .none kV doc pm an cdv ct/\K.lookup f=some ⟨oc,od,.func fd,osl⟩/\W.codeIn K cdv qual=true
 kp:W.keepIn K (.ref f)=true
section
variable {P:Program}{w:World}{K:W.Frag}{mg:Str->Option Value}{base:Heap}
def F6.ok{st:Stmt}{N ps:List Str}{k:Nat}(F:F6 K x qual st f fd)(S:gk N ps (defScope st))(len:∀vs H Q E,sp vs H Q E->vs.length=ps.length)
  (hbody:∀(cdv:Value) (A:Around) (outer:List Env) (s:Shared) (H:Hp) (vs:ad) (Q:VK) (E:XK),c5 k (A.deeper (envOfC qual (defScope st) s.heap.objs.size f cdv))->sp vs H Q E ->
   ∃t,qZ (nE CX0 P w K mg base N qual (defScope st) f cdv A outer s H E).nox (defBody st) t/\t { nx:=λ_ H'=>Q .non H',rt:=Q } (start N vs) H):iy P w K mg base CX0 (k+1) f fd ps sp:=by
 obtain⟨oc,od,kV,doc,pm,an,cdv,ct,osl,rfl,lk,hcd⟩:=F.ex;refine KA lk hcd S len λA outer s H vs Q E hr hsp=>?_;obtain⟨t,h,q⟩:=hbody cdv A outer s H vs Q E hr hsp;exact⟨t,h.nox,q⟩
def F6.binds{st:Stmt}{ps:List Str}(F:F6 K x qual st f fd)
  (h:∀(kV doc pm:Value) (an:Option Addr) (cdv ct:Value) (us:List Value),us.length=ps.length->bindArgs (W.fnOf x qual (defArgs st) (defBody st) (defScope st) .none kV doc pm an cdv ct) ⟨us,[]⟩=pure (ps.zip us)):jV K fd ps []:=by
 obtain⟨oc,od,kV,doc,pm,an,cdv,ct,osl,rfl,lk,hcd⟩:=F.ex;exact .all (h kV doc pm an cdv ct)
def CW{st:Stmt}{kV doc pm cdv ct:Value}(l:K.lookup f=some ⟨oc,od,.func (W.fnOf x qual (defArgs st) (defBody st) (defScope st) .none kV doc pm an cdv ct),osl⟩)
  (c:W.codeIn K cdv qual=true)(k:W.keepIn K (.ref f)=true):F6 K x qual st f (W.fnOf x qual (defArgs st) (defBody st) (defScope st) .none kV doc pm an cdv ct):=⟨⟨oc,od,kV,doc,pm,an,cdv,ct,osl,rfl,l,c⟩,k⟩
end
def aB(H H':Hp):Prop:=∀b o,H b=some o->H' b=some o
def aB.refl(H:Hp):aB H H:=λ_ _ h=>h
def aB.trans(a:aB H H1)(b:aB H1 H2):aB H H2:=λc o h=>b c o (a c o h)
def aB.free(e:aB H H')(h:H' l=Option.none):H l=Option.none:=by
 cases q:H l with
 |none=>rfl
 |some o=>
  rw[e l o q]at h;cases h
end L2
namespace DL
open PySem PySem.Spec PySem.Calls PySem.W PyProof.Rows Builtin Builtin.ObjectAttr Builtin.Getset_descriptor
section
variable {prog:Program}{w:World}{A:Around}{E:Value->Shared->Prop}{h:Heap}{g:Array GenState}{d:Drawn}{t:Nat}{os:OsState}{a C:Addr}{o:Obj}{K:Frag}
structure rJ (K:Frag) (C:Addr):Prop where
 cls:findIn K (.ref C) "__class__"=some (some (.builtin "object.__class__"))
 ga:findIn K (.ref C) "__getattribute__"=some (some (.builtin "BaseException.__getattribute__"))
 gt:findIn K (.ref C) "__getattr__"=some none
 ob:mroIn K C (.type "object")=some true
 be:subIn K (.ref C) (.type "BaseException")=some true
def GY(X:K.In h)(Z:rJ K C)(hx:h.get? a=some o)(hc:o.cls=.ref C)(hq:R (.ok (.ret (.ref C))) ⟨h,g,d,t,os⟩) :
  codeAny (model prog w) A (.call (.builtin "getset_descriptor.__get__") ⟨[.builtin "object.__class__",.ref a,tp],[]⟩) R ⟨h,g,d,t,os⟩:=by
 have L0:Looks (model prog w) h (typeOf (.ref a)) (.ref C):=hc▸(Looks.ld hx).andThen .now;have L1:=looks_mroIn (M:=model prog w) X Z.ob;refine codeAny_call_builtin KF.slot_gs.plain KF.entry_gs (KF.slot_gs.check _ _ _ _ _ _ _ _ KF.type_class (KF.args_gs _ _ _) ?_);unfold Builtin.«getset_descriptor.__get__» descrGet;rw[dga_obj];refine wpAny_bind (wpAny_pure ?_);unfold descrGetter descrCheckInstance descrNameAndClass isInstance;simp only[KF.owner_class]
 repeat lk
 refine⟨Code.quiet_builtin _ (by decide +kernel),codeAny_builtin KF.entry_class ?_⟩;unfold Builtin.«object.__class__» shownTypeOf
 repeat lk
 exact hq
def By(X:K.In h)(Z:rJ K C)(hx:h.get? a=some o)(hc:o.cls=.ref C)(hq:Q () ⟨h,g,d,t,os⟩):wpAny M A (checkBuiltinCall "BaseException.__getattribute__" ⟨[.ref a,nameV],[]⟩) Q E ⟨h,g,d,t,os⟩:=by
 have hk:builtinKind "BaseException.__getattribute__"=some .slot:=by decide +kernel
 have hsplit:splitId "BaseException.__getattribute__"=some ("BaseException","__getattribute__"):=by decide +kernel
 have ha:=F.args_bexc_ga (.ref a) nameV;have LS:Looks M h (isSubtype (.ref C) (.type "BaseException")) true:=looks_subIn X Z.be;simp only[checkBuiltinCall,hk,hsplit];refine wpAny_bind ?_
 .unfold isInstance
  repeat (first|(with_reducible refine wpAny_loadPart_at hx ?_;rw[hc])|(with_reducible refine LS.at ?_)|wp_step)
  exact hq
def Bx(X:K.In h)(Z:rJ K C)(hx:h.get? a=some o)(hc:o.cls=.ref C)(hq:Q (.done (.ret (.ref C))) ⟨h,g,d,t,os⟩) :
  wpAny (model prog w) A (Builtin.«object.__getattribute__» ⟨[.ref a,.str "__class__" tk],[]⟩) Q E ⟨h,g,d,t,os⟩:=by
 have hT5:(⟨h,g,d,t,os⟩:Shared).TypeIs (.builtin "object.__class__") "getset_descriptor":=F.typeOf_object_class;have f5:=F.typeOf_object_class;have f6:=F.slot_gs_get.lookup;have f7:=F.slot_gs_set.lookup;have LC:Looks (model prog w) h (typeLookup (.ref C) "__class__") (some (.builtin "object.__class__")):=looks_findIn X Z.cls
 repeat (any_goals (first|assumption|(with_reducible refine wpAny_loadPart_at hx ?_;rw[hc])|(with_reducible refine LC.at ?_)|wp_step))
 refine GY X Z hx hc ?_
 repeat (any_goals (first|assumption|wp_step))
def Ec(X:K.In h)(Z:rJ K C)(hx:h.get? a=some o)(hc:o.cls=.ref C)(hq:R (.ok (.ret (.ref C))) ⟨h,g,d,t,os⟩) :
  codeAny (model prog w) A (.call (.builtin "BaseException.__getattribute__") ⟨[.ref a,.str "__class__" tk],[]⟩) R ⟨h,g,d,t,os⟩ :=
 codeAny_call_builtin F.attr_ValueError.ga.plain F.entry_bexc_ga (By X Z hx hc (Bx X Z hx hc hq))
def Ju(X:K.In h)(Z:rJ K C)(hx:h.get? a=some o)(hc:o.cls=.ref C)(hq:Q (.ref C) ⟨h,g,d,t,os⟩) :
  wpAny (model prog w) A (getAttrBy (.ref a) (.str "__class__" tk) false) Q E ⟨h,g,d,t,os⟩:=by
 have f3:=F.attr_ValueError.ga.bind (.ref a);have hx2:(Value.builtin "BaseException.__getattribute__"==Value.builtin "object.__getattribute__")=false:=by decide +kernel
 have hx1:(onTheHeap (Value.ref C)&&Value.builtin "BaseException.__getattribute__"==Value.builtin "object.__getattribute__")=false:=by rw[hx2];rfl
 have L1:Looks (model prog w) h (typeLookup (.ref C) "__getattribute__") (some (.builtin "BaseException.__getattribute__")):=looks_findIn X Z.ga;have L2:Looks (model prog w) h (typeLookup (.ref C) "__getattr__") none:=looks_findIn X Z.gt
 repeat (any_goals (first|assumption|(with_reducible refine wpAny_loadPart_at hx ?_;rw[hc])|(with_reducible refine L1.at ?_)|(with_reducible refine L2.at ?_)|wp_step))
 refine Ec X Z hx hc ?_
 repeat (any_goals (first|assumption|wp_step))
def Ed(X:K.In h)(Z:rJ K C)(hx:h.get? a=some o)(hc:o.cls=.ref C)(hq:Q (some (.ref C)) ⟨h,g,d,t+1,os⟩):wpAny (model prog w) A (getAttr? (.ref a) "__class__") Q E ⟨h,g,d,t,os⟩:=by
 unfold getAttr? getAttrBy?
 repeat (any_goals (first|assumption|with_reducible apply Ju X Z hx hc|wp_step))
end
def Li(a C:Addr)(dc:Option Addr):Heap->Prop:=λh=>∃o vs,h.get? a=some o/\o.cls=.ref C/\o.data=.fields vs/\o.dict=dc
def vA{K:Frag}{a C:Addr}{dc:Option Addr}(Z:rJ K C)(hC:(clsIn K C).isSome=true):KitX K (.ref a) (.ref C) (Li a C dc) where
 ty:=λ_ _ _ ⟨o,_,h1,h2,_⟩=>h2▸(Looks.ld h1).andThen .now
 it:=λ_ _ X _=>by
  obtain⟨cd,hcD⟩:=Option.isSome_iff_exists.mp hC;unfold clsIn at hcD;split at hcD
  .rename_i c' d' cd' sl' ho
   intro A' Q' E' s' k q;unfold isType loadHead;exact wpAny_bind (wpAny_loadPart (k _ _ (X _ _ ho)) (wpAny_pure q))
  .cases hcD
 ne:=λh tp dd its n sl X htp=>by
  obtain⟨cd,hcD⟩:=Option.isSome_iff_exists.mp hC;refine Bool.eq_false_iff.mpr λq=>?_;have e:C=tp:=Value.ref.inj (beq_iff_eq.mp q);subst e;unfold clsIn at hcD;split at hcD
  .rename_i c' d' cd' sl' ho
   have z:=(X _ _ ho).symm.trans htp;cases z
  .cases hcD
 ca:=λ{_ _ _ _ _ s} X ⟨o,_,h1,h2,_⟩ k=>by
  obtain⟨h,g,d,t,os⟩:=s;exact Ed X Z h1 h2 k
def rJ.isCls{K:Frag}(Z:rJ K C):(clsIn K C).isSome=true:=by
 obtain⟨cd,a,b⟩:=Option.bind_eq_some_iff.mp Z.ob;rw[a];rfl
def iq:List String:=["NoneType","bool","int","str","tuple","list","dict"]
structure XC (K:Frag) (x:Str) (C:Addr):Prop where
 ns:nsIn K mainGlobals x=some (some (.ref C))
 ek:rJ K C
 bt:∀T∈iq,kitOne K (.ref C) (.type T)=some false
end DL
namespace DL
open PySem PySem.Spec PyProof.Rows L2
def Jm:Expr->Bool
 |.Starred _ _=>false
 |_=>true
def bA(h:Jm e=true):starEach (e::es) env=(false,eval e env)::starEach es env:=by
 cases e<;>first|(rw[starEach];intros;contradiction)|rw[starEach]|(cases h)
def fE(h:Jm e=true):starEach [e] env=[(false,eval e env)]:=by
 rw[bA h,starEach]
theorem cf:∀{es:List Expr},es.all Jm=true->(backTo pos (starEach es env)).any (·.1)=false
 |[],_=>by rw[starEach];rfl
 |e::es,h=>by
  rw[List.all_cons,Bool.and_eq_true]at h;rw[bA h.1];have:=cf (env:=env) (pos:=pos) h.2;show(false||(backTo pos (starEach es env)).any (·.1))=false;rw[this];rfl
def kL(h:Jm e=true):((backTo pos (starEach [e] env)).all (λx=>!x.1)&&(backToKw pos (keywordEach [] env)).all (λx=>x.1.isSome)
  &&decide ([e].length+([]:List Keyword).length+(if([]:List Keyword).isEmpty then 0 else 1)<30))=true:=by
 rw[fE h,keywordEach];rfl
inductive Kd where
 |ins (c:Str) (ks:List Str)|dint (ks:List Int)|exf (c:Str) (ks:List Str)
inductive D where
 |non|bl (b:Bool)|int (i:Int)|str (x:Str)|tup (xs:List D)|lst (xs:List D)|dic (ks:List Str) (xs:List D)|exc (x:Str)|ob (k:Kd) (xs:List D)
abbrev ac:=List D
structure L9 (K:W.Frag) (ks:List Str) (C:Addr):Prop where
 cls:Ll K C
 no:∀f∈ks,I0 K C f
 gc:W.findIn K (.ref C) "__class__"=some (some (.builtin "object.__class__"))
 gn:W.specialIn K (.builtin "object.__class__") "__get__"=some (some (.builtin "getset_descriptor.__get__"))
 tk:W.takesIn K (.builtin "object.__class__")=some true
 mo:W.mroIn K C (.type "object")=some true
 bt:∀T∈iq,W.kitOne K (.ref C) (.type T)=some false
noncomputable def wU(K:W.Frag) (H:Hp):Kd->Addr->ad->Prop
 |.ins c ks,a,vs=>∃C dx,W.nsIn K mainGlobals c=some (some (.ref C))/\L9 K ks C/\H a=some (.ins C dx (ks.zip vs))/\ks.length=vs.length
 |.dint ks,a,vs=>∃kvs,Rd H a (.dK kvs)/\kvs=(ks.map Sum.inl).zip vs/\ks.length=vs.length
 |.exf c ks,a,vs=>∃C dx fs,XC K c C/\Rd H a (.ext (Li a C (some dx)))/\H dx=some (.xd fs)/\ks.length=vs.length/\∀(i:Nat) (f:Str) (v:V),ks[i]?=some f->vs[i]?=some v->fs.lookup f=some v
structure MN where
 cls:Str
 flds:List (Str×D)
inductive aj (α:Type) where
 |ok (a:α)|exn (x:MN)|stuck
def aj.bind{α β:Type}(r:aj α)(f:α->aj β):aj β:=match r with
 |.ok a=>f a
 |.exn x=>.exn x
 |.stuck=>.stuck
mutual
def Rep(K:W.Frag)(H:Hp):D->V->Prop
 |.non,v=>v=.non
 |.bl b,v=>v=.bl b
 |.int i,v=>v=.int i
 |.str x,v=>v=.str x
 |.tup ds,v=>∃a vs,v=.ref a/\ji K H a vs/\Reps K H ds vs
 |.lst ds,v=>∃a vs,v=.ref a/\eN K H a vs/\Reps K H ds vs
 |.dic ks ds,v=>∃a kvs vs,v=.ref a/\Rd H a (.dK kvs)/\kvs=(ks.map Sum.inr).zip vs/\ks.length=vs.length/\Reps K H ds vs
 |.exc x,v=>∃a C dc,v=.ref a/\XC K x C/\Rd H a (.ext (Li a C dc))
 |.ob k ds,v=>∃a vs,v=.ref a/\wU K H k a vs/\Reps K H ds vs
def Reps(K:W.Frag)(H:Hp):ac->ad->Prop
 |[],vs=>vs=[]
 |d::ds,vs=>∃v r,vs=v::r/\Rep K H d v/\Reps K H ds r
end
def aB.rd(e:aB H H')(h:Rd H a o):Rd H' a o:=by
 rcases h with h|⟨o',h⟩
 .exact .inl (e _ _ h)
 .exact .inr ⟨o',e _ _ h⟩
def aB.sqT{K:W.Frag}(e:aB H H')(h:ji K H a xs):ji K H' a xs:=by
 rcases h with h|h
 .exact .inl (aB.rd e h)
 .exact .inr h
def aB.sqL{K:W.Frag}(e:aB H H')(h:eN K H a xs):eN K H' a xs:=by
 rcases h with h|h
 .exact .inl (aB.rd e h)
 .exact .inr h
theorem wU.mono{K:W.Frag}(e:aB H H'):∀{k:Kd}{a:Addr}{vs:ad},wU K H k a vs->wU K H' k a vs
 |.ins c ks,a,vs,⟨C,dx,h0,h1,h2,h3⟩=>⟨C,dx,h0,h1,e _ _ h2,h3⟩
 |.dint ks,a,vs,⟨kvs,h1,h2,h3⟩=>⟨kvs,aB.rd e h1,h2,h3⟩
 |.exf c ks,a,vs,⟨C,dx,fs,h1,h2,h3,h4⟩=>⟨C,dx,fs,h1,aB.rd e h2,e _ _ h3,h4⟩
mutual
theorem Rep.mono{K:W.Frag}{H H':Hp}(e:aB H H'):∀{d:D}{v:V},Rep K H d v->Rep K H' d v
 |.non,_,h=>by unfold Rep at h ⊢;exact h
 |.bl _,_,h=>by unfold Rep at h ⊢;exact h
 |.int _,_,h=>by unfold Rep at h ⊢;exact h
 |.str _,_,h=>by unfold Rep at h ⊢;exact h
 |.tup ds,_,h=>by
  unfold Rep at h ⊢;obtain⟨a,vs,e1,e2,e3⟩:=h;exact⟨a,vs,e1,aB.sqT e e2,Reps.mono e e3⟩
 |.lst ds,_,h=>by
  unfold Rep at h ⊢;obtain⟨a,vs,e1,e2,e3⟩:=h;exact⟨a,vs,e1,aB.sqL e e2,Reps.mono e e3⟩
 |.dic ks ds,_,h=>by
  unfold Rep at h ⊢;obtain⟨a,kvs,vs,e1,e2,e3,e4,e5⟩:=h;exact⟨a,kvs,vs,e1,aB.rd e e2,e3,e4,Reps.mono e e5⟩
 |.exc x,_,h=>by
  unfold Rep at h ⊢;obtain⟨a,C,dc,e1,e2,e3⟩:=h;exact⟨a,C,dc,e1,e2,aB.rd e e3⟩
 |.ob k ds,_,h=>by
  unfold Rep at h ⊢;obtain⟨a,vs,e1,e2,e3⟩:=h;exact⟨a,vs,e1,e2.mono e,Reps.mono e e3⟩
theorem Reps.mono{K:W.Frag}{H H':Hp}(e:aB H H'):∀{ds:ac}{vs:ad},Reps K H ds vs->Reps K H' ds vs
 |[],_,h=>by unfold Reps at h ⊢;exact h
 |d::ds,_,h=>by
  unfold Reps at h ⊢;obtain⟨v,r,e1,e2,e3⟩:=h;exact⟨v,r,e1,Rep.mono e e2,Reps.mono e e3⟩
end
section
variable {K:W.Frag}{H:Hp}{v:V}{vs:ad}{d:D}{ds:ac}
def aO:Rep K H .non v↔v=.non:=by unfold Rep;exact Iff.rfl
def aJ{b}:Rep K H (.bl b) v↔v=.bl b:=by unfold Rep;exact Iff.rfl
def aw{i}:Rep K H (.int i) v↔v=.int i:=by unfold Rep;exact Iff.rfl
def Rep.str_iff{x}:Rep K H (.str x) v↔v=.str x:=by unfold Rep;exact Iff.rfl
def aK:Rep K H (.tup ds) v↔∃a vs,v=.ref a/\ji K H a vs/\Reps K H ds vs:=by rw[Rep]
def aE:Rep K H (.lst ds) v↔∃a vs,v=.ref a/\eN K H a vs/\Reps K H ds vs:=by rw[Rep]
def jk{x}:Rep K H (.exc x) v↔∃a C dc,v=.ref a/\XC K x C/\Rd H a (.ext (Li a C dc)):=by rw[Rep]
def iw{k}:Rep K H (.ob k ds) v↔∃a vs,v=.ref a/\wU K H k a vs/\Reps K H ds vs:=by rw[Rep]
def Reps.nil_iff:Reps K H [] vs↔vs=[]:=by unfold Reps;exact Iff.rfl
def aC:Reps K H (d::ds) vs↔∃v r,vs=v::r/\Rep K H d v/\Reps K H ds r:=by rw[Reps]
def Reps.nil:Reps K H [] []:=Reps.nil_iff.mpr rfl
def Reps.cons(h:Rep K H d v)(h':Reps K H ds vs):Reps K H (d::ds) (v::vs):=aC.mpr ⟨_,_,rfl,h,h'⟩
end
theorem Reps.length{K:W.Frag}:∀{ds:ac}{vs:ad},Reps K H ds vs->ds.length=vs.length
 |[],_,h=>by rw[Reps.nil_iff.mp h];rfl
 |d::ds,_,h=>by
  obtain⟨v,r,rfl,_,h⟩:=aC.mp h;simp[Reps.length h]
theorem Reps.get{K:W.Frag}{H:Hp}:∀{ds:ac}{vs:ad}{i:Nat}{d:D},Reps K H ds vs->ds[i]?=some d->∃v,vs[i]?=some v/\Rep K H d v
 |[],_,_,_,h,e=>by simp at e
 |x::ds,_,0,d,h,e=>by
  obtain⟨v,r,rfl,h1,_⟩:=aC.mp h;simp at e;subst e;exact⟨v,rfl,h1⟩
 |x::ds,_,i+1,d,h,e=>by
  obtain⟨v,r,rfl,_,h2⟩:=aC.mp h;obtain⟨u,e1,e2⟩:=Reps.get (i:=i) h2 (by simpa using e);exact⟨u,by simpa using e1,e2⟩
theorem Reps.app{K:W.Frag}{H:Hp}:∀{ds es:ac}{vs us:ad},Reps K H ds vs->Reps K H es us->Reps K H (ds++es) (vs++us)
 |[],_,_,_,h,h'=>by rw[Reps.nil_iff.mp h];exact h'
 |d::ds,_,_,_,h,h'=>by
  obtain⟨v,r,rfl,h1,h2⟩:=aC.mp h;exact Reps.cons h1 (Reps.app h2 h')
theorem Reps.take{K:W.Frag}:∀{ds:ac}{vs:ad}(n:Nat),Reps K H ds vs->Reps K H (ds.take n) (vs.take n)
 |_,_,0,_=>by simp;exact Reps.nil
 |[],_,n+1,h=>by rw[Reps.nil_iff.mp h];exact Reps.nil
 |d::ds,_,n+1,h=>by
  obtain⟨v,r,rfl,h1,h2⟩:=aC.mp h;exact Reps.cons h1 (Reps.take n h2)
theorem Reps.drop{K:W.Frag}:∀{ds:ac}{vs:ad}(n:Nat),Reps K H ds vs->Reps K H (ds.drop n) (vs.drop n)
 |_,_,0,h=>by simpa using h
 |[],_,n+1,h=>by rw[Reps.nil_iff.mp h];exact Reps.nil
 |d::ds,_,n+1,h=>by
  obtain⟨v,r,rfl,h1,h2⟩:=aC.mp h;exact Reps.drop n h2
theorem Reps.set{K:W.Frag}(h:Rep K H d v):∀{ds:ac}{vs:ad}(n:Nat),Reps K H ds vs->Reps K H (ds.set n d) (vs.set n v)
 |[],_,n,h'=>by rw[Reps.nil_iff.mp h'];exact Reps.nil
 |x::ds,_,0,h'=>by
  obtain⟨v,r,rfl,h1,h2⟩:=aC.mp h';exact Reps.cons h h2
 |x::ds,_,n+1,h'=>by
  obtain⟨v,r,rfl,h1,h2⟩:=aC.mp h';exact Reps.cons h1 (Reps.set h n h2)
theorem Reps.ints{K:W.Frag}:∀(ns:List Int),Reps K H (ns.map D.int) (ns.map V.int)
 |[]=>Reps.nil
 |n::r=>Reps.cons (aw.mpr rfl) (Reps.ints r)
structure bc (H Ha H' Ha':Hp):Prop where
 s:aB H H'
 z:aB Ha Ha'
 sub:aB Ha' H'
 nw:∀a,Ha' a≠none->Ha a=none->H a=none
def bc.refl(h:aB Ha H):bc H Ha H Ha:=⟨aB.refl _,aB.refl _,h,λa h1 h2=>absurd h2 h1⟩
theorem bc.trans(a:bc H Ha H1 H01)(b:bc H1 H01 H2 H02):bc H Ha H2 H02 :=
 ⟨a.s.trans b.s,a.z.trans b.z,b.sub,λx h1 h2=>by
  cases q:H01 x with
  |none=>exact a.s.free (b.nw x h1 q)
  |some o=>exact a.nw x (by rw[q];simp) h2⟩
def bu(hs:aB Ha H)(hp:H p=none):bc H Ha (upd H p o) (upd Ha p o) :=
 ⟨same_new hp o,same_new (hs.free hp) o,λb u e=>by
  by_cases hb:b=p
  .subst hb;rw[aI]at e ⊢;exact e
  .rw[az hb]at e ⊢;exact hs _ _ e,λa h1 h2=>by
  by_cases hb:a=p
  .subst hb;exact hp
  .rw[az hb]at h1;exact absurd h2 h1⟩
where
 same_new {H:Hp}{p:Addr}(h:H p=none) (o:HO):aB H (upd H p o):=λb u q=>by rw[az (bq q h)];exact q
inductive Sl where
 |no|sh (d:D)|ow (d:D)|ox (j:Nat) (ds:ac)|pt (a:Addr)
abbrev Ev:=List Sl
abbrev al:=Ev->aj D
def Reads(K:W.Frag)(Ha:Hp)(σ:L2.St)(ρ:Ev):Prop:=∀(i:Nat) (d:D),ρ[i]?=some (.sh d)->∃v,σ[i]?=some (some v)/\Rep K Ha d v
def Reads.mono{K:W.Frag}(e:aB H H')(r:Reads K H σ ρ):Reads K H' σ ρ:=λi d h=>
 let ⟨v,h1,h2⟩:=r i d h
 ⟨v,h1,h2.mono e⟩
def Ag(K:W.Frag)(H:Hp)(x:MN)(C:Value)(ox:Option Addr):Prop :=
 (∃c,C=.ref c/\XC K x.cls c)/\match ox with
  |none=>x.flds=[]
  |some a=>∃fs,H a=some (.xd fs)/\∀n d,x.flds.lookup n=some d->∃v,fs.lookup n=some v/\Rep K H d v
def post(K:W.Frag)(E:XK)(H Ha:Hp)(r:aj D)(Q:VK):Prop:=match r with
 |.ok d=>∀v H' Ha',bc H Ha H' Ha'->Rep K Ha' d v->Q v H'
 |.exn x=>∀C ox H' Ha',bc H Ha H' Ha'->Ag K Ha' x C ox->E C ox H'
 |.stuck=>False
def u4(K:W.Frag)(E:XK)(H Ha:Hp)(r:aj (ac))(Q:ad->Hp->Prop):Prop:=match r with
 |.ok ds=>∀vs H' Ha',bc H Ha H' Ha'->Reps K Ha' ds vs->Q vs H'
 |.exn x=>∀C ox H' Ha',bc H Ha H' Ha'->Ag K Ha' x C ox->E C ox H'
 |.stuck=>False
def oG(K:W.Frag)(E:XK)(H Ha:Hp)(r:aj D)(Q:Bool->Hp->Prop):Prop:=match r with
 |.ok (.bl b)=>∀H' Ha',bc H Ha H' Ha'->Q b H'
 |.ok _=>False
 |.exn x=>∀C ox H' Ha',bc H Ha H' Ha'->Ag K Ha' x C ox->E C ox H'
 |.stuck=>False
section
variable {K:W.Frag}{E:XK}{H Ha H1 H01:Hp}
def post.grow(h:post K E H Ha r Q)(g:bc H Ha H1 H01):post K E H1 H01 r Q:=by
 cases r with|ok d=>exact λv H' Ha' g'=>h v H' Ha' (g.trans g')|exn x=>exact λC ox H' Ha' g'=>h C ox H' Ha' (g.trans g')|stuck=>exact h
def u4.grow(h:u4 K E H Ha r Q)(g:bc H Ha H1 H01):u4 K E H1 H01 r Q:=by
 cases r with|ok d=>exact λv H' Ha' g'=>h v H' Ha' (g.trans g')|exn x=>exact λC ox H' Ha' g'=>h C ox H' Ha' (g.trans g')|stuck=>exact h
def oG.grow(h:oG K E H Ha r Q)(g:bc H Ha H1 H01):oG K E H1 H01 r Q:=by
 cases r with
 |ok d=>
  cases d with|bl b=>exact λH' Ha' g'=>h H' Ha' (g.trans g')| _=>exact h
 |exn x=>exact λC ox H' Ha' g'=>h C ox H' Ha' (g.trans g')
 |stuck=>exact h
end
def tD(K:W.Frag)(E:XK)(f:al):TE:=λσ H Q=>∃Ha ρ,aB Ha H/\Reads K Ha σ ρ/\post K E H Ha (f ρ) Q
def Mn(K:W.Frag)(E:XK)(f:Ev->aj (ac)):TA:=λσ H Q=>∃Ha ρ,aB Ha H/\Reads K Ha σ ρ/\u4 K E H Ha (f ρ) Q
def Jl(K:W.Frag)(E:XK)(f:al):TT:=λσ H Q=>∃Ha ρ,aB Ha H/\Reads K Ha σ ρ/\oG K E H Ha (f ρ) Q
structure DE (X:Cx) (E:XK) (e:Expr) (f:al):Prop where
 o:PE X e (tD X.K E f)
structure DA (X:Cx) (E:XK) (es:List Expr) (f:Ev->aj (ac)):Prop where
 o:PA X es (Mn X.K E f)
structure DT (X:Cx) (E:XK) (e:Expr) (f:al):Prop where
 o:PT X e (Jl X.K E f)
structure DW (X:Cx) (E:XK) (e:Expr) (f:al):Prop where
 o:PW X e (Jl X.K E f)
section
variable {X:Cx}{E:XK}{e a b:Expr}{es:List Expr}{f g:al}{fa:Ev->aj (ac)}{pos:Pos}
def aX(h:PE X e t)(w:∀σ H Q,t' σ H Q->t σ H Q):PE X e t':=λpins s σ H Q I q=>h pins s σ H Q I (w σ H Q q)
def nK(h:PA X es t)(w:∀σ H Q,t' σ H Q->t σ H Q):PA X es t':=λpos pins s σ H Q I q=>h pos pins s σ H Q I (w σ H Q q)
def gX(h:PT X e t)(w:∀σ H Q,t' σ H Q->t σ H Q):PT X e t':=λpins s σ H Q I q=>h pins s σ H Q I (w σ H Q q)
def tR(h:PW X e t)(w:∀σ H Q,t' σ H Q->t σ H Q):PW X e t':=λwh pins s σ H Q I q=>h wh pins s σ H Q I (w σ H Q q)
def ae(i:Nat):al:=λρ=>match ρ[i]? with
 |some (.sh d)=>.ok d
 |_=>.stuck
def dC(d:D):al:=λ_=>.ok d
def ID(hN:X.N[i]?=some x)(hv:Bm X.env.scope x)(hd:(x==("__debug__":Str))=false:=by decide)(hcd:(x==("__classdict__":Str))=false:=by decide):DE X E (.Name x pos) (ae i):=by
 refine⟨?_⟩;refine aX (gZ hN hv hd hcd) λσ H Q ⟨Ha,ρ,hs,hr,q⟩=>?_;unfold ae at q;cases e:ρ[i]? with
 |none=>rw[e]at q;exact q.elim
 |some s=>
  rw[e]at q;cases s with
  |sh d=>
   obtain⟨v,e1,e2⟩:=hr i d e;exact⟨v,e1,q v H Ha (bc.refl hs) e2⟩
  |no|ow d|ox j ds|pt a=>exact q.elim
def ak{i j}:DE X E (.Constant (.int i) j pos) (dC (.int i)):=⟨aX tX λσ H Q ⟨Ha,ρ,hs,hr,q⟩=>q _ H Ha (bc.refl hs) (aw.mpr rfl)⟩
def dY{i j}:DE X E (.Constant (.bool i) j pos) (dC (.bl i)):=⟨aX J5 λσ H Q ⟨Ha,ρ,hs,hr,q⟩=>q _ H Ha (bc.refl hs) (aJ.mpr rfl)⟩
def bU{j}:DE X E (.Constant .none j pos) (dC .non):=⟨aX Co λσ H Q ⟨Ha,ρ,hs,hr,q⟩=>q _ H Ha (bc.refl hs) (aO.mpr rfl)⟩
def fN{x j}:DE X E (.Constant (.str x) j pos) (dC (.str x)):=⟨aX HQ λσ H Q ⟨Ha,ρ,hs,hr,q⟩=>q _ H Ha (bc.refl hs) (Rep.str_iff.mpr rfl)⟩
def FI(hg:Gl X x)(hm:X.mg x=some u)(r:bo v u)(hr:∀H,Rep X.K H d v)(hd:(x==("__debug__":Str))=false:=by decide):DE X E (.Name x pos) (dC d) :=
 ⟨aX (EV hg hm r hd) λσ H Q ⟨Ha,ρ,hs,hr',q⟩=>q _ H Ha (bc.refl hs) (hr Ha)⟩
def aa(f g:al)(op:D->D->aj D):al:=λρ=>(f ρ).bind λx=>(g ρ).bind λy=>op x y
def b7(f:al)(op:D->aj D):al:=λρ=>(f ρ).bind op
def q9(K:W.Frag)(E:XK)(r:R2)(op:D->D->aj D):Prop:=∀(x y:D) (v u:V) (H Ha:Hp) (Q:VK),aB Ha H->Rep K Ha x v->Rep K Ha y u->post K E H Ha (op x y) Q->r v u H Q
def gw(ho:q9 X.K E r op)(σ:L2.St)(H:Hp)(Q:VK)(h:tD X.K E (aa f g op) σ H Q):Jk r (tD X.K E f) (tD X.K E g) σ H Q:=by
 obtain⟨Ha,ρ,hs,hr,q⟩:=h;refine⟨Ha,ρ,hs,hr,?_⟩;unfold aa at q;cases e1:f ρ with
 |stuck|exn x=>rw[e1]at q;exact q
 |ok x=>
  rw[e1]at q;intro v H1 H01 g1 r1;refine⟨H01,ρ,g1.sub,hr.mono g1.z,?_⟩;replace q:post X.K E H Ha ((g ρ).bind λy=>op x y) Q:=q;replace q:=q.grow g1;cases e2:g ρ with
  |stuck|exn x=>rw[e2]at q;exact q
  |ok y=>
   rw[e2]at q;intro u H2 H02 g2 r2;exact ho x y v u H2 H02 Q g2.sub (r1.mono g2.z) r2 (post.grow (r:=op x y) q g2)
def sP(h:ez X (binaryOp op) r)(ho:q9 X.K E r o)(ha:DE X E a f)(hb:DE X E b g):DE X E (.BinOp a op b pos) (aa f g o) :=
 ⟨aX (Gk h ha.o hb.o) (gw ho)⟩
def cG(h:ez X (compareOp op) r)(ho:q9 X.K E r o)(ha:DE X E a f)(hb:DE X E b g)(hm:behindInMarks op b=false):DE X E (.Compare a [op] [b] pos) (aa f g o) :=
 ⟨aX (yP h ha.o hb.o hm) (gw ho)⟩
def KQ(h:DV X r)(ho:q9 X.K E r o)(ha:DE X E a f)(hb:DE X E b g)(hs:ix b):DE X E (.Subscript a b pos) (aa f g o) :=
 ⟨aX (yO h ha.o hb.o hs) (gw ho)⟩
def Nb(K:W.Frag)(E:XK)(r:V->Hp->VK->Prop)(op:D->aj D):Prop:=∀(x:D) (v:V) (H Ha:Hp) (Q:VK),aB Ha H->Rep K Ha x v->post K E H Ha (op x) Q->r v H Q
def KO(h:Lf X (unaryOp op) r)(ho:Nb X.K E r o)(ha:DE X E a f):DE X E (.UnaryOp op a pos) (b7 f o):=by
 refine⟨?_⟩;refine aX (J3 h ha.o) λσ H Q z9=>?_;obtain⟨Ha,ρ,hs,hr,q⟩:=z9;refine⟨Ha,ρ,hs,hr,?_⟩
 unfold b7 at q;cases e1:f ρ with
 |stuck|exn x=>rw[e1]at q;exact q
 |ok x=>
  rw[e1]at q;intro v H1 H01 g1 r1;exact ho x v H1 H01 Q g1.sub r1 (post.grow (r:=o x) q g1)
def aF:Ev->aj (ac):=λ_=>.ok []
def ai(f:al)(fa:Ev->aj (ac)):Ev->aj (ac):=λρ=>(f ρ).bind λx=>(fa ρ).bind λxs=>.ok (x::xs)
def aA:DA X E [] aF:=⟨nK gr λσ H Q ⟨Ha,ρ,hs,hr,q⟩=>q [] H Ha (bc.refl hs) Reps.nil⟩
def af(ha:DE X E e f)(hr:DA X E es fa)(hs:starEach (e::es) X.env=(false,eval e X.env)::starEach es X.env:=by exact bA rfl):DA X E (e::es) (ai f fa):=by
 refine⟨?_⟩;refine nK (dM ha.o hr.o hs) λσ H Q z9=>?_;obtain⟨Ha,ρ,hs,hr,q⟩:=z9;refine⟨Ha,ρ,hs,hr,?_⟩
 unfold ai at q;cases e1:f ρ with
 |stuck|exn x=>rw[e1]at q;exact q
 |ok x=>
  rw[e1]at q;intro v H1 H01 g1 r1;refine⟨H01,ρ,g1.sub,hr.mono g1.z,?_⟩;replace q:u4 X.K E H Ha ((fa ρ).bind λxs=>.ok (x::xs)) Q:=q;replace q:=q.grow g1;cases e2:fa ρ with
  |stuck|exn x=>rw[e2]at q;exact q
  |ok xs=>
   rw[e2]at q;intro us H2 H02 g2 r2;exact q (v::us) H2 H02 g2 (Reps.cons (r1.mono g2.z) r2)
def line:Nat:=1000000
def c3(h:n<=line):n<=sizeLine:=Nat.le_trans h (by decide)
def au(fa:Ev->aj (ac))(m:ac->aj D):al:=λρ=>(fa ρ).bind m
def eQ:ac->aj D:=λds=>if ds.length<=line then .ok (.tup ds) else .stuck
def eR:ac->aj D:=λds=>if ds.length<=line then .ok (.lst ds) else .stuck
def jG{r:ad->Hp->VK->Prop}(ho:∀(ds:ac) (vs:ad) (H Ha:Hp) (Q:VK),aB Ha H->Reps X.K Ha ds vs->post X.K E H Ha (m ds) Q->r vs H Q)
  (σ:L2.St)(H:Hp)(Q:VK)(h:tD X.K E (au fa m) σ H Q):Mn X.K E fa σ H λvs H1=>r vs H1 Q:=by
 obtain⟨Ha,ρ,hs,hr,q⟩:=h;refine⟨Ha,ρ,hs,hr,?_⟩;unfold au at q;cases e1:fa ρ with
 |stuck|exn x=>rw[e1]at q;exact q
 |ok x=>
  rw[e1]at q;intro v H1 H01 g1 r1;exact ho x v H1 H01 Q g1.sub r1 (post.grow (r:=m x) q g1)
def cW{x1}(h:DA X E es fa):DE X E (.Tuple es x1 pos) (au fa eQ):=by
 refine⟨?_⟩;refine aX (HP h.o) (jG (r:=λxs H1 Q=>xs.length<=sizeLine/\∀p,H1 p=none->Q (.ref p) (upd H1 p (.tup xs))) λds vs H Ha Q hs hr q=>?_);unfold eQ at q
 by_cases hl:ds.length<=line
 .rw[if_pos hl]at q
  refine⟨by rw[←hr.length];exact c3 hl,λp hp=>q _ _ _ (bu hs hp) (aK.mpr ⟨p,vs,rfl,ji.of aI,hr.mono (bu hs hp).z⟩)⟩
 .rw[if_neg hl]at q;exact q.elim
def fO(h:DA X E es fa):DE X E (.List es pos) (au fa eR):=by
 refine⟨?_⟩;refine aX (Cp h.o) (jG (r:=λxs H1 Q=>xs.length<=sizeLine/\∀p,H1 p=none->Q (.ref p) (upd H1 p (.lst xs))) λds vs H Ha Q hs hr q=>?_);unfold eR at q
 by_cases hl:ds.length<=line
 .rw[if_pos hl]at q
  refine⟨by rw[←hr.length];exact c3 hl,λp hp=>q _ _ _ (bu hs hp) (aE.mpr ⟨p,vs,rfl,eN.of aI,hr.mono (bu hs hp).z⟩)⟩
 .rw[if_neg hl]at q;exact q.elim
def spD(K:W.Frag)(n:Nat)(m:ac->aj D):Sp:=λvs H Q E=>vs.length=n/\∃Ha ds,aB Ha H/\Reps K Ha ds vs/\post K E H Ha (m ds) Q
def FJ{k n:Nat}{ps:List Str}(F:iy X.prog X.w X.K X.mg X.base CX k fn fd ps (spD X.K n m))(hr:c5 k X.A)(hg:Gl X x)(hm:X.mg x=some (.ref fn))
  (hk:W.keepIn X.K (.ref fn)=true)(hb:jV X.K fd ps [])(hx:fT CX X E)(ha:DA X E (e::es) fa)(hn:(e::es).length=n:=by rfl)(hl:∀ρ ds,fa ρ=.ok ds->ds.length=(e::es).length)
  (hdb:(x==("__debug__":Str))=false:=by decide)(he:starEach (e::es) X.env=(false,eval e X.env)::starEach es X.env:=by exact bA rfl)(hpl:(backTo pos (starEach es X.env)).any (·.1)=false:=by exact cf rfl) :
  DE X E (.Call (.Name x p) (e::es) [] pos) (au fa m):=by
 refine⟨?_⟩;refine aX (nJ F hr hg hm hk hb .nil hx ha.o hdb he hpl) λσ H Q h=>?_;obtain⟨Ha,ρ,hs,hr,q⟩:=h;refine⟨Ha,ρ,hs,hr,?_⟩;unfold au at q;cases e1:fa ρ with
 |stuck|exn x=>rw[e1]at q;exact q
 |ok ds=>
  rw[e1]at q;intro v H1 H01 g1 r1;refine⟨?_,H01,ds,g1.sub,by simpa using r1,post.grow (r:=m ds) q g1⟩;have:=r1.length;have:=hl ρ ds e1;simp only[List.append_nil];omega
def DU(h:aF ρ=.ok ds):ds.length=0:=by cases h;rfl
def jH(hr:∀es,fa ρ=.ok es->es.length=n)(h:ai f fa ρ=.ok ds):ds.length=n+1:=by
 unfold ai at h;cases e1:f ρ with
 |stuck|exn x=>rw[e1]at h;cases h
 |ok x=>
  rw[e1]at h;replace h:((fa ρ).bind λxs=>aj.ok (x::xs))=.ok ds:=h;cases e2:fa ρ with
  |stuck|exn x=>rw[e2]at h;cases h
  |ok xs=>
   rw[e2]at h;cases h;simp[hr xs e2]
def iF(X:Cx)(E:XK)(r:ad->Hp->VK->Prop)(m:ac->aj D):Prop:=∀(ds:ac) (vs:ad) (H Ha:Hp) (Q:VK),aB Ha H->Reps X.K Ha ds vs->post X.K E H Ha (m ds) Q->r vs H Q
def ba{id:String}(hc:iE X (.builtin id) r)(hd:iF X E r m)(hg:Gl X x)(hm:X.mg x=none)(hv:bootBuiltins x=some (.builtin id))(ha:DA X E (e::es) fa)(hn:x≠"__name__":=by decide)(hdb:(x==("__debug__":Str))=false:=by decide)
  (he:starEach (e::es) X.env=(false,eval e X.env)::starEach es X.env:=by exact bA rfl)(hpl:(backTo pos (starEach es X.env)).any (·.1)=false:=by exact cf rfl):DE X E (.Call (.Name x p) (e::es) [] pos) (au fa m) :=
 ⟨aX (u7 hc hg hm hv ha.o hn hdb he hpl) (jG hd)⟩
def Dm(h:PT X e (tB (tD X.K E f))):DT X E e f:=by
 refine⟨?_⟩;refine gX h λσ H Q z9=>?_;obtain⟨Ha,ρ,hs,hr,q⟩:=z9;refine⟨Ha,ρ,hs,hr,?_⟩
 cases e1:f ρ with
 |stuck|exn x=>rw[e1]at q;exact q
 |ok d=>
  rw[e1]at q;intro v H1 H01 g1 r1;cases d with|bl b=>rw[aJ.mp r1];exact⟨b,rfl,q H1 H01 g1⟩| _=>exact q.elim
def bC(h:DE X E e f)(he:∀whole,isTrue e X.env whole=(do let v ←whole;standAt e.pos;holding [v] (truthy v)):=by intro _;rfl):DT X E e f:=Dm (HG h.o he)
def aU(h:ez X (compareOp op) r)(ho:q9 X.K E r o)(ha:DE X E a f)(hb:DE X E b g)(hm:behindInMarks op b=false):DT X E (.Compare a [op] [b] pos) (aa f g o):=by
 refine⟨?_⟩;refine gX (yH h ha.o hb.o hm) λσ H Q h=>?_;have w:tD X.K E (aa f g o) σ H λx H'=>∃k,x=.bl k/\Q k H':=by
  obtain⟨Ha,ρ,hs,hr,q⟩:=h;refine⟨Ha,ρ,hs,hr,?_⟩;cases e1:aa f g o ρ with
  |stuck|exn x=>rw[e1]at q;exact q
  |ok d=>
   rw[e1]at q;intro v H1 H01 g1 r1;cases d with|bl b=>rw[aJ.mp r1];exact⟨b,rfl,q H1 H01 g1⟩| _=>exact q.elim
 exact gw ho σ H _ w
def cb(f:al):al:=b7 f λx=>match x with
 |.bl b=>.ok (.bl (!b))
 |_=>.stuck
def eg(f g:al):al:=λρ=>(f ρ).bind λx=>match x with
 |.bl true=>g ρ
 |.bl false=>.ok (.bl false)
 |_=>.stuck
def gh(f g:al):al:=λρ=>(f ρ).bind λx=>match x with
 |.bl true=>.ok (.bl true)
 |.bl false=>g ρ
 |_=>.stuck
def bL(ha:DT X E a f):DT X E (.UnaryOp .Not a pos) (cb f):=by
 refine⟨?_⟩;refine gX (HH ha.o) λσ H Q z9=>?_;obtain⟨Ha,ρ,hs,hr,q⟩:=z9;refine⟨Ha,ρ,hs,hr,?_⟩
 unfold cb b7 at q;cases e1:f ρ with
 |stuck|exn x=>rw[e1]at q;exact q
 |ok d=>
  rw[e1]at q;cases d with|bl b=>exact q| _=>exact q.elim
def Dy(ha:DE X E a f):DE X E (.UnaryOp .Not a pos) (cb f):=by
 refine⟨?_⟩;refine aX (HS ha.o) λσ H Q z9=>?_;obtain⟨Ha,ρ,hs,hr,q⟩:=z9;refine⟨Ha,ρ,hs,hr,?_⟩
 unfold cb b7 at q;cases e1:f ρ with
 |stuck|exn x=>rw[e1]at q;exact q
 |ok d=>
  rw[e1]at q;intro v H1 H01 g1 r1;cases d with|bl b=>rw[aJ.mp r1];exact⟨b,rfl,q (.bl !b) H1 H01 g1 (aJ.mpr rfl)⟩| _=>exact q.elim
variable {rest:List Expr}
def fM(ha:DT X E a f):DW X E (.BoolOp .And [a] pos) f:=⟨yG ha.o⟩
def aY(ha:DT X E a f):DW X E (.BoolOp .Or [a] pos) f:=⟨HF ha.o⟩
def mE(ha:DT X E a f)(hb:DW X E (.BoolOp .And (b::rest) pos) g):DW X E (.BoolOp .And (a::b::rest) pos) (eg f g):=by
 refine⟨?_⟩;refine tR (B7 ha.o hb.o) λσ H Q z9=>?_;obtain⟨Ha,ρ,hs,hr,q⟩:=z9;refine⟨Ha,ρ,hs,hr,?_⟩
 unfold eg at q;cases e1:f ρ with
 |stuck|exn x=>rw[e1]at q;exact q
 |ok d=>
  rw[e1]at q;cases d with
  |bl b=>
   cases b with|true=>exact λH1 H01 g1=>⟨H01,ρ,g1.sub,hr.mono g1.z,oG.grow (r:=g ρ) q g1⟩|false=>exact λH1 H01 g1=>q H1 H01 g1
  |_=>exact q.elim
def cu(ha:DT X E a f)(hb:DW X E (.BoolOp .Or (b::rest) pos) g):DW X E (.BoolOp .Or (a::b::rest) pos) (gh f g):=by
 refine⟨?_⟩;refine tR (JX ha.o hb.o) λσ H Q z9=>?_;obtain⟨Ha,ρ,hs,hr,q⟩:=z9;refine⟨Ha,ρ,hs,hr,?_⟩
 unfold gh at q;cases e1:f ρ with
 |stuck|exn x=>rw[e1]at q;exact q
 |ok d=>
  rw[e1]at q;cases d with
  |bl b=>
   cases b with|false=>exact λH1 H01 g1=>⟨H01,ρ,g1.sub,hr.mono g1.z,oG.grow (r:=g ρ) q g1⟩|true=>exact λH1 H01 g1=>q H1 H01 g1
  |_=>exact q.elim
def DW.dt(h:DW X E e f):DT X E e f:=⟨PW.pt h.o⟩
def ff{op}(h:DE X E a f):DE X E (.BoolOp op [a] pos) f:=⟨HR h.o⟩
def eI(ha:DE X E a f)(hb:DE X E (.BoolOp .And (b::rest) pos) g):DE X E (.BoolOp .And (a::b::rest) pos) (eg f g):=by
 refine⟨?_⟩;refine aX (HU ha.o hb.o) λσ H Q z9=>?_;obtain⟨Ha,ρ,hs,hr,q⟩:=z9;refine⟨Ha,ρ,hs,hr,?_⟩
 unfold eg at q;cases e1:f ρ with
 |stuck|exn x=>rw[e1]at q;exact q
 |ok d=>
  rw[e1]at q;intro v H1 H01 g1 r1;cases d with
  |bl b=>
   rw[aJ.mp r1];cases b with|true=>exact⟨true,rfl,H01,ρ,g1.sub,hr.mono g1.z,post.grow (r:=g ρ) q g1⟩|false=>exact⟨false,rfl,q (.bl false) H1 H01 g1 (aJ.mpr rfl)⟩
  |_=>exact q.elim
def KP(ha:DE X E a f)(hb:DE X E (.BoolOp .Or (b::rest) pos) g):DE X E (.BoolOp .Or (a::b::rest) pos) (gh f g):=by
 refine⟨?_⟩;refine aX (J4 ha.o hb.o) λσ H Q z9=>?_;obtain⟨Ha,ρ,hs,hr,q⟩:=z9;refine⟨Ha,ρ,hs,hr,?_⟩
 unfold gh at q;cases e1:f ρ with
 |stuck|exn x=>rw[e1]at q;exact q
 |ok d=>
  rw[e1]at q;intro v H1 H01 g1 r1;cases d with
  |bl b=>
   rw[aJ.mp r1];cases b with|false=>exact⟨false,rfl,H01,ρ,g1.sub,hr.mono g1.z,post.grow (r:=g ρ) q g1⟩|true=>exact⟨true,rfl,q (.bl true) H1 H01 g1 (aJ.mpr rfl)⟩
  |_=>exact q.elim
def IF(c f g:al):al:=λρ=>(c ρ).bind λx=>match x with
 |.bl true=>f ρ
 |.bl false=>g ρ
 |_=>.stuck
def wB(hc:DT X E c fc)(ha:DE X E a f)(hb:DE X E b g):DE X E (.IfExp c a b pos) (IF fc f g):=by
 refine⟨?_⟩;refine aX (Cq hc.o ha.o hb.o) λσ H Q z9=>?_;obtain⟨Ha,ρ,hs,hr,q⟩:=z9;refine⟨Ha,ρ,hs,hr,?_⟩
 unfold IF at q;cases e1:fc ρ with
 |stuck|exn x=>rw[e1]at q;exact q
 |ok d=>
  rw[e1]at q;cases d with
  |bl b=>
   cases b with|true=>exact λH1 H01 g1=>⟨H01,ρ,g1.sub,hr.mono g1.z,post.grow (r:=f ρ) q g1⟩|false=>exact λH1 H01 g1=>⟨H01,ρ,g1.sub,hr.mono g1.z,post.grow (r:=g ρ) q g1⟩
  |_=>exact q.elim
end
def F1(K:W.Frag)(Ha H:Hp)(a:Addr)(d:D):Prop:=match d with
 |.lst ds=>∃vs,H a=some (.lst vs)/\Reps K Ha ds vs
 |.dic ks ds=>∃vs,H a=some (.dK ((ks.map Sum.inr).zip vs))/\ks.length=vs.length/\Reps K Ha ds vs
 |_=>False
def rm(j k:Nat):Bool:=if j=99 then decide (k<=1) else k==j
noncomputable def KZ(K:W.Frag) (He Ha H:Hp) (a:Addr) (j:Nat) (ds:ac) (P:Nat->Addr):Prop:=∃vs,He a=none/\H a=some (.tup vs)/\ds.length=vs.length /\
 (∀k,rm j k=true->∃es us,He (P k)=none/\Ha (P k)=none/\ds[k]?=some (.lst es)/\vs[k]?=some (.ref (P k))/\H (P k)=some (.lst us)/\Reps K Ha es us) /\
 (∀k l,rm j k=true->rm j l=true->P k=P l->k=l)/\∀k d v,rm j k=false->ds[k]?=some d->vs[k]?=some v->Rep K Ha d v
noncomputable def OX(K:W.Frag) (He Ha:Hp) (σ:L2.St) (H:Hp) (ρ:Ev):Prop:=(∀(i j:Nat) (ds:ac),ρ[i]?=some (.ox j ds)->∃a P,σ[i]?=some (some (.ref a))/\KZ K He Ha H a j ds P/\(∀(k:Nat) (d:D) (l:Nat),rm j l=true->ρ[k]?=some (.ow d)->σ[k]?≠some (some (.ref (P l))))/\∀(k j':Nat) (ds':ac),ρ[k]?=some (.ox j' ds')->k=i)/\∀(i:Nat) (a:Addr),ρ[i]?=some (.pt a)->σ[i]?=some (some (.ref a))
def OX.upd{K:W.Frag}(h:OX K He Ha σ H ρ)
  (hk:∀(j:Nat) (s:Sl),ρ'[j]?=some s->(ρ[j]?=some s/\σ'[j]?=σ[j]?)∨(∃d,s=.sh d)∨s=.no∨∃d q,s=.ow d/\σ'[j]?=some (some (.ref q))/\∀(i j:Nat) (ds:ac) (a:Addr) (P:Nat->Addr),ρ[i]?=some (.ox j ds)->σ[i]?=some (some (.ref a))->KZ K He Ha H a j ds P->∀l,rm j l=true->q≠P l)
  (hz:aB Ha Ha')(ht:∀a vs,He a=none->H a=some (.tup vs)->H' a=some (.tup vs))
  (hl:∀p us,He p=none->Ha p=none->H p=some (.lst us)->(∀(k:Nat) (d:D),ρ[k]?=some (.ow d)->σ[k]?≠some (some (.ref p)))->H' p=some (.lst us)/\Ha' p=none):OX K He Ha' σ' H' ρ':=by
 refine⟨λi j ds e=>?_,λi a e=>?_⟩
 rotate_left
 .rcases hk i _ e with h1|⟨d,h1⟩|h1|⟨d,q,h1,_⟩
  .rw[h1.2];exact h.2 i a h1.1
  .cases h1
  .cases h1
  .cases h1
 have old:ρ[i]?=some (.ox j ds)/\σ'[i]?=σ[i]?:=by
  rcases hk i _ e with h1|⟨d,h1⟩|h1|⟨d,q,h1,_⟩
  .exact h1
  .cases h1
  .cases h1
  .cases h1
 obtain⟨a,P,h1,h2,h3,h4⟩:=h.1 i j ds old.1;have h2':=h2;obtain⟨vs,r1,r2,r3,r4,r5,r6⟩:=h2;refine⟨a,P,old.2.trans h1,⟨vs,r1,ht a vs r1 r2,r3,λk ok=>?_,r5,λk d v hk e1 e2=>(r6 k d v hk e1 e2).mono hz⟩,λk d l ok ek z=>?_,λk j' ds' ek=>?_⟩
 .obtain⟨es,us,q1,q2,q3,q4,q5,q6⟩:=r4 k ok
  obtain⟨l1,l2⟩:=hl (P k) us q1 q2 q5 λm d em=>h3 m d k ok em;exact⟨es,us,q1,l2,q3,q4,l1,q6.mono hz⟩
 .rcases hk k _ ek with h1'|⟨d',h1'⟩|h1'|⟨d',q,h1',h2'',h3'⟩
  .exact h3 k d l ok h1'.1 (by rw[←h1'.2];exact z)
  .cases h1'
  .cases h1'
  .rw[h2'']at z
   cases z;exact h3' i j ds a P old.1 h1 h2' l ok rfl
 .rcases hk k _ ek with h1'|⟨d',h1'⟩|h1'|⟨d',q,h1',_⟩
  .exact h4 k j' ds' h1'.1
  .cases h1'
  .cases h1'
  .cases h1'
def OX.none{K:W.Frag}(h:∀(i j:Nat) (ds:ac),ρ[i]?≠some (.ox j ds))(h':∀(i:Nat) (a:Addr),ρ[i]?=some (.pt a)->σ[i]?=some (some (.ref a))):OX K He Ha σ H ρ:=⟨λi j ds e=>absurd e (h i j ds),h'⟩
theorem yB{K:W.Frag}{H:Hp}:∀{ds:ac}{vs:ad},ds.length=vs.length->(∀(k:Nat) (d:D) (v:V),ds[k]?=some d->vs[k]?=some v->Rep K H d v)->Reps K H ds vs
 |[],[],_,_=>Reps.nil
 |d::ds,v::vs,hl,h=>Reps.cons (h 0 d v rfl rfl) (yB (by simpa using hl) λk d' v' e1 e2=>h (k+1) d' v' e1 e2)
structure cY (K:W.Frag) (He H0e Ha:Hp) (σ:L2.St) (H:Hp) (ρ:Ev):Prop where
 g:bc He H0e H Ha
 rd:Reads K Ha σ ρ
 ow:∀(i:Nat) (d:D),ρ[i]?=some (.ow d)->∃a,σ[i]?=some (some (.ref a))/\He a=none/\Ha a=none/\F1 K Ha H a d
 ap:∀(i j:Nat) (d d':D),i≠j->ρ[i]?=some (.ow d)->ρ[j]?=some (.ow d')->σ[i]?≠σ[j]?
 ln:ρ.length=σ.length
 ex:OX K He Ha σ H ρ
inductive Fl where
 |nx (ρ:Ev)|rt (d:D)|bk (ρ:Ev)|ct (ρ:Ev)
abbrev am:=Ev->aj Fl
noncomputable def bV(K:W.Frag) (E:XK) (He H0e Ha:Hp) (r:aj Fl) (D:mf):Prop:=match r with
 |.ok (.nx ρ)=>∀σ H Ha',aB Ha Ha'->cY K He H0e Ha' σ H ρ->D.nx σ H
 |.ok (.rt d)=>∀v H Ha',bc He H0e H Ha'->Rep K Ha' d v->D.rt v H
 |.ok (.bk ρ)=>∀σ H Ha',aB Ha Ha'->cY K He H0e Ha' σ H ρ->D.bk σ H
 |.ok (.ct ρ)=>∀σ H Ha',aB Ha Ha'->cY K He H0e Ha' σ H ρ->D.ct σ H
 |.exn x=>∀C ox H Ha',bc He H0e H Ha'->Ag K Ha' x C ox->E C ox H
 |.stuck=>False
def bV.grow{K:W.Frag}{D:mf}(h:bV K E He H0e Ha r D)(s:aB Ha Hb):bV K E He H0e Hb r D:=by
 cases r with
 |ok f=>
  cases f with|nx ρ=>exact λσ H Ha' s'=>h σ H Ha' (s.trans s')|rt d=>exact h|bk ρ=>exact λσ H Ha' s'=>h σ H Ha' (s.trans s')|ct ρ=>exact λσ H Ha' s'=>h σ H Ha' (s.trans s')
 |exn x=>exact h
 |stuck=>exact h
def tS(K:W.Frag)(E:XK)(He H0e:Hp)(g:am):TS:=λD σ H=>∃Ha ρ,cY K He H0e Ha σ H ρ/\bV K E He H0e Ha (g ρ) D
structure DS (X:Cx) (E:XK) (He H0e:Hp) (st:Stmt) (g:am):Prop where
 o:PS X st (tS X.K E He H0e g)
structure Bt (X:Cx) (E:XK) (He H0e:Hp) (st:List Stmt) (g:am):Prop where
 o:qZ X st (tS X.K E He H0e g)
def fX(ρ:Ev):Ev:=ρ.map λs=>match s with
 |.ow d=>.sh d
 |.ox _ ds=>.sh (.tup ds)
 |x=>x
def frz(He Ha H:Hp):Hp:=λa=>match He a with
 |none=>H a
 |some _=>Ha a
section
variable {K:W.Frag}{E:XK}{He H0e Ha H H1:Hp}{σ:L2.St}{ρ:Ev}
def cY.same(h:cY K He H0e Ha σ H ρ)(s:aB H H1):cY K He H0e Ha σ H1 ρ :=
 ⟨⟨h.g.s.trans s,h.g.z,h.g.sub.trans s,h.g.nw⟩,h.rd,λi d e=>by
  obtain⟨a,h1,h2,h3,h4⟩:=h.ow i d e;refine⟨a,h1,h2,h3,?_⟩;cases d with
  |lst ds=>obtain⟨vs,h5,h6⟩:=h4;exact⟨vs,s _ _ h5,h6⟩|dic ks ds=>obtain⟨vs,h5,hl,h6⟩:=h4;exact⟨vs,s _ _ h5,hl,h6⟩
  |_=>exact h4,h.ap,h.ln,h.ex.upd (λj s' e=>.inl ⟨e,rfl⟩) (aB.refl _) (λa vs _ e=>s _ _ e) λp us _ h0 hp _=>⟨s _ _ hp,h0⟩⟩
def cY.grow(h:cY K He H0e Ha σ H ρ)(s:bc H Ha H1 H01):cY K He H0e H01 σ H1 ρ :=
 ⟨h.g.trans s,h.rd.mono s.z,λi d e=>by
  obtain⟨a,h1,h2,h3,h4⟩:=h.ow i d e;have ha:H01 a=none:=by
   cases q:H01 a with
   |none=>rfl
   |some o=>
    have:=s.nw a (by rw[q];simp) h3;cases d with|lst ds|dic ks ds=>obtain⟨vs,h5,_⟩:=h4;rw[h5]at this;cases this| _=>exact h4.elim
  refine⟨a,h1,h2,ha,?_⟩;cases d with
  |lst ds=>obtain⟨vs,h5,h6⟩:=h4;exact⟨vs,s.s _ _ h5,h6.mono s.z⟩|dic ks ds=>obtain⟨vs,h5,hl,h6⟩:=h4;exact⟨vs,s.s _ _ h5,hl,h6.mono s.z⟩
  |_=>exact h4,h.ap,h.ln,h.ex.upd (λj s' e=>.inl ⟨e,rfl⟩) s.z (λa vs _ e=>s.s _ _ e) λp us _ h0 hp _=>⟨s.s _ _ hp,by
   cases q:H01 p with
   |none=>rfl
   |some o=>have:=s.nw p (by rw[q];simp) h0;rw[hp]at this;cases this⟩⟩
def cY.frz_sub(h:cY K He H0e Ha σ H ρ):aB Ha (frz He Ha H):=λb o e=>by
 unfold frz;cases q:He b with|none=>exact h.g.sub _ _ e|some _=>exact e
def cY.frz_le(h:cY K He H0e Ha σ H ρ):aB (frz He Ha H) H:=λb o e=>by
 unfold frz at e;cases q:He b with|none=>rw[q]at e;exact e|some _=>rw[q]at e;exact h.g.sub _ _ e
theorem cY.frz_grow(h:cY K He H0e Ha σ H ρ):bc He H0e H (frz He Ha H) :=
 ⟨h.g.s,h.g.z.trans h.frz_sub,h.frz_le,λa h1 h2=>by
  cases q:He a with
  |none=>rfl
  |some o=>
   unfold frz at h1;rw[q]at h1;have:=h.g.nw a h1 h2;rw[q]at this;cases this⟩
def cY.looks(h:cY K He H0e Ha σ H ρ):Reads K (frz He Ha H) σ (fX ρ):=λi d e=>by
 unfold fX at e;rw[List.getElem?_map]at e;cases q:ρ[i]? with
 |none=>rw[q]at e;cases e
 |some s=>
  rw[q]at e;cases s with
  |no|pt a=>cases e
  |sh d'=>
   cases e;obtain⟨v,h1,h2⟩:=h.rd i d q;exact⟨v,h1,h2.mono h.frz_sub⟩
  |ow d'=>
   cases e;obtain⟨a,h1,h2,h3,h4⟩:=h.ow i d q;refine⟨_,h1,?_⟩;cases d with
   |lst ds=>
    obtain⟨vs,h5,h6⟩:=h4;exact aE.mpr ⟨a,vs,rfl,eN.of (by unfold frz;rw[h2];exact h5),h6.mono h.frz_sub⟩
   |dic ks ds=>
    obtain⟨vs,h5,hl,h6⟩:=h4;rw[Rep];exact⟨a,_,vs,rfl,.inl (by unfold frz;rw[h2];exact h5),rfl,hl,h6.mono h.frz_sub⟩
   |_=>exact h4.elim
  |ox j ds=>
   cases e;obtain⟨a,P,h1,⟨vs,r1,r2,r3,r4,r5,r6⟩,_⟩:=h.ex.1 i j ds q;refine⟨_,h1,aK.mpr ⟨a,vs,rfl,ji.of (by unfold frz;rw[r1];exact r2),yB r3 λk d v e1 e2=>?_⟩⟩;cases hk:rm j k with
   |true=>
    obtain⟨es,us,q1,q2,q3,q4,q5,q6⟩:=r4 k hk;rw[q3]at e1;cases e1;rw[q4]at e2;cases e2;exact aE.mpr ⟨P k,us,rfl,eN.of (by unfold frz;rw[q1];exact q5),q6.mono h.frz_sub⟩
   |false=>exact(r6 k d v hk e1 e2).mono h.frz_sub
def cY.put(h:cY K He H0e Ha σ H ρ)(r:Rep K Ha d v):cY K He H0e Ha (σ.set i (some v)) H (ρ.set i (.sh d)):=by
 have key:∀(j:Nat) (s:Sl),(ρ.set i (.sh d))[j]?=some s->(j=i/\s=.sh d/\i<σ.length)∨(j≠i/\ρ[j]?=some s):=λj s e=>by
  by_cases hj:i=j
  .subst hj
   rw[List.getElem?_set_self']at e;cases q:ρ[i]? with
   |none=>rw[q]at e;cases e
   |some s'=>
    rw[q]at e;cases e;refine .inl ⟨rfl,rfl,?_⟩;rw[←h.ln];exact(List.getElem?_eq_some_iff.mp q).1
  .rw[List.getElem?_set_ne hj]at e
   exact .inr ⟨λz=>hj z.symm,e⟩
 refine⟨h.g,λj d' e=>?_,λj d' e=>?_,λj k d1 d2 hn e1 e2=>?_,by simp[h.ln],h.ex.upd (λj s e=>?_) (aB.refl _) (λa vs _ e=>e) λp us _ h0 hp _=>⟨hp,h0⟩⟩
 rotate_left 3
 .rcases key j _ e with⟨rfl,e',hl⟩|⟨hj,e'⟩
  .exact .inr (.inl ⟨d,e'⟩)
  .exact .inl ⟨e',by rw[List.getElem?_set_ne (Ne.symm hj)]⟩
 .rcases key j _ e with⟨rfl,e',hl⟩|⟨hj,e'⟩
  .cases e'
   exact⟨v,by rw[List.getElem?_set_self hl],r⟩
  .obtain⟨v',h1,h2⟩:=h.rd j d' e'
   exact⟨v',by rw[List.getElem?_set_ne (Ne.symm hj)];exact h1,h2⟩
 .rcases key j _ e with⟨rfl,e',hl⟩|⟨hj,e'⟩
  .cases e'
  .obtain⟨a,h1,h2⟩:=h.ow j d' e'
   exact⟨a,by rw[List.getElem?_set_ne (Ne.symm hj)];exact h1,h2⟩
 .rcases key j _ e1 with⟨_,e',_⟩|⟨hj,e1'⟩
  .cases e'
  rcases key k _ e2 with⟨_,e',_⟩|⟨hk,e2'⟩
  .cases e'
  rw[List.getElem?_set_ne (Ne.symm hj),List.getElem?_set_ne (Ne.symm hk)];exact h.ap j k d1 d2 hn e1' e2'
def cY.putOwn(h:cY K He H0e Ha σ H ρ)(hp:∀(j:Nat) (a:Addr),σ[j]?=some (some (V.ref a))->a=p->∀d:D,ρ[j]?≠some (Sl.ow d))(he:He p=none)(h0:Ha p=none)(hv:H p=some (.lst vs))(r:Reps K Ha ds vs)(hx:∀(i j:Nat) (ds:ac) (a:Addr) (P:Nat->Addr),ρ[i]?=some (.ox j ds)->σ[i]?=some (some (.ref a))->KZ K He Ha H a j ds P->∀l,rm j l=true->p≠P l) :
  cY K He H0e Ha (σ.set i (some (.ref p))) H (ρ.set i (.ow (.lst ds))):=by
 have key:∀(j:Nat) (s:Sl),(ρ.set i (.ow (.lst ds)))[j]?=some s->(j=i/\s=.ow (.lst ds)/\i<σ.length)∨(j≠i/\ρ[j]?=some s):=λj s e=>by
  by_cases hj:i=j
  .subst hj
   rw[List.getElem?_set_self']at e;cases q:ρ[i]? with
   |none=>rw[q]at e;cases e
   |some s'=>
    rw[q]at e;cases e;refine .inl ⟨rfl,rfl,?_⟩;rw[←h.ln];exact(List.getElem?_eq_some_iff.mp q).1
  .rw[List.getElem?_set_ne hj]at e
   exact .inr ⟨λz=>hj z.symm,e⟩
 have other:∀(k:Nat) (d2:D),k≠i->ρ[k]?=some (.ow d2)->some (some (V.ref p))≠σ[k]?:=λk d2 hk e2 z=>by
  obtain⟨a,h1,_⟩:=h.ow k d2 e2;rw[h1]at z;cases z;exact hp k p h1 rfl d2 e2
 refine⟨h.g,λj d' e=>?_,λj d' e=>?_,λj k d1 d2 hn e1 e2=>?_,by simp[h.ln],h.ex.upd (λj s e=>?_) (aB.refl _) (λa vs _ e=>e) λp us _ h0 hp _=>⟨hp,h0⟩⟩
 rotate_left 3
 .rcases key j _ e with⟨rfl,e',hl⟩|⟨hj,e'⟩
  .exact .inr (.inr (.inr ⟨.lst ds,p,e',by rw[List.getElem?_set_self hl],hx⟩))
  .exact .inl ⟨e',by rw[List.getElem?_set_ne (Ne.symm hj)]⟩
 .rcases key j _ e with⟨rfl,e',hl⟩|⟨hj,e'⟩
  .cases e'
  .obtain⟨v',h1,h2⟩:=h.rd j d' e'
   exact⟨v',by rw[List.getElem?_set_ne (Ne.symm hj)];exact h1,h2⟩
 .rcases key j _ e with⟨rfl,e',hl⟩|⟨hj,e'⟩
  .cases e'
   exact⟨p,by rw[List.getElem?_set_self hl],he,h0,vs,hv,r⟩
  .obtain⟨a,h1,h2⟩:=h.ow j d' e'
   exact⟨a,by rw[List.getElem?_set_ne (Ne.symm hj)];exact h1,h2⟩
 .rcases key j _ e1 with⟨rfl,_,hl⟩|⟨hj,e1'⟩
  .rcases key k _ e2 with⟨rfl,_,_⟩|⟨hk,e2'⟩
   .exact absurd rfl hn
   .rw[List.getElem?_set_self hl,List.getElem?_set_ne (Ne.symm hk)]
    exact other k d2 hk e2'
  .rcases key k _ e2 with⟨rfl,_,hl⟩|⟨hk,e2'⟩
   .rw[List.getElem?_set_self hl,List.getElem?_set_ne (Ne.symm hj)]
    exact λz=>other j d1 hj e1' z.symm
   .rw[List.getElem?_set_ne (Ne.symm hj),List.getElem?_set_ne (Ne.symm hk)]
    exact h.ap j k d1 d2 hn e1' e2'
def cY.fresh_x{H01:Hp}{p:Addr}(h:cY K He H0e Ha σ H ρ)(s:aB H H1)(hp:H p=none):∀(i j:Nat) (ds:ac) (a:Addr) (P:Nat->Addr),ρ[i]?=some (.ox j ds)->σ[i]?=some (some (.ref a))->KZ K He H01 H1 a j ds P->∀l,rm j l=true->p≠P l:=λi j ds a P x1 x2 x3 l ol=>by
 obtain⟨a2,P2,y1,⟨vs2,_,z3,_,y4,_⟩,_⟩:=h.ex.1 i j ds x1;rw[x2]at y1;cases y1;obtain⟨vs1,_,z1,_,y5,_⟩:=x3;have:=s _ _ z3;rw[z1]at this;cases this;obtain⟨_,us2,_,_,_,z4,z5,_⟩:=y4 l ol;obtain⟨_,_,_,_,_,z2,_⟩:=y5 l ol;rw[z2]at z4;injection z4 with z4;injection z4 with z4;intro z;rw[←z4,←z,hp]at z5;cases z5
def cY.write(h:cY K He H0e Ha σ H ρ)(e:ρ[i]?=some (.ow d))(es:σ[i]?=some (some (.ref p)))(r:Reps K Ha ds vs) :
  cY K He H0e Ha σ (upd H p (.lst vs)) (ρ.set i (.ow (.lst ds))):=by
 obtain⟨a,h1,h2,h3,h4⟩:=h.ow i d e;rw[h1]at es;cases es;have hil:i<ρ.length:=(List.getElem?_eq_some_iff.mp e).1;have key:∀(j:Nat) (s:Sl),(ρ.set i (.ow (.lst ds)))[j]?=some s->(j=i/\s=.ow (.lst ds))∨(j≠i/\ρ[j]?=some s):=λj s e=>by
  by_cases hj:i=j
  .subst hj
   rw[List.getElem?_set_self hil]at e;cases e;exact .inl ⟨rfl,rfl⟩
  .rw[List.getElem?_set_ne hj]at e
   exact .inr ⟨λz=>hj z.symm,e⟩
 refine⟨⟨λb o eb=>?_,h.g.z,λb o eb=>?_,h.g.nw⟩,λj d' e'=>?_,λj d' e'=>?_,λj k d1 d2 hn e1 e2=>?_,by simp[h.ln],h.ex.upd (λj s e'=>?_) (aB.refl _) (λb us _ eb=>?_) λq us _ q0 hq hd=>?_⟩
 rotate_left 5
 .rcases key j _ e' with⟨rfl,e''⟩|⟨hj,e''⟩
  .exact .inr (.inr (.inr ⟨.lst ds,p,e'',h1,λi' j' ds' a' P' x1 x2 x3 l ol=>by
    obtain⟨a2,P2,y1,y2,y3,_⟩:=h.ex.1 i' j' ds' x1;rw[x2]at y1;cases y1;have:P2 l=P' l:=by
     obtain⟨vs1,_,z1,_,y5,_⟩:=x3;obtain⟨vs2,_,z3,_,y4,_⟩:=y2;rw[z1]at z3;cases z3;obtain⟨_,_,_,_,_,z2,_⟩:=y5 l ol;obtain⟨_,_,_,_,_,z4,_⟩:=y4 l ol;rw[z2]at z4;injection z4 with z4;injection z4 with z4;exact z4.symm
    rw[←this];intro zz;rw[zz]at h1;exact y3 j d l ol e h1⟩))
  .exact .inl ⟨e'',rfl⟩
 .rw[az (by
   intro z;subst z;cases d with
   |lst ds'|dic ks ds'=>obtain⟨vs',h5,_⟩:=h4;rw[h5]at eb;cases eb
   |_=>exact h4)];exact eb
 .have hq':q≠p:=by
   intro z;subst z;exact hd i d e h1
  exact⟨by rw[az hq'];exact hq,q0⟩
 .rw[az (by intro z;subst z;rw[h2]at eb;cases eb)];exact h.g.s _ _ eb
 .rw[az (by intro z;subst z;rw[h3]at eb;cases eb)];exact h.g.sub _ _ eb
 .rcases key j _ e' with⟨rfl,e''⟩|⟨hj,e''⟩
  .cases e''
  .exact h.rd j d' e''
 .rcases key j _ e' with⟨rfl,e''⟩|⟨hj,e''⟩
  .cases e''
   exact⟨p,h1,h2,h3,vs,aI,r⟩
  .obtain⟨b,k1,k2,k3,k4⟩:=h.ow j d' e''
   refine⟨b,k1,k2,k3,?_⟩;have hb:b≠p:=by
    intro z;subst z;exact h.ap j i d' d hj e'' e (by rw[k1,h1])
   cases d' with
   |lst ds'=>
    obtain⟨vs',h5,h6⟩:=k4;exact⟨vs',by rw[az hb];exact h5,h6⟩
   |dic ks ds'=>
    obtain⟨vs',h5,hl,h6⟩:=k4;exact⟨vs',by rw[az hb];exact h5,hl,h6⟩
   |_=>exact k4.elim
 .rcases key j _ e1 with⟨rfl,e1'⟩|⟨hj,e1'⟩
  .rcases key k _ e2 with⟨rfl,_⟩|⟨hk,e2'⟩
   .exact absurd rfl hn
   .exact h.ap j k d d2 hn e e2'
  .rcases key k _ e2 with⟨rfl,_⟩|⟨hk,e2'⟩
   .exact h.ap j k d1 d hn e1' e
   .exact h.ap j k d1 d2 hn e1' e2'
end
mutual
def um:D->Bool
 |.lst _=>false
 |.dic _ _=>false
 |.exc _=>false
 |.ob _ _=>false
 |.tup ds=>flats ds
 |_=>true
def flats:ac->Bool
 |[]=>true
 |d::ds=>um d&&flats ds
end
mutual
theorem Rep.flat_to{K:W.Frag}{H H':Hp}(e:∀a vs,Rd H a (.tup vs)->Rd H' a (.tup vs)):∀{d:D}{v:V},um d=true->Rep K H d v->Rep K H' d v
 |.non,_,_,h=>by unfold Rep at h ⊢;exact h
 |.bl _,_,_,h=>by unfold Rep at h ⊢;exact h
 |.int _,_,_,h=>by unfold Rep at h ⊢;exact h
 |.str _,_,_,h=>by unfold Rep at h ⊢;exact h
 |.tup ds,_,f,h=>by
  unfold um at f;obtain⟨a,vs,e1,e2,e3⟩:=aK.mp h;refine aK.mpr ⟨a,vs,e1,?_,Reps.flat_to e f e3⟩;rcases e2 with e2|e2
  .exact .inl (e _ _ e2)
  .exact .inr e2
 |.lst ds,_,f,h=>by unfold um at f;cases f
 |.dic ks ds,_,f,h=>by unfold um at f;cases f
 |.exc x,_,f,h=>by unfold um at f;cases f
 |.ob k ds,_,f,h=>by unfold um at f;cases f
theorem Reps.flat_to{K:W.Frag}{H H':Hp}(e:∀a vs,Rd H a (.tup vs)->Rd H' a (.tup vs)):∀{ds:ac}{vs:ad},flats ds=true->Reps K H ds vs->Reps K H' ds vs
 |[],_,_,h=>by unfold Reps at h ⊢;exact h
 |d::ds,_,f,h=>by
  unfold flats at f;rw[Bool.and_eq_true]at f;obtain⟨v,r,e1,e2,e3⟩:=aC.mp h;exact aC.mpr ⟨v,r,e1,Rep.flat_to e f.1 e2,Reps.flat_to e f.2 e3⟩
end
def gP(Ha J:Hp):Hp:=λa=>match Ha a with
 |some o=>some o
 |none=>match J a with
  |some (.tup vs)=>some (.tup vs)
  |some (.frz o (.tup vs))=>some (.frz o (.tup vs))
  |_=>none
section
variable {K:W.Frag}{E:XK}{He H0e Ha H H1 J:Hp}{σ:L2.St}{ρ:Ev}
def FZ(h:aB Ha J):∀a o,gP Ha J a=some o->J a=some o:=λa o e=>by
 unfold gP at e;cases q:Ha a with
 |some u=>rw[q]at e;cases e;exact h _ _ q
 |none=>
  rw[q]at e;cases q2:J a with
  |none=>rw[q2]at e;cases e
  |some u=>
   rw[q2]at e;cases u with
   |tup vs=>cases e;rfl
   |frz o u'=>
    cases u' with|tup vs=>cases e;rfl| _=>cases e
   |_=>cases e
def FY(h:aB Ha J)(a:Addr)(vs:ad)(e:Rd J a (.tup vs)):Rd (gP Ha J) a (.tup vs):=by
 rcases e with e|⟨o,e⟩
 .refine .inl ?_
  unfold gP;cases q:Ha a with|some u=>have:=h _ _ q;rw[e]at this;cases this;rfl|none=>rw[e]
 .refine .inr ⟨o,?_⟩
  unfold gP;cases q:Ha a with|some u=>have:=h _ _ q;rw[e]at this;cases this;rfl|none=>rw[e]
def cY.behind(h:cY K He H0e Ha σ H ρ)(g:bc H (frz He Ha H) H1 J):cY K He H0e (gP Ha J) σ H1 ρ:=by
 have hJ:aB Ha J:=h.frz_sub.trans g.z;have le:=FZ (Ha:=Ha) (J:=J) hJ;have z:aB Ha (gP Ha J):=λb o e=>by unfold gP;rw[e]
 refine⟨⟨h.g.s.trans g.s,h.g.z.trans z,λb o e=>g.sub _ _ (le b o e),λa h1 h2=>?_⟩,h.rd.mono z,λi d e=>?_,h.ap,h.ln,h.ex.upd (λj s e=>.inl ⟨e,rfl⟩) z (λa vs _ e=>g.s _ _ e) λp us hp h0 hl _=>⟨g.s _ _ hl,by
  have:frz He Ha H p=some (.lst us):=by unfold frz;rw[hp];exact hl
  have:=g.z _ _ this;unfold gP;rw[h0,this]⟩⟩
 .cases q:gP Ha J a with
  |none=>exact absurd q h1
  |some o=>
   have hj:=le a o q;exact(h.frz_grow.trans g).nw a (by rw[hj];simp) h2
 .obtain⟨a,k1,k2,k3,k4⟩:=h.ow i d e
  refine⟨a,k1,k2,?_,?_⟩
  .cases d with
   |lst ds=>
    obtain⟨vs,h5,_⟩:=k4;have:frz He Ha H a=some (.lst vs):=by unfold frz;rw[k2];exact h5
    have:=g.z _ _ this;unfold gP;rw[k3,this]
   |dic ks ds=>
    obtain⟨vs,h5,_⟩:=k4;have:frz He Ha H a=some (.dK ((ks.map Sum.inr).zip vs)):=by unfold frz;rw[k2];exact h5
    have:=g.z _ _ this;unfold gP;rw[k3,this]
   |_=>exact k4.elim
  .cases d with
   |lst ds=>obtain⟨vs,h5,h6⟩:=k4;exact⟨vs,g.s _ _ h5,h6.mono z⟩
   |dic ks ds=>obtain⟨vs,h5,hl,h6⟩:=k4;exact⟨vs,g.s _ _ h5,hl,h6.mono z⟩
   |_=>exact k4.elim
end
section
variable {X:Cx}{E:XK}{He H0e:Hp}{st:Stmt}{rest:List Stmt}{e a b:Expr}{es:List Expr}{f g:al}{fa:Ev->aj (ac)}{s t:am}{pos:Pos}
def bH{t t':TS}(h:PS X st t)(w:∀D σ H,t' D σ H->t D σ H):PS X st t':=λpins s σ H D I q=>h pins s σ H D I (w D σ H q)
def cQ{t t':TS}(h:qZ X rest t)(w:∀D σ H,t' D σ H->t D σ H):qZ X rest t':=λpins s σ H D I q=>h pins s σ H D I (w D σ H q)
def aq:am:=λρ=>.ok (.nx ρ)
def av(s t:am):am:=λρ=>(s ρ).bind λr=>match r with
 |.nx ρ'=>t ρ'
 |r=>.ok r
def ao:Bt X E He H0e [] aq:=⟨cQ jq λD σ H ⟨Ha,ρ,h,q⟩=>q σ H Ha (aB.refl _) h⟩
def ag(h1:DS X E He H0e st s)(h2:Bt X E He H0e rest t):Bt X E He H0e (st::rest) (av s t):=by
 refine⟨?_⟩;refine cQ (c6 h1.o h2.o) λD σ H z9=>?_;obtain⟨Ha,ρ,h,q⟩:=z9;refine⟨Ha,ρ,h,?_⟩
 unfold av at q;cases e1:s ρ with
 |stuck|exn x=>rw[e1]at q;exact q
 |ok r=>
  rw[e1]at q;cases r with|nx ρ'=>exact λσ' H' Ha' s' h'=>⟨Ha',ρ',h',bV.grow (r:=t ρ') q s'⟩|rt d|bk ρ'|ct ρ'=>exact q
def cV:am:=λ_=>.stuck
def cT:DS X E He H0e st cV:=⟨bH Ce λD σ H ⟨Ha,ρ,h,q⟩=>q⟩
def plain{K:W.Frag}{k:D->aj Fl}(h:cY K He H0e Ha σ H ρ) 
  (q:bV K E He H0e Ha (r.bind k) D')(hk:∀d v H' Ha',r=.ok d->bc H Ha H' Ha'->Rep K Ha' d v->bV K E He H0e Ha' (k d) D'->Q v H'):post K E H Ha r Q:=by
 cases r with|stuck=>exact q|exn x=>exact λC ox H' Ha' g ex=>q C ox H' Ha' (h.g.trans g) ex|ok d=>exact λv H' Ha' g rp=>hk d v H' Ha' rfl g rp (bV.grow (r:=k d) q g.z)
def look{K:W.Frag}{k:D->aj Fl}(h:cY K He H0e Ha σ H ρ) 
  (q:bV K E He H0e Ha (r.bind k) D')(hk:∀d v H' J,r=.ok d->bc H (frz He Ha H) H' J->Rep K J d v->bV K E He H0e Ha (k d) D'->Q v H'):post K E H (frz He Ha H) r Q:=by
 cases r with|stuck=>exact q|exn x=>exact λC ox H' Ha' g ex=>q C ox H' Ha' (h.frz_grow.trans g) ex|ok d=>exact λv H' J g rp=>hk d v H' J rfl g rp q
def Gp{K:W.Frag}{k:Bool->aj Fl}(h:cY K He H0e Ha σ H ρ) 
  (q:bV K E He H0e Ha (r.bind λx=>match x with|.bl b=>k b|_=>.stuck) D')(hk:∀b H',aB H H'->bV K E He H0e Ha (k b) D'->Q b H'):oG K E H (frz He Ha H) r Q:=by
 cases r with
 |stuck=>exact q|exn x=>exact λC ox H' Ha' g ex=>q C ox H' Ha' (h.frz_grow.trans g) ex
 |ok d=>
  cases d with|bl b=>exact λH' J g=>hk b H' g.s q| _=>exact q.elim
def bE(i:Nat)(f:al):am:=λρ=>(f ρ).bind λd=>.ok (.nx (ρ.set i (.sh d)))
def bz(f:al):am:=λρ=>(f (fX ρ)).bind λd=>.ok (.rt d)
def mO(f:al):am:=λρ=>(f (fX ρ)).bind λ_=>.ok (.nx ρ)
def dw(c:al)(s t:am):am:=λρ=>(c (fX ρ)).bind λx=>match x with
 |.bl b=>if b=true then s ρ else t ρ
 |_=>.stuck
def bg(hN:X.N.Nodup)(hi:X.N[i]?=some x)(hx:Af X.env.scope x)(he:DE X E e f)(hs:swapsWith e (some (.Name x pos')) pos.line X.env=pure false:=by rfl)
  (hf:X.fn x=true∨X.env.scope.names.lookup x=some .local := by first|exact .inl rfl|exact .inr rfl|assumption):DS X E He H0e (.Assign [.Name x pos'] e pos) (bE i f):=by
 refine⟨?_⟩;refine bH (iM hN hi hx he.o hs hf) λD σ H z9=>?_;obtain⟨Ha,ρ,h,q⟩:=z9;refine⟨Ha,ρ,h.g.sub,h.rd,?_⟩
 refine plain h q λd v H' Ha' _ g rp q'=>?_;exact q' _ H' Ha' (aB.refl _) ((h.grow g).put rp)
def aQ(he:DE X E e f):DS X E He H0e (.Return (some e) pos) (bz f):=by
 refine⟨?_⟩;refine bH (tT he.o) λD σ H z9=>?_;obtain⟨Ha,ρ,h,q⟩:=z9;refine⟨frz He Ha H,fX ρ,h.frz_le,h.looks,?_⟩
 exact look h q λd v H' J _ g rp q'=>q' v H' J (h.frz_grow.trans g) rp
def nU(he:DE X E e f)(hs:swapsWith e none pos.line X.env=pure false:=by rfl):DS X E He H0e (.Expr e pos) (mO f):=by
 refine⟨?_⟩;refine bH (nI he.o hs) λD σ H z9=>?_;obtain⟨Ha,ρ,h,q⟩:=z9;refine⟨frz He Ha H,fX ρ,h.frz_le,h.looks,?_⟩
 exact look h q λd v H' J _ g rp q'=>q' σ H' Ha (aB.refl _) (h.same g.s)
def bI(hc:DT X E c fc)(ha:Bt X E He H0e sa s)(hb:Bt X E He H0e sb t):DS X E He H0e (.If c sa sb pos) (dw fc s t):=by
 refine⟨?_⟩;refine bH (yI hc.o ha.o hb.o) λD σ H z9=>?_;obtain⟨Ha,ρ,h,q⟩:=z9;refine⟨frz He Ha H,fX ρ,h.frz_le,h.looks,?_⟩
 refine Gp (k:=λb=>if b=true then s ρ else t ρ) h q λb H' hs q'=>?_;cases b with|true=>rw[if_pos rfl]at q' ⊢;exact⟨Ha,ρ,h.same hs,q'⟩|false=>rw[if_neg Bool.false_ne_true]at q' ⊢;exact⟨Ha,ρ,h.same hs,q'⟩
noncomputable def tF(K:W.Frag) (E:XK) (f:al):TE:=λσ H Q=>∃Ha ρ,aB Ha H/\Reads K Ha σ ρ/\match f ρ with
 |.ok (.lst ds)=>∀p vs H' Ha',bc H Ha H' Ha'->H p=none->Ha' p=none->H' p=some (.lst vs)->Reps K Ha' ds vs->Q (.ref p) H'
 |.ok _=>False
 |.exn x=>∀C ox H' Ha',bc H Ha H' Ha'->Ag K Ha' x C ox->E C ox H'
 |.stuck=>False
structure DF (X:Cx) (E:XK) (e:Expr) (f:al):Prop where
 o:PE X e (tF X.K E f)
def kq(i:Nat)(f:al):am:=λρ=>(f ρ).bind λd=>match d with
 |.lst ds=>.ok (.nx (ρ.set i (.ow (.lst ds))))
 |_=>.stuck
def j8(hN:X.N.Nodup)(hi:X.N[i]?=some x)(hx:Af X.env.scope x)(he:DF X E e f)(hs:swapsWith e (some (.Name x pos')) pos.line X.env=pure false:=by rfl)
  (hf:X.fn x=true∨X.env.scope.names.lookup x=some .local := by first|exact .inl rfl|exact .inr rfl|assumption):DS X E He H0e (.Assign [.Name x pos'] e pos) (kq i f):=by
 refine⟨?_⟩;refine bH (iM hN hi hx he.o hs hf) λD σ H z9=>?_;obtain⟨Ha,ρ,h,q⟩:=z9;refine⟨Ha,ρ,h.g.sub,h.rd,?_⟩
 unfold kq at q;cases e1:f ρ with
 |stuck=>rw[e1]at q;exact q|exn x=>rw[e1]at q;exact λC ox H' Ha' g ex=>q C ox H' Ha' (h.g.trans g) ex
 |ok d=>
  rw[e1]at q;cases d with
  |lst ds=>
   intro p vs H' Ha' g hp h0 hv rp;refine q _ H' Ha' g.z ((h.grow g).putOwn (λj a ej ea d ed=>?_) (h.g.s.free hp) h0 hv rp (h.fresh_x g.s hp));subst ea;obtain⟨a',k1,_,_,k4⟩:=h.ow j d ed;rw[ej]at k1;cases k1;cases d with|lst ds'|dic ks ds'=>obtain⟨vs',h5,_⟩:=k4;rw[hp]at h5;cases h5| _=>exact k4.elim
  |_=>exact q.elim
def mH(h:DA X E es fa):DF X E (.List es pos) (au fa eR):=by
 refine⟨?_⟩;refine aX (Cp h.o) λσ H Q h=>?_;obtain⟨Ha,ρ,hs,hr,q⟩:=h;refine⟨Ha,ρ,hs,hr,?_⟩;unfold au at q;cases e1:fa ρ with
 |stuck|exn x=>rw[e1]at q;exact q
 |ok ds=>
  rw[e1]at q;intro vs H1 H01 g1 r1;replace q:match eR ds with
   |.ok (.lst ds)=>∀p vs H' Ha',bc H Ha H' Ha'->H p=none->Ha' p=none->H' p=some (.lst vs)->Reps X.K Ha' ds vs->Q (.ref p) H'
   |.ok _=>False
   |.exn x=>∀C ox H' Ha',bc H Ha H' Ha'->Ag X.K Ha' x C ox->E C ox H'
   |.stuck=>False:=q
  unfold eR at q
  by_cases hl:ds.length<=line
  .rw[if_pos hl]at q
   refine⟨by rw[←r1.length];exact c3 hl,λp hp=>?_⟩;have h0:H01 p=none:=g1.sub.free hp;refine q p vs _ H01 (g1.trans ⟨λb o q=>by rw[az (bq q hp)];exact q,aB.refl _,λb o q=>?_,λa h1 h2=>absurd h2 h1⟩) (g1.s.free hp) h0 aI r1;rw[az (by intro z;subst z;rw[h0]at q;cases q)];exact g1.sub _ _ q
  .rw[if_neg hl]at q;exact q.elim
def yS(ρ:Ev)(i:Nat)(k:ac->aj Fl):aj Fl:=match ρ[i]? with
 |some (.ow (.lst ds))=>k ds
 |_=>.stuck
def dZ(i:Nat)(f:al):am:=λρ=>yS ρ i λds=>(f ρ).bind λd=>if ds.length<line then .ok (.nx (ρ.set i (.ow (.lst (ds++[d]))))) else .stuck
def u9{K:W.Frag}{k:ac->aj Fl}(h:cY K He H0e Ha σ H ρ)(q:bV K E He H0e Ha (yS ρ i k) D') :
  ∃ds p vs,ρ[i]?=some (.ow (.lst ds))/\σ[i]?=some (some (.ref p))/\He p=none/\Ha p=none/\H p=some (.lst vs)/\Reps K Ha ds vs/\bV K E He H0e Ha (k ds) D':=by
 unfold yS at q;cases e:ρ[i]? with
 |none=>rw[e]at q;exact q.elim
 |some s=>
  rw[e]at q;cases s with
  |no|sh d|ox j ds|pt a=>exact q.elim
  |ow d=>
   cases d with
   |lst ds=>
    obtain⟨p,h1,h2,h3,vs,h4,h5⟩:=h.ow i _ e;exact⟨ds,p,vs,rfl,h1,h2,h3,h4,h5,q⟩
   |_=>exact q.elim
def jC(hN:X.N[i]?=some x)(hv:Bm X.env.scope x)(he:DE X E e f)
  (hd:(x==("__debug__":Str))=false:=by decide)(hcd:(x==("__classdict__":Str))=false:=by decide)
  (hbase:attributeBase (.Name x p1) "append" X.env (eval (.Name x p1) X.env)=eval (.Name x p1) X.env:=by rfl)
  (hfew:((backTo p3 (starEach [e] X.env)).all (λx=>!x.1)&&(backToKw p3 (keywordEach [] X.env)).all (λx=>x.1.isSome)
  &&decide ([e].length+([]:List Keyword).length+(if([]:List Keyword).isEmpty then 0 else 1)<30))=true:=by exact kL rfl)
  (hline:(p2.endLine==p3.line)=true:=by rfl) (hs:starEach [e] X.env=(false,eval e X.env)::starEach [] X.env:=by exact bA rfl) (hplain:(backTo p3 (starEach [] X.env)).any (·.1)=false:=by exact cf rfl)
  (hw:swapsWith (.Call (.Attribute (.Name x p1) "append" p2) [e] [] p3) none pos.line X.env=pure false:=by rfl) :
  DS X E He H0e (.Expr (.Call (.Attribute (.Name x p1) "append" p2) [e] [] p3) pos) (dZ i f):=by
 refine⟨?_⟩;refine bH (nI (yQ PySem.F.plainAttrs_list PySem.F.slot_list_append PySem.F.type_list_append ju (gZ hN hv hd hcd) (dM he.o gr hs) hbase hfew hline hs hplain) hw) λD σ H ⟨Ha,ρ,h,q⟩=>?_;obtain⟨ds,p,vs,e1,e2,e3,e4,e5,e6,q⟩:=u9 h q;refine⟨.ref p,e2,.inl ⟨rfl,vs,eN.of e5⟩,?_⟩;refine⟨Ha,ρ,h.g.sub,h.rd,plain h q λd v H' Ha' _ g rp q'=>?_⟩
 by_cases hl:ds.length<line
 .rw[if_pos hl]at q'
  have e5':H' p=some (.lst vs):=g.s _ _ e5;refine⟨p,vs,v,rfl,rfl,e5',by rw[←e6.length];exact Nat.lt_of_lt_of_le hl (by decide),?_⟩;exact q' σ _ Ha' (aB.refl _) ((h.grow g).write e1 e2 ((e6.mono g.z).app (Reps.cons rp Reps.nil)))
 .rw[if_neg hl]at q';exact q'.elim
def putAt(ρ:Ev)(i:Nat)(ds:ac)(d:D)(j:D):aj Fl:=match j with
 |.int j=>match wW ds.length j with
  |some n=>.ok (.nx (ρ.set i (.ow (.lst (ds.set n d)))))
  |none=>.stuck
 |_=>.stuck
def BR(i:Nat)(f k:al):am:=λρ=>yS ρ i λds=>(f ρ).bind λd=>(k ρ).bind λj=>putAt ρ i ds d j
def Ca{K:W.Frag}(h:cY K He H0e Ha σ H ρ)(e1:ρ[i]?=some (.ow (.lst ds)))(e2:σ[i]?=some (some (.ref p)))(e5:H p=some (.lst vs))(e6:Reps K Ha ds vs)
  (rp:Rep K Ha d v)(rj:Rep K Ha j u)(q:bV K E He H0e Ha (putAt ρ i ds d j) D'):Gg (.ref p) u v H λH'=>D'.nx σ H':=by
 unfold putAt at q;cases j with
 |int n=>
  cases en:wW ds.length n with
  |none=>simp only[en]at q;exact q.elim
  |some m=>
   simp only[en]at q;refine⟨p,vs,n,m,rfl,aw.mp rj,e5,by rw[←e6.length];exact en,?_⟩;exact q σ _ Ha (aB.refl _) (h.write e1 e2 (e6.set rp m))
 |_=>exact q.elim
section
variable {i:Nat}{x:Str}{p1 p2:Pos}{k:al}
def Iw(hN:X.N[i]?=some x)(hv:Bm X.env.scope x)(he:DE X E e f)(hk:DE X E b k)
  (hd:(x==("__debug__":Str))=false:=by decide)(hcd:(x==("__classdict__":Str))=false:=by decide)
  (ha:∀v,assign (.Subscript (.Name x p1) b p2) X.env v=(do
   let ov ←holding [v] (eval (.Name x p1) X.env)
   let iv ←holding [v,ov] (eval b X.env)
   standAt p2
   holding [v,ov,iv] (setItem ov iv v)
   release [v,ov,iv] []):=by intro _;rfl)
  (hs:swapsWithSole [.Subscript (.Name x p1) b p2] e pos.line X.env=pure false:=by rfl) (hw:swappedStores [.Subscript (.Name x p1) b p2] e X.env=pure none:=by rfl)
  (h1:(assignEach [.Subscript (.Name x p1) b p2] X.env).map (·.2)=[assign (.Subscript (.Name x p1) b p2) X.env]:=by rfl) :
  DS X E He H0e (.Assign [.Subscript (.Name x p1) b p2] e pos) (BR i f k):=by
 refine⟨?_⟩;refine bH (xr he.o (Cm (gZ hN hv hd hcd) hk.o uS ha) hs hw h1) λD σ H z9=>?_;obtain⟨Ha,ρ,h,q⟩:=z9;refine⟨Ha,ρ,h.g.sub,h.rd,?_⟩
 obtain⟨ds,p,vs,e1,e2,e3,e4,e5,e6,q⟩:=u9 h q;refine plain (k:=λd=>(k ρ).bind λj=>putAt ρ i ds d j) h q λd v H1 H01 _ g1 r1 q1=>⟨.ref p,e2,?_⟩
 have h1':=h.grow g1;refine⟨H01,ρ,h1'.g.sub,h1'.rd,plain (k:=λj=>putAt ρ i ds d j) h1' q1 λj u H2 H02 _ g2 r2 q2=>?_⟩;exact Ca (h1'.grow g2) e1 e2 (g2.s _ _ (g1.s _ _ e5)) ((e6.mono g1.z).mono g2.z) (r1.mono g2.z) r2 q2
end
noncomputable def b3(tg:Ev->D->aj Ev) (body:am):ac->am
 |[],ρ=>.ok (.nx ρ)
 |d::r,ρ=>(tg ρ d).bind λρ1=>(body ρ1).bind λx=>match x with
  |.nx ρ2=>b3 tg body r ρ2
  |.ct ρ2=>b3 tg body r ρ2
  |.bk ρ2=>.ok (.nx ρ2)
  |.rt d=>.ok (.rt d)
def tG(K:W.Frag)(He H0e:Hp)(tg:Ev->D->aj Ev):TG:=λv σ H Q=>∃Ha ρ d,cY K He H0e Ha σ H ρ/\Rep K Ha d v/\match tg ρ d with
  |.ok ρ'=>∀σ' H' Ha',aB Ha Ha'->cY K He H0e Ha' σ' H' ρ'->Q σ' H'
  |_=>False
structure DG (X:Cx) (E:XK) (He H0e:Hp) (target:Expr) (tg:Ev->D->aj Ev):Prop where
 o:PG X target (tG X.K He H0e tg)
def bW(i:Nat):Ev->D->aj Ev:=λρ d=>.ok (ρ.set i (.sh d))
def tW{t t':TG}(h:PG X tgt t)(w:∀v σ H Q,t' v σ H Q->t v σ H Q):PG X tgt t':=λpins s σ H v u Q I r q=>h pins s σ H v u Q I r (w v σ H Q q)
def b5(hN:X.N.Nodup)(hi:X.N[i]?=some x)(hx:Af X.env.scope x)(hf:X.fn x=true∨X.env.scope.names.lookup x=some .local := by first|exact .inl rfl|exact .inr rfl|assumption):DG X E He H0e (.Name x pos) (bW i) :=
 ⟨tW (yN hN hi hx hf) λv σ H Q ⟨Ha,ρ,d,h,rp,q⟩=>q _ H Ha (aB.refl _) (h.put rp)⟩
def fv(K:W.Frag)(E:XK)(He H0e Hb:Hp)(tg:Ev->D->aj Ev)(s:am)(ds:ac)(D':mf)(i:Nat)(σ:L2.St)(H:Hp):Prop :=
 ∃Ha ρ,aB Hb Ha/\cY K He H0e Ha σ H ρ/\bV K E He H0e Ha (b3 tg s (ds.drop i) ρ) D'
def fv.step{K:W.Frag}(h:fv K E He H0e Hb tg s ds D' i σ H)(hd:ds[i]?=some d)(rv:Rep K Hb d v)
  (he:∀ρ,tg ρ d=.stuck∨∃ρ',tg ρ d=.ok ρ') :
  tG K He H0e tg v σ H λσ2 H2=>tS K E He H0e s { D' with nx:=fv K E He H0e Hb tg s ds D' (i+1),ct:=fv K E He H0e Hb tg s ds D' (i+1),bk:=D'.nx } σ2 H2:=by
 obtain⟨Ha,ρ,z,h,q⟩:=h;have hi:i<ds.length:=(List.getElem?_eq_some_iff.mp hd).1;have hdr:ds.drop i=d::ds.drop (i+1):=by
  rw[List.drop_eq_getElem_cons hi];rw[List.getElem?_eq_getElem hi]at hd;cases hd;rfl
 rw[hdr]at q;refine⟨Ha,ρ,d,h,rv.mono z,?_⟩;unfold b3 at q;rcases he ρ with e1|⟨ρ1,e1⟩
 .rw[e1]at q;exact q.elim
 .rw[e1]at q ⊢
  intro σ' H' Ha' z' h';refine⟨Ha',ρ1,h',?_⟩;replace q:=bV.grow (r:=(s ρ1).bind λx=>match x with
   |.nx ρ2=>b3 tg s (ds.drop (i+1)) ρ2
   |.ct ρ2=>b3 tg s (ds.drop (i+1)) ρ2
   |.bk ρ2=>.ok (.nx ρ2)
   |.rt d=>.ok (.rt d)) q z'
  cases e2:s ρ1 with
  |stuck|exn x=>rw[e2]at q;exact q
  |ok r=>
   rw[e2]at q;cases r with|nx ρ2=>exact λσ3 H3 H03 z3 h3=>⟨H03,ρ2,(z.trans z').trans z3,h3,bV.grow (r:=b3 tg s (ds.drop (i+1)) ρ2) q z3⟩|ct ρ2=>exact λσ3 H3 H03 z3 h3=>⟨H03,ρ2,(z.trans z').trans z3,h3,bV.grow (r:=b3 tg s (ds.drop (i+1)) ρ2) q z3⟩|bk ρ2|rt d=>exact q
def fv.done{K:W.Frag}(h:fv K E He H0e Hb tg s ds D' ds.length σ H):D'.nx σ H:=by
 obtain⟨Ha,ρ,z,h,q⟩:=h;rw[List.drop_length]at q;unfold b3 at q;exact q σ H Ha (aB.refl _) h
def tE(tg:Ev->D->aj Ev):Prop:=∀ρ d,tg ρ d=.stuck∨∃ρ',tg ρ d=.ok ρ'
def b4:tE (bW i):=λρ d=>.inr ⟨_,rfl⟩
def nv(f:al)(tg:Ev->D->aj Ev)(s:am):am:=λρ=>(f ρ).bind λd=>match d with
 |.lst ds=>b3 tg s ds ρ
 |_=>.stuck
def j9(hp:PassesOwn (model X.prog X.w) X.A X.env X.xe)(hc:X.calm=true)(hi:DE X E iter f)(hg:DG X E He H0e tgt tg)(ht:tE tg)(hb:Bt X E He H0e body s)
  (hs:∀x,foldedSetIterable iter X.env x=pure x:=by intro _;rfl):DS X E He H0e (.For tgt iter body [] pos) (nv f tg s):=by
 refine⟨?_⟩;refine bH (tU hp hc (yM hi.o) hg.o hb.o hs) λD' σ H z9=>?_;obtain⟨Ha,ρ,h,q⟩:=z9;refine⟨Ha,ρ,h.g.sub,h.rd,?_⟩
 refine plain h q λd v H1 H01 _ g rp q1=>?_;cases d with
 |lst ds=>
  obtain⟨a,vs,rfl,hv,hr⟩:=aE.mp rp;refine⟨a,rfl,⟨vs,aB.sqL g.sub hv⟩,?_⟩;refine CY (K:=X.K) (a:=a) (g:=tG X.K He H0e tg) (tb:=tS X.K E He H0e s) (D:=D') (xs:=vs) (fv X.K E He H0e H01 tg s ds D') ⟨H01,ρ,aB.refl _,h.grow g,q1⟩ ?_ ?_ ?_
  .rintro i σ' H' _ ⟨Ha',ρ',z,h',_⟩
   exact aB.sqL (z.trans h'.g.sub) hv
  .intro i x σ' H' hx hI
   have hil:i<ds.length:=by rw[hr.length];exact(List.getElem?_eq_some_iff.mp hx).1
   obtain⟨u,e1,e2⟩:=hr.get (List.getElem?_eq_getElem hil);rw[hx]at e1;cases e1;exact hI.step (List.getElem?_eq_getElem hil) e2 λρ=>ht ρ _
  .intro σ' H' hI
   rw[←hr.length]at hI;exact hI.done
 |_=>exact q1.elim
def intsFrom(lo:Int)(n:Nat):ac:=(List.range n).map λ(k:Nat)=>D.int (lo+(k:Int))
def rS(f:al)(tg:Ev->D->aj Ev)(s:am):am:=λρ=>(f (fX ρ)).bind λd=>match d with
 |.int j=>if -4611686018427387904<=j/\j<4611686018427387904 then b3 tg s (intsFrom 0 j.toNat) ρ else .stuck
 |_=>.stuck
def nT(hp:PassesOwn (model X.prog X.w) X.A X.env X.xe)(hc:X.calm=true)(hgl:Gl X "range")(hm:X.mg "range"=none)(hi:DE X E iter f)(hg:DG X E He H0e tgt tg)(ht:tE tg)(hb:Bt X E He H0e body s)
  (hst:starEach [iter] X.env=[(false,eval iter X.env)]:=by exact fE rfl)(hs:∀x,foldedSetIterable (.Call (.Name "range" p) [iter] [] pos2) X.env x=pure x:=by intro _;rfl):DS X E He H0e (.For tgt (.Call (.Name "range" p) [iter] [] pos2) body [] pos) (rS f tg s):=by
 refine⟨?_⟩;refine bH (tU hp hc (mq hgl hm (dM hi.o gr hst) hst) hg.o hb.o hs) λD' σ H ⟨Ha,ρ,h,q⟩=>?_;refine⟨frz He Ha H,fX ρ,h.frz_le,h.looks,look h q λd v H1 J _ g rp q1=>?_⟩;cases d with
 |int j=>
  rw[aw.mp rp];replace q1:bV X.K E He H0e Ha (if -4611686018427387904<=j/\j<4611686018427387904 then b3 tg s (intsFrom 0 j.toNat) ρ else .stuck) D':=q1
  by_cases hj:-4611686018427387904<=j/\j<4611686018427387904
  .rw[if_pos hj]at q1
   refine⟨j,rfl,by omega,by omega,?_⟩;have hlen:(intsFrom 0 j.toNat).length=j.toNat:=by unfold intsFrom;simp
   refine A2 (lo:=0) (n:=j.toNat) (g:=tG X.K He H0e tg) (tb:=tS X.K E He H0e s) (D:=D') (fv X.K E He H0e Ha tg s (intsFrom 0 j.toNat) D') ⟨Ha,ρ,aB.refl _,h.same g.s,q1⟩ ?_ ?_
   .intro i σ' H' hlt hI
    refine hI.step (d:=.int (0+i)) ?_ (aw.mpr rfl) λρ=>ht ρ _;unfold intsFrom;simp[hlt]
   .intro σ' H' hI
    exact fv.done (ds:=intsFrom 0 j.toNat) (by rw[hlen];exact hI)
  .rw[if_neg hj]at q1;exact q1.elim
 |_=>exact q1.elim
noncomputable def cp(c:al) (s:am):Nat->am
 |0,_=>.stuck
 |n+1,ρ=>(c (fX ρ)).bind λx=>match x with
  |.bl b=>if b=true then(s ρ).bind λx=>match x with
    |.nx ρ2=>cp c s n ρ2
    |.ct ρ2=>cp c s n ρ2
    |.bk ρ2=>.ok (.nx ρ2)
    |.rt d=>.ok (.rt d)
   else .ok (.nx ρ)
  |_=>.stuck
def gW(fuel:Ev->Nat)(c:al)(s:am):am:=λρ=>cp c s (fuel ρ) ρ
def qr(fuel:Ev->Nat)(hp:PassesOwn (model X.prog X.w) X.A X.env X.xe)(hc:DT X E c fc)(hb:Bt X E He H0e body s):DS X E He H0e (.While c body [] pos) (gW fuel fc s):=by
 refine⟨?_⟩;refine bH (Cd hp hc.o hb.o) λD' σ H ⟨Ha,ρ,h,q⟩=>?_;refine⟨λm σ H=>∃Ha ρ,cY X.K He H0e Ha σ H ρ/\bV X.K E He H0e Ha (cp fc s m ρ) D',⟨fuel ρ,Ha,ρ,h,q⟩,?_⟩;rintro m σ1 H1 ⟨H01,ρ1,h1,q1⟩;cases m with
 |zero=>exact q1.elim
 |succ m=>
  refine⟨frz He H01 H1,fX ρ1,h1.frz_le,h1.looks,?_⟩;unfold cp at q1;refine Gp (k:=λb=>if b=true then(s ρ1).bind λx=>match x with
    |.nx ρ2=>cp fc s m ρ2
    |.ct ρ2=>cp fc s m ρ2
    |.bk ρ2=>.ok (.nx ρ2)
    |.rt d=>.ok (.rt d)
   else .ok (.nx ρ1)) h1 q1 λb H2 hs q2=>?_
  cases b with
  |false=>
   rw[if_neg Bool.false_ne_true]at q2 ⊢;exact q2 σ1 H2 H01 (aB.refl _) (h1.same hs)
  |true=>
   rw[if_pos rfl]at q2 ⊢;refine⟨λσ' H'=>∃m',m' < m+1/\∃Ha ρ,cY X.K He H0e Ha σ' H' ρ/\bV X.K E He H0e Ha (cp fc s m' ρ) D',λσ' H' z=>z,H01,ρ1,h1.same hs,?_⟩;cases e2:s ρ1 with
   |stuck|exn x=>rw[e2]at q2;exact q2
   |ok r=>
    rw[e2]at q2;cases r with|nx ρ2=>exact λσ3 H3 H03 z3 h3=>⟨m,Nat.lt_succ_self _,H03,ρ2,h3,bV.grow (r:=cp fc s m ρ2) q2 z3⟩|ct ρ2=>exact λσ3 H3 H03 z3 h3=>⟨m,Nat.lt_succ_self _,H03,ρ2,h3,bV.grow (r:=cp fc s m ρ2) q2 z3⟩|bk ρ2|rt d=>exact q2
end
def b9(n:Nat)(s:am)(ds:ac):aj D:=(s (ds.map Sl.sh++List.replicate (n-ds.length) .no)).bind λr=>match r with
 |.nx _=>.ok .non
 |.rt d=>.ok d
 |_=>.stuck
def mN{K:W.Frag}(h:Reps K Ha ds vs):Reads K Ha (start N vs) (ds.map Sl.sh++List.replicate (N.length-ds.length) .no):=by
 intro i d e;have hl:=h.length
 by_cases hi:i<ds.length
 .rw[List.getElem?_append_left (by simpa using hi),List.getElem?_map]at e
  cases q:ds[i]? with
  |none=>rw[q]at e;cases e
  |some d'=>
   rw[q]at e;cases e;obtain⟨v,h1,h2⟩:=h.get q;refine⟨v,?_,h2⟩;unfold L2.start;rw[List.getElem?_append_left (by simp;omega),List.getElem?_map,h1];rfl
 .rw[List.getElem?_append_right (by simpa using hi),List.getElem?_replicate]at e
  split at e<;>cases e
def rN{ds:ac}(i j:Nat)(es:ac):(ds.map Sl.sh++List.replicate n Sl.no)[i]?≠some (.ox j es):=λe=>by
 have:=List.mem_of_getElem? e;rw[List.mem_append]at this;rcases this with h|h
 .obtain⟨_,_,h⟩:=List.mem_map.mp h;cases h
 .have:=List.eq_of_mem_replicate h;cases this
def ot{ds:ac}{σ:L2.St}(i:Nat)(a:Addr)(e:(ds.map Sl.sh++List.replicate n Sl.no)[i]?=some (.pt a)):σ[i]?=some (some (.ref a)):=by
 have:=List.mem_of_getElem? e;rw[List.mem_append]at this;rcases this with h|h
 .obtain⟨_,_,h⟩:=List.mem_map.mp h;cases h
 .have:=List.eq_of_mem_replicate h;cases this
def A3{K:W.Frag}{st:Stmt}{N ps:List Str}{k:Nat}(F:F6 K x qual st f fd)(S:gk N ps (defScope st))
  (hbody:∀(cdv:Value) (A:Around) (outer:List PySem.Env) (s0:Shared) (H Ha:Hp) (E:XK),c5 k (A.deeper (envOfC qual (defScope st) s0.heap.objs.size f cdv)) ->
   Bt (nE CX0 P w K mg base N qual (defScope st) f cdv A outer s0 H E).nox E H Ha (defBody st) s):iy P w K mg base CX0 (k+1) f fd ps (spD K ps.length (b9 N.length s)):=by
 have hpl:ps.length<=N.length:=by have:=congrArg List.length S.pre;rw[List.length_take]at this;omega
 refine F.ok S (λvs H Q E h=>h.1) λcdv A outer s0 H vs Q E hr h=>?_;obtain⟨hn,Ha,ds,hs,hv,q⟩:=h;refine⟨_,(hbody cdv A outer s0 H Ha E hr).o,Ha,ds.map Sl.sh++List.replicate (N.length-ds.length) .no,?_,?_⟩
 .refine⟨bc.refl hs,mN hv,λi d e=>?_,λi j d d' hij e=>?_,?_,OX.none rN ot⟩
  .by_cases hi:i<ds.length
   .rw[List.getElem?_append_left (by simpa using hi),List.getElem?_map]at e
    cases q:ds[i]? with|none|some d'=>rw[q]at e;cases e
   .rw[List.getElem?_append_right (by simpa using hi),List.getElem?_replicate]at e
    split at e<;>cases e
  .by_cases hi:i<ds.length
   .rw[List.getElem?_append_left (by simpa using hi),List.getElem?_map]at e
    cases q:ds[i]? with|none|some d'=>rw[q]at e;cases e
   .rw[List.getElem?_append_right (by simpa using hi),List.getElem?_replicate]at e
    split at e<;>cases e
  .unfold L2.start
   have:=hv.length;simp only[List.length_append,List.length_map,List.length_replicate];omega
 .unfold b9 at q
  cases e1:s (ds.map Sl.sh++List.replicate (N.length-ds.length) .no) with
  |stuck|exn x=>rw[e1]at q;exact q
  |ok r=>
   rw[e1]at q;cases r with|nx ρ'=>exact λσ' H' Ha' _ h'=>q .non H' Ha' h'.g (aO.mpr rfl)|rt d=>exact λv H' Ha' g rp=>q v H' Ha' g rp|bk ρ'|ct ρ'=>exact q.elim
mutual
def cq:D->D->Bool
 |.non,.non=>true
 |.bl a,.bl b=>a==b
 |.bl a,.int b=>(if a then 1 else 0)==b
 |.int a,.bl b=>a==(if b then 1 else 0)
 |.int a,.int b=>a==b
 |.str a,.str b=>a==b
 |.tup xs,.tup ys=>eqDs xs ys
 |.lst xs,.lst ys=>eqDs xs ys
 |_,_=>false
def eqDs:ac->ac->Bool
 |[],[]=>true
 |x::xs,y::ys=>cq x y&&eqDs xs ys
 |_,_=>false
end
def bj:Nat->D->Bool
 |_,.non=>true
 |_,.bl _=>true
 |_,.int _=>true
 |_,.str _=>true
 |n+1,.tup ds=>ds.all (bj n)
 |n+1,.lst ds=>ds.all (bj n)
 |_,_=>false
def sI(h:∀d∈ds,cq d d=true):eqDs ds ds=true:=by
 induction ds with
 |nil=>simp[eqDs]
 |cons d r ih=>
  unfold eqDs;rw[h d List.mem_cons_self,ih λx hx=>h x (List.mem_cons_of_mem _ hx)];rfl
theorem lS:∀(n:Nat) (d:D),bj n d=true->cq d d=true
 |_,.non,_=>by simp[cq]
 |_,.bl b,_=>by simp[cq]
 |_,.int b,_=>by simp[cq]
 |_,.str b,_=>by simp[cq]
 |n+1,.tup ds,h=>by
  unfold bj at h;unfold cq;exact sI λd hd=>lS n d (List.all_eq_true.mp h d hd)
 |n+1,.lst ds,h=>by
  unfold bj at h;unfold cq;exact sI λd hd=>lS n d (List.all_eq_true.mp h d hd)
 |0,.tup ds,h=>by unfold bj at h;cases h
 |0,.lst ds,h=>by unfold bj at h;cases h
 |0,.dic ks ds,h=>by unfold bj at h;cases h
 |n+1,.dic ks ds,h=>by unfold bj at h;cases h
 |0,.exc x,h=>by unfold bj at h;cases h
 |0,.ob k x,h=>by unfold bj at h;cases h
 |n+1,.ob k x,h=>by unfold bj at h;cases h
 |n+1,.exc x,h=>by unfold bj at h;cases h
def Fx:cq (.tup xs) (.tup ys)=eqDs xs ys:=by rw[cq]
def zx:cq (.lst xs) (.lst ys)=eqDs xs ys:=by rw[cq]
theorem j7:∀(xs ys:ac),xs.length=ys.length->eqDs xs ys=(List.range xs.length).all λj=>cq (xs.getD j .non) (ys.getD j .non)
 |[],[],_=>by simp[eqDs]
 |x::xs,y::ys,h=>by
  have ih:=j7 xs ys (by simpa using h);unfold eqDs;rw[ih,List.length_cons,List.range_succ_eq_map,List.all_cons,List.all_map];rfl
 |[],_::_,h=>by simp at h
 |_::_,[],h=>by simp at h
theorem qm:∀(xs ys:ac),xs.length≠ys.length->eqDs xs ys=false
 |[],[],h=>absurd rfl h
 |x::xs,y::ys,h=>by
  unfold eqDs;rw[qm xs ys (by simpa using h),Bool.and_false]
 |[],_::_,h=>by simp[eqDs]
 |_::_,[],h=>by simp[eqDs]
section
variable {X:Cx}{pins:List (Addr×Obj)}{σ:L2.St}{H:Hp}{s:Shared}
def bb(I:Inv X pins σ H s)(r:Rep X.K H (.tup ds) v)(rv:bo v u):∃a vs its,v=.ref a/\u=.ref a/\ji X.K H a vs/\Reps X.K H ds vs/\bD vs its/\IsTup s.heap a its.toArray/\ds.length=its.length:=by
 obtain⟨a,vs,rfl,h1,h2⟩:=aK.mp r;obtain rfl:u=Value.ref a:=rv;obtain⟨its,h3,h4,_⟩:=I.tuple h1;exact⟨a,vs,its,rfl,rfl,h1,h2,h3,h4,h2.length.trans h3.length⟩
def aZ(I:Inv X pins σ H s)(r:Rep X.K H (.lst ds) v)(rv:bo v u):∃a vs its,v=.ref a/\u=.ref a/\eN X.K H a vs/\Reps X.K H ds vs/\bD vs its/\s.heap.IsList a its.toArray/\ds.length=its.length:=by
 obtain⟨a,vs,rfl,h1,h2⟩:=aE.mp r;obtain rfl:u=Value.ref a:=rv;obtain⟨its,h3,h4,_⟩:=I.list h1;exact⟨a,vs,its,rfl,rfl,h1,h2,h3,h4.isList,h2.length.trans h3.length⟩
theorem oA{n:Nat}(ih:∀(d d':D) (v:V),bj n d=true->bj n d'=true->Rep X.K H d v->Rep X.K H d' v->d=d'):∀(ds ds':ac) (vs:ad),ds.all (bj n)=true->ds'.all (bj n)=true->Reps X.K H ds vs->Reps X.K H ds' vs->ds=ds'
 |[],ds',vs,_,_,h,h'=>by
  rw[Reps.nil_iff.mp h]at h';cases ds' with|nil=>rfl|cons d r=>obtain⟨_,_,e,_⟩:=aC.mp h';cases e
 |d::ds,ds',vs,a,a',h,h'=>by
  obtain⟨v,r,rfl,h1,h2⟩:=aC.mp h;cases ds' with
  |nil=>cases Reps.nil_iff.mp h'
  |cons d' ds'=>
   obtain⟨v',r',e,h1',h2'⟩:=aC.mp h';cases e;rw[List.all_cons,Bool.and_eq_true]at a a';rw[ih d d' v a.1 a'.1 h1 h1',oA ih ds ds' r a.2 a'.2 h2 h2']
def Rep.inj(I:Inv X pins σ H s):∀(n:Nat) (d d':D) (v:V),bj n d=true->bj n d'=true->Rep X.K H d v->Rep X.K H d' v->d=d':=by
 have atom:∀(n:Nat) (d d':D) (v:V),(∀ds,d≠.tup ds)->(∀ds,d≠.lst ds)->bj n d=true->bj n d'=true->Rep X.K H d v->Rep X.K H d' v->d=d':=by
  intro n d d' v n1 n2 s1 s2 h h';have nd:∀m ks ds,bj m (.dic ks ds)=true->False:=λm ks ds h=>by cases m<;>(unfold bj at h;cases h)
  have nx:∀m x,bj m (.exc x)=true->False:=λm x h=>by cases m<;>(unfold bj at h;cases h)
  have nb:∀m k x,bj m (.ob k x)=true->False:=λm k x h=>by cases m<;>(unfold bj at h;cases h)
  cases d with
  |tup ds=>exact absurd rfl (n1 ds)|lst ds=>exact absurd rfl (n2 ds)|dic ks ds=>exact(nd _ _ _ s1).elim|exc x=>exact(nx _ _ s1).elim|ob k x=>exact(nb _ _ _ s1).elim
  |non=>
   rw[aO.mp h]at h';cases d' with|non=>rfl|bl b=>cases aJ.mp h'|int b=>cases aw.mp h'|str b=>cases Rep.str_iff.mp h'|tup ds=>obtain⟨_,_,e,_⟩:=aK.mp h';cases e|lst ds=>obtain⟨_,_,e,_⟩:=aE.mp h';cases e|dic ks ds=>exact(nd _ _ _ s2).elim|exc x=>exact(nx _ _ s2).elim|ob k x=>exact(nb _ _ _ s2).elim
  |bl x=>
   rw[aJ.mp h]at h';cases d' with|non=>cases aO.mp h'|bl b=>cases aJ.mp h';rfl|int b=>cases aw.mp h'|str b=>cases Rep.str_iff.mp h'|tup ds=>obtain⟨_,_,e,_⟩:=aK.mp h';cases e|lst ds=>obtain⟨_,_,e,_⟩:=aE.mp h';cases e|dic ks ds=>exact(nd _ _ _ s2).elim|exc x=>exact(nx _ _ s2).elim|ob k x=>exact(nb _ _ _ s2).elim
  |int x=>
   rw[aw.mp h]at h';cases d' with|non=>cases aO.mp h'|bl b=>cases aJ.mp h'|int b=>cases aw.mp h';rfl|str b=>cases Rep.str_iff.mp h'|tup ds=>obtain⟨_,_,e,_⟩:=aK.mp h';cases e|lst ds=>obtain⟨_,_,e,_⟩:=aE.mp h';cases e|dic ks ds=>exact(nd _ _ _ s2).elim|exc x=>exact(nx _ _ s2).elim|ob k x=>exact(nb _ _ _ s2).elim
  |str x=>
   rw[Rep.str_iff.mp h]at h';cases d' with|non=>cases aO.mp h'|bl b=>cases aJ.mp h'|int b=>cases aw.mp h'|str b=>cases Rep.str_iff.mp h';rfl|tup ds=>obtain⟨_,_,e,_⟩:=aK.mp h';cases e|lst ds=>obtain⟨_,_,e,_⟩:=aE.mp h';cases e|dic ks ds=>exact(nd _ _ _ s2).elim|exc x=>exact(nx _ _ s2).elim|ob k x=>exact(nb _ _ _ s2).elim
 intro n
 induction n with
 |zero=>
  intro d d' v s1 s2 h h';exact atom 0 d d' v (λds e=>by subst e;unfold bj at s1;cases s1) (λds e=>by subst e;unfold bj at s1;cases s1) s1 s2 h h'
 |succ n ih=>
  intro d d' v s1 s2 h h'
  by_cases t1:∃ds,d=.tup ds
  .obtain⟨ds,rfl⟩:=t1
   by_cases t2:∃ds',d'=.tup ds'
   .obtain⟨ds',rfl⟩:=t2
    obtain⟨a,vs,rfl,h1,h2⟩:=aK.mp h;obtain⟨a',vs',e,h1',h2'⟩:=aK.mp h';cases e;rw[I.tuple_inj h1' h1]at h2';unfold bj at s1 s2;rw[oA ih ds ds' vs s1 s2 h2 h2']
   .by_cases t3:∃ds',d'=.lst ds'
    .obtain⟨ds',rfl⟩:=t3
     obtain⟨a0,_,ev,_,_⟩:=aK.mp h;subst ev;obtain⟨a,vs,its,ea,_,h1,h2,h3,h4,_⟩:=bb I h rfl;cases ea;obtain⟨a',vs',its',e,_,h1',h2',h3',h4',_⟩:=aZ I h' rfl;cases e;exact absurd rfl (SeqAt.ne_of_list_tuple h4' h4)
    .exact(atom (n+1) d' _ v (λds e=>t2 ⟨ds,e⟩) (λds e=>t3 ⟨ds,e⟩) s2 s1 h' h).symm
  .by_cases t1':∃ds,d=.lst ds
   .obtain⟨ds,rfl⟩:=t1'
    by_cases t2:∃ds',d'=.lst ds'
    .obtain⟨ds',rfl⟩:=t2
     obtain⟨a,vs,rfl,h1,h2⟩:=aE.mp h;obtain⟨a',vs',e,h1',h2'⟩:=aE.mp h';cases e;rw[I.list_inj h1' h1]at h2';unfold bj at s1 s2;rw[oA ih ds ds' vs s1 s2 h2 h2']
    .by_cases t3:∃ds',d'=.tup ds'
     .obtain⟨ds',rfl⟩:=t3
      obtain⟨a0,_,ev,_,_⟩:=aE.mp h;subst ev;obtain⟨a,vs,its,ea,_,h1,h2,h3,h4,_⟩:=aZ I h rfl;cases ea;obtain⟨a',vs',its',e,_,h1',h2',h3',h4',_⟩:=bb I h' rfl;cases e;exact absurd rfl (SeqAt.ne_of_list_tuple h4 h4')
     .exact(atom (n+1) d' _ v (λds e=>t3 ⟨ds,e⟩) (λds e=>t2 ⟨ds,e⟩) s2 s1 h' h).symm
   .exact atom (n+1) d d' v (λds e=>t1 ⟨ds,e⟩) (λds e=>t1' ⟨ds,e⟩) s1 s2 h h'
def vC{A:Around} 
  (ih:∀(x y:D) (v u:V) (a b:Value),bj n x=true->bj n y=true->Rep X.K H x v->Rep X.K H y u->bo v a->bo u b->SeqAt.EqAt A.in1 s a b (cq x y))
  (sx:xs.all (bj n)=true)(sy:ys.all (bj n)=true)(rx:Reps X.K H xs vs)(ry:Reps X.K H ys us)(qx:bD vs is)(qy:bD us js) :
  ∀j (h1:j<is.toArray.size) (h2:j<js.toArray.size),SeqAt.EqAt A.in1 s is.toArray[j] js.toArray[j] (cq (xs.getD j .non) (ys.getD j .non)):=by
 intro j h1 h2;have lx:=rx.length;have ly:=ry.length;have kx:=qx.length;have ky:=qy.length;have h1':j<is.length:=by simpa using h1
 have h2':j<js.length:=by simpa using h2
 have hx:j<xs.length:=by omega
 have hy:j<ys.length:=by omega
 obtain⟨v,e1,r1⟩:=rx.get (List.getElem?_eq_getElem hx);obtain⟨u,e2,r2⟩:=ry.get (List.getElem?_eq_getElem hy);obtain⟨a,e3,r3⟩:=qx.get e1;obtain⟨b,e4,r4⟩:=qy.get e2;have ea:is.toArray[j]=a:=by
  rw[List.getElem?_eq_getElem h1']at e3;simpa using Option.some.inj e3
 have eb:js.toArray[j]=b:=by
  rw[List.getElem?_eq_getElem h2']at e4;simpa using Option.some.inj e4
 rw[ea,eb];have gx:xs.getD j .non=xs[j]:=by simp[List.getD,List.getElem?_eq_getElem hx]
 have gy:ys.getD j .non=ys[j]:=by simp[List.getD,List.getElem?_eq_getElem hy]
 rw[gx,gy];exact ih _ _ v u a b (List.all_eq_true.mp sx _ (List.getElem_mem hx)) (List.all_eq_true.mp sy _ (List.getElem_mem hy)) r1 r2 r3 r4
def uZ(I:Inv X pins σ H s)(hu:A.units<cLine)(rx:Rep X.K H x v)(ry:Rep X.K H y u)(qx:bo v a)(qy:bo u b)
  (n1:∀ds ds',¬(x=.lst ds/\y=.lst ds'))(n2:∀ds ds',¬(x=.tup ds/\y=.tup ds'))(d1:∀ks ds,x≠.dic ks ds)(d2:∀ks ds,y≠.dic ks ds)(x1:∀c,x≠.exc c)(x2:∀c,y≠.exc c)(o1:∀k c,x≠.ob k c)(o2:∀k c,y≠.ob k c) :
  SeqAt.RcAt A s a b (cq x y)/\SeqAt.EqAt A s a b (cq x y)/\SeqAt.RcNeAt A s a b (!(cq x y)):=by
 cases x with
 |non=>
  cases y with
  |non=>
   obtain rfl:=aO.mp rx;obtain rfl:a=Value.none:=qx;obtain rfl:=aO.mp ry;obtain rfl:b=Value.none:=qy;unfold cq;exact⟨SeqAt.RcAt.none_none ,SeqAt.EqAt.same _,SeqAt.RcNeAt.none_none ⟩
  |bl y=>
   obtain rfl:=aO.mp rx;obtain rfl:a=Value.none:=qx;obtain rfl:=aJ.mp ry;obtain rfl:b=Value.bool _:=qy;unfold cq;exact⟨SeqAt.RcAt.none_bool _,SeqAt.EqAt.none_bool _,SeqAt.RcNeAt.none_bool _⟩
  |int y=>
   obtain rfl:=aO.mp rx;obtain rfl:a=Value.none:=qx;obtain rfl:=aw.mp ry;obtain⟨ty,rfl⟩:∃t,b=Value.int _ t:=qy;unfold cq;exact⟨SeqAt.RcAt.none_int _ _,SeqAt.EqAt.none_int _ _,SeqAt.RcNeAt.none_int _ _⟩
  |str y=>
   obtain rfl:=aO.mp rx;obtain rfl:a=Value.none:=qx;obtain rfl:=Rep.str_iff.mp ry;obtain⟨ty,rfl⟩:∃t,b=Value.str _ t:=qy;unfold cq;exact⟨SeqAt.RcAt.none_str _ _,SeqAt.EqAt.none_str _ _,SeqAt.RcNeAt.none_str _ _⟩
  |lst y=>
   obtain rfl:=aO.mp rx;obtain rfl:a=Value.none:=qx;obtain⟨ly,_,_,rfl,rfl,_,_,_,hy,_⟩:=aZ I ry qy;unfold cq;exact⟨SeqAt.RcAt.none_list  hy hu,SeqAt.EqAt.none_list  hy hu,SeqAt.RcNeAt.none_list  hy hu⟩
  |tup y=>
   obtain rfl:=aO.mp rx;obtain rfl:a=Value.none:=qx;obtain⟨ly,_,_,rfl,rfl,_,_,_,hy,_⟩:=bb I ry qy;unfold cq;exact⟨SeqAt.RcAt.none_tuple  hy hu,SeqAt.EqAt.none_tuple  hy hu,SeqAt.RcNeAt.none_tuple  hy hu⟩
  |dic ks ds=>exact absurd rfl (d2 ks ds)|exc c=>exact absurd rfl (x2 c)|ob k c=>exact absurd rfl (o2 k c)
 |bl x=>
  cases y with
  |non=>
   obtain rfl:=aJ.mp rx;obtain rfl:a=Value.bool _:=qx;obtain rfl:=aO.mp ry;obtain rfl:b=Value.none:=qy;unfold cq;exact⟨SeqAt.RcAt.bool_none _,SeqAt.EqAt.bool_none _,SeqAt.RcNeAt.bool_none _⟩
  |bl y=>
   obtain rfl:=aJ.mp rx;obtain rfl:a=Value.bool _:=qx;obtain rfl:=aJ.mp ry;obtain rfl:b=Value.bool _:=qy;unfold cq;exact⟨SeqAt.RcAt.bool_bool _ _,SeqAt.EqAt.bool_bool _ _,SeqAt.RcNeAt.bool_bool _ _⟩
  |int y=>
   obtain rfl:=aJ.mp rx;obtain rfl:a=Value.bool _:=qx;obtain rfl:=aw.mp ry;obtain⟨ty,rfl⟩:∃t,b=Value.int _ t:=qy;unfold cq;exact⟨SeqAt.RcAt.bool_int _ _ _,SeqAt.EqAt.bool_int _ _ _,SeqAt.RcNeAt.bool_int _ _ _⟩
  |str y=>
   obtain rfl:=aJ.mp rx;obtain rfl:a=Value.bool _:=qx;obtain rfl:=Rep.str_iff.mp ry;obtain⟨ty,rfl⟩:∃t,b=Value.str _ t:=qy;unfold cq;exact⟨SeqAt.RcAt.bool_str _ _ _,SeqAt.EqAt.bool_str _ _ _,SeqAt.RcNeAt.bool_str _ _ _⟩
  |lst y=>
   obtain rfl:=aJ.mp rx;obtain rfl:a=Value.bool _:=qx;obtain⟨ly,_,_,rfl,rfl,_,_,_,hy,_⟩:=aZ I ry qy;unfold cq;exact⟨SeqAt.RcAt.bool_list _ hy hu,SeqAt.EqAt.bool_list _ hy hu,SeqAt.RcNeAt.bool_list _ hy hu⟩
  |tup y=>
   obtain rfl:=aJ.mp rx;obtain rfl:a=Value.bool _:=qx;obtain⟨ly,_,_,rfl,rfl,_,_,_,hy,_⟩:=bb I ry qy;unfold cq;exact⟨SeqAt.RcAt.bool_tuple _ hy hu,SeqAt.EqAt.bool_tuple _ hy hu,SeqAt.RcNeAt.bool_tuple _ hy hu⟩
  |dic ks ds=>exact absurd rfl (d2 ks ds)|exc c=>exact absurd rfl (x2 c)|ob k c=>exact absurd rfl (o2 k c)
 |int x=>
  cases y with
  |non=>
   obtain rfl:=aw.mp rx;obtain⟨tx,rfl⟩:∃t,a=Value.int _ t:=qx;obtain rfl:=aO.mp ry;obtain rfl:b=Value.none:=qy;unfold cq;exact⟨SeqAt.RcAt.int_none _ _,SeqAt.EqAt.int_none _ _,SeqAt.RcNeAt.int_none _ _⟩
  |bl y=>
   obtain rfl:=aw.mp rx;obtain⟨tx,rfl⟩:∃t,a=Value.int _ t:=qx;obtain rfl:=aJ.mp ry;obtain rfl:b=Value.bool _:=qy;unfold cq;exact⟨SeqAt.RcAt.int_bool _ _ _,SeqAt.EqAt.int_bool _ _ _,SeqAt.RcNeAt.int_bool _ _ _⟩
  |int y=>
   obtain rfl:=aw.mp rx;obtain⟨tx,rfl⟩:∃t,a=Value.int _ t:=qx;obtain rfl:=aw.mp ry;obtain⟨ty,rfl⟩:∃t,b=Value.int _ t:=qy;unfold cq;exact⟨SeqAt.RcAt.int_int _ _ _ _,SeqAt.EqAt.int_int _ _ _ _,SeqAt.RcNeAt.int_int _ _ _ _⟩
  |str y=>
   obtain rfl:=aw.mp rx;obtain⟨tx,rfl⟩:∃t,a=Value.int _ t:=qx;obtain rfl:=Rep.str_iff.mp ry;obtain⟨ty,rfl⟩:∃t,b=Value.str _ t:=qy;unfold cq;exact⟨SeqAt.RcAt.int_str _ _ _ _,SeqAt.EqAt.int_str _ _ _ _,SeqAt.RcNeAt.int_str _ _ _ _⟩
  |lst y=>
   obtain rfl:=aw.mp rx;obtain⟨tx,rfl⟩:∃t,a=Value.int _ t:=qx;obtain⟨ly,_,_,rfl,rfl,_,_,_,hy,_⟩:=aZ I ry qy;unfold cq;exact⟨SeqAt.RcAt.int_list _ _ hy hu,SeqAt.EqAt.int_list _ _ hy hu,SeqAt.RcNeAt.int_list _ _ hy hu⟩
  |tup y=>
   obtain rfl:=aw.mp rx;obtain⟨tx,rfl⟩:∃t,a=Value.int _ t:=qx;obtain⟨ly,_,_,rfl,rfl,_,_,_,hy,_⟩:=bb I ry qy;unfold cq;exact⟨SeqAt.RcAt.int_tuple _ _ hy hu,SeqAt.EqAt.int_tuple _ _ hy hu,SeqAt.RcNeAt.int_tuple _ _ hy hu⟩
  |dic ks ds=>exact absurd rfl (d2 ks ds)|exc c=>exact absurd rfl (x2 c)|ob k c=>exact absurd rfl (o2 k c)
 |str x=>
  cases y with
  |non=>
   obtain rfl:=Rep.str_iff.mp rx;obtain⟨tx,rfl⟩:∃t,a=Value.str _ t:=qx;obtain rfl:=aO.mp ry;obtain rfl:b=Value.none:=qy;unfold cq;exact⟨SeqAt.RcAt.str_none _ _,SeqAt.EqAt.str_none _ _,SeqAt.RcNeAt.str_none _ _⟩
  |bl y=>
   obtain rfl:=Rep.str_iff.mp rx;obtain⟨tx,rfl⟩:∃t,a=Value.str _ t:=qx;obtain rfl:=aJ.mp ry;obtain rfl:b=Value.bool _:=qy;unfold cq;exact⟨SeqAt.RcAt.str_bool _ _ _,SeqAt.EqAt.str_bool _ _ _,SeqAt.RcNeAt.str_bool _ _ _⟩
  |int y=>
   obtain rfl:=Rep.str_iff.mp rx;obtain⟨tx,rfl⟩:∃t,a=Value.str _ t:=qx;obtain rfl:=aw.mp ry;obtain⟨ty,rfl⟩:∃t,b=Value.int _ t:=qy;unfold cq;exact⟨SeqAt.RcAt.str_int _ _ _ _,SeqAt.EqAt.str_int _ _ _ _,SeqAt.RcNeAt.str_int _ _ _ _⟩
  |str y=>
   obtain rfl:=Rep.str_iff.mp rx;obtain⟨tx,rfl⟩:∃t,a=Value.str _ t:=qx;obtain rfl:=Rep.str_iff.mp ry;obtain⟨ty,rfl⟩:∃t,b=Value.str _ t:=qy;unfold cq;exact⟨SeqAt.RcAt.str_str _ _ _ _,SeqAt.EqAt.str_str _ _ _ _,SeqAt.RcNeAt.str_str _ _ _ _⟩
  |lst y=>
   obtain rfl:=Rep.str_iff.mp rx;obtain⟨tx,rfl⟩:∃t,a=Value.str _ t:=qx;obtain⟨ly,_,_,rfl,rfl,_,_,_,hy,_⟩:=aZ I ry qy;unfold cq;exact⟨SeqAt.RcAt.str_list _ _ hy hu,SeqAt.EqAt.str_list _ _ hy hu,SeqAt.RcNeAt.str_list _ _ hy hu⟩
  |tup y=>
   obtain rfl:=Rep.str_iff.mp rx;obtain⟨tx,rfl⟩:∃t,a=Value.str _ t:=qx;obtain⟨ly,_,_,rfl,rfl,_,_,_,hy,_⟩:=bb I ry qy;unfold cq;exact⟨SeqAt.RcAt.str_tuple _ _ hy hu,SeqAt.EqAt.str_tuple _ _ hy hu,SeqAt.RcNeAt.str_tuple _ _ hy hu⟩
  |dic ks ds=>exact absurd rfl (d2 ks ds)|exc c=>exact absurd rfl (x2 c)|ob k c=>exact absurd rfl (o2 k c)
 |lst x=>
  cases y with
  |non=>
   obtain⟨lx,_,_,rfl,rfl,_,_,_,hx,_⟩:=aZ I rx qx;obtain rfl:=aO.mp ry;obtain rfl:b=Value.none:=qy;unfold cq;exact⟨SeqAt.RcAt.list_none  hx hu,SeqAt.EqAt.list_none  hx hu,SeqAt.RcNeAt.list_none  hx hu⟩
  |bl y=>
   obtain⟨lx,_,_,rfl,rfl,_,_,_,hx,_⟩:=aZ I rx qx;obtain rfl:=aJ.mp ry;obtain rfl:b=Value.bool _:=qy;unfold cq;exact⟨SeqAt.RcAt.list_bool _ hx hu,SeqAt.EqAt.list_bool _ hx hu,SeqAt.RcNeAt.list_bool _ hx hu⟩
  |int y=>
   obtain⟨lx,_,_,rfl,rfl,_,_,_,hx,_⟩:=aZ I rx qx;obtain rfl:=aw.mp ry;obtain⟨ty,rfl⟩:∃t,b=Value.int _ t:=qy;unfold cq;exact⟨SeqAt.RcAt.list_int _ _ hx hu,SeqAt.EqAt.list_int _ _ hx hu,SeqAt.RcNeAt.list_int _ _ hx hu⟩
  |str y=>
   obtain⟨lx,_,_,rfl,rfl,_,_,_,hx,_⟩:=aZ I rx qx;obtain rfl:=Rep.str_iff.mp ry;obtain⟨ty,rfl⟩:∃t,b=Value.str _ t:=qy;unfold cq;exact⟨SeqAt.RcAt.list_str _ _ hx hu,SeqAt.EqAt.list_str _ _ hx hu,SeqAt.RcNeAt.list_str _ _ hx hu⟩
  |lst y=>
   exact absurd ⟨rfl,rfl⟩ (n1 x y)
  |tup y=>
   obtain⟨lx,_,_,rfl,rfl,_,_,_,hx,_⟩:=aZ I rx qx;obtain⟨ly,_,_,rfl,rfl,_,_,_,hy,_⟩:=bb I ry qy;unfold cq;exact⟨SeqAt.RcAt.list_tuple  hx hy hu,SeqAt.EqAt.list_tuple  hx hy hu,SeqAt.RcNeAt.list_tuple  hx hy hu⟩
  |dic ks ds=>exact absurd rfl (d2 ks ds)|exc c=>exact absurd rfl (x2 c)|ob k c=>exact absurd rfl (o2 k c)
 |tup x=>
  cases y with
  |non=>
   obtain⟨lx,_,_,rfl,rfl,_,_,_,hx,_⟩:=bb I rx qx;obtain rfl:=aO.mp ry;obtain rfl:b=Value.none:=qy;unfold cq;exact⟨SeqAt.RcAt.tuple_none  hx hu,SeqAt.EqAt.tuple_none  hx hu,SeqAt.RcNeAt.tuple_none  hx hu⟩
  |bl y=>
   obtain⟨lx,_,_,rfl,rfl,_,_,_,hx,_⟩:=bb I rx qx;obtain rfl:=aJ.mp ry;obtain rfl:b=Value.bool _:=qy;unfold cq;exact⟨SeqAt.RcAt.tuple_bool _ hx hu,SeqAt.EqAt.tuple_bool _ hx hu,SeqAt.RcNeAt.tuple_bool _ hx hu⟩
  |int y=>
   obtain⟨lx,_,_,rfl,rfl,_,_,_,hx,_⟩:=bb I rx qx;obtain rfl:=aw.mp ry;obtain⟨ty,rfl⟩:∃t,b=Value.int _ t:=qy;unfold cq;exact⟨SeqAt.RcAt.tuple_int _ _ hx hu,SeqAt.EqAt.tuple_int _ _ hx hu,SeqAt.RcNeAt.tuple_int _ _ hx hu⟩
  |str y=>
   obtain⟨lx,_,_,rfl,rfl,_,_,_,hx,_⟩:=bb I rx qx;obtain rfl:=Rep.str_iff.mp ry;obtain⟨ty,rfl⟩:∃t,b=Value.str _ t:=qy;unfold cq;exact⟨SeqAt.RcAt.tuple_str _ _ hx hu,SeqAt.EqAt.tuple_str _ _ hx hu,SeqAt.RcNeAt.tuple_str _ _ hx hu⟩
  |lst y=>
   obtain⟨lx,_,_,rfl,rfl,_,_,_,hx,_⟩:=bb I rx qx;obtain⟨ly,_,_,rfl,rfl,_,_,_,hy,_⟩:=aZ I ry qy;unfold cq;exact⟨SeqAt.RcAt.tuple_list  hx hy hu,SeqAt.EqAt.tuple_list  hx hy hu,SeqAt.RcNeAt.tuple_list  hx hy hu⟩
  |tup y=>
   exact absurd ⟨rfl,rfl⟩ (n2 x y)
  |dic ks ds=>exact absurd rfl (d2 ks ds)|exc c=>exact absurd rfl (x2 c)|ob k c=>exact absurd rfl (o2 k c)
 |dic ks ds=>exact absurd rfl (d1 ks ds)
 |exc c=>exact absurd rfl (x1 c)
 |ob k c=>exact absurd rfl (o1 k c)
def HE(I:Inv X pins σ H s):∀(n:Nat) (A:Around),A.units+n<cLine->∀(x y:D) (v u:V) (a b:Value),bj n x=true->bj n y=true->Rep X.K H x v->Rep X.K H y u->bo v a->bo u b ->
  SeqAt.RcAt A s a b (cq x y)/\SeqAt.EqAt A s a b (cq x y)/\SeqAt.RcNeAt A s a b (!(cq x y)):=by
 have nd:∀m ks ds,bj m (.dic ks ds)=true->False:=λm ks ds h=>by cases m<;>(unfold bj at h;cases h)
 have nx:∀m x,bj m (.exc x)=true->False:=λm x h=>by cases m<;>(unfold bj at h;cases h)
 have nb:∀m k x,bj m (.ob k x)=true->False:=λm k x h=>by cases m<;>(unfold bj at h;cases h)
 intro n
 induction n with
 |zero=>
  intro A hu x y v u a b sx sy rx ry qa qb;refine uZ I (by omega) rx ry qa qb (λds ds' z=>?_) (λds ds' z=>?_) (λks ds z=>?_) (λks ds z=>?_) (λc z=>nx _ _ (z▸sx)) (λc z=>nx _ _ (z▸sy)) (λk c z=>nb _ _ _ (z▸sx)) (λk c z=>nb _ _ _ (z▸sy))
  .rw[z.1]at sx;unfold bj at sx;cases sx
  .rw[z.1]at sx;unfold bj at sx;cases sx
  .rw[z]at sx;exact nd _ _ _ sx
  .rw[z]at sy;exact nd _ _ _ sy
 |succ n ih=>
  intro A hu x y v u a b sx sy rx ry qa qb;have ih':∀(x y:D) (v u:V) (a b:Value),bj n x=true->bj n y=true->Rep X.K H x v->Rep X.K H y u->bo v a->bo u b->SeqAt.EqAt A.in1 s a b (cq x y) :=
   λx y v u a b s1 s2 r1 r2 q1 q2=>(ih A.in1 (by show A.units+1+n<cLine;omega) x y v u a b s1 s2 r1 r2 q1 q2).2.1
  by_cases t1:∃ds ds',x=.tup ds/\y=.tup ds'
  .obtain⟨xs,ys,rfl,rfl⟩:=t1
   obtain⟨l,vs,is,rfl,rfl,h1,h2,h3,h4,h5⟩:=bb I rx qa;obtain⟨m,us,js,rfl,rfl,k1,k2,k3,k4,k5⟩:=bb I ry qb;have hsx:=sx;have hsy:=sy;unfold bj at sx sy;have each:=vC (A:=A) ih' sx sy h2 k2 h3 k3;have eall:cq (.tup xs) (.tup ys)=((List.range (min is.toArray.size js.toArray.size)).all (λj=>cq (xs.getD j .non) (ys.getD j .non))&&is.toArray.size==js.toArray.size):=by
    rw[Fx];simp only[List.size_toArray,←h5,←k5]
    by_cases hl:xs.length=ys.length
    .rw[j7 xs ys hl,←hl,Nat.min_self,beq_self_eq_true,Bool.and_true]
    .rw[qm xs ys hl,beq_eq_false_iff_ne.mpr hl,Bool.and_false]
   refine⟨?_,?_,?_⟩
   .rw[eall];exact SeqAt.RcAt.tuples h4 k4 (by omega) each
   .by_cases hlm:l=m
    .subst hlm
     rw[Rep.inj I (n+1) _ _ _ hsx hsy rx ry,lS (n+1) _ hsy];exact SeqAt.EqAt.same _
    .refine SeqAt.EqAt.of_refs hlm ?_
     rw[eall];exact SeqAt.RcAt.tuples h4 k4 (by omega) each
   .rw[eall];exact SeqAt.RcNeAt.tuples h4 k4 (by omega) each
  .by_cases t2:∃ds ds',x=.lst ds/\y=.lst ds'
   .obtain⟨xs,ys,rfl,rfl⟩:=t2
    obtain⟨l,vs,is,rfl,rfl,h1,h2,h3,h4,h5⟩:=aZ I rx qa;obtain⟨m,us,js,rfl,rfl,k1,k2,k3,k4,k5⟩:=aZ I ry qb;have hsx:=sx;have hsy:=sy;unfold bj at sx sy;have each:=vC (A:=A) ih' sx sy h2 k2 h3 k3
    by_cases hl:xs.length=ys.length
    .have hsz:is.toArray.size=js.toArray.size:=by simp only[List.size_toArray];omega
     have eall:cq (.lst xs) (.lst ys)=(List.range is.toArray.size).all (λj=>cq (xs.getD j .non) (ys.getD j .non)):=by
      rw[zx];simp only[List.size_toArray,←h5];exact j7 xs ys hl
     refine⟨?_,?_,?_⟩
     .rw[eall];exact SeqAt.RcAt.lists h4 k4 hsz (by omega) each
     .by_cases hlm:l=m
      .subst hlm
       rw[Rep.inj I (n+1) _ _ _ hsx hsy rx ry,lS (n+1) _ hsy];exact SeqAt.EqAt.same _
      .refine SeqAt.EqAt.of_refs hlm ?_
       rw[eall];exact SeqAt.RcAt.lists h4 k4 hsz (by omega) each
     .rw[eall];exact SeqAt.RcNeAt.lists h4 k4 hsz (by omega) each
    .have hsz:(is.toArray.size != js.toArray.size)=true:=by simp only[List.size_toArray,bne_iff_ne,ne_eq];omega
     have eall:cq (.lst xs) (.lst ys)=false:=by rw[zx];exact qm xs ys hl
     rw[eall];refine⟨SeqAt.RcAt.lists_lengths h4 k4 hsz (by omega),?_,SeqAt.RcNeAt.lists_lengths h4 k4 hsz (by omega)⟩;refine SeqAt.EqAt.of_refs (λe=>?_) (SeqAt.RcAt.lists_lengths h4 k4 hsz (by omega));subst e;have:=Rep.inj I (n+1) _ _ _ hsx hsy rx ry;cases this;exact hl rfl
   .exact uZ I (by omega) rx ry qa qb (λds ds' z=>t2 ⟨ds,ds',z⟩) (λds ds' z=>t1 ⟨ds,ds',z⟩) (λks ds z=>by rw[z]at sx;exact nd _ _ _ sx) (λks ds z=>by rw[z]at sy;exact nd _ _ _ sy) (λc z=>nx _ _ (z▸sx)) (λc z=>nx _ _ (z▸sy)) (λk c z=>nb _ _ _ (z▸sx)) (λk c z=>nb _ _ _ (z▸sy))
end
section
variable {X:Cx}{E:XK}
def kc(x y:D):aj D:=if bj 40 x=true/\bj 40 y=true then .ok (.bl (cq x y)) else .stuck
def iG(x y:D):aj D:=if bj 40 x=true/\bj 40 y=true then .ok (.bl (!(cq x y))) else .stuck
def JS(K:W.Frag):R2:=λv u H Q=>∃x y,Rep K H x v/\Rep K H y u/\bj 40 x=true/\bj 40 y=true/\Q (.bl (cq x y)) H
def JN(K:W.Frag):R2:=λv u H Q=>∃x y,Rep K H x v/\Rep K H y u/\bj 40 x=true/\bj 40 y=true/\Q (.bl (!(cq x y))) H
def dr(hu:X.A.units+64<cLine):ez X (compareOp .Eq) (JS X.K):=by
 intro pins s σ H x y v u Q I rx ry h;obtain⟨d,d',h1,h2,s1,s2,q⟩:=h;exact(HE I 40 X.A (by omega) d d' x y v u s1 s2 h1 h2 rx ry).1 _ _ _ _ ⟨.bl _,H,I,rfl,q⟩
def d6(hu:X.A.units+64<cLine):ez X (compareOp .NotEq) (JN X.K):=by
 intro pins s σ H x y v u Q I rx ry h;obtain⟨d,d',h1,h2,s1,s2,q⟩:=h;exact(HE I 40 X.A (by omega) d d' x y v u s1 s2 h1 h2 rx ry).2.2 _ _ _ _ ⟨.bl _,H,I,rfl,q⟩
def fq:q9 X.K E (JS X.K) kc:=by
 intro x y v u H Ha Q hs r1 r2 q;unfold kc at q
 by_cases c:bj 40 x=true/\bj 40 y=true
 .rw[if_pos c]at q
  exact⟨x,y,r1.mono hs,r2.mono hs,c.1,c.2,q _ H Ha (bc.refl hs) (aJ.mpr rfl)⟩
 .rw[if_neg c]at q;exact q.elim
def fY:q9 X.K E (JN X.K) iG:=by
 intro x y v u H Ha Q hs r1 r2 q;unfold iG at q
 by_cases c:bj 40 x=true/\bj 40 y=true
 .rw[if_pos c]at q
  exact⟨x,y,r1.mono hs,r2.mono hs,c.1,c.2,q _ H Ha (bc.refl hs) (aJ.mpr rfl)⟩
 .rw[if_neg c]at q;exact q.elim
open Classical in
noncomputable def jJ(K:W.Frag) (H:Hp) (ds:ac) (x:D) (u:Value):Bool :=
 if h:∃d,d∈ds/\∃v,Rep K H d v/\bo v u then cq h.choose x else false
def zw(I:Inv X pins σ H s)(sd:ds.all (bj 40)=true)(hd:d∈ds)(r:Rep X.K H d v)(q:bo v u):jJ X.K H ds x u=cq d x:=by
 have h:∃d,d∈ds/\∃v,Rep X.K H d v/\bo v u:=⟨d,hd,v,r,q⟩
 unfold jJ;rw[dif_pos h];obtain⟨h1,v',h2,h3⟩:=h.choose_spec;have e:v'=v:=h3.inj q;subst e;rw[Rep.inj I 40 _ _ _ (List.all_eq_true.mp sd _ h1) (List.all_eq_true.mp sd _ hd) h2 r]
def xq(K:W.Frag)(neg:Bool):R2:=λv u H Q=>∃x ds,Rep K H x v/\(Rep K H (.lst ds) u∨Rep K H (.tup ds) u)/\bj 40 x=true/\ds.all (bj 40)=true/\Q (.bl (if neg then !(ds.any λd=>cq d x) else ds.any λd=>cq d x)) H
theorem jh{pins:List (Addr×Obj)}{σ:L2.St}{H:Hp}{s:Shared}(I:Inv X pins σ H s){x:D}{es:ac}(se:es.all (bj 40)=true):∀{ds:ac}{vs:ad}{us:List Value},(∀d∈ds,d∈es)->Reps X.K H ds vs->bD vs us->us.any (jJ X.K H es x)=ds.any λd=>cq d x
 |[],_,_,_,h,q=>by
  rw[Reps.nil_iff.mp h]at q;cases q;rfl
 |d::ds,_,_,hm,h,q=>by
  obtain⟨v,r,rfl,h1,h2⟩:=aC.mp h;cases q with
  |cons q1 q2=>
   rw[List.any_cons,List.any_cons,zw I se (hm d List.mem_cons_self) h1 q1,jh I se (λx hx=>hm x (List.mem_cons_of_mem _ hx)) h2 q2]
theorem gH{pins:List (Addr×Obj)}{σ:L2.St}{H:Hp}{s:Shared}(I:Inv X pins σ H s)(hu:X.A.units+64<cLine){x:D}{v:V}{u:Value}(sx:bj 40 x=true)(rx:Rep X.K H x v)(qx:bo v u){es:ac}(se:es.all (bj 40)=true):∀{ds:ac}{vs:ad}{us:List Value},(∀d∈ds,d∈es)->Reps X.K H ds vs->bD vs us->∀y∈us,SeqAt.EqAt X.A.in1 s y u (jJ X.K H es x y)
 |[],_,_,_,h,q=>λy hy=>by
  rw[Reps.nil_iff.mp h]at q;cases q;cases hy
 |d::ds,_,_,hm,h,q=>λy hy=>by
  obtain⟨w,r,rfl,h1,h2⟩:=aC.mp h;cases q with
  |cons q1 q2=>
   rcases List.mem_cons.mp hy with rfl|hy
   .rw[zw I se (hm d List.mem_cons_self) h1 q1]
    exact(HE I 40 X.A.in1 (by show X.A.units+1+40<cLine;omega) d x w v _ u (List.all_eq_true.mp se _ (hm d List.mem_cons_self)) sx h1 rx q1 qx).2.1
   .exact gH I hu sx rx qx se (λx hx=>hm x (List.mem_cons_of_mem _ hx)) h2 q2 y hy
def HZ(hu:X.A.units+64<cLine):ez X (compareOp .In) (xq X.K false):=by
 intro pins s σ H x y v u Q I rx ry h;obtain⟨d,ds,h1,h2,s1,s2,q⟩:=h;rcases h2 with h2|h2
 .obtain⟨a,vs,its,rfl,rfl,k1,k2,k3,k4,k5⟩:=aZ I h2 ry
  refine SeqAt.in_listAt (jJ X.K H ds d) k4 (λw hw=>gH I hu s1 h1 rx s2 (λ_ z=>z) k2 k3 w (by simpa using hw)) ⟨.bl _,H,I,rfl,?_⟩;rw[show its.toArray.any (jJ X.K H ds d)=its.any (jJ X.K H ds d) by simp,jh I s2 (λ_ z=>z) k2 k3];exact q
 .obtain⟨a,vs,its,rfl,rfl,k1,k2,k3,k4,k5⟩:=bb I h2 ry
  refine SeqAt.in_tupleAt (jJ X.K H ds d) k4 (λw hw=>gH I hu s1 h1 rx s2 (λ_ z=>z) k2 k3 w (by simpa using hw)) ⟨.bl _,H,I,rfl,?_⟩;rw[show its.toArray.any (jJ X.K H ds d)=its.any (jJ X.K H ds d) by simp,jh I s2 (λ_ z=>z) k2 k3];exact q
def AH(hu:X.A.units+64<cLine):ez X (compareOp .NotIn) (xq X.K true):=by
 intro pins s σ H x y v u Q I rx ry h;obtain⟨d,ds,h1,h2,s1,s2,q⟩:=h;rcases h2 with h2|h2
 .obtain⟨a,vs,its,rfl,rfl,k1,k2,k3,k4,k5⟩:=aZ I h2 ry
  refine SeqAt.notIn_listAt (jJ X.K H ds d) k4 (λw hw=>gH I hu s1 h1 rx s2 (λ_ z=>z) k2 k3 w (by simpa using hw)) ⟨.bl _,H,I,rfl,?_⟩;rw[show its.toArray.any (jJ X.K H ds d)=its.any (jJ X.K H ds d) by simp,jh I s2 (λ_ z=>z) k2 k3];exact q
 .obtain⟨a,vs,its,rfl,rfl,k1,k2,k3,k4,k5⟩:=bb I h2 ry
  refine SeqAt.notIn_tupleAt (jJ X.K H ds d) k4 (λw hw=>gH I hu s1 h1 rx s2 (λ_ z=>z) k2 k3 w (by simpa using hw)) ⟨.bl _,H,I,rfl,?_⟩;rw[show its.toArray.any (jJ X.K H ds d)=its.any (jJ X.K H ds d) by simp,jh I s2 (λ_ z=>z) k2 k3];exact q
def Kb(i j:Str):Bool:=!(Builtin.Str.occurrences j i 0 j.length 1).isEmpty
noncomputable def D5(x y:D):Option Bool:=match y with
 |.lst ds=>if bj 40 x=true/\ds.all (bj 40)=true then some (ds.any λd=>cq d x) else none
 |.tup ds=>if bj 40 x=true/\ds.all (bj 40)=true then some (ds.any λd=>cq d x) else none
 |.str j=>match x with
  |.str i=>some (Kb i j)
  |_=>none
 |_=>none
def Br(x y:D):aj D:=match D5 x y with
 |some b=>.ok (.bl b)
 |none=>.stuck
def cO(x y:D):aj D:=match D5 x y with
 |some b=>.ok (.bl (!b))
 |none=>.stuck
def B6(neg:Bool):R2:=λx y H Q=>∃i j,x=.str i/\y=.str j/\Q (.bl (if neg then !(Kb i j) else Kb i j)) H
def yU(hu:X.A.units+64<cLine):ez X (compareOp .In) (λv u H Q=>xq X.K false v u H Q∨B6 false v u H Q):=ez.or (HZ hu) (by
 intro pins s σ H x y v u Q I rx ry h;obtain⟨i,j,rfl,rfl,q⟩:=h;exact AI pins s σ H _ _ v u Q I rx ry ⟨i,j,rfl,rfl,q⟩)
def gC(hu:X.A.units+64<cLine):ez X (compareOp .NotIn) (λv u H Q=>xq X.K true v u H Q∨B6 true v u H Q):=ez.or (AH hu) (by
 intro pins s σ H x y v u Q I rx ry h;obtain⟨i,j,rfl,rfl,q⟩:=h;exact tY pins s σ H _ _ v u Q I rx ry ⟨i,j,rfl,rfl,q⟩)
def vk(hs:aB Ha H)(r1:Rep X.K Ha x v)(r2:Rep X.K Ha y u)
  (q:post X.K E H Ha (match D5 x y with|some b=>.ok (.bl (if neg then !b else b))|none=>.stuck) Q):xq X.K neg v u H Q∨B6 neg v u H Q:=by
 cases y with
 |lst ds=>
  simp only[D5]at q
  by_cases c:bj 40 x=true/\ds.all (bj 40)=true
  .rw[if_pos c]at q
   exact .inl ⟨x,ds,r1.mono hs,.inl (r2.mono hs),c.1,c.2,q _ H Ha (bc.refl hs) (aJ.mpr rfl)⟩
  .rw[if_neg c]at q;exact q.elim
 |tup ds=>
  simp only[D5]at q
  by_cases c:bj 40 x=true/\ds.all (bj 40)=true
  .rw[if_pos c]at q
   exact .inl ⟨x,ds,r1.mono hs,.inr (r2.mono hs),c.1,c.2,q _ H Ha (bc.refl hs) (aJ.mpr rfl)⟩
  .rw[if_neg c]at q;exact q.elim
 |str j=>
  cases x with|str i=>exact .inr ⟨i,j,Rep.str_iff.mp r1,Rep.str_iff.mp r2,q _ H Ha (bc.refl hs) (aJ.mpr rfl)⟩| _=>exact q.elim
 |_=>exact q.elim
def yY:q9 X.K E (λv u H Q=>xq X.K false v u H Q∨B6 false v u H Q) Br:=λx y v u H Ha Q hs r1 r2 q=>vk (neg:=false) (E:=E) hs r1 r2 (by
 unfold Br at q;cases e:D5 x y with
 |none=>rw[e]at q;exact q
 |some b=>rw[e]at q;exact q)
def gD:q9 X.K E (λv u H Q=>xq X.K true v u H Q∨B6 true v u H Q) cO:=λx y v u H Ha Q hs r1 r2 q=>vk (neg:=true) (E:=E) hs r1 r2 (by
 unfold cO at q;cases e:D5 x y with
 |none=>rw[e]at q;exact q
 |some b=>rw[e]at q;exact q)
end
@[irreducible] def B9:Nat:=2 ^ 9000
@[irreducible] def oa:Nat:=2 ^ 13500
@[irreducible] def wX:Nat:=2 ^ 60000
theorem Ah:B9=2 ^ 9000:=by unfold B9;rfl
def mM:oa=2 ^ 13500:=by unfold oa;rfl
def mL:wX=2 ^ 60000:=by unfold wX;rfl
def o4{n k:Nat}(h:n<2 ^ k)(hk:0<k):n.log2<k:=by
 by_cases h0:n=0
 .rw[h0]
  have:Nat.log2 0=0:=by decide
  omega
 .exact(Nat.log2_lt h0).mpr h
def Kf(h:y.natAbs<B9):Builtin.divisionGoesByPylong x y=false:=by
 rw[Ah]at h;exact PyProof.noPylong_of_log2 (o4 h (by omega))
def H0(h:x.natAbs<oa):Builtin.divisionGoesByPylong x y=false:=by
 rw[mM]at h;have hx:x.natAbs.log2<13500:=o4 h (by omega);show(decide ((if y==0 then 0 else y.natAbs.log2 / 30+1) > 300)&&decide ((if x==0 then 0 else x.natAbs.log2 / 30+1) > (if y==0 then 0 else y.natAbs.log2 / 30+1)+150))=false;have k:(if x==0 then 0 else x.natAbs.log2 / 30+1)<=450:=by
  by_cases hx0:(x==0)=true
  .rw[if_pos hx0];omega
  .rw[if_neg hx0];omega
 by_cases c:(if y==0 then 0 else y.natAbs.log2 / 30+1) > 300
 .rw[Bool.and_eq_false_iff];right;exact decide_eq_false (by omega)
 .rw[Bool.and_eq_false_iff];left;exact decide_eq_false c
def eC(i j:Int):Bool:=decide (j≠0)&&(decide (j.natAbs<B9)||decide (i.natAbs<oa))
def dy(i j:Int):Bool:=decide (i.natAbs<wX)&&decide (j.natAbs<wX)
def eC.ok(h:eC i j=true):j≠0/\Builtin.divisionGoesByPylong i j=false:=by
 unfold eC at h;rw[Bool.and_eq_true,Bool.or_eq_true]at h;refine⟨of_decide_eq_true h.1,?_⟩;rcases h.2 with h|h
 .exact Kf (of_decide_eq_true h)
 .exact H0 (of_decide_eq_true h)
def dy.ok(h:dy i j=true):IntMulOk i j:=by
 unfold dy at h;rw[Bool.and_eq_true]at h;have h1:=of_decide_eq_true h.1;have h2:=of_decide_eq_true h.2;rw[mL]at h1 h2;exact PyProof.Rows.mulOk_of_bits (m:=60000) (n:=60000) (PySem.intBits_le_iff.mpr h1) (PySem.intBits_le_iff.mpr h2) (by decide)
section
variable {X:Cx}{E:XK}{e a b c:Expr}{es:List Expr}{f g k:al}{fa:Ev->aj (ac)}{pos:Pos}
def bf{K:W.Frag}(hs:aB Ha H)(q:post K E H Ha (.ok d) Q)(r:Rep K Ha d v):Q v H:=q v H Ha (bc.refl hs) r
def vE(c:Int->Int->Bool)(g:Int->Int->D)(x y:D):aj D:=match x,y with
 |.int i,.int j=>if c i j=true then .ok (g i j) else .stuck
 |_,_=>.stuck
def ua{c:Int->Int->Bool}{g:Int->Int->D}(hc:∀i j,c i j=true->C i j)(hg:∀K H i j,Rep K H (g i j) (gv i j)):q9 X.K E (rI C gv) (vE c g):=by
 intro x y v u H Ha Q hs r1 r2 q;unfold vE at q;cases x with
 |int i=>
  cases y with
  |int j=>
   by_cases h:c i j=true
   .simp only[if_pos h]at q
    exact⟨i,j,aw.mp r1,aw.mp r2,hc i j h,bf hs q (hg _ _ i j)⟩
   .simp only[if_neg h]at q;exact q.elim
  |_=>exact q.elim
 |_=>exact q.elim
def cM{g:Int->Int->D}(hg:∀K H i j,Rep K H (g i j) (gv i j)):q9 X.K E (D2 gv) (vE (λ_ _=>true) g):=by
 intro x y v u H Ha Q hs r1 r2 q;unfold vE at q;cases x with
 |int i=>
  cases y with|int j=>simp only[if_pos]at q;exact⟨i,j,aw.mp r1,aw.mp r2,bf hs q (hg _ _ i j)⟩| _=>exact q.elim
 |_=>exact q.elim
def ri{K:W.Frag}(n:Int):Rep K H (.int n) (.int n):=aw.mpr rfl
def rb{K:W.Frag}(n:Bool):Rep K H (.bl n) (.bl n):=aJ.mpr rfl
abbrev rD:=vE (λ_ _=>true) λi j=>.int (i-j)
abbrev lW:=vE eC λi j=>.int (i.fdiv j)
abbrev cX:=vE (λ_ j=>decide (j≠0)) λi j=>.int (i.fmod j)
abbrev rE:=vE (λi j=>decide (0<=j)&&decide (j<=1000000)&&decide (i.natAbs<18446744073709551616)) λi j=>.int (i ^ j.toNat)
abbrev GK:=vE (λ_ _=>true) λi j=>.bl (decide (i<j))
abbrev GL:=vE (λ_ _=>true) λi j=>.bl (decide (i<=j))
abbrev GN:=vE (λ_ _=>true) λi j=>.bl (decide (j<i))
abbrev Le:=vE (λ_ _=>true) λi j=>.bl (decide (j<=i))
def E1:ez X (binaryOp .Mult) (rI IntMulOk λi j=>.int (i*j)):=Lb λ_ _ _ _ _ _ _ hc q=>mul_int q hc
def E2:ez X (binaryOp .FloorDiv) (rI (λi j=>j≠0/\Builtin.divisionGoesByPylong i j=false) λi j=>.int (i.fdiv j)):=Lb λ_ _ _ _ _ _ _ hc q=>floordiv_int hc.1 q (.inl hc.2)
def uB(ha:DE X E a f)(hb:DE X E b g):DE X E (.BinOp a .Sub b pos) (aa f g rD):=sP HX (cM λ_ _ _ _=>ri _) ha hb
def i8(ha:DE X E a f)(hb:DE X E b g):DE X E (.BinOp a .FloorDiv b pos) (aa f g lW):=sP E2 (ua (λ_ _ h=>eC.ok h) λ_ _ _ _=>ri _) ha hb
def fg(ha:DE X E a f)(hb:DE X E b g):DE X E (.BinOp a .Mod b pos) (aa f g cX):=sP yT (ua (λ_ _ h=>of_decide_eq_true h) λ_ _ _ _=>ri _) ha hb
def xT(ha:DE X E a f)(hb:DE X E b g):DE X E (.BinOp a .Pow b pos) (aa f g rE):=sP HY (ua (λi j h=>by
 rw[Bool.and_eq_true,Bool.and_eq_true]at h;exact⟨of_decide_eq_true h.1.1,of_decide_eq_true h.1.2,of_decide_eq_true h.2⟩) λ_ _ _ _=>ri _) ha hb
def nm(h1:op≠.In:=by decide)(h2:op≠.NotIn:=by decide):behindInMarks op b=false:=CB _ h1 h2
def FL(x:D):aj D:=match x with
 |.int i=>.ok (.int (-i))
 |_=>.stuck
def Dz(ha:DE X E a f):DE X E (.UnaryOp .USub a pos) (b7 f FL):=KO G4 (by
 intro x v H Ha Q hs r q;cases x with
 |int i=>exact⟨i,aw.mp r,bf hs q (ri _)⟩
 |_=>exact q.elim) ha
def yX:ez X (binaryOp .Add) (λx y H Q=>∃l b xs zs,x=.ref l/\y=.ref b/\eN X.K H l xs/\eN X.K H b zs/\xs.length+zs.length<=sizeLine/\∀p,H p=none->Q (.ref p) (upd H p (.lst (xs++zs)))):=by
 intro pins s σ H x y v u Q I rx ry h;obtain⟨l,b,xs,zs,rfl,rfl,hH,hB,hz,q⟩:=h;cases rx;cases ry;obtain⟨its,r,pl,z⟩:=I.list hH;obtain⟨its2,r2,pl2,z2⟩:=I.list hB;obtain⟨⟨cls,dd,data,sl⟩,ho,hc,n,hd⟩:=pl.isList;obtain⟨⟨cls2,dd2,data2,sl2⟩,ho2,hc2,n2,hd2⟩:=pl2.isList;simp only at hc hd hc2 hd2;subst hc hd hc2 hd2;have e:its.toArray++its2.toArray=(its++its2).toArray:=by simp
 have l1:=r.length;have l2:=r2.length;refine concat_meets ⟨_,ho,rfl⟩ ⟨_,ho2,rfl⟩ noFill_list_add seq_list_add PySem.F.slot_list_add PySem.F.entry_list_add (PySem.F.args_list_add_2 _ _) (list_addW l b its.toArray its2.toArray n n2 dd dd2 sl sl2 (by simp only[List.size_toArray];omega)) ⟨ho,ho2,?_⟩;rw[e];exact⟨.ref _,_,I.lnew (t':=s.toks) (r.append r2) (by rw[List.length_append];omega),rfl,q _ I.fresh⟩
noncomputable def cn(x y:D):aj D:=match x,y with
 |.int i,.int j=>.ok (.int (i+j))
 |.str i,.str j=>if i.length+j.length<=line then .ok (.str (i++j)) else .stuck
 |.lst ds,.lst es=>if ds.length+es.length<=line then .ok (.lst (ds++es)) else .stuck
 |.tup ds,.tup es=>if ds.isEmpty=false/\ds.length+es.length<=line then .ok (.tup (ds++es)) else .stuck
 |_,_=>.stuck
def dR(ha:DE X E a f)(hb:DE X E b g):DE X E (.BinOp a .Add b pos) (aa f g cn):=sP (ez.or Cw (ez.or oP (ez.or yX yW))) (by
 intro x y v u H Ha Q hs r1 r2 q;unfold cn at q;cases x with
 |int i=>
  cases y with|int j=>exact .inl ⟨i,j,aw.mp r1,aw.mp r2,bf hs q (ri _)⟩| _=>exact q.elim
 |str i=>
  cases y with
  |str j=>
   by_cases h:i.length+j.length<=line
   .simp only[if_pos h]at q
    exact .inr (.inl ⟨i,j,Rep.str_iff.mp r1,Rep.str_iff.mp r2,c3 h,bf hs q (Rep.str_iff.mpr rfl)⟩)
   .simp only[if_neg h]at q;exact q.elim
  |_=>exact q.elim
 |lst ds=>
  cases y with
  |lst es=>
   by_cases h:ds.length+es.length<=line
   .simp only[if_pos h]at q
    obtain⟨l,vs,rfl,h1,h2⟩:=aE.mp r1;obtain⟨m,us,rfl,k1,k2⟩:=aE.mp r2;refine .inr (.inr (.inl ⟨l,m,vs,us,rfl,rfl,aB.sqL hs h1,aB.sqL hs k1,by rw[←h2.length,←k2.length];exact c3 h,λp hp=>?_⟩));exact q _ _ _ (bu hs hp) (aE.mpr ⟨p,_,rfl,eN.of aI,(h2.app k2).mono (bu hs hp).z⟩)
   .simp only[if_neg h]at q;exact q.elim
  |_=>exact q.elim
 |tup ds=>
  cases y with
  |tup es=>
   by_cases h:ds.isEmpty=false/\ds.length+es.length<=line
   .simp only[if_pos h]at q
    obtain⟨l,vs,rfl,h1,h2⟩:=aK.mp r1;obtain⟨m,us,rfl,k1,k2⟩:=aK.mp r2;refine .inr (.inr (.inr ⟨l,m,vs,us,rfl,rfl,aB.sqT hs h1,aB.sqT hs k1,λz=>?_,by rw[←h2.length,←k2.length];exact c3 h.2,λz=>?_,λz p hp=>?_⟩))
    .have:=h2.length
     rw[z]at this;have e:ds=[]:=List.length_eq_zero_iff.mp this;rw[e]at h;exact absurd h.1 (by decide)
    .have:=k2.length
     rw[z]at this;have e:es=[]:=List.length_eq_zero_iff.mp this;rw[e,List.append_nil]at q;exact bf hs q r1
    .exact q _ _ _ (bu hs hp) (aK.mpr ⟨p,_,rfl,ji.of aI,(h2.app k2).mono (bu hs hp).z⟩)
   .simp only[if_neg h]at q;exact q.elim
  |_=>exact q.elim
 |_=>exact q.elim) ha hb
noncomputable def aM(x y:D):aj D:=match y with
 |.int i=>match x with
  |.lst ds=>match atI ds i with
   |some d=>.ok d
   |none=>.stuck
  |.tup ds=>match atI ds i with
   |some d=>.ok d
   |none=>.stuck
  |.str z=>if z.length<=line then match atI z.cps.toList i with
   |some c=>.ok (.str ⟨#[c]⟩)
   |none=>.stuck else .stuck
  |_=>.stuck
 |_=>.stuck
def Reps.atI{K:W.Frag}(h:Reps K H ds vs)(e:atI ds i=some d):∃v,L2.atI vs i=some v/\Rep K H d v:=by
 unfold L2.atI at e ⊢;rw[←h.length];cases q:wW ds.length i with
 |none=>rw[q]at e;cases e
 |some j=>
  rw[q]at e;exact h.get e
def Gm:q9 X.K E (Mp X.K) aM:=by
 intro x y v u H Ha Q hs r1 r2 q;unfold aM at q;cases y with
 |int i=>
  cases x with
  |lst ds=>
   obtain⟨l,vs,rfl,h1,h2⟩:=aE.mp r1;cases e:atI ds i with
   |none=>simp only[e]at q;exact q.elim
   |some d=>
    simp only[e]at q;obtain⟨w,e1,e2⟩:=h2.atI e;exact .inl ⟨l,vs,i,w,rfl,aw.mp r2,aB.sqL hs h1,e1,bf hs q e2⟩
  |tup ds=>
   obtain⟨l,vs,rfl,h1,h2⟩:=aK.mp r1;cases e:atI ds i with
   |none=>simp only[e]at q;exact q.elim
   |some d=>
    simp only[e]at q;obtain⟨w,e1,e2⟩:=h2.atI e;exact .inr (.inl ⟨l,vs,i,w,rfl,aw.mp r2,aB.sqT hs h1,e1,bf hs q e2⟩)
  |str z=>
   by_cases hz:z.length<=line
   .simp only[if_pos hz]at q
    cases e:atI z.cps.toList i with
    |none=>simp only[e]at q;exact q.elim
    |some c=>
     simp only[e]at q;exact .inr (.inr ⟨z,i,c,Rep.str_iff.mp r1,aw.mp r2,c3 hz,e,bf hs q (Rep.str_iff.mpr rfl)⟩)
   .simp only[if_neg hz]at q;exact q.elim
  |_=>exact q.elim
 |_=>exact q.elim
def ar(ha:DE X E a f)(hb:DE X E b g)(hs:ix b:=by intro _ _;rfl):DE X E (.Subscript a b pos) (aa f g aM):=KQ CS Gm ha hb hs
def fu:Ev->aj (Option Int):=λ_=>.ok none
def eP(f:al):Ev->aj (Option Int):=λρ=>(f ρ).bind λx=>match x with
 |.int i=>.ok (some i)
 |_=>.stuck
def LG(K:W.Frag)(E:XK)(f:Ev->aj (Option Int)):TO:=λσ H Q=>∃Ha ρ,aB Ha H/\Reads K Ha σ ρ/\match f ρ with
 |.ok o=>∀H' Ha',bc H Ha H' Ha'->Q o H'
 |.exn x=>∀C ox H' Ha',bc H Ha H' Ha'->Ag K Ha' x C ox->E C ox H'
 |.stuck=>False
structure DO (X:Cx) (E:XK) (e:Option Expr) (f:Ev->aj (Option Int)):Prop where
 o:PO X e (LG X.K E f)
def yK(h:PO X eo t)(w:∀σ H Q,t' σ H Q->t σ H Q):PO X eo t':=λpins s σ H Q I q=>h pins s σ H Q I (w σ H Q q)
def nW:DO X E none fu:=⟨yK EN λσ H Q ⟨Ha,ρ,hs,hr,q⟩=>q H Ha (bc.refl hs)⟩
def nV(ha:DE X E a f):DO X E (some a) (eP f):=by
 refine⟨?_⟩;refine yK (EM ha.o) λσ H Q z9=>?_;obtain⟨Ha,ρ,hs,hr,q⟩:=z9;refine⟨Ha,ρ,hs,hr,?_⟩
 unfold eP at q;cases e1:f ρ with
 |stuck|exn x=>rw[e1]at q;exact q
 |ok d=>
  rw[e1]at q;intro v H1 H01 g1 r1;cases d with|int i=>exact⟨i,aw.mp r1,q H1 H01 g1⟩| _=>exact q.elim
def rG(xs:ac)(lo hi:Option Int):ac:=(xs.drop (HT.sIx xs.length 0 lo)).take (HT.sIx xs.length xs.length hi-HT.sIx xs.length 0 lo)
def Reps.cut{K:W.Frag}(h:Reps K H ds vs)(lo hi:Option Int):Reps K H (rG ds lo hi) (wG vs lo hi):=by
 unfold rG wG;rw[←h.length];exact(h.drop _).take _
def uR{lo hi:Ev->aj (Option Int)}{m:D->Option Int->Option Int->aj D}
  (ho:∀x v l h H Ha Q,aB Ha H->Rep X.K Ha x v->post X.K E H Ha (m x l h) Q->r v l h H Q)(σ:L2.St)(H:Hp)(Q:VK)
  (h:tD X.K E (λρ=>(f ρ).bind λx=>(lo ρ).bind λl=>(hi ρ).bind λh=>m x l h) σ H Q):Ml r (tD X.K E f) (LG X.K E lo) (LG X.K E hi) σ H Q:=by
 obtain⟨Ha,ρ,hs,hr,q⟩:=h;refine⟨Ha,ρ,hs,hr,?_⟩;replace q:post X.K E H Ha ((f ρ).bind λx=>(lo ρ).bind λl=>(hi ρ).bind λh=>m x l h) Q:=q;cases e1:f ρ with
 |stuck|exn x=>rw[e1]at q;exact q
 |ok x=>
  rw[e1]at q;intro v H1 H01 g1 r1;refine⟨H01,ρ,g1.sub,hr.mono g1.z,?_⟩;replace q:post X.K E H Ha ((lo ρ).bind λl=>(hi ρ).bind λh=>m x l h) Q:=q;replace q:=q.grow g1;cases e2:lo ρ with
  |stuck|exn x=>rw[e2]at q;exact q
  |ok l=>
   rw[e2]at q;intro H2 H02 g2;refine⟨H02,ρ,g2.sub,(hr.mono g1.z).mono g2.z,?_⟩;replace q:post X.K E H1 H01 ((hi ρ).bind λh=>m x l h) Q:=q;replace q:=q.grow g2;cases e3:hi ρ with
   |stuck|exn x=>rw[e3]at q;exact q
   |ok h=>
    rw[e3]at q;intro H3 H03 g3;exact ho x v l h H3 H03 Q g3.sub ((r1.mono g2.z).mono g3.z) (post.grow (r:=m x l h) q g3)
def m1(m:D->aj D)(ds:ac):aj D:=match ds with
 |[x]=>m x
 |_=>.stuck
def m2(m:D->D->aj D)(ds:ac):aj D:=match ds with
 |[x,y]=>m x y
 |_=>.stuck
def sV(h:∀x v H Ha Q,aB Ha H->Rep X.K Ha x v->post X.K E H Ha (m x) Q->r [v] H Q):iF X E r (m1 m):=by
 intro ds vs H Ha Q hs hr q;unfold m1 at q
 match ds,hr,q with
 |[x],hr,q=>
  obtain⟨v,r',rfl,h1,h2⟩:=aC.mp hr;rw[Reps.nil_iff.mp h2];exact h x v H Ha Q hs h1 q
 |[],_,q=>exact q.elim
 |_::_::_,_,q=>exact q.elim
def GP(h:∀x y v u H Ha Q,aB Ha H->Rep X.K Ha x v->Rep X.K Ha y u->post X.K E H Ha (m x y) Q->r [v,u] H Q):iF X E r (m2 m):=by
 intro ds vs H Ha Q hs hr q;unfold m2 at q
 match ds,hr,q with
 |[x,y],hr,q=>
  obtain⟨v,r',rfl,h1,h2⟩:=aC.mp hr;obtain⟨u,r'',rfl,h3,h4⟩:=aC.mp h2;rw[Reps.nil_iff.mp h4];exact h x y v u H Ha Q hs h1 h3 q
 |[],_,q=>exact q.elim
 |[_],_,q=>exact q.elim
 |_::_::_::_,_,q=>exact q.elim
def Bb(x:D):aj D:=match x with
 |.int i=>.ok (.int (if i<0 then -i else i))
 |_=>.stuck
def IE(x y:D):aj D:=match x,y with
 |.int i,.int j=>.ok (.int (if j > i then j else i))
 |_,_=>.stuck
def dm(x:D):aj D:=match x with
 |.lst ds=>.ok (.int ds.length)
 |.tup ds=>.ok (.int ds.length)
 |.str z=>if z.length<=line then .ok (.int z.length) else .stuck
 |_=>.stuck
def ka(x:D):aj D:=match x with
 |.int i=>.ok (.int i)
 |.bl b=>.ok (.int (if b then 1 else 0))
 |_=>.stuck
def xY:iF X E (λxs H Q=>∃i,xs=[.int i]/\Q (.int (if i<0 then -i else i)) H) (m1 Bb):=sV λx v H Ha Q hs r q=>by
 cases x with|int i=>exact⟨i,by rw[aw.mp r],bf hs q (ri _)⟩| _=>exact q.elim
def IJ:iF X E (λxs H Q=>∃i j,xs=[.int i,.int j]/\Q (.int (if j > i then j else i)) H) (m2 IE):=GP λx y v u H Ha Q hs r r' q=>by
 cases x with
 |int i=>
  cases y with|int j=>exact⟨i,j,by rw[aw.mp r,aw.mp r'],bf hs q (ri _)⟩| _=>exact q.elim
 |_=>exact q.elim
def cP:iF X E (λxs H Q=>∃x n,xs=[x]/\Jb X.K x H n/\Q (.int n) H) (m1 dm):=sV λx v H Ha Q hs r q=>by
 cases x with
 |lst ds=>
  obtain⟨p,vs,rfl,h1,h2⟩:=aE.mp r;refine⟨_,vs.length,rfl,.inl ⟨vs,aB.sqL hs h1,rfl⟩,?_⟩;rw[←h2.length];exact bf hs q (ri _)
 |tup ds=>
  obtain⟨p,vs,rfl,h1,h2⟩:=aK.mp r;refine⟨_,vs.length,rfl,.inr ⟨vs,aB.sqT hs h1,rfl⟩,?_⟩;rw[←h2.length];exact bf hs q (ri _)
 |str z=>
  unfold dm at q
  by_cases hz:z.length<=line
  .simp only[if_pos hz]at q
   rw[Rep.str_iff.mp r];exact⟨_,z.length,rfl,⟨c3 hz,rfl⟩,bf hs q (ri _)⟩
  .simp only[if_neg hz]at q;exact q.elim
 |_=>exact q.elim
def IK:iF X E (λxs H Q=>(∃i,xs=[.int i]/\Q (.int i) H)∨∃k,xs=[.bl k]/\Q (.int (if k then 1 else 0)) H) (m1 ka):=sV λx v H Ha Q hs r q=>by
 cases x with|int i=>exact .inl ⟨i,by rw[aw.mp r],bf hs q (ri _)⟩|bl i=>exact .inr ⟨i,by rw[aJ.mp r],bf hs q (ri _)⟩| _=>exact q.elim
def DB(hc:iE X (.type T) r)(hd:iF X E r m)(hg:Gl X x)(hm:X.mg x=none)(hv:bootBuiltins x=some (.type T))(ha:DA X E (e::es) fa)(hn:x≠"__name__":=by decide)(hdb:(x==("__debug__":Str))=false:=by decide)
  (he:starEach (e::es) X.env=(false,eval e X.env)::starEach es X.env:=by exact bA rfl)(hpl:(backTo pos (starEach es X.env)).any (·.1)=false:=by exact cf rfl):DE X E (.Call (.Name x p) (e::es) [] pos) (au fa m) :=
 ⟨aX (AF hc hg hm hv ha.o hn hdb he hpl) (jG hd)⟩
def sv:D->Bool
 |.non=>true
 |_=>false
def eV(x y:D):aj D:=match y with
 |.non=>.ok (.bl (sv x))
 |_=>.stuck
def cU(x y:D):aj D:=match y with
 |.non=>.ok (.bl (!(sv x)))
 |_=>.stuck
def Rep.is_non{K:W.Frag}(r:Rep K H x v):decide (v=.non)=sv x:=by
 cases x with|non=>rw[aO.mp r];rfl|bl b=>rw[aJ.mp r];rfl|int b=>rw[aw.mp r];rfl|str b=>rw[Rep.str_iff.mp r];rfl|tup ds=>obtain⟨_,_,e,_⟩:=aK.mp r;rw[e];rfl|lst ds=>obtain⟨_,_,e,_⟩:=aE.mp r;rw[e];rfl|dic ks ds=>rw[Rep]at r;obtain⟨_,_,_,e,_⟩:=r;rw[e];rfl|exc x=>obtain⟨_,_,_,e,_⟩:=jk.mp r;rw[e];rfl|ob k x=>obtain⟨_,_,e,_⟩:=iw.mp r;rw[e];rfl
def eZ:q9 X.K E (λx y H Q=>y=.non/\Q (.bl (decide (x=.non))) H) eV:=by
 intro x y v u H Ha Q hs r1 r2 q;unfold eV at q;cases y with|non=>exact⟨aO.mp r2,by rw[r1.is_non];exact bf hs q (rb _)⟩| _=>exact q.elim
def g9:q9 X.K E (λx y H Q=>y=.non/\Q (.bl (!decide (x=.non))) H) cU:=by
 intro x y v u H Ha Q hs r1 r2 q;unfold cU at q;cases y with
 |non=>
  refine⟨aO.mp r2,?_⟩;rw[r1.is_non];exact bf hs q (rb _)
 |_=>exact q.elim
def wV:D->String
 |.non=>"NoneType"
 |.bl _=>"bool"
 |.int _=>"int"
 |.str _=>"str"
 |.tup _=>"tuple"
 |.lst _=>"list"
 |.dic _ _=>"dict"
 |.exc _=>"<exc>"
 |.ob (.ins _ _) _=>"<exc>"
 |.ob (.dint _) _=>"dict"
 |.ob (.exf _ _) _=>"<exc>"
def c4(T:String)(x:D):aj D:=.ok (.bl (wV x==T||(wV x=="bool"&&T=="int")))
def nq(K:W.Frag)(T:String):Prop:=∀S,S∈["NoneType","bool","int","str","tuple","list","dict"]->W.kitOne K (.type S) (.type T)=some (S==T||(S=="bool"&&T=="int"))
def CT(I:Inv X pins σ H s)(r:Rep X.K H x v)(q:bo v u)(hk:nq X.K T)(hT:T∈iq)(h:∀tk,Q (.bool (wV x==T||(wV x=="bool"&&T=="int"))) { s with toks:=tk }) :
  wpAny (model X.prog X.w) A (call (.builtin "isinstance") [u,.type T]) Q X.xe s:=by
 cases x with
 |non=>rw[aO.mp r]at q;exact jx I q .non (hk _ (by simp)) h|bl b=>rw[aJ.mp r]at q;exact jx I q (.bl b) (hk _ (by simp)) h|int b=>rw[aw.mp r]at q;exact jx I q (.int b) (hk _ (by simp)) h|str b=>rw[Rep.str_iff.mp r]at q;exact jx I q (.str b) (hk _ (by simp)) h
 |tup ds=>
  obtain⟨a,vs,its,rfl,rfl,h1,h2,h3,h4,_⟩:=bb I r q;obtain⟨o,k1,k2,_⟩:=h4;exact W.kia_one W.kitx_tuple I.kIn ⟨o,k1,k2⟩ (hk _ (by simp)) (λz=>nomatch z) h
 |lst ds=>
  obtain⟨a,vs,its,rfl,rfl,h1,h2,h3,h4,_⟩:=aZ I r q;obtain⟨o,k1,k2,_⟩:=h4;exact W.kia_one W.kitx_list I.kIn ⟨o,k1,k2⟩ (hk _ (by simp)) (λz=>nomatch z) h
 |dic ks ds=>
  rw[Rep]at r;obtain⟨a,kvs,vs,rfl,h1,h2,_⟩:=r;cases (show u=Value.ref a from q);obtain⟨_,_,vs',_,p⟩:=h1.ok I.hok;obtain⟨o,es,ep,k1,k2,_⟩:=p;exact W.kia_one W.kitx_dict I.kIn ⟨o,k1,k2.1⟩ (hk _ (by simp)) (λz=>nomatch z) h
 |exc x=>
  obtain⟨a,C,dc,rfl,hc,h1⟩:=jk.mp r;cases (show u=Value.ref a from q);obtain⟨p,_,_⟩:=h1.ok I.hok;have e:(wV (.exc x)==T||(wV (.exc x)=="bool"&&T=="int"))=false:=by
   have:∀T∈iq,(wV (.exc x)==T||(wV (.exc x)=="bool"&&T=="int"))=false:=by show ∀T∈iq,("<exc>"==T||("<exc>"=="bool"&&T=="int"))=false;decide
   exact this T hT
  rw[e]at h;exact W.kia_one (vA hc.ek hc.ek.isCls) I.kIn p (hc.bt T hT) (λz=>nomatch z) h
 |ob k xs=>
  obtain⟨a,vs,rfl,h1,_⟩:=iw.mp r;cases (show u=Value.ref a from q);cases k with
  |exf c ks=>
   obtain⟨C,dx,fs,hc,h2,_⟩:=h1;obtain⟨p,_,_⟩:=h2.ok I.hok;have e:(wV (.ob (.exf c ks) xs)==T||(wV (.ob (.exf c ks) xs)=="bool"&&T=="int"))=false:=by
    have:∀T∈iq,("<exc>"==T||("<exc>"=="bool"&&T=="int"))=false:=by decide
    exact this T hT
   rw[e]at h;exact W.kia_one (vA hc.ek hc.ek.isCls) I.kIn p (hc.bt T hT) (λz=>nomatch z) h
  |ins c ks=>
   obtain⟨C,dx,_,hc,h2,_⟩:=h1;obtain⟨mA,O,_⟩:=zj I.hok h2;obtain⟨od,O',_⟩:=O.look;have e:(wV (.ob (.ins c ks) xs)==T||(wV (.ob (.ins c ks) xs)=="bool"&&T=="int"))=false:=by
    have:∀T∈iq,(wV (.ob (.ins c ks) xs)==T||(wV (.ob (.ins c ks) xs)=="bool"&&T=="int"))=false:=by show ∀T∈iq,("<exc>"==T||("<exc>"=="bool"&&T=="int"))=false;decide
    exact this T hT
   rw[e]at h;exact W.kia_one (W.kitx_own (hc.cls.get _) hc.cls.hd hc.gc hc.gn hc.tk hc.mo) I.kIn O' (hc.bt T hT) (λz=>nomatch z) h
  |dint ks=>
   obtain⟨kvs,h2,_⟩:=h1;obtain⟨_,_,vs',_,p⟩:=h2.ok I.hok;obtain⟨o,es,ep,k1,k2,_⟩:=p;exact W.kia_one W.kitx_dict I.kIn ⟨o,k1,k2.1⟩ (hk _ (by simp)) (λz=>nomatch z) h
def bF(hk:nq X.K T)(hgi:Gl X "isinstance")(hmi:X.mg "isinstance"=none)(hg:Gl X x)(hm:X.mg x=none)(hv:bootBuiltins x=some (.type T))(ha:DE X E a f)
  (hn:x≠"__name__":=by decide)(hdb:(x==("__debug__":Str))=false:=by decide)(hT:T∈iq:=by decide)
  (he:starEach [a,.Name x p2] X.env=(false,eval a X.env)::starEach [.Name x p2] X.env:=by exact bA rfl)(he2:starEach [.Name x p2] X.env=(false,eval (.Name x p2) X.env)::starEach [] X.env:=by exact bA rfl)(hpl:(backTo pos (starEach [.Name x p2] X.env)).any (·.1)=false:=by exact cf rfl) :
  DE X E (.Call (.Name "isinstance" p1) [a,.Name x p2] [] pos) (b7 f (c4 T)):=by
 refine⟨?_⟩;refine aX (u7 (r:=λvs H Q=>∃d v,vs=[v,.ty T]/\Rep X.K H d v/\Q (.bl (wV d==T||(wV d=="bool"&&T=="int"))) H) ?_ hgi hmi PyProof.Rows.Boot.«isinstance» (dM ha.o (dM (EY (v:=.ty T) hg hm hv rfl hn hdb) gr he2) he) (by decide) (by decide) he hpl) λσ H Q ⟨Ha,ρ,hs,hr,q⟩=>⟨Ha,ρ,hs,hr,?_⟩
 .intro pins s σ H xs us Q I r h
  obtain⟨d,v,rfl,h1,q⟩:=h;cases r with
  |cons r1 r2=>
   cases r2 with
   |cons r3 r4=>
    cases r4;rename_i u1 u2;obtain rfl:u2=Value.type T:=r3;exact CT I h1 r1 hk hT λtk=>⟨.bl _,H,I.tok _,rfl,q⟩
 .unfold b7 at q
  cases e1:f ρ with
  |stuck|exn x=>rw[e1]at q;exact q
  |ok d=>
   rw[e1]at q;intro v H1 H01 g1 r1;exact⟨d,v,rfl,r1.mono g1.sub,q _ H1 H01 g1 (rb _)⟩
end
theorem sL{prog:Program}{w:World}{A:Around}{E:Value->Shared->Prop}{it t:Addr}{items:Array Value}(hne:t≠it):∀(n i:Nat) (s:Shared) (Q:List Value->Shared->Prop),s.heap.IsListIter it t i->s.heap.IsList t items->i+n<=items.size ->
  (∀h',h'.IsListIter it t (i+n)->Heap.SameBut it s.heap h'->Q ((items.toList.drop i).take n) { s with heap:=h' })->wpAny (model prog w) A (draw (.ref it) n) Q E s
 |0,i,s,Q,hit,_,_,hQ=>by
  show wpAny _ _ (pure []) Q E s;exact wpAny_pure (by simpa using hQ s.heap hit (Heap.SameBut.refl ..))
 |n+1,i,s,Q,hit,ht,hle,hQ=>by
  have hlt:i<items.size:=by omega
  show wpAny _ _ (pyNext (.ref it) >>= _) Q E s;refine wpAny_bind (wpAny_pyNext_list_item hit ht (x:=items[i]) (by simp[hlt]) λhU hit₁ hs₁=>?_);have ht₁:hU.IsList t items:=by
   obtain⟨o,k1,k2⟩:=ht;exact⟨o,(hs₁.2 t hne).trans k1,k2⟩
  refine wpAny_bind (wpAny_holding (sL hne n (i+1) _ _ hit₁ ht₁ (by omega) λhV hit₂ hs₂=>wpAny_pure ?_));have hd:items.toList.drop i=items[i]::items.toList.drop (i+1):=by simp[List.drop_eq_getElem_cons,hlt]
  have:=hQ hV (by rw[show i+(n+1)=i+1+n by omega];exact hit₂) (hs₁.trans hs₂);rw[hd,List.take_succ_cons]at this;exact this
def mh(hh:A.handled=none)(ht:s.heap.IsList t items)
  (hQ:∀h',Heap.ExtBut s.heap.objs.size s.heap h'->Q items.toList { s with heap:=h' }):wpAny (model prog w) A (unpackItems (.ref t) items.size none) Q E s:=by
 have hlt:t≠s.heap.objs.size:=by obtain⟨o,ho,_⟩:=ht;exact Nat.ne_of_lt (Heap.lt_size ho)
 unfold unpackItems;refine wpAny_bind ?_
 .unfold notIterableAtAll
  refine wpAny_bind (wpAny_specialOf ht.typeIs slot_list_iter.lookup ?_);refine wpAny_pure ?_;simp only[Bool.false_eq_true,if_false];refine wpAny_bind (wpAny_holding (wpAny_pyIter_list ht ?_));have ht0:(s.heap.push { cls:=.type "list_iterator",data:=.fields #[.ref t,.int 0 0] }).IsList t items:=by
   obtain⟨o,k1,k2⟩:=ht;exact⟨o,Heap.get?_push_of_some _ k1,k2⟩
  refine wpAny_bind (wpAny_holding (sL hlt items.size 0 _ _ ⟨_,Heap.get?_push_size _ rfl,rfl,rfl⟩ ht0 (by omega) λhU hit₁ hs₁=>?_));have hall:List.take items.size (List.drop 0 items.toList)=items.toList:=by
   rw[List.drop_zero];exact List.take_of_length_le (by simp)
  rw[hall];rw[if_neg (by simp)];have ht₁:hU.IsList t items:=by
   obtain⟨o,k1,k2⟩:=ht0;exact⟨o,(hs₁.2 t hlt).trans k1,k2⟩
  refine wpAny_bind (wpAny_holding (wpAny_pyNext_list_end hh hit₁ ht₁ (by simp) λhV he₂=>?_));simp only[Option.isSome_none,Bool.false_eq_true,if_false];refine wpAny_pure (hQ hV λb o hb e=>he₂ b o hb (hs₁.extBut b o hb (Heap.get?_push_of_some _ e)))
def xl(σ:L2.St):bi->ad->L2.St
 |i::is,v::vs=>xl (σ.set i (some v)) is vs
 |_,_=>σ
def dP(ρ:Ev):bi->ac->Ev
 |i::is,d::ds=>dP (ρ.set i (.sh d)) is ds
 |_,_=>ρ
theorem cY.putAll{K:W.Frag}{He H0e Ha H:Hp}:∀{is:bi}{ds:ac}{vs:ad}{σ:L2.St}{ρ:Ev},cY K He H0e Ha σ H ρ->Reps K Ha ds vs->cY K He H0e Ha (xl σ is vs) H (dP ρ is ds)
 |[],_,_,_,_,h,_=>by unfold xl dP;exact h
 |_::_,[],_,_,_,h,r=>by rw[Reps.nil_iff.mp r];unfold xl dP;exact h
 |i::is,d::ds,_,_,_,h,r=>by
  obtain⟨v,vs,rfl,h1,h2⟩:=aC.mp r;unfold xl dP;exact cY.putAll (h.put h1) h2
section
variable {X:Cx}{E:XK}{He H0e:Hp}{e a b:Expr}{es:List Expr}{f g:al}{fa:Ev->aj (ac)}{pos:Pos}{is:bi}
def Jj(is:bi):Jo:=λvs σ H Q=>vs.length=is.length/\Q (xl σ is vs) H
def u5(h:Bn X es t)(w:∀vs σ H Q,t' vs σ H Q->t vs σ H Q):Bn X es t':=λpins s σ H vs us Q I r q=>h pins s σ H vs us Q I r (w vs σ H Q q)
def jD:Bn X [] (Jj []):=u5 ET λvs σ H Q z9=>by
 obtain⟨h,q⟩:=z9;have e:vs=[]:=List.length_eq_zero_iff.mp h;subst e;exact⟨rfl,q⟩
def cv(hN:X.N.Nodup)(hi:X.N[i]?=some x)(hx:Af X.env.scope x)(h:Bn X es (Jj is))(hf:X.fn x=true∨X.env.scope.names.lookup x=some .local := by first|exact .inl rfl|exact .inr rfl|assumption)
  (hs:(assignEach (.Name x p::es) X.env).map (·.2)=assign (.Name x p) X.env::(assignEach es X.env).map (·.2):=by rfl):Bn X (.Name x p::es) (Jj (i::is)) :=
 u5 (Ck (yN hN hi hx hf) h hs) λvs σ H Q z9=>by
  obtain⟨h,q⟩:=z9;cases vs with|nil=>simp at h|cons v vs=>exact⟨v,vs,rfl,by simpa using h,q⟩
def EU{k:Nat}(hc:X.calm=true)(h:Bn X es t)
  (hn:(assignEach es X.env).length=n:=by rfl)(hst:(assignEach es X.env).findIdx? (·.1)=none:=by rfl):PG X (.Tuple es k pos) (λv σ H Q=>∃a xs,v=.ref a/\eN X.K H a xs/\xs.length=n/\t xs σ H Q):=by
 intro pins s σ H v u Q I r hw;obtain⟨a,xs,e1,hq,hl,hw⟩:=hw;subst e1;cases r;obtain⟨its,rv,ht,hz⟩:=I.list hq;rw[assign_Tuple];refine wpAny_bind (wpAny_standAt ?_);unfold unpack;rw[hn,hst];have hsz:n=its.toArray.size:=by rw[List.size_toArray,←rv.length,hl]
 rw[hsz];refine wpAny_bind (wpAny_holding (mh (I.ok.hd hc) ht.isList λh' hx=>?_));have I1:Inv X pins σ H { s with heap:=h' }:=I.kept (t':=s.toks) λb o e=>hx b o (Nat.ne_of_lt (Heap.lt_size e)) e;exact h pins _ σ H xs _ Q I1 (by simpa using rv) hw
def J0(h:PG X tgt t)(h':PG X tgt t'):PG X tgt (λv σ H Q=>t v σ H Q∨t' v σ H Q):=λpins s σ H v u Q I r q=>q.elim (h pins s σ H v u Q I r) (h' pins s σ H v u Q I r)
def Cn{k:Nat}(hc:X.calm=true)(h:Bn X es (Jj is))(hn:(assignEach es X.env).length=is.length:=by rfl)(hst:(assignEach es X.env).findIdx? (·.1)=none:=by rfl) :
  PG X (.Tuple es k pos) (λv σ H Q=>∃a xs,v=.ref a/\(ji X.K H a xs∨eN X.K H a xs)/\xs.length=is.length/\Q (xl σ is xs) H) :=
 tW (J0 (HL hc h hn hst) (EU hc h hn hst)) λv σ H Q ⟨a,xs,e,hq,hl,q⟩=>hq.elim (λz=>.inl ⟨a,xs,e,z,hl,hl,q⟩) λz=>.inr ⟨a,xs,e,z,hl,hl,q⟩
def eJ(n:Nat)(d:D):Option (ac):=match d with
 |.tup ds=>if ds.length=n then some ds else none
 |.lst ds=>if ds.length=n then some ds else none
 |_=>none
def mQ{K:W.Frag}(h:eJ n d=some ds)(r:Rep K H d v):∃a vs,v=.ref a/\(ji K H a vs∨eN K H a vs)/\vs.length=n/\Reps K H ds vs:=by
 unfold eJ at h;cases d with
 |tup es=>
  by_cases c:es.length=n
  .simp only[if_pos c]at h;cases h
   obtain⟨a,vs,rfl,h1,h2⟩:=aK.mp r;exact⟨a,vs,rfl,.inl h1,by rw[←h2.length];exact c,h2⟩
  .simp only[if_neg c]at h;cases h
 |lst es=>
  by_cases c:es.length=n
  .simp only[if_pos c]at h;cases h
   obtain⟨a,vs,rfl,h1,h2⟩:=aE.mp r;exact⟨a,vs,rfl,.inr h1,by rw[←h2.length];exact c,h2⟩
  .simp only[if_neg c]at h;cases h
 |_=>cases h
def uT{K:W.Frag}{a:Addr}(hs:aB H H')(h:ji K H a vs∨eN K H a vs):ji K H' a vs∨eN K H' a vs:=h.elim (λz=>.inl (aB.sqT hs z)) λz=>.inr (aB.sqL hs z)
def Hu(is:bi)(f:al):am:=λρ=>(f ρ).bind λd=>match eJ is.length d with
 |some ds=>.ok (.nx (dP ρ is ds))
 |none=>.stuck
def Iv{k:Nat}(hc:X.calm=true)(he:DE X E e f)(h:Bn X es (Jj is))(hs:swapsWithSole [.Tuple es k tp] e pos.line X.env=pure false:=by rfl)(hw:swappedStores [.Tuple es k tp] e X.env=pure none:=by rfl)
  (h1:(assignEach [.Tuple es k tp] X.env).map (·.2)=[assign (.Tuple es k tp) X.env]:=by rfl)(hn:(assignEach es X.env).length=is.length:=by rfl)(hst:(assignEach es X.env).findIdx? (·.1)=none:=by rfl) :
  DS X E He H0e (.Assign [.Tuple es k tp] e pos) (Hu is f):=by
 refine⟨?_⟩;refine bH (xr he.o (Cn hc h hn hst) hs hw h1) λD σ H z9=>?_;obtain⟨Ha,ρ,h,q⟩:=z9;refine⟨Ha,ρ,h.g.sub,h.rd,?_⟩
 refine plain (k:=λd=>match eJ is.length d with
  |some ds=>.ok (.nx (dP ρ is ds))
  |none=>.stuck) h q λd v H' Ha' _ g rp q'=>?_
 cases e1:eJ is.length d with
 |none=>rw[e1]at q';exact q'.elim
 |some ds=>
  rw[e1]at q';obtain⟨a,vs,rfl,k1,k2,k3⟩:=mQ e1 rp;exact⟨a,vs,rfl,uT g.sub k1,k2,q' _ H' Ha' (aB.refl _) ((h.grow g).putAll k3)⟩
def iW(is:bi):Ev->D->aj Ev:=λρ d=>match eJ is.length d with
 |some ds=>.ok (dP ρ is ds)
 |none=>.stuck
def gz:tE (iW is):=λρ d=>by
 unfold iW;cases eJ is.length d with|none=>exact .inl rfl|some ds=>exact .inr ⟨_,rfl⟩
def qu{k:Nat}(hc:X.calm=true)(h:Bn X es (Jj is))(hn:(assignEach es X.env).length=is.length:=by rfl)(hst:(assignEach es X.env).findIdx? (·.1)=none:=by rfl):DG X E He H0e (.Tuple es k pos) (iW is) :=
 ⟨tW (Cn hc h hn hst) λv σ H Q z9=>by
  obtain⟨Ha,ρ,d,h,rp,q⟩:=z9;unfold iW at q;cases e1:eJ is.length d with
  |none=>rw[e1]at q;exact q.elim
  |some ds=>
   rw[e1]at q;obtain⟨a,vs,rfl,k1,k2,k3⟩:=mQ e1 rp;exact⟨a,vs,rfl,uT h.g.sub k1,k2,q _ H Ha (aB.refl _) (h.putAll k3)⟩⟩
def rh(i j:Nat)(fa:Ev->aj (ac)):am:=λρ=>(fa ρ).bind λds=>match ds with
 |[x,y]=>.ok (.nx ((ρ.set i (.sh x)).set j (.sh y)))
 |_=>.stuck
def Iy{px py pt pt2:Pos}{kt k2}(hc:X.calm=true)(hN:X.N.Nodup)(hi:X.N[i]?=some x)(hj:X.N[j]?=some y)(hij:i≠j)
  (hx:X.env.scope.names.lookup x=some .local)(hy:X.env.scope.names.lookup y=some .local)(ha:DA X E [a,b] fa)
  (hw:swappedStores [.Tuple [.Name x px,.Name y py] kt pt] (.Tuple [a,b] k2 pt2) X.env=pure (some [x,y]))
  (hs:swapsWithSole [.Tuple [.Name x px,.Name y py] kt pt] (.Tuple [a,b] k2 pt2) pos.line X.env=pure false:=by rfl) :
  DS X E He H0e (.Assign [.Tuple [.Name x px,.Name y py] kt pt] (.Tuple [a,b] k2 pt2) pos) (rh i j fa):=by
 refine⟨?_⟩;refine bH (HI hc hN hi hj hij hx hy ha.o hw hs) λD σ H z9=>?_;obtain⟨Ha,ρ,h,q⟩:=z9;refine⟨Ha,ρ,h.g.sub,h.rd,?_⟩
 unfold rh at q;cases e1:fa ρ with
 |stuck=>rw[e1]at q;exact q|exn x=>rw[e1]at q;exact λC ox H' Ha' g ex=>q C ox H' Ha' (h.g.trans g) ex
 |ok ds=>
  rw[e1]at q;intro vs H1 H01 g1 r1
  match ds,r1,q with
  |[x,y],r1,q=>
   obtain⟨v,r',rfl,h1,h2⟩:=aC.mp r1;obtain⟨u,r'',rfl,h3,h4⟩:=aC.mp h2;rw[Reps.nil_iff.mp h4];exact⟨v,u,rfl,q _ H1 H01 g1.z (((h.grow g1).put h1).put h3)⟩
  |[],_,q=>exact q.elim
  |[_],_,q=>exact q.elim
  |_::_::_::_,_,q=>exact q.elim
end
def j0{K:W.Frag}:nq K "int":=by
 intro S hS;simp only[List.mem_cons,List.mem_nil_iff,or_false]at hS;rcases hS with rfl|rfl|rfl|rfl|rfl|rfl|rfl<;>first|rfl|decide +kernel
def iU{K:W.Frag}:nq K "bool":=by
 intro S hS;simp only[List.mem_cons,List.mem_nil_iff,or_false]at hS;rcases hS with rfl|rfl|rfl|rfl|rfl|rfl|rfl<;>first|rfl|decide +kernel
def o9{K:W.Frag}:nq K "str":=by
 intro S hS;simp only[List.mem_cons,List.mem_nil_iff,or_false]at hS;rcases hS with rfl|rfl|rfl|rfl|rfl|rfl|rfl<;>first|rfl|decide +kernel
def dk{K:W.Frag}:nq K "tuple":=by
 intro S hS;simp only[List.mem_cons,List.mem_nil_iff,or_false]at hS;rcases hS with rfl|rfl|rfl|rfl|rfl|rfl|rfl<;>first|rfl|decide +kernel
def fZ{K:W.Frag}:nq K "list":=by
 intro S hS;simp only[List.mem_cons,List.mem_nil_iff,or_false]at hS;rcases hS with rfl|rfl|rfl|rfl|rfl|rfl|rfl<;>first|rfl|decide +kernel
def vB{K:W.Frag}:nq K "dict":=by
 intro S hS;simp only[List.mem_cons,List.mem_nil_iff,or_false]at hS;rcases hS with rfl|rfl|rfl|rfl|rfl|rfl|rfl<;>first|rfl|decide +kernel
section
variable {X:Cx}{E:XK}{He H0e:Hp}{e a b c:Expr}{f g h:al}{pos:Pos}
def dv(i:Nat)(hN:X.N[i]?=some x:=by rfl)(hv:Bm X.env.scope x:=by first|exact Or.inl rfl|exact Or.inr (Or.inl rfl)|exact Or.inr (Or.inr rfl))(hd:(x==("__debug__":Str))=false:=by decide)
  (hcd:(x==("__classdict__":Str))=false:=by decide):DE X E (.Name x pos) (ae i):=ID hN hv hd hcd
def uK(K:W.Frag)(mg:Str->Option Value)(x:Str)(d:D):Prop:=∃v u,mg x=some u/\bo v u/\∀H,Rep K H d v
def bh(k:uK X.K X.mg x d)(hg:Gl X x)(hd:(x==("__debug__":Str))=false:=by decide):DE X E (.Name x pos) (dC d):=by
 obtain⟨v,u,h1,h2,h3⟩:=k;exact FI hg h1 h2 h3 hd
def dh{K:W.Frag}(h:mg x=some (.int i t)):uK K mg x (.int i):=⟨.int i,_,h,⟨t,rfl⟩,λ_=>ri _⟩
def Fo{K:W.Frag}(h:mg x=some (.str i t)):uK K mg x (.str i):=⟨.str i,_,h,⟨t,rfl⟩,λ_=>Rep.str_iff.mpr rfl⟩
def Fn{K:W.Frag}{a:Addr}(h:mg x=some (.ref a))(l:K.lookup a=some ⟨.type "tuple",od,.seq its n,sl⟩)
  (hv:bD vs its.toList)(hz:its.size<=sizeLine)(hd:∀H,Reps K H ds vs):uK K mg x (.tup ds):=⟨.ref a,_,h,rfl,λH=>aK.mpr ⟨a,vs,rfl,.inr ⟨_,its,n,l,rfl,rfl,hz,hv⟩,hd H⟩⟩
def fP(op op':D->D->aj D)(f g h:al):al:=λρ=>(f ρ).bind λx=>(g ρ).bind λy=>(op x y).bind λz=>match z with
 |.bl true=>(h ρ).bind λw=>op' y w
 |.bl false=>.ok (.bl false)
 |_=>.stuck
def qV(r:R2)(o:D->D->aj D):Prop:=∀(K:W.Frag) (x y:D) (v u:V) (H Ha:Hp) (Q:VK) (d:D),aB Ha H->Rep K Ha x v->Rep K Ha y u->o x y=.ok d->(∀w,Rep K Ha d w->Q w H)->r v u H Q
def dU{g:Int->Int->D}(hg:∀K H i j,Rep K H (g i j) (gv i j)):qV (D2 gv) (vE (λ_ _=>true) g):=by
 intro K x y v u H Ha Q d hs r1 r2 e q;unfold vE at e;cases x with
 |int i=>
  cases y with|int j=>simp only[if_pos]at e;cases e;exact⟨i,j,aw.mp r1,aw.mp r2,q _ (hg _ _ i j)⟩| _=>cases e
 |_=>cases e
def qW(o:D->D->aj D):Prop:=∀x y,∀z,o x y≠.exn z
def m8(p:qV r o)(p':qV r' o')(n:qW o)(n':qW o')(σ:L2.St)(H:Hp)(Q:VK)(q:tD X.K E (fP o o' f g h) σ H Q) :
  xf r r' (tD X.K E f) (tD X.K E g) (tD X.K E h) σ H Q:=by
 obtain⟨Ha,ρ,hs,hr,q⟩:=q;refine⟨Ha,ρ,hs,hr,?_⟩;unfold fP at q;cases e1:f ρ with
 |stuck|exn x=>rw[e1]at q;exact q
 |ok x=>
  rw[e1]at q;intro v H1 H01 g1 r1;refine⟨H01,ρ,g1.sub,hr.mono g1.z,?_⟩;replace q:=post.grow (r:=(g ρ).bind λy=>(o x y).bind λz=>match z with
   |.bl true=>(h ρ).bind λw=>o' y w
   |.bl false=>.ok (.bl false)
   |_=>.stuck) q g1
  cases e2:g ρ with
  |stuck|exn x=>rw[e2]at q;exact q
  |ok y=>
   rw[e2]at q;intro u H2 H02 g2 r2;replace q:=post.grow (r:=(o x y).bind λz=>match z with
    |.bl true=>(h ρ).bind λw=>o' y w
    |.bl false=>.ok (.bl false)
    |_=>.stuck) q g2
   cases e3:o x y with
   |stuck=>rw[e3]at q;exact q.elim|exn z=>exact absurd e3 (n x y z)
   |ok z=>
    rw[e3]at q;refine p X.K x y v u H2 H02 _ z g2.sub (r1.mono g2.z) r2 e3 λw rw'=>?_;cases z with
    |bl b=>
     rw[aJ.mp rw'];refine⟨b,rfl,?_⟩;cases b with
     |false=>rw[if_neg Bool.false_ne_true];exact q _ H2 H02 (bc.refl g2.sub) (rb _)
     |true=>
      rw[if_pos rfl];refine⟨H02,ρ,g2.sub,(hr.mono g1.z).mono g2.z,?_⟩;replace q:post X.K E H2 H02 ((h ρ).bind λw=>o' y w) Q:=q;cases e4:h ρ with
      |stuck|exn x=>rw[e4]at q;exact q
      |ok w2=>
       rw[e4]at q;intro v3 H3 H03 g3 r3;replace q:=post.grow (r:=o' y w2) q g3;cases e5:o' y w2 with
       |stuck=>rw[e5]at q;exact q.elim|exn z=>exact absurd e5 (n' y w2 z)
       |ok d=>
        rw[e5]at q;exact p' X.K y w2 u v3 H3 H03 Q d g3.sub (r2.mono g3.z) r3 e5 λw3 r5=>q w3 H3 H03 (bc.refl g3.sub) r5
    |_=>exact q.elim
def wD(ho:ez X (compareOp op) r)(ho':ez X (compareOp op') r')(p:qV r o)(p':qV r' o')(n:qW o)(n':qW o')(ha:DE X E a f)(hb:DE X E b g)(hc:DE X E c h)
  (hm:lastMarks [op,op'] [b,c]=false:=by with_unfolding_all rfl):DE X E (.Compare a [op,op'] [b,c] pos) (fP o o' f g h):=⟨aX (Cs ho ho' ha.o hb.o hc.o hm) (m8 p p' n n')⟩
def wt(ho:ez X (compareOp op) r)(ho':ez X (compareOp op') r')(p:qV r o)(p':qV r' o')(n:qW o)(n':qW o')(ha:DE X E a f)(hb:DE X E b g)(hc:DE X E c h)
  (hm:lastMarks [op,op'] [b,c]=false:=by with_unfolding_all rfl):DT X E (.Compare a [op,op'] [b,c] pos) (fP o o' f g h):=by
 refine⟨?_⟩;refine gX (Cb ho ho' ha.o hb.o hc.o hm) λσ H Q q=>?_;have w:tD X.K E (fP o o' f g h) σ H λx H'=>∃k,x=.bl k/\Q k H':=by
  obtain⟨Ha,ρ,hs,hr,q⟩:=q;refine⟨Ha,ρ,hs,hr,?_⟩;cases e1:fP o o' f g h ρ with
  |stuck|exn x=>rw[e1]at q;exact q
  |ok d=>
   rw[e1]at q;intro v H1 H01 g1 r1;cases d with|bl b=>rw[aJ.mp r1];exact⟨b,rfl,q H1 H01 g1⟩| _=>exact q.elim
 exact m8 p p' n n' σ H _ w
def dW{c:Int->Int->Bool}{g:Int->Int->D}:qW (vE c g):=by
 intro x y z;unfold vE;cases x<;>cases y<;>simp<;>split<;>simp
end
def jy(i:Nat):Ev->Nat:=λρ=>match ρ[i]? with
 |some (.sh (.int j))=>j.natAbs+1
 |_=>0
section
variable {X:Cx}{E:XK}{a b:Expr}{f g:al}{pos:Pos}
def bJ(x y:D):aj D:=match x,y with
 |.int i,.int j=>if dy i j=true then .ok (.int (i*j)) else .stuck
 |_,_=>.stuck
def ee(ha:DE X E a f)(hb:DE X E b g):DE X E (.BinOp a .Mult b pos) (aa f g bJ):=sP E1 (by
 intro x y v u H Ha Q hs r1 r2 q;unfold bJ at q;cases x with
 |int i=>
  cases y with
  |int j=>
   by_cases h:dy i j=true
   .simp only[if_pos h]at q
    exact⟨i,j,aw.mp r1,aw.mp r2,dy.ok h,bf hs q (ri _)⟩
   .simp only[if_neg h]at q;exact q.elim
  |_=>exact q.elim
 |_=>exact q.elim) ha hb
end
def Iq(K:W.Frag)(tg:Ev->D->aj Ev):TG:=λv σ H Q=>∃He H0e,tG K He H0e tg v σ H Q
def gq:ac->Option (List Str)
 |[]=>some []
 |.str x::r=>(gq r).map (x::·)
 |_=>none
theorem uQ{K:W.Frag}{H:Hp}:∀{ds:ac}{ys:List Str}{vs:ad}{us:List Value},gq ds=some ys->Reps K H ds vs->bD vs us->StrsAre us ys
 |[],ys,vs,us,h,r,q=>by
  cases h;rw[Reps.nil_iff.mp r]at q;cases q;exact .nil
 |d::ds,ys,vs,us,h,r,q=>by
  obtain⟨v,r',rfl,h1,h2⟩:=aC.mp r;cases q with
  |cons q1 q2=>
   cases d with
   |str x=>
    unfold gq at h;cases e:gq ds with
    |none=>rw[e]at h;cases h
    |some zs=>
     rw[e]at h;cases h;rw[Rep.str_iff.mp h1]at q1;obtain⟨t,rfl⟩:=q1;exact .cons _ _ (uQ e h2 q2)
   |_=>cases h
section
variable {X:Cx}{E:XK}{o e:Expr}{fo:al}{fa:Ev->aj (ac)}
def f9(z:Str)(ys:List Str):Bool:=decide (z.length<=16)&&decide ((ys.map (·.length)).sum+ys.length<=1048576)
def JO(K:W.Frag):V->ad->Hp->VK->Prop:=λx xs H Q=>∃z p ds ys,x=.str z/\xs=[.ref p]/\Rep K H (.lst ds) (.ref p)/\gq ds=some ys/\f9 z ys=true/\Q (.str (Txt.join z ys)) H
def Fb:MJ X "str.join" (JO X.K):=by
 intro pins s σ H x xs v us Q I rx rs h;obtain⟨z,p,ds,ys,rfl,rfl,hr,hy,hf,q⟩:=h;obtain⟨t,rfl⟩:=rx;obtain⟨u,rfl,ru⟩:=rs.one;obtain⟨a,vs,its,ea,rfl,h1,h2,h3,h4,_⟩:=aZ I hr ru;unfold f9 at hf;rw[Bool.and_eq_true]at hf;exact join_listW h4 (by simpa using uQ hy h2 h3) (of_decide_eq_true hf.1) (of_decide_eq_true hf.2) λt' k=>⟨.str (Txt.join z ys),H,I.tok _,⟨_,rfl⟩,q⟩
def kJ(z:Str)(xs:ac):aj D:=match xs with
 |[.lst ds]=>match gq ds with
  |some ys=>if f9 z ys=true then .ok (.str (Txt.join z ys)) else .stuck
  |none=>.stuck
 |_=>.stuck
def sQ(fo:al)(fa:Ev->aj (ac)):al:=λρ=>(fo ρ).bind λx=>match x with
 |.str z=>(fa ρ).bind λxs=>kJ z xs
 |_=>.stuck
def FH(ho:DE X E o fo)(ha:DA X E [e] fa)
  (hbase:attributeBase o "join" X.env (eval o X.env)=eval o X.env:=by rfl)
  (hfew:((backTo cpos (starEach [e] X.env)).all (λx=>!x.1)&&(backToKw cpos (keywordEach [] X.env)).all (λx=>x.1.isSome)
  &&decide ([e].length+([]:List Keyword).length+(if([]:List Keyword).isEmpty then 0 else 1)<30))=true:=by exact kL rfl)
  (hline:(apos.endLine==cpos.line)=true:=by rfl) (hs:starEach [e] X.env=(false,eval e X.env)::starEach [] X.env:=by exact bA rfl) (hplain:(backTo cpos (starEach [] X.env)).any (·.1)=false:=by exact cf rfl) :
  DE X E (.Call (.Attribute o "join" apos) [e] [] cpos) (sQ fo fa):=by
 refine⟨?_⟩;refine aX (yQ PySem.F.plainAttrs_str PySem.F.slot_str_join PySem.F.type_str_join Fb ho.o ha.o hbase hfew hline hs hplain) λσ H Q z9=>?_;obtain⟨Ha,ρ,hs,hr,q⟩:=z9;refine⟨Ha,ρ,hs,hr,?_⟩
 unfold sQ at q;cases e1:fo ρ with
 |stuck|exn x=>rw[e1]at q;exact q
 |ok x=>
  rw[e1]at q;intro v H1 H01 g1 r1;cases x with
  |str z=>
   rw[Rep.str_iff.mp r1];refine⟨rfl,H01,ρ,g1.sub,hr.mono g1.z,?_⟩;replace q:=post.grow (r:=(fa ρ).bind λxs=>kJ z xs) q g1;cases e2:fa ρ with
   |stuck|exn x=>rw[e2]at q;exact q
   |ok xs=>
    rw[e2]at q;intro us H2 H02 g2 r2;replace q:=post.grow (r:=kJ z xs) q g2;unfold kJ at q
    match xs,r2,q with
    |[.lst ds],r2,q=>
     obtain⟨w,r',rfl,k1,k2⟩:=aC.mp r2;rw[Reps.nil_iff.mp k2];obtain⟨p,vs,rfl,k3,k4⟩:=aE.mp k1;cases e3:gq ds with
     |none=>simp only[e3]at q;exact q.elim
     |some ys=>
      simp only[e3]at q
      by_cases c:f9 z ys=true
      .rw[if_pos c]at q
       exact⟨z,p,ds,ys,rfl,rfl,k1.mono g2.sub,e3,c,bf g2.sub q (Rep.str_iff.mpr rfl)⟩
      .rw[if_neg c]at q;exact q.elim
    |[],_,q=>exact q.elim
    |d1::_::_,_,q=>cases d1<;>exact False.elim q
    |[.non],_,q=>exact q.elim
    |[.bl _],_,q=>exact q.elim
    |[.int _],_,q=>exact q.elim
    |[.str _],_,q=>exact q.elim
    |[.tup _],_,q=>exact q.elim
    |[.dic _ _],_,q=>exact q.elim
    |[.exc _],_,q=>exact q.elim
    |[.ob _ _],_,q=>exact q.elim
  |_=>exact q.elim
end
section
variable {X:Cx}{E:XK}{a:Expr}{f:al}{pos:Pos}
def LK:V->Option Int->Option Int->Hp->VK->Prop:=λx lo hi H Q=>∃z,x=.str z/\z.length<=sizeLine/\Q (.str (Txt.slice z lo hi)) H
def Hl:D6 X LK:=by
 intro pins s σ H x v vl vu lo hi sl Q I rx hs pl pu h;obtain⟨z,rfl,hz,q⟩:=h;obtain⟨t,rfl⟩:=rx;have fin:∀t' k,EP X pins σ Q (.str (Txt.slice z lo hi) t') { s with toks:=k }:=λt' k=>⟨.str (Txt.slice z lo hi),H,I.tok _,⟨_,rfl⟩,q⟩
 refine⟨"str",_,PySem.F.slot_str_getitem.lookup,typeIs_str s z t,?_⟩;cases pl with
 |none=>
  cases pu with|none=>exact wpAny_getItem_str_slice (l:=none) (u:=none) (st:=none) hs rfl (post_val_or_str ⟨Nat.le_trans (Txt.slice_le z _ _) hz,fin⟩)|int j uj=>exact wpAny_getItem_str_slice (l:=none) (u:=some (j,uj)) (st:=none) hs rfl (post_val_or_str ⟨Nat.le_trans (Txt.slice_le z _ _) hz,fin⟩)
 |int i ui=>
  cases pu with|none=>exact wpAny_getItem_str_slice (l:=some (i,ui)) (u:=none) (st:=none) hs rfl (post_val_or_str ⟨Nat.le_trans (Txt.slice_le z _ _) hz,fin⟩)|int j uj=>exact wpAny_getItem_str_slice (l:=some (i,ui)) (u:=some (j,uj)) (st:=none) hs rfl (post_val_or_str ⟨Nat.le_trans (Txt.slice_le z _ _) hz,fin⟩)
noncomputable def oy(x:D) (l h:Option Int):aj D:=match x with
 |.lst ds=>.ok (.lst (rG ds l h))
 |.str z=>if z.length<=line then .ok (.str (Txt.slice z l h)) else .stuck
 |.tup ds=>if HT.sIx ds.length 0 l=0/\HT.sIx ds.length ds.length h=ds.length then .stuck else .ok (.tup (rG ds l h))
 |_=>.stuck
def Ba(f:al)(lo hi:Ev->aj (Option Int)):al:=λρ=>(f ρ).bind λx=>(lo ρ).bind λl=>(hi ρ).bind λh=>oy x l h
def sO{lo hi:Option Expr}(ha:DE X E a f)(hl:DO X E lo fl)(hh:DO X E hi fh):DE X E (.Subscript a (.Slice lo hi none p2) pos) (Ba f fl fh) :=
 ⟨aX (u6 (D6.or yx (D6.or Hl Hk)) ha.o hl.o hh.o) (uR (m:=oy) λx v l h H Ha Q hs r q=>by
  cases x with
  |lst ds=>
   obtain⟨p,vs,rfl,h1,h2⟩:=aE.mp r;exact .inl ⟨p,vs,rfl,aB.sqL hs h1,λn hn=>q _ _ _ (bu hs hn) (aE.mpr ⟨n,_,rfl,eN.of aI,(h2.cut l h).mono (bu hs hn).z⟩)⟩
  |str z=>
   unfold oy at q
   by_cases c:z.length<=line
   .simp only[if_pos c]at q
    exact .inr (.inl ⟨z,Rep.str_iff.mp r,c3 c,bf hs q (Rep.str_iff.mpr rfl)⟩)
   .simp only[if_neg c]at q;exact q.elim
  |tup ds=>
   unfold oy at q
   by_cases c:HT.sIx ds.length 0 l=0/\HT.sIx ds.length ds.length h=ds.length
   .simp only[if_pos c]at q;exact q.elim
   .simp only[if_neg c]at q
    obtain⟨p,vs,rfl,h1,h2⟩:=aK.mp r;exact .inr (.inr ⟨p,vs,rfl,aB.sqT hs h1,by rw[←h2.length];exact c,λn hn=>q _ _ _ (bu hs hn) (aK.mpr ⟨n,_,rfl,ji.of aI,(h2.cut l h).mono (bu hs hn).z⟩)⟩)
  |_=>exact q.elim)⟩
end
def Me(z:Str):It:=⟨λi _=>i<z.cps.size,λi H x H'=>H'=H/\∃c,z.cps[i]?=some c/\x=.str ⟨#[c]⟩,λi _=>z.cps.size<=i⟩
def w8{P:Program}{w:World}{K:W.Frag}{tg:Expr}(z:Str)(t:Tok)(it:Addr):yf P w K tg (Me z) [it] it (λi h=>h.IsStrIter it "str_ascii_iterator" z t i) where
 mem:=by simp
 obj:=λi h st b hb=>by
  have e:b=it:=by simpa using hb
  subst e;obtain⟨o,e,c,d⟩:=st;exact⟨o,e,λv z=>by rw[d]at z;cases z⟩
 keep:=λi h h' st k=>let ⟨o,ho,r⟩:=st;⟨o,k it (by simp) o ho,r⟩
 item:=by
  intro X hP hw hK hc i pins s σ H E I hf st hg;subst hP hw hK;have hg':i<z.cps.size:=hg;obtain⟨f0,f1,f2,f3,f4,f5⟩:=hf it (by simp);refine wpAny_pyNext_ascii_item st (c:=z.cps[i]) (by simp[hg']) λh' st' sb=>?_;have I1:Inv X pins σ H { s with heap:=h',toks:=s.toks+1 }:=I.turned (t':=s.toks+1) (λb o hb e=>(sb.2 b hb).trans e) f0 f1 f3 f4 f5;obtain⟨o,e,c,d⟩:=id st';exact⟨_,rfl,vK (s:={ s with heap:=h',toks:=s.toks+1 }) e c d (by decide) ⟨.str ⟨#[z.cps[i]]⟩,H,I1,⟨_,rfl⟩,⟨rfl,_,by simp[hg'],rfl⟩,st',λb hb=>(hf b hb).1⟩⟩
 done:=by
  intro X hP hw hK hc i pins s σ H E I hf st hg;subst hP hw hK;have hg':z.cps.size<=i:=hg;obtain⟨f0,f1,f2,f3,f4,f5⟩:=hf it (by simp);exact wpAny_pyNext_ascii_end (I.ok.hd hc) st (by simp[hg']) λh' eb=>⟨rfl,I.turned (t':=s.toks) (λb o hb e=>eb b o hb e) f0 f1 f3 f4 f5⟩
 self:=λ_ _ _ _ _ st h=>wpAny_pyIter_striter_ascii st h
def Al{P:Program}{w:World}{K:W.Frag}{tg:Expr}(z:Str)(t:Tok)(it:Addr):yf P w K tg (Me z) [it] it (λi h=>h.IsStrIter it "str_iterator" z t i) where
 mem:=by simp
 obj:=λi h st b hb=>by
  have e:b=it:=by simpa using hb
  subst e;obtain⟨o,e,c,d⟩:=st;exact⟨o,e,λv z=>by rw[d]at z;cases z⟩
 keep:=λi h h' st k=>let ⟨o,ho,r⟩:=st;⟨o,k it (by simp) o ho,r⟩
 item:=by
  intro X hP hw hK hc i pins s σ H E I hf st hg;subst hP hw hK;have hg':i<z.cps.size:=hg;obtain⟨f0,f1,f2,f3,f4,f5⟩:=hf it (by simp);refine wpAny_pyNext_wide_item st (c:=z.cps[i]) (by simp[hg']) λh' st' sb=>?_;have I1:Inv X pins σ H { s with heap:=h',toks:=s.toks+1 }:=I.turned (t':=s.toks+1) (λb o hb e=>(sb.2 b hb).trans e) f0 f1 f3 f4 f5;obtain⟨o,e,c,d⟩:=id st';exact⟨_,rfl,vK (s:={ s with heap:=h',toks:=s.toks+1 }) e c d (by decide) ⟨.str ⟨#[z.cps[i]]⟩,H,I1,⟨_,rfl⟩,⟨rfl,_,by simp[hg'],rfl⟩,st',λb hb=>(hf b hb).1⟩⟩
 done:=by
  intro X hP hw hK hc i pins s σ H E I hf st hg;subst hP hw hK;have hg':z.cps.size<=i:=hg;obtain⟨f0,f1,f2,f3,f4,f5⟩:=hf it (by simp);exact wpAny_pyNext_wide_end (I.ok.hd hc) st (by simp[hg']) λh' eb=>⟨rfl,I.turned (t':=s.toks) (λb o hb e=>eb b o hb e) f0 f1 f3 f4 f5⟩
 self:=λ_ _ _ _ _ st h=>wpAny_pyIter_striter_wide st h
def LU(tl:TE):TI:=λσ H R=>tl σ H λx H1=>∃z,x=.str z/\R (Me z) H1
def HK(hl:PE X l tl):PI X tg l (LU tl):=by
 intro pins s σ H R I h;refine cC (hl pins s σ H _ I h) λv s1 ⟨x,H1,I1,r1,q1⟩=>?_;obtain⟨z,rfl,q⟩:=q1;obtain⟨t,rfl⟩:=r1;have fpo:∀b∈[s1.heap.objs.size],me X pins H1 b:=λb hb=>by
  have e:b=s1.heap.objs.size:=by simpa using hb
  subst e;exact I1.fpOk (Nat.le_refl _) (I1.hok.fresh (Nat.le_refl _))
 cases ha:z.cps.all (· < 128) with|false=>exact wpAny_pyIter_wide ha ⟨s1.heap.objs.size,[s1.heap.objs.size],_,_,H1,rfl,I1.kept (t':=s1.toks) λb o e=>Heap.get?_push_of_some _ e,Al z t _,⟨_,Heap.get?_push_size _ rfl,rfl,rfl⟩,fpo,q⟩|true=>exact wpAny_pyIter_ascii ha ⟨s1.heap.objs.size,[s1.heap.objs.size],_,_,H1,rfl,I1.kept (t':=s1.toks) λb o e=>Heap.get?_push_of_some _ e,w8 z t _,⟨_,Heap.get?_push_size _ rfl,rfl,rfl⟩,fpo,q⟩
def iK(z:Str):ac:=z.cps.toList.map λc=>.str ⟨#[c]⟩
def jW(z:Str):(iK z).length=z.cps.size:=by unfold iK;simp
section
variable {X:Cx}{E:XK}
def JW(K:W.Frag):ad->Hp->VK->Prop:=λxs H Q=>∃(p:Addr) (bs:List Bool),xs=[.ref p]/\eN K H p (bs.map V.bl)/\Q (.bl (bs.all id)) H
theorem tw:∀bs:List Bool,(List.range bs.length).all (λi=>bs.getD i false)=bs.all id
 |[]=>rfl
 |b::r=>by
  rw[List.length_cons,List.range_succ_eq_map,List.all_cons,List.all_map,List.all_cons,←tw r];rfl
def DJ(hc:X.calm=true):iE X (.builtin "all") (JW X.K):=by
 intro pins s σ H xs us Q I r h;obtain⟨p,bs,rfl,hq,q⟩:=h;obtain⟨u,rfl,rx⟩:=oh r;cases rx;obtain⟨its,rv,pl,hz⟩:=I.list hq;have hlen:=rv.length;rw[List.length_map]at hlen;have hne:p≠s.heap.objs.size:=Nat.ne_of_lt pl.lt;refine call_all_walk (wpAny_pyIter_list pl.isList ?_);have pl2:(s.heap.push { cls:=.type "list_iterator",data:=.fields #[.ref p,.int 0 0] }).IsList p its.toArray:=by
  obtain⟨o,k1,k2⟩:=pl.isList;exact⟨o,Heap.get?_push_of_some _ k1,k2⟩
 refine⟨s.heap.objs.size,_,_,_,_,_,λi=>bs.getD i false,rfl,Walks.list (A:=X.A.in1) (I.ok.hd hc) s.heap.objs.size p hne its.toArray,⟨⟨_,Heap.get?_push_size _ rfl,rfl,rfl⟩,pl2⟩,?_,λh' tk hk=>?_⟩
 .intro i v s' Q' E' hv hQ
  have hv':its[i]?=some v:=by simpa using hv
  have hi:i<its.length:=(List.getElem?_eq_some_iff.mp hv').1;obtain⟨w,e1,e2⟩:=rv.get (show(bs.map V.bl)[i]?=some (V.bl (bs.getD i false)) by
   rw[List.getElem?_map,List.getElem?_eq_getElem (by omega)];simp[List.getD,List.getElem?_eq_getElem (show i<bs.length by omega)])
  rw[hv']at e1;cases e1;obtain rfl:v=Value.bool _:=e2;exact wpAny_truthy_bool hQ
 .have hall:(List.range its.toArray.size).all (λi=>bs.getD i false)=bs.all id:=by
   rw[List.size_toArray,←hlen];exact tw bs
  rw[hall];exact⟨.bl _,H,I.kept (t':=tk) (λb o e=>hk b o (by simp only[List.mem_singleton];exact Nat.ne_of_lt (Heap.lt_size e)) (Heap.get?_push_of_some _ e)),rfl,q⟩
def gi:ac->Option (List Bool)
 |[]=>some []
 |.bl b::r=>(gi r).map (b::·)
 |_=>none
theorem sW{K:W.Frag}{H:Hp}:∀{ds:ac}{bs:List Bool}{vs:ad},gi ds=some bs->Reps K H ds vs->vs=bs.map V.bl
 |[],bs,vs,h,r=>by cases h;exact Reps.nil_iff.mp r
 |d::ds,bs,vs,h,r=>by
  obtain⟨v,r',rfl,h1,h2⟩:=aC.mp r;cases d with
  |bl x=>
   unfold gi at h;cases e:gi ds with
   |none=>rw[e]at h;cases h
   |some zs=>
    rw[e]at h;cases h;rw[aJ.mp h1,sW e h2];rfl
  |_=>cases h
def FO(x:D):aj D:=match x with
 |.lst ds=>match gi ds with
  |some bs=>.ok (.bl (bs.all id))
  |none=>.stuck
 |_=>.stuck
def IL:iF X E (JW X.K) (m1 FO):=sV λx v H Ha Q hs r q=>by
 cases x with
 |lst ds=>
  unfold FO at q;obtain⟨p,vs,rfl,h1,h2⟩:=aE.mp r;cases e:gi ds with
  |none=>simp only[e]at q;exact q.elim
  |some bs=>
   simp only[e]at q;exact⟨p,bs,rfl,by rw[←sW e h2];exact aB.sqL hs h1,bf hs q (rb _)⟩
 |_=>exact q.elim
end
end DL
namespace L2
open PySem PySem.Spec PyProof.Rows
section
variable {κ:Type}[DecidableEq κ]
def nu(kvs:List (κ×V))(k:κ):Option V:=(kvs.find? λkv=>decide (kv.1=k)).map (·.2)
def gB(kvs:List (κ×V))(k:κ)(v:V):List (κ×V) :=
 if(kvs.any λkv=>decide (kv.1=k))=true then kvs.map (λkv=>if kv.1=k then(kv.1,v) else kv) else kvs++[(k,v)]
def kn{p:κ×V}{r:List (κ×V)}{k:κ}(e:p.1=k):nu (p::r) k=some p.2:=by simp[nu,List.find?_cons,e]
def iI{p:κ×V}{r:List (κ×V)}{k:κ}(e:¬p.1=k):nu (p::r) k=nu r k:=by simp[nu,List.find?_cons,e]
theorem uP(k:κ):∀kvs:List (κ×V),(kvs.any λkv=>decide (kv.1=k))=(nu kvs k).isSome
 |[]=>rfl
 |p::r=>by
  rw[List.any_cons]
  by_cases e:p.1=k
  .simp only[kn e,decide_eq_true e,Bool.true_or,Option.isSome_some]
  .rw[iI e,decide_eq_false e,Bool.false_or];exact uP k r
def iT(kvs:List (κ×V))(k:κ)(v:V):(gB kvs k v).length<=kvs.length+1:=by
 unfold gB;split
 .rw[List.length_map];omega
 .rw[List.length_append,List.length_cons,List.length_nil];omega
def wR.isSome_eq(r:wR o u):o.isSome=u.isSome:=by
 cases o with
 |none=>cases u with
  |none=>rfl
  |some _=>exact(show False from r).elim
 |some _=>cases u with
  |none=>exact(show False from r).elim
  |some _=>rfl
def KV.val{kvs:List (κ×V)}{vs:List (κ×Value)}(r:KV kvs vs)(k:κ):wR (nu kvs k) (valueAt vs k):=by
 unfold KV at r
 induction r with
 |nil=>exact True.intro
 |@cons p q ps qs h t ih=>
  obtain⟨h1,h2⟩:=h
  by_cases e:p.1=k
  .have e':q.1=k:=h1.symm.trans e
   have b:valueAt (q::qs) k=some q.2:=by simp[valueAt,List.find?_cons,e']
   rw[kn e,b];exact h2
  .have e':¬q.1=k:=λz=>e (h1.trans z)
   have b:valueAt (q::qs) k=valueAt qs k:=by simp[valueAt,List.find?_cons,e']
   rw[iI e,b];exact ih
def KV.any{kvs:List (κ×V)}{vs:List (κ×Value)}(r:KV kvs vs)(k:κ):(kvs.any λkv=>decide (kv.1=k))=vs.any λkv=>decide (kv.1=k):=by
 unfold KV at r
 induction r with|nil=>rfl|cons h t ih=>rw[List.any_cons,List.any_cons,ih,h.1]
def KV.repl{kvs:List (κ×V)}{vs:List (κ×Value)}(r:KV kvs vs)(k:κ){y:V}{u:Value}(ry:bo y u) :
  KV (kvs.map λkv=>if kv.1=k then(kv.1,y) else kv) (vs.map λkv=>if kv.1=k then(kv.1,u) else kv):=by
 unfold KV at r ⊢
 induction r with
 |nil=>exact .nil
 |@cons p q ps qs h t ih=>
  rw[List.map_cons,List.map_cons];refine .cons ?_ ih;obtain⟨h1,h2⟩:=h
  by_cases e:p.1=k
  .rw[if_pos e,if_pos (h1.symm.trans e)];exact⟨h1,ry⟩
  .rw[if_neg e,if_neg (λz=>e (h1.trans z))];exact⟨h1,h2⟩
def KV.put{kvs:List (κ×V)}{vs:List (κ×Value)}(r:KV kvs vs)(k:κ){y:V}{u:Value}(ry:bo y u):KV (gB kvs k y) (stored vs k u):=by
 unfold gB stored;rw[r.any k]
 by_cases e:(vs.any λkv=>decide (kv.1=k))=true
 .rw[if_pos e,if_pos e];exact r.repl k ry
 .rw[if_neg e,if_neg e];exact Paired.snoc r ⟨rfl,ry⟩
def KV.length{kvs:List (κ×V)}{vs:List (κ×Value)}(r:KV kvs vs):kvs.length=vs.length:=Paired.length r
end
def sq{k:eA}(r:bo (kV k) u):(cB P w).is k u=true:=by
 cases k with|inl i=>obtain⟨t,e⟩:=(show ∃t,u=Value.int i t from r);subst e;exact vq P w i t|inr x=>obtain⟨t,e⟩:=(show ∃t,u=Value.str x t from r);subst e;exact vp P w x t
theorem sr:∀{ks:List eA}{us:List Value},bD (ks.map kV) us->ItemsAre (cB P w) ks us
 |[],_,r=>by rw[List.map_nil]at r;cases r;exact .nil
 |k::ks,_,r=>by
  rw[List.map_cons]at r;cases r with|cons h t=>exact .cons (sq h) (sr t)
abbrev KT(H:Hp):List (List eA×V)->List (List eA×Addr×Value)->Prop:=Paired λp q=>p.1=q.1/\H q.2.1=some (.tup (p.1.map kV))/\bo p.2 q.2.2
def KT.val(r:KT H kvs xs)(k:List eA):wR (nu kvs k) ((atKey xs k).map (·.2)):=by
 induction r with
 |nil=>exact True.intro
 |@cons p q ps qs h t ih=>
  obtain⟨h1,_,h2⟩:=h
  by_cases e:p.1=k
  .have e':q.1=k:=h1.symm.trans e
   have b:atKey (q::qs) k=some q.2:=by simp[atKey,List.find?_cons,e']
   rw[kn e,b];exact h2
  .have e':¬q.1=k:=λz=>e (h1.trans z)
   have b:atKey (q::qs) k=atKey qs k:=by simp[atKey,List.find?_cons,e']
   rw[iI e,b];exact ih
def KT.repl(r:KT H kvs xs)(k:List eA)(ry:bo y u) :
  KT H (kvs.map λkv=>if kv.1=k then(kv.1,y) else kv) (xs.map (putAt k u)):=by
 induction r with
 |nil=>exact .nil
 |@cons p q ps qs h t ih=>
  rw[List.map_cons,List.map_cons];refine .cons ?_ ih;obtain⟨h1,h2,h3⟩:=h;unfold putAt
  by_cases e:p.1=k
  .rw[if_pos e,if_pos (h1.symm.trans e)];exact⟨h1,h2,ry⟩
  .rw[if_neg e,if_neg (λz=>e (h1.trans z))];exact⟨h1,h2,h3⟩
def KT.put(r:KT H kvs xs)(k:List eA)(hb:H b=some (.tup (k.map kV)))(ry:bo y u) :
  KT H (gB kvs k y) (storedH xs k b u):=by
 have e:(kvs.any λkv=>decide (kv.1=k))=(atKey xs k).isSome:=by
  rw[uP,(r.val k).isSome_eq,Option.isSome_map]
 unfold gB storedH;rw[e]
 by_cases q:(atKey xs k).isSome=true
 .rw[if_pos q,if_pos q];exact r.repl k ry
 .rw[if_neg q,if_neg q];exact Paired.snoc r ⟨rfl,hb,ry⟩
def KT.keeps(r:KT H kvs xs)(ht:∀b ys,H b=some (.tup ys)->H' b=some (.tup ys)):KT H' kvs xs :=
 jl r λ_ _ z=>⟨z.1,ht _ _ z.2.1,z.2.2⟩
section
variable {P:Program}{w:World}{H:Hp}{h:Heap}{a:Addr}
def Gf(ok:kj P w H h)(e:Rd H a u):cg P w H h a u:=e.ok ok
def sN(ok:kj P w H h)(e:Rd H a (.dK kvs)):kvs.length<=sizeLine/\(a==sysModules)=false/\∃vs,KV kvs vs/\h.DictOf (cB P w) a vs :=
 show cg P w H h a (.dK kvs) from Gf ok e
def GJ(ok:kj P w H h)(e:H a=some (.dK kvs)):kvs.length<=sizeLine/\(a==sysModules)=false/\∃vs,KV kvs vs/\h.DictOf (cB P w) a vs:=sN ok (.inl e)
def pb(ok:kj P w H h)(e:H a=some (.tup (ks.map kV))):(tupleKind (cB P w)).is h ks a:=by
 obtain⟨_,its,r,o,h1,h2,n,h3⟩:=(show cg P w H h a (.tup (ks.map kV)) from ok a _ e)
 exact⟨o,its.toArray,n,h1,h2,h3,by simpa using sr r⟩
def wq(ok:kj P w H h)(e:Rd H a (.dT kvs)):kvs.length<=sizeLine/\(a==sysModules)=false /\
  ∃xs,KT H kvs xs/\h.DictOfH (tupleKind (cB P w)) a xs:=by
 obtain⟨z,y,xs,r,o,es,ep,h1,h2,h3,h4,h5⟩:=(show cg P w H h a (.dT kvs) from Gf ok e)
 refine⟨z,y,xs,r,o,es,ep,h1,h2,h3,h4,λx hx=>?_,h5⟩;have all:∀{l:List (List eA×V)}{m:List (List eA×Addr×Value)},KT H l m->∀x∈m,(tupleKind (cB P w)).is h x.1 x.2.1:=by
  intro l m q
  induction q with
  |nil=>intro x hx;exact nomatch hx
  |@cons p q ps qs hq t ih=>
   intro x hx;rcases List.mem_cons.mp hx with e|hx
   .subst e
    exact pb ok (by rw[←hq.1];exact hq.2.1)
   .exact ih x hx
 exact all r x hx
def KJ(ok:kj P w H h)(e:H a=some (.dT kvs)):kvs.length<=sizeLine/\(a==sysModules)=false /\
  ∃xs,KT H kvs xs/\h.DictOfH (tupleKind (cB P w)) a xs:=wq ok (.inl e)
end
def uL(H:Hp)(a:Addr)(y:V)(r:Option V):Prop :=
 (∃kvs k,Rd H a (.dK kvs)/\y=kV k/\r=nu kvs k)∨∃kvs k b,Rd H a (.dT kvs)/\y=.ref b/\H b=some (.tup (k.map kV))/\r=nu kvs k
noncomputable def yn(H:Hp) (a:Addr) (y v:V) (H':Hp):Prop :=
 (∃kvs k,H a=some (.dK kvs)/\y=kV k/\kvs.length<sizeLine/\H'=upd H a (.dK (gB kvs k v))) ∨
 ∃kvs k b,H a=some (.dT kvs)/\y=.ref b/\H b=some (.tup (k.map kV))/\kvs.length<sizeLine/\H'=upd H a (.dT (gB kvs k v))
theorem yn.k{k:eA}(e:H a=some (.dK kvs))(hl:kvs.length<sizeLine):yn H a (kV k) v (upd H a (.dK (gB kvs k v))):=.inl ⟨kvs,k,e,rfl,hl,rfl⟩
section
variable {X:Cx}{pins:List (Addr×Obj)}{σ:St}{H:Hp}{s:Shared}{a:Addr}{y v:V}{u r:Value}{o:Option V}{A:Around}{E:Value->Shared->Prop}
def Inv.big(I:Inv X pins σ H s):sysModules<s.heap.objs.size:=by
 have h:mainGlobals<s.heap.objs.size:=(I.mod.glob.keeps I.bk).lt;exact Nat.lt_trans (by decide) h
def A9(hu:A.units+1<cLine)(I:Inv X pins σ H s)(g:uL H a y (some v))(ry:bo y u)(h:∀w' s',Inv X pins σ H s'->bo v w'->Q w' s') :
  wpAny (model X.prog X.w) A (getItem (.ref a) u) Q E s:=by
 rcases g with⟨kvs,k,e,ey,l⟩|⟨kvs,k,b,e,ey,eb,l⟩
 .subst ey
  obtain⟨z,hd,vs,rel,dd⟩:=sN I.hok e;obtain⟨w',hw,rw'⟩:=l9 (v:=v) (o:=valueAt vs k) (by rw[l];exact rel.val k);exact wpAny_getItem_of (sq ry) dd.mapOf hw (h w' _ (I.tok _) rw')
 .subst ey
  cases (show u=Value.ref b from ry);obtain⟨z,hd,xs,rel,dd⟩:=wq I.hok e;obtain⟨w',hw,rw'⟩:=l9 (v:=v) (o:=(atKey xs k).map (·.2)) (by rw[l];exact rel.val k);obtain⟨p,hp,hp2⟩:=Option.map_eq_some_iff.mp hw;refine wpAny_getItem_heap (tupleKind_room_in1 hu) (pb I.hok eb) dd hp ?_;rw[hp2];exact h w' _ (I.tok _) rw'
def LZ(hu:A.units+1<cLine)(I:Inv X pins σ H s)(g:uL H a y o)(ry:bo y u)(h:∀s',Inv X pins σ H s'->Q (.bool o.isSome) s') :
  wpAny (model X.prog X.w) A (compareOp .In u (.ref a)) Q E s:=by
 rcases g with⟨kvs,k,e,ey,l⟩|⟨kvs,k,b,e,ey,eb,l⟩
 .subst ey
  obtain⟨z,hd,vs,rel,dd⟩:=sN I.hok e;refine wpAny_in_of (sq ry) hd dd.mapOf ?_;rw[←(rel.val k).isSome_eq,←l];exact h _ (I.tok _)
 .subst ey
  cases (show u=Value.ref b from ry);obtain⟨z,hd,xs,rel,dd⟩:=wq I.hok e;refine wpAny_in_heap (tupleKind_room_in1 hu) (pb I.hok eb) hd dd ?_;have q:=(rel.val k).isSome_eq;rw[Option.isSome_map]at q;rw[←q,←l];exact h _ (I.tok _)
def FK(hu:A.units+1<cLine)(I:Inv X pins σ H s)(g:uL H a y o)(ry:bo y u)(h:∀s',Inv X pins σ H s'->Q (.bool (!o.isSome)) s') :
  wpAny (model X.prog X.w) A (compareOp .NotIn u (.ref a)) Q E s:=by
 rcases g with⟨kvs,k,e,ey,l⟩|⟨kvs,k,b,e,ey,eb,l⟩
 .subst ey
  obtain⟨z,hd,vs,rel,dd⟩:=sN I.hok e;refine wpAny_notIn_of (sq ry) hd dd.mapOf ?_;rw[←(rel.val k).isSome_eq,←l];exact h _ (I.tok _)
 .subst ey
  cases (show u=Value.ref b from ry);obtain⟨z,hd,xs,rel,dd⟩:=wq I.hok e;refine wpAny_notIn_heap (tupleKind_room_in1 hu) (pb I.hok eb) hd dd ?_;have q:=(rel.val k).isSome_eq;rw[Option.isSome_map]at q;rw[←q,←l];exact h _ (I.tok _)
def uC(I:Inv X pins σ H s)(mu:K1 (H a))(hs:Heap.SameBut a s.heap h')(he:∃q,h'.get? a=some q)(new:cg X.prog X.w (upd H a ob) h' a ob) :
  Inv X pins σ (upd H a ob) { s with heap:=h',toks:=t' } :=
 I.write (x:=a) (e:=a) mu (.inl rfl) (λb q hb z=>(hs.2 b hb).trans z) he new
def Dr(z:kvs.length<=sizeLine)(hd:(a==sysModules)=false)(rel:KV kvs vs)(dd:h'.DictOf (cB P w) a vs) :
  cg P w H' h' a (.dK kvs):=⟨z,hd,vs,rel,dd⟩
def A8(hu:A.units+1<cLine)(I:Inv X pins σ H s)(g:yn H a y v H')(ry:bo y u)(rv:bo v r)(h:∀s',Inv X pins σ H' s'->Q () s') :
  wpAny (model X.prog X.w) A (setItem (.ref a) u r) Q E s:=by
 rcases g with⟨kvs,k,e,ey,l,eH⟩|⟨kvs,k,b,e,ey,eb,l,eH⟩
 .subst ey eH
  obtain⟨z,hd,vs,rel,dd⟩:=GJ I.hok e;have hz:vs.length<=sizeLine:=by rw[←rel.length];exact z
  have hl:(gB kvs k v).length<=sizeLine:=by have:=iT kvs k v;omega
  refine wpAny_setItem_pairs (hsz:=hz) (sq ry) dd λh' dd' hs=>h _ ?_;have he:∃q,h'.get? a=some q:=let ⟨q,_,_,hq,_⟩:=dd';⟨q,hq⟩;exact uC I (by rw[e];exact True.intro) hs he (Dr hl hd (rel.put k rv) dd')
 .subst ey eH
  cases (show u=Value.ref b from ry);obtain⟨z,hd,xs,rel,dd⟩:=KJ I.hok e;have hz:xs.length<=sizeLine:=by rw[←Paired.length rel];exact z
  have hl:(gB kvs k v).length<=sizeLine:=by have:=iT kvs k v;omega
  refine wpAny_setItem_heap (hsz:=hz) (tupleKind_room_in1 hu) (pb I.hok eb) dd λh' dd' hs=>h _ ?_;obtain⟨q,es,ep,hq,h2,h3,h4,_,h5⟩:=dd';refine uC I (by rw[e];exact True.intro) hs ⟨q,hq⟩ ⟨hl,hd,_,(rel.put k eb rv).keeps λc ys ec=>?_,q,es,ep,hq,h2,h3,h4,h5⟩;rw[az (Kh ec e (λz=>nomatch z))];exact ec
end
section
variable {X:Cx}{pins:List (Addr×Obj)}{σ:St}{H:Hp}{s:Shared}{a:Addr}{kvs:List (eA×V)}{k:eA}{u:Value}{A:Around}{E:Value->Shared->Prop}
def KR(I:Inv X pins σ H s)(e:Rd H a (.dK kvs))(h:∀t s',Inv X pins σ H s'->Q (.int kvs.length t) s'):wpAny (model X.prog X.w) A (call (.builtin "len") [.ref a]) Q E s:=by
 obtain⟨z,hd,vs,rel,dd⟩:=sN I.hok e;refine call_len_dict hd dd (by rw[←rel.length];rw[sizeLine_eq]at z;omega) ?_;rw[←rel.length];exact h _ _ (I.tok _)
end
def IZ(i:Expr):Prop:=∀ov iv,subscripted i false ov iv=operate [ov,iv] (getItem ov iv)
def EA{T id:String} 
  (hl:typeLookup (.type T) "__getitem__"=pure (some (.builtin id)))(hs:IZ slice)
  (h:wpAny (model prog w) A (eval value env) (λo sg=>wpAny (model prog w) A (eval slice env) (λi si=>si.TypeIs o T/\wpAny (model prog w) A (getItem o i) Q E si) E sg) E s) :
  wpAny (model prog w) A (eval (.Subscript value slice pos) env) Q E s:=by
 refine Subscript_ (wpAny_mono h (λo sg hU=>wpAny_mono hU (λi si hV=>?_) λ_ _ x=>x) λ_ _ x=>x);obtain⟨hT,hV⟩:=hV;unfold subscriptTail;refine wpAny_bind ?_;rw[getitemInPython_of_ne hT.not_modules];refine wpAny_bind (wpAny_specialOf hT hl ?_);have fin:wpAny (model prog w) A (subscripted slice false o i) (λr sj=>wpAny (model prog w) A (letTemporaryGo value o r >>= λ_=>pure r) Q E sj) E si:=by
  rw[hs o i];exact wpAny_operating (wpAny_mono hV (λr sj hX=>wpAny_bind (wpAny_letTemporaryGo (wpAny_pure hX))) λ_ _ x=>x)
 first
  |exact wpAny_pure (wpAny_bind fin)
  |exact wpAny_bind (wpAny_pure (wpAny_bind fin))
  |exact wpAny_bind fin
def wz(I:Inv X pins σ H s)(g:uL H a y o):s.TypeIs (.ref a) "dict":=by
 rcases g with⟨kvs,k,e,_,_⟩|⟨kvs,k,b,e,_,_,_⟩
 .obtain⟨_,_,vs,_,dd⟩:=sN I.hok e
  exact dd.typeIs
 .obtain⟨_,_,xs,_,dd⟩:=wq I.hok e
  exact dd.typeIs
def JE(td ty:TE):TE:=λσ H Q=>td σ H λx H1=>ty σ H1 λy H2=>∃a v,x=.ref a/\uL H2 a y (some v)/\Q v H2
def JL(td ty tv:TE):TS:=λD σ H=>tv σ H λv H1=>td σ H1 λx H2=>ty σ H2 λy H3=>∃a H4,x=.ref a/\yn H3 a y v H4/\D.nx σ H4
section
variable {X:Cx}{o i e value:Expr}{pos pos' tpos:Pos}{td ty tv:TE}
def EX(hu:X.A.units+1<cLine)(ho:PE X o td)(hi:PE X i ty)(hs:IZ i):PE X (.Subscript o i pos) (JE td ty):=by
 intro pins s σ H Q I h;refine EA PySem.F.slot_dict_getitem.lookup hs (cC (ho pins s σ H _ I h) λu s1 ⟨x,H1,I1,rx,q1⟩=>cC (hi pins s1 σ H1 _ I1 q1) λiv s2 z9=>?_);obtain⟨y,H2,I2,ry,a,v,ex,g,q2⟩:=z9;subst ex;obtain rfl:u=Value.ref a:=rx;exact⟨wz I2 g,A9 hu I2 g ry λw' s3 I3 rw'=>⟨v,H2,I3,rw',q2⟩⟩
def yJ(hu:X.A.units+1<cLine)(ho:PE X o td)(hi:PE X i ty)(hv:PE X value tv)(hs:swapsWith value (some (.Subscript o i pos')) pos.line X.env=pure false) :
  PS X (.Assign [.Subscript o i pos'] value pos) (JL td ty tv):=by
 intro pins s σ H D I h;refine wpAny_Assign_Subscript (cC (hv pins s σ H _ I h) λr s1 ⟨v,H1,I1,rv,q1⟩=>cC (ho pins s1 σ H1 _ I1 q1) λu s2 ⟨x,H2,I2,rx,q2⟩=>cC (hi pins s2 σ H2 _ I2 q2) λiv s3 z9=>?_) hs;obtain⟨y,H3,I3,ry,a,H4,ex,g,q3⟩:=z9;subst ex;obtain rfl:u=Value.ref a:=rx;exact A8 hu I3 g ry rv λs4 I4=>⟨σ,H4,I4,q3⟩
end
def wx(h:Heap)(hb:sysModules<h.objs.size):cg P w H (h.push { cls:=.type "dict",data:=.dict #[] }) h.objs.size (.dK []) :=
 ⟨Nat.zero_le _,beq_eq_false_iff_ne.mpr (Ne.symm (Nat.ne_of_lt hb)),[],.nil,Heap.DictOf.new h⟩
def Hi:TE:=λ_ H Q=>∀p,H p=none->Q (.ref p) (upd H p (.dK []))
section
variable {X:Cx}{pos:Pos}
def Cr:PE X (.Dict [] [] pos) Hi:=λpins s σ H Q I h=>
 wpAny_Dict_empty ⟨.ref s.heap.objs.size,_,I.laid (a:=s.heap.objs.size) (o:=.dK []) (t':=s.toks) (λ_ _ q=>Heap.get?_push_of_some _ q) (Nat.le_refl _) (wx s.heap I.big),rfl,h _ (I.hok.fresh (Nat.le_refl _))⟩
end
def xc:List (TE×TE)->St->Hp->(List (V×V)->Hp->Prop)->Prop
 |[],_,H,Q=>Q [] H
 |(tk,tv)::r,σ,H,Q=>tk σ H λx H1=>tv σ H1 λy H2=>xc r σ H2 λps H3=>Q ((x,y)::ps) H3
abbrev VV:List (V×V)->List (Value×Value)->Prop:=Paired λp q=>bo p.1 q.1/\bo p.2 q.2
noncomputable def Lh(X:Cx) (pos:Pos) (keys:List (Option Expr)) (values:List Expr) (trs:List (TE×TE)):Prop :=
 ∀(pins:List (Addr×Obj)) (s:Shared) (σ:St) (H:Hp) (Q:List (V×V)->Hp->Prop),Inv X pins σ H s->xc trs σ H Q ->
  wpAny (model X.prog X.w) X.A (evalPairs (pairTrees keys values X.env pos)) (λvs s'=>∃ps H',Inv X pins σ H' s'/\VV ps vs/\Q ps H') X.xe s
def EL:Lh X pos [] [] []:=λpins s σ H Q I h=>pairTrees_nil_walk ⟨[],H,I,.nil,h⟩
def Ci{k v:Expr}(hk:PE X k tk)(hv:PE X v tv)(hr:Lh X pos ks vs trs) :
  Lh X pos (some k::ks) (v::vs) ((tk,tv)::trs):=λpins s σ H Q I h=>
 pairTrees_cons_walk (cC (hk pins s σ H _ I h) λu s1 ⟨x,H1,I1,rx,q1⟩=>cC (hv pins s1 σ H1 _ I1 q1) λw2 s2 ⟨y,H2,I2,ry,q2⟩ =>
  cC (hr pins s2 σ H2 _ I2 q2) λws s3 ⟨ps,H3,I3,rel,q3⟩=>⟨(x,y)::ps,H3,I3,.cons ⟨rx,ry⟩ rel,q3⟩)
def oY(kvs more:List (eA×V)):List (eA×V):=more.foldl (λacc kv=>gB acc kv.1 kv.2) kvs
def KV.merge:∀{more:List (eA×V)}{rs:List (eA×Value)}{kvs:List (eA×V)}{vs:List (eA×Value)},KV more rs->KV kvs vs->KV (oY kvs more) (merged vs rs):=by
 intro more rs kvs vs r;unfold KV at r
 induction r generalizing kvs vs with
 |nil=>intro q;exact q
 |@cons p q ps qs h t ih=>
  intro r0;have e:KV (gB kvs p.1 p.2) (stored vs q.1 q.2):=by
   have:=r0.put p.1 h.2;rw[←h.1];exact this
  exact ih e
theorem jO:∀(more kvs:List (eA×V)),(oY kvs more).length<=kvs.length+more.length
 |[],kvs=>by show kvs.length<=kvs.length+0;omega
 |p::r,kvs=>by
  have h1:=jO r (gB kvs p.1 p.2);have h2:=iT kvs p.1 p.2;show(oY (gB kvs p.1 p.2) r).length<=_;rw[List.length_cons];omega
theorem qF:∀{kvs:List (eA×V)}{ws:List (Value×Value)},VV (kvs.map λkv=>(kV kv.1,kv.2)) ws->∃rs,Carries (cB P w) ws rs/\KV kvs rs
 |[],_,r=>by rw[List.map_nil]at r;cases r;exact⟨[],True.intro,.nil⟩
 |p::kvs,_,r=>by
  rw[List.map_cons]at r;cases r with
  |@cons a b as bs h t=>
   obtain⟨rs,c,q⟩:=qF (P:=P) (w:=w) t;obtain⟨b1,b2⟩:=b;exact⟨(p.1,b2)::rs,⟨sq h.1,rfl,c⟩,.cons ⟨rfl,h.2⟩ q⟩
def JD(trs:List (TE×TE)):TE:=λσ H Q=>∀p,H p=none->xc trs σ (upd H p (.dK [])) λps H2=>H2 p=some (.dK [])/\∃kvs:List (eA×V),ps=kvs.map (λkv=>(kV kv.1,kv.2))/\kvs.length<=15/\Q (.ref p) (upd H2 p (.dK (oY [] kvs)))
def EW(h:Lh X pos keys values trs)(hall:keys.all (·.isSome)=true)(hl:keys.length=values.length)(h0:keys≠[])
  (h15:keys.length<=15):PE X (.Dict keys values pos) (JD trs):=by
 intro pins s σ H Q I q;have hn:=I.hok.fresh (Nat.le_refl s.heap.objs.size);have I1:=I.laid (a:=s.heap.objs.size) (o:=.dK []) (h':=s.heap.push { cls:=.type "dict",data:=.dict #[] }) (t':=s.toks) (λ_ _ q=>Heap.get?_push_of_some _ q) (Nat.le_refl _) (wx s.heap I.big);refine wpAny_Dict_walk (knd:=cB X.prog X.w) hall hl h0 h15 (cC (h pins _ σ _ _ I1 (q _ hn)) λws s2 ⟨ps,H2,I2,rel,e,kvs,ep,lk,q2⟩=>?_);subst ep;obtain⟨rs,c,rk⟩:=qF (P:=X.prog) (w:=X.w) rel;obtain⟨z,hd,vs0,r0,dd⟩:=GJ I2.hok e;cases r0;refine⟨rs,c,dd,λh' dd' hs=>⟨.ref s.heap.objs.size,_,?_,rfl,q2⟩⟩;have hz:(oY [] kvs).length<=sizeLine:=by
  have h1:=jO kvs [];rw[List.length_nil]at h1;rw[sizeLine_eq];omega
 have he:∃q,h'.get? s.heap.objs.size=some q:=let ⟨q,_,_,hq,_⟩:=dd';⟨q,hq⟩;exact uC I2 (by rw[e];exact True.intro) hs he (Dr hz hd (rk.merge .nil) dd')
end L2
namespace DL
open PySem PySem.Spec PyProof.Rows L2
section
variable {X:Cx}{E:XK}{e:Expr}{f:al}{pos p1:Pos}
def dOne(x:Str)(d:D):aj D:=.ok (.dic [x] [d])
end
def fQ(cells:List (Str×Addr)):List (Str×NameKind)->List (Str×Addr)->List (Str×Addr)
 |[],acc=>acc
 |(n,k)::r,acc=>if(k==NameKind.free)=true then fQ cells r ((n,(cells.lookup n).getD 0)::acc) else fQ cells r acc
def jP(h:∀x∈scope.names,x.2=.free->∃c,env.cells.lookup x.1=some c):closureFor scope env=pure (fQ env.cells scope.names []):=by
 simp only[closureFor];have key:∀(names:List (Str×NameKind)) (acc:List (Str×Addr)),(∀x∈names,x.2=.free->∃c,env.cells.lookup x.1=some c) ->
   (forIn names acc λ(x:Str×NameKind) (z:List (Str×Addr))=>
      if(x.snd==NameKind.free)=true then do
       let y ←cellOf env x.fst
       pure (ForInStep.yield ((x.fst,y)::z))
      else(pure (ForInStep.yield z):Sem _))=pure (fQ env.cells names acc):=by
  intro names
  induction names with
  |nil=>intro acc _;rfl
  |cons x r ih=>
   intro acc hh;obtain⟨n,k⟩:=x;rw[List.forIn_cons]
   by_cases hk:(k==NameKind.free)=true
   .obtain⟨c,hc⟩:=hh (n,k) List.mem_cons_self (by simpa using hk)
    have hcell:cellOf env n=pure c:=by unfold cellOf;rw[show env.cells.lookup n=some c from hc]
    simp only[hk,if_true];rw[hcell];have:=ih ((n,c)::acc) (λy hy=>hh y (List.mem_cons_of_mem _ hy));rw[show fQ env.cells ((n,k)::r) acc=fQ env.cells r ((n,c)::acc) by
     show(if(k==NameKind.free)=true then _ else _)=_;rw[if_pos hk,show env.cells.lookup n=some c from hc];rfl]
    rw[←this];rfl
   .have:=ih acc (λy hy=>hh y (List.mem_cons_of_mem _ hy))
    rw[if_neg hk];rw[show fQ env.cells ((n,k)::r) acc=fQ env.cells r acc by
     show(if(k==NameKind.free)=true then _ else _)=_;rw[if_neg hk]]
    rw[←this];rfl
 rw[key _ _ h];rfl
theorem qB{cells:List (Str×Addr)}:∀{names:List (Str×NameKind)}{acc:List (Str×Addr)}{x:Str}{c:Addr},(∀y∈names,y.2=.free->∃c,cells.lookup y.1=some c) ->
  (fQ cells names acc).lookup x=some c->acc.lookup x=some c∨cells.lookup x=some c
 |[],acc,x,c,_,h=>.inl h
 |(n,k)::r,acc,x,c,hh,h=>by
  unfold fQ at h
  by_cases hk:(k==NameKind.free)=true
  .rw[if_pos hk]at h
   obtain⟨d,hd⟩:=hh (n,k) List.mem_cons_self (by simpa using hk);rcases qB (λy hy=>hh y (List.mem_cons_of_mem _ hy)) h with h|h
   .rw[List.lookup_cons]at h
    cases e:x==n with
    |true=>
     rw[e]at h;rw[show cells.lookup n=some d from hd]at h;cases h;rw[eq_of_beq e];exact .inr hd
    |false=>rw[e]at h;exact .inl h
   .exact .inr h
  .rw[if_neg hk]at h
   exact qB (λy hy=>hh y (List.mem_cons_of_mem _ hy)) h
theorem mW{α:Type}:∀{l:List (Str×α)},(∃v,(x,v)∈l)->∃v,l.lookup x=some v
 |[],⟨v,h⟩=>by cases h
 |(n,w)::r,⟨v,h⟩=>by
  rw[List.lookup_cons];cases e:x==n with
  |true=>exact⟨w,rfl⟩
  |false=>
   rcases List.mem_cons.mp h with h|h
   .cases h;simp at e
   .exact mW ⟨v,h⟩
theorem qE:∀{names:List (Str×NameKind)}{acc:List (Str×Addr)},(x,c)∈acc->(x,c)∈fQ cells names acc
 |[],acc,h=>h
 |(n,k)::r,acc,h=>by
  unfold fQ
  by_cases hk:(k==NameKind.free)=true
  .rw[if_pos hk];exact qE (List.mem_cons_of_mem _ h)
  .rw[if_neg hk];exact qE h
def qC:∀{names:List (Str×NameKind)}{acc:List (Str×Addr)},(x,NameKind.free)∈names->∃c,(fQ cells names acc).lookup x=some c:=by
 intro names
 induction names with
 |nil=>intro acc h;cases h
 |cons y r ih=>
  intro acc h;obtain⟨n,k⟩:=y;unfold fQ;rcases List.mem_cons.mp h with h|h
  .cases h
   rw[if_pos (by rfl)];exact mW ⟨_,qE List.mem_cons_self⟩
  .by_cases hk:(k==NameKind.free)=true
   .rw[if_pos hk];exact ih h
   .rw[if_neg hk];exact ih h
noncomputable def cz(X:Cx) (N:List Str) (scope:Scope) (s:Shared) (H:Hp) (C:Addr) (fp:List Addr) (pn:List (Addr×Obj)):Cx :=
 { X with N:=N,sf:=s,Ha:=H,env:=compEnvC scope (fQ X.env.cells scope.names []) C X.env,outer:=X.stack,stack:=X.stack,ex:=fp,fn:=λ_=>false,pn:=pn,xe:=λ_ _=>False }
def iB(n:Nat)(fr:bi)(σ:L2.St):L2.St:=List.replicate n none++fr.map λ(i:Nat)=>(σ[i]?).getD none
noncomputable def ym(X:Cx) (N:List Str) (n:Nat) (fr:bi) (scope:Scope):Prop :=
 N.length=n+fr.length/\((N.drop n).zip fr).all (λp=>X.N[p.2]?==some p.1&&X.env.scope.names.lookup p.1==some .cell&&scope.names.lookup p.1==some .free&&(relabel scope X.env).names.lookup p.1==some .cell)=true
theorem ym.at{fr:bi}(h:ym X N n fr scope){k:Nat}(hx:N[k]?=some x)(hv:(iB n fr σ)[k]?=some (some v)) :
  ∃i:Nat,X.N[i]?=some x/\σ[i]?=some (some v)/\X.env.scope.names.lookup x=some .cell/\scope.names.lookup x=some .free/\(relabel scope X.env).names.lookup x=some .cell:=by
 unfold iB at hv
 by_cases hk:k<n
 .rw[List.getElem?_append_left (by simpa using hk),List.getElem?_replicate,if_pos hk]at hv
  cases hv
 .rw[List.getElem?_append_right (by simpa using hk),List.length_replicate,List.getElem?_map]at hv
  cases hi:fr[k-n]? with
  |none=>rw[hi]at hv;cases hv
  |some i=>
   rw[hi]at hv;have hz:((N.drop n).zip fr)[k-n]?=some (x,i):=by
    rw[List.getElem?_zip_eq_some];exact⟨by rw[List.getElem?_drop,show n+(k-n)=k by omega];exact hx,hi⟩
   have:=List.all_eq_true.mp h.2 _ (List.mem_of_getElem? hz);simp only[Bool.and_eq_true,beq_iff_eq]at this;refine⟨i,this.1.1.1,?_,this.1.1.2,this.1.2,this.2⟩;simp only[Option.map_some,Option.some.injEq]at hv;cases hs:σ[i]? with|none=>rw[hs]at hv;cases hv|some u=>rw[hs]at hv;exact congrArg some hv
noncomputable def Jq(X:Cx) (ifs:List Expr) (t:TT):Prop :=
 ∀(pins:List (Addr×Obj)) (s:Shared) (σ:L2.St) (H:Hp) (Q:Bool->Hp->Prop),Inv X pins σ H s->t σ H Q ->
  wpAny (model X.prog X.w) X.A (forIn ifs true λc r=>if r=true then do let ok ←isTrue c X.env (eval c X.env);pure (ForInStep.yield ok) else pure (ForInStep.yield r)) (TP X pins σ Q) X.xe s
def BH:TT:=λ_ H Q=>Q true H
def yL:Jq X [] BH:=λ_ _ _ H _ I h=>wpAny_tests_nil ⟨H,I,h⟩
def ER(h:PT X c t):Jq X [c] t:=λpins s σ H Q I q=>wpAny_tests_one (h pins s σ H Q I q)
theorem qw(I:Nat->Shared->Prop)
  (turn:∀n s,I n s->wpAny (model prog w) A (pyNext it) (λr sg=>match r with
   |none=>R (.ok .next) sg
   |some v=>wpAny (model prog w) A (letOwnedTupleGo target it v) (λ_ sg'=>wpAny (model prog w) A (assign target env v) (λ_ si=>
     wpAny (model prog w) A (forIn ifs true λc r=>if r=true then do let ok ←isTrue c env (eval c env);pure (ForInStep.yield ok) else pure (ForInStep.yield r)) (λok sj=>
      if ok=true then wpAny (model prog w) A (eval elt env) (λx sk=>
       wpAny (model prog w) A (call (.builtin "list.append") [acc,x]) (λ_ sn=>∃m,m<n/\I m sn) (λ_ _=>False) sk) (λ_ _=>False) sj
      else ∃m,m<n/\I m sj) (λ_ _=>False) si) (λ_ _=>False) sg') (λ_ _=>False) sg) (λ_ _=>False) s)
  (n:Nat) (h:I n s) :
  codeAny (model prog w) A (.compLoop (.ListComp elt [⟨target,iter,ifs,0⟩] scope pos) 0 it acc env) R s:=by
 refine codeAny_loop rfl I (λn s hI=>?_) n h;show wpAny _ A ((compTurn (.ListComp elt [⟨target,iter,ifs,0⟩] scope pos) 0 it acc env).onRaise (λx=>do noteFrame x env;theTreesLotGoes x)) _ _ s;refine wpAny_noted ?_;rw[compTurn_list];refine wpAny_bind (wpAny_standAt (wpAny_bind (wpAny_mono (turn n s hI) (λr sg hU=>?_) λ_ _ h'=>h'.elim)));cases r with
 |none=>exact wpAny_pure hU
 |some v=>
  refine wpAny_bind (wpAny_mono hU (λ_ sg' hU'=>?_) λ_ _ h'=>h'.elim);refine wpAny_bind (wpAny_mono hU' (λ_ si hV=>wpAny_bind (wpAny_mono hV (λok sj hX=>?_) λ_ _ h'=>h'.elim)) λ_ _ h'=>h'.elim);cases ok with
  |false=>exact wpAny_pure ⟨rfl,hX⟩
  |true=>
   exact wpAny_bind (wpAny_bind (wpAny_mono hX (λx sk hZ=>wpAny_bind (wpAny_mono hZ (λ_ sn h₅=>wpAny_pure (wpAny_pure ⟨rfl,h₅⟩)) λ_ _ h'=>h'.elim)) λ_ _ h'=>h'.elim))
noncomputable def oo(n:Nat) (fr:bi) (g:TG) (tt:TT) (te:TE) (J:It) (σ:L2.St) (H1:Hp) (Q:VK):Prop:=∀D,H1 D=none->∃W:Nat->Nat->ad->L2.St->Hp->Prop,(∃m,W 0 m [] (iB n fr σ) (upd H1 D (.lst []))) /\
 ∀i m ys σ' H',W i m ys σ' H'->H' D=some (.lst ys)/\((J.stop i H'/\Q (.ref D) H')∨(J.go i H'/\ys.length<sizeLine/\∀x H2,J.yld i H' x H2->g x σ' H2 λσ3 H3=>tt σ3 H3 λb H4=>
  if b=true then te σ3 H4 λy H5=>H5 D=some (.lst ys)/\∃m',m' < m/\W (i+1) m' (ys++[y]) σ3 (upd H5 D (.lst (ys++[y])))
  else ∃m',m' < m/\W (i+1) m' ys σ3 H4))
def sR{fr:bi}(hc:X.calm=true)(hfr:ym X N n fr scope)
  (hcell:∀x∈scope.names,x.2≠.cell)(hfree:∀x∈scope.names,x.2=.free->X.env.scope.names.lookup x.1=some .cell)(hkind:scope.kind=.function)
  (blk:∀s H C fp pn,PG (cz X N scope s H C fp pn) tg g/\Jq (cz X N scope s H C fp pn) ifs tt/\PE (cz X N scope s H C fp pn) elt te)
  {RR:Value->Addr->Result->Shared->Prop}
  (h2:Ma X pins σ tg (λJ H1=>oo n fr g tt te J σ H1 Q) itv s2)
  (fin:∀(Da C:Addr) (s6:Shared) (H5:Hp) (m:Str->Option Value),Inv X pins σ H5 s6->s6.heap.Ns C m->me X pins H5 C->Q (.ref Da) H5->RR (.ref Da) C (.ok .next) s6) :
  wpAny (model X.prog X.w) X.A (newList []) (λacc sj=>wpAny (model X.prog X.w) X.A (newFunctionEnv scope X.env.globals (fQ X.env.cells scope.names []) [] X.env.qual none .none (some X.env)) (λcenv sk=>
   codeAny (model X.prog X.w) X.A (.compStart (.ListComp elt [⟨tg,iter,ifs,0⟩] scope pos) 0 itv acc { cenv with scope:=relabel scope X.env }) (RR acc cenv.locals) sk) X.xe sj) X.xe s2:=by
 obtain⟨it,fp,tn,J,H2,e,I2,T,st2,f2,q⟩:=h2;subst e;have hD:H2 s2.heap.objs.size=none:=I2.fresh;refine wpAny_newObj_type ?_;have I3:Inv X pins σ (upd H2 s2.heap.objs.size (.lst [])) { s2 with heap:=s2.heap.push { cls:=.type "list",data:=.seq ([]:List Value).toArray } }:=I2.lnew (t':=s2.toks) (its:=[]) .nil (Nat.zero_le _);obtain⟨W,⟨m0,w0⟩,turn⟩:=q s2.heap.objs.size hD;generalize hs3:({ s2 with heap:=s2.heap.push { cls:=.type "list",data:=.seq ([]:List Value).toArray } }:Shared)=s3 at I3 ⊢;have hs3h:s3.heap=s2.heap.push { cls:=.type "list",data:=.seq ([]:List Value).toArray }:=by rw[←hs3]
 have hDs:s2.heap.objs.size<s3.heap.objs.size:=by rw[hs3h,Heap.size_push];exact Nat.lt_succ_self _
 have fpl:∀b∈fp,b<s2.heap.objs.size:=λb hb=>by
  obtain⟨o,ho,_⟩:=T.obj _ _ st2 b hb;exact Heap.lt_size ho
 have kept3:∀b o,s2.heap.get? b=some o->s3.heap.get? b=some o:=λb o e=>by rw[hs3h];exact Heap.get?_push_of_some _ e
 have st3:tn 0 s3.heap:=T.keep _ _ _ st2 λb _ o e=>kept3 b o e;generalize hDa:s2.heap.objs.size=Da at *;generalize hH3:upd H2 Da (.lst [])=H3 at *;have fr3:∀b∈fp,H3 b=none:=λb hb=>by rw[←hH3,az (Nat.ne_of_lt (fpl b hb))];exact(f2 b hb).1
 have cls:∀x c,(fQ X.env.cells scope.names []).lookup x=some c->X.env.cells.lookup x=some c:=λx c e=>by
  rcases qB (λy hy hf=>I3.ok.has y.1 (.inl (hfree y hy hf))) e with e|e
  .cases e
  .exact e
 refine wpAny_newFunctionEnv hcell (by intro y hy;simp at hy) (λh4 ns4 sb4=>?_) hkind;have k4:∀b o,s3.heap.get? b=some o->h4.get? b=some o:=λb o e=>(sb4.2 b (Nat.ne_of_lt (Heap.lt_size e))).trans (Heap.get?_push_of_some _ e);generalize hC:s3.heap.objs.size=C at *;have hCn:H3 C=none:=I3.hok.fresh (by rw[hC];exact Nat.le_refl _);have ltC:∀b o,s3.heap.get? b=some o->b≠C:=λb o e=>by rw[←hC];exact Nat.ne_of_lt (Heap.lt_size e)
 have cellC:∀x c,X.env.cells.lookup x=some c->c≠C:=λx c e=>by
  obtain⟨v,o,ho,_⟩:=I3.cell x c e;exact ltC c o ho
 have fpC:∀b∈fp,b≠C:=λb hb=>by
  have:=fpl b hb;exact Nat.ne_of_lt (Nat.lt_trans this hDs)
 show codeAny (model X.prog X.w) X.A (.compStart (.ListComp elt [⟨tg,iter,ifs,0⟩] scope pos) 0 (.ref it) (.ref Da) (compEnvC scope (fQ X.env.cells scope.names []) C X.env)) _ _;generalize hs4:({ s3 with heap:=h4,toks:=s3.toks+([]:List (Str×Value)).length }:Shared)=s4;have hs4h:s4.heap=h4:=by rw[←hs4]
 have ok:(cz X N scope s3 H3 C fp (X.pn++pins)).Ok:=by
  refine⟨I3.ok.mod,hkind,I3.ok.glob,I3.ok.blt,Nat.le_of_eq hC,λx y c e1 e2=>I3.ok.inj x y c (cls x c e1) (cls y c e2),λx e=>?_,λx c e=>?_,λ_=>I3.ok.hd hc,I3.ok.frames,.inl rfl,λb hb=>⟨fpC b hb,λx c e=>(f2 b hb).2.2.2.2.1 x c (cls x c e)⟩,I3.bs,Nat.le_trans I3.ok.bsz I3.sz,λb o e hb=>?_,λb hb z=>?_,I3.stack,I3.stkFree⟩
  .have mm:∀k:NameKind,(relabel scope X.env).names.lookup x=some k->(k=.cell∨k=.free)->(x,NameKind.free)∈scope.names:=λk hk hk2=>by
    have hm:=PySem.mem_of_lookup hk;obtain⟨⟨n',k'⟩,hm1,hm2⟩:=List.mem_map.mp hm;dsimp only at hm2;split at hm2
    .rename_i hcnd
     cases hm2;simp only[Bool.and_eq_true,beq_iff_eq]at hcnd;rw[hcnd.1.1]at hm1;exact hm1
    .cases hm2
     rcases hk2 with rfl|rfl
     .exact absurd rfl (hcell _ hm1)
     .exact hm1
   rcases e with e|e
   .exact qC (mm _ e (.inl rfl))
   .exact qC (mm _ e (.inr rfl))
  .cases e
  .rcases(f2 b hb).2.2.2.1 with z|z
   .exact I3.ok.noex b o e z
   .exact absurd (Nat.lt_of_lt_of_le (Heap.lt_size e) (Nat.le_trans I3.ok.bsz z)) (Nat.lt_irrefl _)
  .rcases List.mem_cons.mp (I3.stkSub b z) with z|z
   .exact(f2 b hb).2.1 z
   .exact(f2 b hb).2.2.1 z
 have I4:Inv (cz X N scope s3 H3 C fp (X.pn++pins)) [] (iB n fr σ) H3 s4:=by
  refine⟨ok,by rw[←hs4];rfl,by rw[←hs4];exact I3.bare,by rw[hs4h];exact Un.kept k4,⟨_,by rw[hs4h];exact ns4,λi x v h1 h2 h3=>?_⟩,λx c e=>?_,hCn,λx c e=>I3.freeC x c (cls x c e),λp hp=>?_,by rw[hs4h];exact I3.hok.kept k4,?_⟩
  .obtain⟨j,j1,j2,j3,j4,j5⟩:=hfr.at h1 h2
   obtain⟨m,hn,hl⟩:=I3.loc;obtain⟨u,ru,l⟩:=hl j x v j1 j2 (.inr (.inl j3));refine⟨u,ru,.inr ⟨.inl j5,?_⟩⟩;rcases l with⟨z,_⟩|⟨_,c,z1,z2⟩
   .rw[show X.env.kindOf x=X.env.scope.names.lookup x from rfl,j3]at z;cases z
   .obtain⟨c',hc'⟩:=qC (cells:=X.env.cells) (names:=scope.names) (acc:=[]) (PySem.mem_of_lookup j4)
    have:=cls x c' hc';rw[z1]at this;cases this;obtain⟨oc,q1,q2⟩:=z2;exact⟨c,hc',oc,by rw[hs4h];exact k4 _ _ q1,q2⟩
  .obtain⟨v,oc,q1,q2⟩:=I3.cell x c (cls x c e)
   exact⟨v,oc,by rw[hs4h];exact k4 _ _ q1,q2⟩
  .rw[List.append_nil]at hp
   obtain⟨p1,p2,p3,p4,p5⟩:=I3.pin p hp;refine⟨by rw[hs4h];exact k4 _ _ p1,p2,ltC _ _ p1,λz=>?_,p5⟩;rcases List.mem_cons.mp (I3.stkSub _ z) with z|z
   .exact p3 z
   .exact p4 z
  .show(iB n fr σ).length=N.length
   unfold iB;rw[List.length_append,List.length_replicate,List.length_map,hfr.1]
 have st4:tn 0 s4.heap:=by rw[hs4h];exact T.keep _ _ _ st3 λb _ o e=>k4 b o e
 have stat:∀{H':Hp},(∀b∈fp,H' b=none)->∀b∈fp,me (cz X N scope s3 H3 C fp (X.pn++pins)) [] H' b:=λhn b hb=>by
  refine⟨hn b hb,fpC b hb,λz=>?_,.inl hb,λx c e=>(f2 b hb).2.2.2.2.1 x c (cls x c e),λp hp=>?_⟩
  .rcases List.mem_cons.mp (I3.stkSub b z) with z|z
   .exact(f2 b hb).2.1 z
   .exact(f2 b hb).2.2.1 z
  .rw[List.append_nil]at hp
   exact(f2 b hb).2.2.2.2.2 p hp
 have loop:codeAny (model X.prog X.w) X.A (.compLoop (.ListComp elt [⟨tg,iter,ifs,0⟩] scope pos) 0 (.ref it) (.ref Da) (compEnvC scope (fQ X.env.cells scope.names []) C X.env)) (RR (.ref Da) C) s4:=by
  refine qw (λn s'=>∃i ys σ' H',Inv (cz X N scope s3 H3 C fp (X.pn++pins)) [] σ' H' s'/\tn i s'.heap/\(∀b∈fp,H' b=none)/\W i n ys σ' H') ?_ m0 ⟨0,[],_,H3,I4,st4,fr3,w0⟩;rintro k s5 ⟨i,ys,σ5,H5,I5,st5,fr5,w5⟩;obtain⟨hDl,ways⟩:=turn i k ys σ5 H5 w5;rcases ways with⟨stop,fin'⟩|⟨go,hz,step⟩
  .refine cC (T.done (cz X N scope s3 H3 C fp (X.pn++pins)) rfl rfl rfl hc i [] s5 σ5 H5 (λ_ _=>False) I5 (stat fr5) st5 stop) λr s6 ⟨hr,I6⟩=>?_
   subst hr;obtain⟨mm,nsm,_⟩:=I6.loc;have free6:H5 C=none:=I6.free;have hok:kj X.prog X.w H5 s6.heap:=I6.hok;have un:Un (Bq X.stack) fp H3 H5 s3.heap s6.heap:=I6.base;have IX:Inv X pins σ H5 s6:=I3.call' (s':=s6) (ch:=fp) I6.os un hok I6.bare (λb hb=>⟨(f2 b hb).2.2.2.1,(f2 b hb).2.1,(f2 b hb).2.2.2.2.1,(f2 b hb).2.2.2.2.2⟩);have fC:me X pins H5 C:=I3.fpOk (b:=C) (H':=H5) (by rw[hC];exact Nat.le_refl _) free6;exact fin Da C s6 H5 mm IX nsm fC fin'
  .refine cC (T.item (cz X N scope s3 H3 C fp (X.pn++pins)) rfl rfl rfl hc i [] s5 σ5 H5 (λ_ _=>False) I5 (stat fr5) st5 go) λr s6 ⟨u,hr,h6⟩=>?_
   subst hr;refine cC h6 λ_ s7 ⟨x,H7,I7,r7,y7,st7,fr7⟩=>?_;have I7':=I7.pinned (stat fr7) (T.obj _ _ st7);refine cC ((blk s3 H3 C fp (X.pn++pins)).1 _ s7 σ5 H7 x u _ I7' r7 (step x H7 y7)) λ_ s8 ⟨σ8,H8,I8,q8⟩=>?_;refine cC ((blk s3 H3 C fp (X.pn++pins)).2.1 _ s8 σ8 H8 _ I8 q8) λb s8b ⟨H8b,I8b,q8b⟩=>?_;have back:∀{σ':L2.St}{H':Hp}{s':Shared},L2.Inv (cz X N scope s3 H3 C fp (X.pn++pins)) (([]:List (Addr×Obj))++oN fp s7.heap) σ' H' s'->tn (i+1) s'.heap/\∀b∈fp,H' b=none:=λ{σ' H' s'} I'=>by
    refine⟨T.keep _ _ _ st7 λb hb o e=>(I'.pin (b,o) (List.mem_append_right _ (List.mem_append_right _ (ie hb e)))).1,λb hb=>?_⟩;obtain⟨o,e,d⟩:=T.obj _ _ st7 b hb;exact(I'.pin (b,o) (List.mem_append_right _ (List.mem_append_right _ (ie hb e)))).2.1
   cases b with
   |false=>
    rw[if_neg Bool.false_ne_true]at q8b ⊢;obtain⟨m',hm,w9⟩:=q8b;exact⟨m',hm,i+1,ys,σ8,_,I8b.unpinned,(back I8b).1,(back I8b).2,w9⟩
   |true=>
    rw[if_pos rfl]at q8b ⊢;refine cC ((blk s3 H3 C fp (X.pn++pins)).2.2 _ s8b σ8 H8b _ I8b q8b) λy s9 ⟨yv,H9,I9,r9,hD9,m',hm,w9⟩=>?_;refine cC (ju (X:=cz X N scope s3 H3 C fp (X.pn++pins)) _ s9 σ8 H9 (.ref Da) [yv] (.ref Da) [y] (λv H'=>H'=upd H9 Da (.lst (ys++[yv]))) I9 rfl (.cons r9 .nil) ⟨Da,ys,yv,rfl,rfl,hD9,hz,rfl⟩) λ_ s10 ⟨v10,H10,I10,_,e10⟩=>?_;subst e10;exact⟨m',hm,i+1,ys++[yv],σ8,_,I10.unpinned,(back I10).1,(back I10).2,w9⟩
 exact codeAny_compStart_list loop (T.self _ 0 _ _ _ st4 loop)
structure Jd (K:W.Frag) (ds:ac) (J:It) (Ha:Hp):Prop where
 go:∀(i:Nat) (H' Ha':Hp),aB Ha Ha'->aB Ha' H'->i<ds.length->J.go i H'
 yld:∀(i:Nat) (H' Ha':Hp) (x:V) (H2:Hp) (d:D),aB Ha Ha'->aB Ha' H'->ds[i]?=some d->J.yld i H' x H2->∃H₀2,bc H' Ha' H2 H₀2/\Rep K H₀2 d x
 stop:∀(i:Nat) (H' Ha':Hp),aB Ha Ha'->aB Ha' H'->ds.length<=i->J.stop i H'
noncomputable def MX(K:W.Frag) (E:XK) (src:Ev->aj (ac)):TI:=λσ H R=>∃Ha ρ,aB Ha H/\Reads K Ha σ ρ/\match src ρ with
 |.ok ds=>∀J H' Ha',bc H Ha H' Ha'->Jd K ds J Ha'->R J H'
 |.exn x=>∀C ox H' Ha',bc H Ha H' Ha'->Ag K Ha' x C ox->E C ox H'
 |.stuck=>False
structure DI (X:Cx) (E:XK) (tg iter:Expr) (src:Ev->aj (ac)):Prop where
 o:PI X tg iter (MX X.K E src)
def gY(h:PI X tg iter t)(w:∀σ H R,t' σ H R->t σ H R):PI X tg iter t':=λpins s σ H R I q=>h pins s σ H R I (w σ H R q)
def tN(f:al):Ev->aj (ac):=λρ=>(f ρ).bind λd=>match d with
 |.lst ds=>.ok ds
 |_=>.stuck
def Aq(f:al):Ev->aj (ac):=λρ=>(f ρ).bind λd=>match d with
 |.tup ds=>.ok ds
 |_=>.stuck
def EB(f:al):Ev->aj (ac):=λρ=>(f ρ).bind λd=>match d with
 |.str z=>.ok (iK z)
 |_=>.stuck
def iJ(f:al):Ev->aj (ac):=λρ=>(f ρ).bind λd=>match d with
 |.int j=>if -4611686018427387904<=j/\j<4611686018427387904 then .ok (intsFrom 0 j.toNat) else .stuck
 |_=>.stuck
section
variable {X:Cx}{E:XK}{tg e a b:Expr}{f g:al}
def nZ(h:DE X E e f):DI X E tg e (tN f):=by
 refine⟨gY (yM h.o) λσ H R z9=>?_⟩;obtain⟨Ha,ρ,hs,hr,q⟩:=z9;refine⟨Ha,ρ,hs,hr,?_⟩;unfold tN at q;cases e1:f ρ with
 |stuck|exn x=>rw[e1]at q;exact q
 |ok d=>
  rw[e1]at q;intro v H1 H01 g1 r1;cases d with
  |lst ds=>
   obtain⟨p,vs,rfl,hv,hrv⟩:=aE.mp r1;refine⟨p,rfl,⟨vs,aB.sqL g1.sub hv⟩,q _ H1 H01 g1 ⟨λi H' Ha' s1 s2 hi=>?_,λi H' Ha' x H2 d s1 s2 hd hy=>?_,λi H' Ha' s1 s2 hi=>?_⟩⟩
   .exact⟨vs,vs[i]'(by rw[←hrv.length];exact hi),aB.sqL (s1.trans s2) hv,by simp⟩
   .obtain⟨rfl,hy⟩:=hy
    obtain⟨u,k1,k2⟩:=hrv.get hd;have:=hy vs (aB.sqL (s1.trans s2) hv);rw[k1]at this;cases this;exact⟨Ha',bc.refl s2,k2.mono s1⟩
   .exact⟨vs,aB.sqL (s1.trans s2) hv,by rw[←hrv.length];exact hi⟩
  |_=>exact q.elim
def Dw(h:DE X E e f):DI X E tg e (Aq f):=by
 refine⟨gY (HJ h.o) λσ H R z9=>?_⟩;obtain⟨Ha,ρ,hs,hr,q⟩:=z9;refine⟨Ha,ρ,hs,hr,?_⟩;unfold Aq at q;cases e1:f ρ with
 |stuck|exn x=>rw[e1]at q;exact q
 |ok d=>
  rw[e1]at q;intro v H1 H01 g1 r1;cases d with
  |tup ds=>
   obtain⟨p,vs,rfl,hv,hrv⟩:=aK.mp r1;refine⟨p,rfl,⟨vs,aB.sqT g1.sub hv⟩,q _ H1 H01 g1 ⟨λi H' Ha' s1 s2 hi=>?_,λi H' Ha' x H2 d s1 s2 hd hy=>?_,λi H' Ha' s1 s2 hi=>?_⟩⟩
   .exact⟨vs,vs[i]'(by rw[←hrv.length];exact hi),aB.sqT (s1.trans s2) hv,by simp⟩
   .obtain⟨rfl,hy⟩:=hy
    obtain⟨u,k1,k2⟩:=hrv.get hd;have:=hy vs (aB.sqT (s1.trans s2) hv);rw[k1]at this;cases this;exact⟨Ha',bc.refl s2,k2.mono s1⟩
   .exact⟨vs,aB.sqT (s1.trans s2) hv,by rw[←hrv.length];exact hi⟩
  |_=>exact q.elim
def IC(h:DE X E e f):DI X E tg e (EB f):=by
 refine⟨gY (HK h.o) λσ H R z9=>?_⟩;obtain⟨Ha,ρ,hs,hr,q⟩:=z9;refine⟨Ha,ρ,hs,hr,?_⟩;unfold EB at q;cases e1:f ρ with
 |stuck|exn x=>rw[e1]at q;exact q
 |ok d=>
  rw[e1]at q;intro v H1 H01 g1 r1;cases d with
  |str z=>
   refine⟨z,Rep.str_iff.mp r1,q _ H1 H01 g1 ⟨λi H' Ha' s1 s2 hi=>?_,λi H' Ha' x H2 d s1 s2 hd hy=>?_,λi H' Ha' s1 s2 hi=>?_⟩⟩
   .rw[jW]at hi;exact hi
   .obtain⟨rfl,c,hc,rfl⟩:=hy
    have:d=.str ⟨#[c]⟩:=by
     unfold iK at hd;rw[List.getElem?_map]at hd;have h2:z.cps.toList[i]?=some c:=by simpa using hc
     rw[h2]at hd;cases hd;rfl
    subst this;exact⟨Ha',bc.refl s2,Rep.str_iff.mpr rfl⟩
   .rw[jW]at hi;exact hi
  |_=>exact q.elim
def su{K:W.Frag}{lo:Int}:Jd K (intsFrom lo n) (Jc lo n) H:=by
 have hl:(intsFrom lo n).length=n:=by unfold intsFrom;simp
 refine⟨λi H' Ha' _ _ hi=>?_,λi H' Ha' x H2 d s1 s2 hd hy=>?_,λi H' Ha' _ _ hi=>?_⟩
 .rw[hl]at hi;exact hi
 .obtain⟨rfl,rfl⟩:=hy
  have:d=.int (lo+i):=by
   unfold intsFrom at hd;rw[List.getElem?_map]at hd;cases e:(List.range n)[i]? with
   |none=>rw[e]at hd;cases hd
   |some k=>
    rw[e]at hd;have hk:k=i:=by
     obtain⟨h1,h2⟩:=List.getElem?_eq_some_iff.mp e;simpa using h2.symm
    subst hk;cases hd;rfl
  subst this;exact⟨Ha',bc.refl s2,aw.mpr rfl⟩
 .rw[hl]at hi;exact hi
def mG(hg:Gl X "range")(hm:X.mg "range"=none)(h:DE X E a f)(hn:Jm a=true:=by exact rfl):DI X E tg (.Call (.Name "range" p) [a] [] pos) (iJ f):=by
 refine⟨gY (mq hg hm (dM h.o gr (fE hn)) (fE hn)) λσ H R z9=>?_⟩;obtain⟨Ha,ρ,hs,hr,q⟩:=z9;refine⟨Ha,ρ,hs,hr,?_⟩;unfold iJ at q;cases e1:f ρ with
 |stuck|exn x=>rw[e1]at q;exact q
 |ok d=>
  rw[e1]at q;intro v H1 H01 g1 r1;cases d with
  |int j=>
   replace q:match (if -4611686018427387904<=j/\j<4611686018427387904 then aj.ok (intsFrom 0 j.toNat) else .stuck) with
    |.ok ds=>∀J H' Ha',bc H Ha H' Ha'->Jd X.K ds J Ha'->R J H'
    |.exn x=>∀C ox H' Ha',bc H Ha H' Ha'->Ag X.K Ha' x C ox->E C ox H'
    |.stuck=>False:=q
   by_cases hj:-4611686018427387904<=j/\j<4611686018427387904
   .rw[if_pos hj]at q
    rw[aw.mp r1];exact⟨j,rfl,hj.1,hj.2,q _ H1 H01 g1 su⟩
   .rw[if_neg hj]at q;exact q.elim
  |_=>exact q.elim
end
def iL(src:Ev->aj (ac))(tg:Ev->D->aj Ev)(s:am):am:=λρ=>(src ρ).bind λds=>b3 tg s ds ρ
section
variable {X:Cx}{E:XK}{He H0e:Hp}{st:Stmt}{s:am}{pos:Pos}
def fv.step2{K:W.Frag}(z:aB Hb Ha)(h:cY K He H0e Ha σ H ρ)(q:bV K E He H0e Ha (b3 tg s (ds.drop i) ρ) D')(hd:ds[i]?=some d)(rv:Rep K Ha d v)
  (he:∀ρ,tg ρ d=.stuck∨∃ρ',tg ρ d=.ok ρ') :
  tG K He H0e tg v σ H λσ2 H2=>tS K E He H0e s { D' with nx:=fv K E He H0e Hb tg s ds D' (i+1),ct:=fv K E He H0e Hb tg s ds D' (i+1),bk:=D'.nx } σ2 H2:=by
 have hi:i<ds.length:=(List.getElem?_eq_some_iff.mp hd).1;have hdr:ds.drop i=d::ds.drop (i+1):=by
  rw[List.drop_eq_getElem_cons hi];rw[List.getElem?_eq_getElem hi]at hd;cases hd;rfl
 rw[hdr]at q;refine⟨Ha,ρ,d,h,rv,?_⟩;unfold b3 at q;rcases he ρ with e1|⟨ρ1,e1⟩
 .rw[e1]at q;exact q.elim
 .rw[e1]at q ⊢
  intro σ' H' Ha' z' h';refine⟨Ha',ρ1,h',?_⟩;replace q:=bV.grow (r:=(s ρ1).bind λx=>match x with
   |.nx ρ2=>b3 tg s (ds.drop (i+1)) ρ2
   |.ct ρ2=>b3 tg s (ds.drop (i+1)) ρ2
   |.bk ρ2=>.ok (.nx ρ2)
   |.rt d=>.ok (.rt d)) q z'
  cases e2:s ρ1 with
  |stuck|exn x=>rw[e2]at q;exact q
  |ok r=>
   rw[e2]at q;cases r with|nx ρ2=>exact λσ3 H3 H03 z3 h3=>⟨H03,ρ2,(z.trans z').trans z3,h3,bV.grow (r:=b3 tg s (ds.drop (i+1)) ρ2) q z3⟩|ct ρ2=>exact λσ3 H3 H03 z3 h3=>⟨H03,ρ2,(z.trans z').trans z3,h3,bV.grow (r:=b3 tg s (ds.drop (i+1)) ρ2) q z3⟩|bk ρ2|rt d=>exact q
def lT(hp:PassesOwn (model X.prog X.w) X.A X.env X.xe)(hc:X.calm=true)(hi:DI X E tgt iter src)(hg:DG X E He H0e tgt tg)(ht:tE tg)(hb:Bt X E He H0e body s)
  (hs:∀x,foldedSetIterable iter X.env x=pure x:=by intro _;rfl):DS X E He H0e (.For tgt iter body [] pos) (iL src tg s):=by
 refine⟨bH (tU hp hc hi.o hg.o hb.o hs) λD' σ H z9=>?_⟩;obtain⟨Ha,ρ,h,q⟩:=z9;refine⟨Ha,ρ,h.g.sub,h.rd,?_⟩;unfold iL at q;cases e1:src ρ with
 |stuck=>rw[e1]at q;exact q|exn x=>rw[e1]at q;exact λC ox H' Ha' g r=>q C ox H' Ha' (h.g.trans g) r
 |ok ds=>
  rw[e1]at q;intro J H1 H01 g it;have q1:bV X.K E He H0e H01 (b3 tg s ds ρ) D':=bV.grow (r:=b3 tg s ds ρ) q g.z;refine⟨λi m σ' H'=>m+i=ds.length/\fv X.K E He H0e H01 tg s ds D' i σ' H',⟨ds.length,rfl,H01,ρ,aB.refl _,h.grow g,q1⟩,?_⟩;rintro i m σ' H' ⟨hm,Ha',ρ',z,h',hq⟩
  by_cases hlt:i<ds.length
  .refine .inr ⟨it.go i H' Ha' z h'.g.sub hlt,λσ2 H2=>fv X.K E He H0e H01 tg s ds D' (i+1) σ2 H2,λσ2 H2 hl=>⟨m-1,by omega,by omega,hl⟩,λx H2 hy=>?_⟩
   obtain⟨H₀2,g2,rp⟩:=it.yld i H' Ha' x H2 ds[i] z h'.g.sub (List.getElem?_eq_getElem hlt) hy;exact fv.step2 (z.trans g2.z) (h'.grow g2) (bV.grow (r:=b3 tg s (ds.drop i) ρ') hq g2.z) (List.getElem?_eq_getElem hlt) rp λρ=>ht ρ _
  .have e:i=ds.length:=by omega
   refine .inl ⟨it.stop i H' Ha' z h'.g.sub (by omega),?_⟩;subst e;exact fv.done ⟨Ha',ρ',z,h',hq⟩
end
def qX(f:al):Prop:=∀ρ d,f ρ=.ok d->∃ds,d=.lst ds
def BJ{K:W.Frag}(hf:qX f)(h:tD K E f σ H Q):tF K E f σ H Q:=by
 obtain⟨Ha,ρ,hs,hr,q⟩:=h;refine⟨Ha,ρ,hs,hr,?_⟩;cases e1:f ρ with
 |stuck|exn x=>rw[e1]at q;exact q
 |ok d=>
  obtain⟨ds,rfl⟩:=hf ρ d e1;rw[e1]at q;intro p vs H' Ha' g hp h0 hv rp;have n0:Ha p=none:=hs.free hp;refine q (.ref p) H' (upd Ha' p (.lst vs)) ⟨g.s,λb o e=>?_,λb o e=>?_,λb k1 k2=>?_⟩ (aE.mpr ⟨p,vs,rfl,eN.of aI,rp.mono λb o e=>?_⟩)
  .rw[az (by intro z;subst z;rw[n0]at e;cases e)];exact g.z _ _ e
  .by_cases hb:b=p
   .subst hb;rw[aI]at e;cases e;exact hv
   .rw[az hb]at e;exact g.sub _ _ e
  .by_cases hb:b=p
   .subst hb;exact hp
   .rw[az hb]at k1;exact g.nw b k1 k2
  .rw[az (by intro z;subst z;rw[h0]at e;cases e)];exact e
def Dx(hf:qX f)(h:DF X E e f):DE X E e f:=⟨aX h.o λσ H Q q=>BJ hf q⟩
def cI(n:Nat)(fr:bi)(ρ:Ev):Ev:=List.replicate n .no++fr.map λ(i:Nat)=>match ρ[i]? with
 |some (.sh d)=>.sh d
 |_=>.no
noncomputable def bP(b:Ev) (tg:Ev->D->aj Ev) (tt fe:al):ac->aj (ac)
 |[]=>.ok []
 |d::r=>(tg b d).bind λρ1=>(tt ρ1).bind λt=>match t with
  |.bl true=>(fe ρ1).bind λx=>(bP b tg tt fe r).bind λxs=>.ok (x::xs)
  |.bl false=>bP b tg tt fe r
  |_=>.stuck
def eD(n:Nat)(fr:bi)(src:Ev->aj (ac))(tg:Ev->D->aj Ev)(tt fe:al):al:=λρ=>(src ρ).bind λds=>
 if ds.length<=line then match bP (cI n fr ρ) tg tt fe ds with
  |.ok es=>.ok (.lst es)
  |_=>.stuck
 else .stuck
def Bc{fr:bi}:qX (eD n fr src tg tt fe):=λρ d h=>by
 unfold eD at h;cases e1:src ρ with
 |stuck|exn x=>rw[e1]at h;cases h
 |ok ds=>
  rw[e1]at h;replace h:(if ds.length<=line then match bP (cI n fr ρ) tg tt fe ds with
   |.ok es=>aj.ok (D.lst es)
   |_=>.stuck else .stuck)=.ok d:=h
  split at h
  .split at h
   .cases h;exact⟨_,rfl⟩
   .cases h
  .cases h
def il(h:bP b tg tt fe (d::r)=.ok es) :
  ∃ρ1 t,tg b d=.ok ρ1/\tt ρ1=.ok (.bl t)/\((t=true/\∃x xs,fe ρ1=.ok x/\bP b tg tt fe r=.ok xs/\es=x::xs)∨(t=false/\bP b tg tt fe r=.ok es)):=by
 unfold bP at h;cases e1:tg b d with
 |stuck|exn z=>rw[e1]at h;cases h
 |ok ρ1=>
  rw[e1]at h;replace h:((tt ρ1).bind λt=>match t with
   |.bl true=>(fe ρ1).bind λx=>(bP b tg tt fe r).bind λxs=>aj.ok (x::xs)
   |.bl false=>bP b tg tt fe r
   |_=>.stuck)=.ok es:=h
  cases e2:tt ρ1 with
  |stuck|exn z=>rw[e2]at h;cases h
  |ok t=>
   rw[e2]at h;cases t with
   |bl t=>
    cases t with
    |true=>
     replace h:((fe ρ1).bind λx=>(bP b tg tt fe r).bind λxs=>aj.ok (x::xs))=.ok es:=h;cases e3:fe ρ1 with
     |stuck|exn z=>rw[e3]at h;cases h
     |ok x=>
      rw[e3]at h;replace h:((bP b tg tt fe r).bind λxs=>aj.ok (x::xs))=.ok es:=h;cases e4:bP b tg tt fe r with|stuck|exn z=>rw[e4]at h;cases h|ok xs=>rw[e4]at h;cases h;exact⟨ρ1,true,rfl,e2,.inl ⟨rfl,x,xs,e3,rfl,rfl⟩⟩
    |false=>exact⟨ρ1,false,rfl,e2,.inr ⟨rfl,h⟩⟩
   |_=>cases h
def gJ(h1:tg b d=.ok ρ1)(h2:tt ρ1=.ok (.bl true))(h3:fe ρ1=.ok x):bP b tg tt fe (d::r)=(bP b tg tt fe r).bind λxs=>.ok (x::xs):=by
 rw[bP,h1];simp only[aj.bind,h2,h3]
def qz(h1:tg b d=.ok ρ1)(h2:tt ρ1=.ok (.bl false)):bP b tg tt fe (d::r)=bP b tg tt fe r:=by
 rw[bP,h1];simp only[aj.bind,h2]
theorem mI:∀{r q es:ac},bP b tg tt fe (r++q)=.ok es->∃e1 e2,bP b tg tt fe r=.ok e1/\bP b tg tt fe q=.ok e2/\es=e1++e2
 |[],q,es,h=>⟨[],es,rfl,h,rfl⟩
 |d::r,q,es,h=>by
  obtain⟨ρ1,t,h1,h2,h3⟩:=il h;rcases h3 with⟨rfl,x,xs,h3,h4,rfl⟩|⟨rfl,h4⟩
  .obtain⟨e1,e2,k1,k2,rfl⟩:=mI h4
   refine⟨x::e1,e2,?_,k2,rfl⟩;rw[gJ h1 h2 h3,k1];rfl
  .obtain⟨e1,e2,k1,k2,rfl⟩:=mI h4
   refine⟨e1,e2,?_,k2,rfl⟩;rw[qz h1 h2];exact k1
theorem ik{b:Ev}{tg:Ev->D->aj Ev}{tt fe:al}:∀{r q e1 e2:ac},bP b tg tt fe r=.ok e1->bP b tg tt fe q=.ok e2->bP b tg tt fe (r++q)=.ok (e1++e2)
 |[],q,e1,e2,h,h'=>by cases h;exact h'
 |d::r,q,e1,e2,h,h'=>by
  obtain⟨ρ1,t,h1,h2,h3⟩:=il h;show bP b tg tt fe (d::(r++q))=_;rcases h3 with⟨rfl,x,xs,h3,h4,rfl⟩|⟨rfl,h4⟩
  .rw[gJ h1 h2 h3,ik h4 h'];rfl
  .rw[qz h1 h2];exact ik h4 h'
theorem qA:∀{r es:ac},bP b tg tt fe r=.ok es->es.length<=r.length
 |[],es,h=>by cases h;exact Nat.le_refl _
 |d::r,es,h=>by
  obtain⟨ρ1,t,h1,h2,h3⟩:=il h;rcases h3 with⟨rfl,x,xs,h3,h4,rfl⟩|⟨rfl,h4⟩
  .exact Nat.succ_le_succ (qA h4)
  .exact Nat.le_succ_of_le (qA h4)
def yg(n:Nat)(tg:Ev->D->aj Ev):Prop:=∀ρ d ρ',tg ρ d=.ok ρ'->ρ'.length=ρ.length/\∀(k:Nat),n<=k->ρ'[k]?=ρ[k]?
def gA(h:i<n):yg n (bW i):=λρ d ρ' e=>by
 cases e;exact⟨by simp,λk hk=>by rw[List.getElem?_set_ne (by omega)]⟩
def ya{K:W.Frag}{fr:bi}(h:Reads K Ha σ ρ):Reads K Ha (iB n fr σ) (cI n fr ρ):=λi d e=>by
 unfold cI at e;unfold iB
 by_cases hi:i<n
 .rw[List.getElem?_append_left (by simpa using hi),List.getElem?_replicate,if_pos hi]at e
  cases e
 .rw[List.getElem?_append_right (by simpa using hi),List.length_replicate,List.getElem?_map]at e ⊢
  cases hf:fr[i-n]? with
  |none=>rw[hf]at e;cases e
  |some j=>
   rw[hf]at e;simp only[Option.map_some,Option.some.injEq]at e ⊢;cases hj:ρ[j]? with
   |none=>rw[hj]at e;cases e
   |some s=>
    rw[hj]at e;cases s with
    |sh d'=>
     cases e;obtain⟨v,h1,h2⟩:=h j d hj;exact⟨v,by rw[h1];rfl,h2⟩
    |_=>cases e
def FW{fr:bi}{k:Nat}(h:k<n):(cI n fr ρ)[k]?=some .no:=by
 unfold cI;rw[List.getElem?_append_left (by simpa using h),List.getElem?_replicate,if_pos h]
def DR{fr:bi}(i j:Nat)(es:ac):(cI n fr ρ)[i]?≠some (.ox j es):=λe=>by
 unfold cI at e
 by_cases hj:i<n
 .rw[List.getElem?_append_left (by simpa using hj),List.getElem?_replicate,if_pos hj]at e;cases e
 .rw[List.getElem?_append_right (by simpa using hj),List.getElem?_map]at e
  cases hf:fr[i-(List.replicate n Sl.no).length]? with
  |none=>rw[hf]at e;cases e
  |some z=>
   rw[hf]at e;simp only[Option.map_some,Option.some.injEq]at e;split at e<;>cases e
def Bk{fr:bi}{σ:L2.St}(i:Nat)(a:Addr)(e:(cI n fr ρ)[i]?=some (.pt a)):σ[i]?=some (some (.ref a)):=by
 unfold cI at e
 by_cases hj:i<n
 .rw[List.getElem?_append_left (by simpa using hj),List.getElem?_replicate,if_pos hj]at e;cases e
 .rw[List.getElem?_append_right (by simpa using hj),List.getElem?_map]at e
  cases hf:fr[i-(List.replicate n Sl.no).length]? with
  |none=>rw[hf]at e;cases e
  |some z=>
   rw[hf]at e;simp only[Option.map_some,Option.some.injEq]at e;split at e<;>cases e
def wO{fr:bi}:(cI n fr ρ).length=n+fr.length:=by unfold cI;simp
def xV{K:W.Frag}{fr:bi}(hsame:aB Ha H)(g1:bc H Ha H1 H01)(it:Jd K ds J H01)(hl:ds.length<=line)
  (e2:bP (cI n fr ρ) tg tt fe ds=.ok es)(hr:Reads K H01 σ ρ)(hok:yg n tg)
  (q:∀p vs H' Ha',bc H Ha H' Ha'->H p=none->Ha' p=none->H' p=some (.lst vs)->Reps K Ha' es vs->Q (.ref p) H') :
  oo n fr (Iq K tg) (Jl K E tt) (tD K E fe) J σ H1 Q:=by
 intro Da hDa;have h0D:H01 Da=none:=g1.sub.free hDa;refine⟨λi m ys σ' H'=>m=ds.length-i/\i<=ds.length/\σ'.length=n+fr.length/\∃Ha',bc H1 H01 H' Ha'/\Ha' Da=none/\H' Da=some (.lst ys)/\Reads K Ha' σ' (cI n fr ρ)/\∃es1,bP (cI n fr ρ) tg tt fe (ds.take i)=.ok es1/\Reps K Ha' es1 ys,
  ⟨ds.length,by simp,Nat.zero_le _,by unfold iB;simp,H01,?_,h0D,aI,ya hr,[],rfl,Reps.nil⟩,?_⟩
 .refine⟨λb o e=>by rw[az (bq e hDa)];exact e,aB.refl _,λb o e=>?_,λb k1 k2=>absurd k2 k1⟩
  rw[az (by intro z;subst z;rw[h0D]at e;cases e)];exact g1.sub _ _ e
 .rintro i m ys σ' H' ⟨rfl,hile,hsl,Ha',gg,hD0,hDl,hrd,es1,hes1,hys⟩
  refine⟨hDl,?_⟩
  by_cases hlt:i<ds.length
  .refine .inr ⟨it.go i H' Ha' gg.z gg.sub hlt,?_,?_⟩
   .rw[←hys.length]
    have:=qA hes1;rw[List.length_take]at this;have h2:line<sizeLine:=by decide
    omega
   .intro x H2 hy
    obtain⟨H₀2,g2,rp⟩:=it.yld i H' Ha' x H2 ds[i] gg.z gg.sub (List.getElem?_eq_getElem hlt) hy;have hsplit:ds=ds.take i++(ds[i]::ds.drop (i+1)):=by rw[←List.drop_eq_getElem_cons hlt,List.take_append_drop]
    rw[hsplit]at e2;obtain⟨a1,a2,k1,k2,k3⟩:=mI e2;rw[hes1]at k1;cases k1;obtain⟨ρ1,t,t1,t2,t3⟩:=il k2;have hn2:H₀2 Da=none:=by
     cases qq:H₀2 Da with|none=>rfl|some o=>have:=g2.nw Da (by rw[qq];simp) hD0;rw[hDl]at this;cases this
    have hD2:H2 Da=some (.lst ys):=g2.s _ _ hDl;refine⟨H2,H₀2,H₀2,cI n fr ρ,ds[i],⟨bc.refl g2.sub,hrd.mono g2.z,λj d' e=>?_,λj k d1 d2 _ e=>?_,by rw[wO,hsl],OX.none DR Bk⟩,rp,?_⟩
    .unfold cI at e
     by_cases hj:j<n
     .rw[List.getElem?_append_left (by simpa using hj),List.getElem?_replicate,if_pos hj]at e;cases e
     .rw[List.getElem?_append_right (by simpa using hj),List.getElem?_map]at e
      cases hf:fr[j-(List.replicate n Sl.no).length]? with
      |none=>rw[hf]at e;cases e
      |some z=>
       rw[hf]at e;simp only[Option.map_some,Option.some.injEq]at e;split at e<;>cases e
    .unfold cI at e
     by_cases hj:j<n
     .rw[List.getElem?_append_left (by simpa using hj),List.getElem?_replicate,if_pos hj]at e;cases e
     .rw[List.getElem?_append_right (by simpa using hj),List.getElem?_map]at e
      cases hf:fr[j-(List.replicate n Sl.no).length]? with
      |none=>rw[hf]at e;cases e
      |some z=>
       rw[hf]at e;simp only[Option.map_some,Option.some.injEq]at e;split at e<;>cases e
    .rw[t1]
     intro σ3 H3 H03 z3 s3;have hrl:=hok _ _ _ t1;have hσ3:σ3.length=n+fr.length:=by rw[←s3.ln,hrl.1,wO]
     have back:∀{Hx:Hp},aB H03 Hx->Reads K Hx σ3 (cI n fr ρ):=λ{Hx} sx k d e=>by
      by_cases hk:k<n
      .rw[FW hk]at e;cases e
      .rw[←hrl.2 k (by omega)]at e
       obtain⟨v,h1,h2⟩:=s3.rd k d e;exact⟨v,h1,h2.mono sx⟩
     have n3:H03 Da=none:=by
      cases qq:H03 Da with|none=>rfl|some o=>have:=s3.g.nw Da (by rw[qq];simp) hn2;rw[hD2]at this;cases this
     have hD3:H3 Da=some (.lst ys):=s3.g.s _ _ hD2;refine⟨H03,ρ1,s3.g.sub,s3.rd,?_⟩;rw[t2];intro H4 H04 g4;have hD4:H4 Da=some (.lst ys):=g4.s _ _ hD3;have n4:H04 Da=none:=by
      cases qq:H04 Da with|none=>rfl|some o=>have:=g4.nw Da (by rw[qq];simp) n3;rw[hD3]at this;cases this
     have htake:ds.take (i+1)=ds.take i++[ds[i]]:=by rw[List.take_add_one,List.getElem?_eq_getElem hlt];rfl
     have g04:=(gg.trans g2).trans (s3.g.trans g4);rcases t3 with⟨rfl,y,xs,t3,t4,_⟩|⟨rfl,t4⟩
     .rw[if_pos rfl]
      refine⟨H04,ρ1,g4.sub,s3.rd.mono g4.z,?_⟩;rw[t3];intro yv H5 H05 g5 ry;have hD5:H5 Da=some (.lst ys):=g5.s _ _ hD4;have n5:H05 Da=none:=by
       cases qq:H05 Da with|none=>rfl|some o=>have:=g5.nw Da (by rw[qq];simp) n4;rw[hD4]at this;cases this
      have gall:=g04.trans g5;refine⟨hD5,ds.length-(i+1),by omega,rfl,hlt,hσ3,H05,⟨λb o e=>?_,gall.z,λb o e=>?_,gall.nw⟩,n5,aI,back (g4.z.trans g5.z),es1++[y],?_,?_⟩
      .rw[az (bq e hDa)];exact gall.s _ _ e
      .rw[az (by intro z;subst z;rw[n5]at e;cases e)];exact gall.sub _ _ e
      .rw[htake]
       refine ik hes1 ?_;rw[gJ t1 t2 t3];rfl
      .exact(hys.mono ((g2.z.trans s3.g.z).trans (g4.z.trans g5.z))).app (Reps.cons ry Reps.nil)
     .rw[if_neg Bool.false_ne_true]
      refine⟨ds.length-(i+1),by omega,rfl,hlt,hσ3,H04,g04,n4,hD4,back g4.z,es1,?_,hys.mono ((g2.z.trans s3.g.z).trans g4.z)⟩;rw[htake];rw[show es1=es1++[] by simp];refine ik hes1 ?_;rw[qz t1 t2];rfl
  .have hi2:i=ds.length:=by omega
   refine .inl ⟨it.stop i H' Ha' gg.z gg.sub (by omega),?_⟩;rw[hi2,List.take_length]at hes1;rw[e2]at hes1;cases hes1;exact q Da ys H' Ha' (g1.trans gg) (g1.s.free hDa) hD0 hDl hys
structure Lj (X:Cx) (E:XK) (ifs:List Expr) (f:al):Prop where
 o:Jq X ifs (Jl X.K E f)
def mYes:al:=λ_=>.ok (.bl true)
def nY:Lj X E [] mYes:=⟨λpins s σ H Q I ⟨Ha,ρ,hs,hr,q⟩=>yL pins s σ H Q I (q H Ha (bc.refl hs))⟩
def FE(h:DT X E c f):Lj X E [c] f:=⟨ER h.o⟩
structure Lk (X:Cx) (E:XK) (e:Expr) (f:al):Prop where
 ev:PE X e (tF X.K E f)
 st:∀{i:Nat}{x:Str}{pos' spos:Pos},X.N.Nodup->X.N[i]?=some x->X.env.scope.names.lookup x=some .local -> swapsWith e (some (.Name x pos')) spos.line X.env=pure true->PS X (.Assign [.Name x pos'] e spos) (Ez (tF X.K E f) (zo i))
def M5(N:List Str)(n:Nat)(fr:bi)(hc:X.calm=true)(hi:DI X E tgt iter src)(hok:yg n tg)
  (blk:∀s H C fp pn,(∀He H0e,DG (cz X N scope s H C fp pn) E He H0e tgt tg)/\Lj (cz X N scope s H C fp pn) E ifs tt/\DE (cz X N scope s H C fp pn) E elt fe)
  (hfr:ym X N n fr scope)(hcell:∀x∈scope.names,x.2≠.cell)(hfree:∀x∈scope.names,x.2=.free->X.env.scope.names.lookup x.1=some .cell)(hkind:scope.kind=.function)(hnames:∀x∈scope.names,x.2=.local -> scope.names.lookup x.1=some .local)
  (hs:∀x,foldedSetIterable iter X.env x=pure x:=by intro _;rfl):Lk X E (.ListComp elt [⟨tgt,iter,ifs,0⟩] scope pos) (eD n fr src tg tt fe):=by
 have blk':∀s H C fp pn,PG (cz X N scope s H C fp pn) tgt (Iq X.K tg)/\Jq (cz X N scope s H C fp pn) ifs (Jl X.K E tt)/\PE (cz X N scope s H C fp pn) elt (tD X.K E fe):=λs H C fp pn=>
  ⟨λpins s' σ' H' v u Q' I r ⟨He,H0e,q'⟩=>((blk s H C fp pn).1 He H0e).o pins s' σ' H' v u Q' I r q',(blk s H C fp pn).2.1.o,(blk s H C fp pn).2.2.o⟩
 have first:∀{pins:List (Addr×Obj)}{s:Shared}{σ:L2.St}{H:Hp}{Q:VK}{RR:Value->Addr->Result->Shared->Prop},L2.Inv X pins σ H s->tF X.K E (eD n fr src tg tt fe) σ H Q ->
   (∀(Da C:Addr) (s6:Shared) (H5:Hp) (m:Str->Option Value),L2.Inv X pins σ H5 s6->s6.heap.Ns C m->me X pins H5 C->Q (.ref Da) H5->RR (.ref Da) C (.ok .next) s6) ->
   wpAny (model X.prog X.w) X.A (eval iter X.env) (λx sg=>wpAny (model X.prog X.w) X.A (pyIter x) (λit si=>wpAny (model X.prog X.w) X.A (newList []) (λacc sj=>
    wpAny (model X.prog X.w) X.A (newFunctionEnv scope X.env.globals (fQ X.env.cells scope.names []) [] X.env.qual none .none (some X.env)) (λcenv sk=>
     codeAny (model X.prog X.w) X.A (.compStart (.ListComp elt [⟨tgt,iter,ifs,0⟩] scope pos) 0 it acc { cenv with scope:=relabel scope X.env }) (RR acc cenv.locals) sk) X.xe sj) X.xe si) X.xe sg) X.xe s:=by
  intro pins s σ H Q RR I ⟨Ha,ρ,hsame,hr,q⟩ fin;refine cC (hi.o pins s σ H (λJ H1=>oo n fr (Iq X.K tg) (Jl X.K E tt) (tD X.K E fe) J σ H1 Q) I ⟨Ha,ρ,hsame,hr,?_⟩) λv s1 h1=>cC h1 λitv s2 h2=>sR (N:=N) hc hfr hcell hfree hkind blk' h2 fin;unfold eD at q;cases e1:src ρ with
  |stuck|exn x=>rw[e1]at q;exact q
  |ok ds=>
   rw[e1]at q;intro J H1 H01 g1 it;replace q:match (if ds.length<=line then match bP (cI n fr ρ) tg tt fe ds with
     |.ok es=>aj.ok (D.lst es)
     |_=>.stuck else .stuck) with
    |.ok (.lst ds)=>∀p vs H' Ha',bc H Ha H' Ha'->H p=none->Ha' p=none->H' p=some (.lst vs)->Reps X.K Ha' ds vs->Q (.ref p) H'
    |.ok _=>False
    |.exn x=>∀C ox H' Ha',bc H Ha H' Ha'->Ag X.K Ha' x C ox->E C ox H'
    |.stuck=>False:=q
   by_cases hl:ds.length<=line
   .rw[if_pos hl]at q
    cases e2:bP (cI n fr ρ) tg tt fe ds with
    |stuck|exn x=>rw[e2]at q;exact q.elim
    |ok es=>
     rw[e2]at q;exact xV hsame g1 it hl e2 (hr.mono g1.z) hok q
   .rw[if_neg hl]at q;exact q.elim
 have hcl:∀{pins:List (Addr×Obj)}{s:Shared}{σ:L2.St}{H:Hp},L2.Inv X pins σ H s->closureFor scope X.env=pure (fQ X.env.cells scope.names []):=λ{pins s σ H} I=>jP λy hy hf=>I.ok.has y.1 (.inl (hfree y hy hf));refine⟨λpins s σ H Q I h=>?_,λ{i x pos' spos} hN hi' hx hsw pins s σ H D' I h=>?_⟩
 .rw[eval_ListComp]
  refine wpAny_comprehension_free (use:=none) rfl hs (hcl I) hkind hnames (first (RR:=λacc C=>compPost (model X.prog X.w) X.A X.xe none (EP X pins σ Q) acc C) I h λDa C s6 H5 m I6 ns fC q=>?_);refine⟨m,ns,λh' sb=>⟨.ref Da,H5,?_,rfl,q⟩⟩;exact I6.turned (t':=s6.toks) (it:=C) (λb o hb e=>(sb.2 b hb).trans e) fC.1 fC.2.1 fC.2.2.2.1 fC.2.2.2.2.1 fC.2.2.2.2.2
 .rw[exec_Assign_Name_used _ _ _ _ hsw]
  refine wpAny_bind (wpAny_standAt (wpAny_bind ?_));show wpAny _ X.A (do let _ ←comprehension (.ListComp elt [⟨tgt,iter,ifs,0⟩] scope pos) scope X.env _ (newList []) false (eval iter X.env) (some (assign (.Name x pos') X.env))) _ _ s;refine wpAny_bind (wpAny_mono (wpAny_comprehension_free (use:=some (assign (.Name x pos') X.env)) (Q:=λ_ s'=>SP X pins D' .next s') rfl hs (hcl I) hkind hnames
   (first (RR:=λacc C=>compPost (model X.prog X.w) X.A X.xe (some (assign (.Name x pos') X.env)) (λ_ s'=>SP X pins D' .next s') acc C) I h λDa C s6 H5 m I6 ns fC q=>?_)) (λ_ s' hq=>wpAny_pure (wpAny_pure hq)) λ_ _ e=>e)
  show wpAny _ X.A (assign (.Name x pos') X.env (.ref Da)) _ _ _;refine wpAny_assign_Name (ml (v:=.ref Da) I6 hN hi' (.inl hx) rfl (λs' I' z9=>?_) (.inr hx));obtain⟨a,sb,ha⟩:=z9;have hCa:C≠a:=by
   rcases ha with rfl|ha
   .exact fC.2.1
   .exact λz=>fC.2.2.2.2.1 x a ha z.symm
  refine⟨m,ns.sameBut sb hCa,λh' sb'=>⟨_,H5,?_,q⟩⟩;exact I'.turned (t':=s'.toks) (it:=C) (λb o hb e=>(sb'.2 b hb).trans e) fC.1 fC.2.1 fC.2.2.2.1 fC.2.2.2.2.1 fC.2.2.2.2.2
def KN(h:Lk X E e f):DF X E e f:=⟨h.ev⟩
def wC{fr:bi}(h:Lk X E e (eD n fr src tg tt fe)):DE X E e (eD n fr src tg tt fe):=Dx Bc (KN h)
section
variable {X:Cx}{E:XK}{He H0e:Hp}{e:Expr}{f:al}{s:am}{pos:Pos}{st:Stmt}
def unown(i:Nat)(ρ:Ev):Ev:=match ρ[i]? with
 |some (.ow d)=>ρ.set i (.sh d)
 |_=>ρ
def BS(i:Nat)(s:am):am:=λρ=>s (unown i ρ)
def cY.unown{K:W.Frag}(h:cY K He H0e Ha σ H ρ)(i:Nat):∃Ha',aB Ha Ha'/\cY K He H0e Ha' σ H (DL.unown i ρ):=by
 unfold DL.unown;cases e:ρ[i]? with
 |none=>exact⟨Ha,aB.refl _,h⟩
 |some s=>
  cases s with
  |no|sh d|ox j ds|pt a=>exact⟨Ha,aB.refl _,h⟩
  |ow d=>
   obtain⟨a,k1,k2,k3,k4⟩:=h.ow i d e;obtain⟨o,h5,hrep⟩:∃o,H a=some o/\∀Hb,aB Ha Hb->Hb a=some o->Rep K Hb d (.ref a):=by
    cases d with
    |lst ds=>obtain⟨vs,h5,h6⟩:=k4;exact⟨_,h5,λHb z e=>aE.mpr ⟨a,vs,rfl,eN.of e,h6.mono z⟩⟩
    |dic ks ds=>obtain⟨vs,h5,hl,h6⟩:=k4;exact⟨_,h5,λHb z e=>by rw[Rep];exact⟨a,_,vs,rfl,.inl e,rfl,hl,h6.mono z⟩⟩
    |_=>exact k4.elim
   have z:aB Ha (upd Ha a o):=λb o' q=>by rw[az (by intro z;subst z;rw[k3]at q;cases q)];exact q
   have h':cY K He H0e (upd Ha a o) σ H (ρ.set i .no):=by
    have nset:∀(j:Nat) (s:Sl),(ρ.set i .no)[j]?=some s->s≠.no->j≠i/\ρ[j]?=some s:=λj s q hs=>by
     by_cases hj:i=j
     .subst hj
      rw[List.getElem?_set_self']at q;rw[e]at q;cases q;exact absurd rfl hs
     .rw[List.getElem?_set_ne hj]at q;exact⟨λz=>hj z.symm,q⟩
    refine⟨⟨h.g.s,h.g.z.trans z,λb o' q=>?_,λb q1 q2=>?_⟩,λj d' q=>?_,λj d' q=>?_,λj k d1 d2 hn q1 q2=>?_,by simp[h.ln],h.ex.upd (λj s q=>?_) z (λb us _ eb=>eb) λq us _ q0 hq hd=>?_⟩
    rotate_left 5
    .by_cases hs:s=.no
     .exact .inr (.inr (.inl hs))
     .exact .inl ⟨(nset j s q hs).2,rfl⟩
    .have hq':q≠a:=by
      intro zz;subst zz;exact hd i _ e k1
     exact⟨hq,by rw[az hq'];exact q0⟩
    .by_cases hb:b=a
     .subst hb;rw[aI]at q;cases q;exact h5
     .rw[az hb]at q;exact h.g.sub _ _ q
    .by_cases hb:b=a
     .subst hb;exact k2
     .rw[az hb]at q1;exact h.g.nw b q1 q2
    .obtain⟨hj,q⟩:=nset j _ q (λz=>nomatch z)
     obtain⟨v,q1,q2⟩:=h.rd j d' q;exact⟨v,q1,q2.mono z⟩
    .obtain⟨hj,q⟩:=nset j _ q (λz=>nomatch z)
     obtain⟨b,q1,q2,q3,q4⟩:=h.ow j d' q;have hb:b≠a:=by
      intro zz;subst zz;exact h.ap j i d' d hj q e (by rw[q1,k1])
     refine⟨b,q1,q2,by rw[az hb];exact q3,?_⟩;cases d' with|lst ds'=>obtain⟨vs',h7,h8⟩:=q4;exact⟨vs',h7,h8.mono z⟩|dic ks' ds'=>obtain⟨vs',h7,hl,h8⟩:=q4;exact⟨vs',h7,hl,h8.mono z⟩| _=>exact q4.elim
    .obtain⟨_,q1⟩:=nset j _ q1 (λz=>nomatch z)
     obtain⟨_,q2⟩:=nset k _ q2 (λz=>nomatch z);exact h.ap j k d1 d2 hn q1 q2
   refine⟨_,z,?_⟩;have hp:=h'.put (i:=i) (d:=d) (v:=.ref a) (hrep _ z aI);rw[List.set_set]at hp;have hσ:σ.set i (some (V.ref a))=σ:=by
    apply List.ext_getElem?;intro k
    by_cases hk:i=k
    .subst hk
     obtain⟨hil,_⟩:=List.getElem?_eq_some_iff.mp k1;rw[List.getElem?_set_self hil,k1]
    .rw[List.getElem?_set_ne hk]
   rw[hσ]at hp;exact hp
def Iz(i:Nat)(h:DS X E He H0e st s):DS X E He H0e st (BS i s):=⟨bH h.o λD' σ H z9=>by
 obtain⟨Ha,ρ,hr,q⟩:=z9;obtain⟨Ha',z,hr'⟩:=hr.unown i;exact⟨Ha',DL.unown i ρ,hr',bV.grow (r:=s (DL.unown i ρ)) q z⟩⟩
end
def DC(N:List Str)(n:Nat)(fr:bi)(hc:X.calm=true)(hi:DI X E tgt iter src)(hok:yg n tg)
  (blk:∀s H C fp pn,(∀He H0e,DG (cz X N scope s H C fp pn) E He H0e tgt tg)/\Lj (cz X N scope s H C fp pn) E ifs tt/\DE (cz X N scope s H C fp pn) E elt fe)
  (hfr:ym X N n fr scope)(hcell:(scope.names.all λx=>!(x.2==.cell))=true)(hfree:(scope.names.all λx=>!(x.2==.free)||(X.env.scope.names.lookup x.1==some .cell))=true)(hkind:scope.kind=.function)
  (hnames:(scope.names.all λx=>!(x.2==.local)||(scope.names.lookup x.1==some .local))=true)
  (hs:∀x,foldedSetIterable iter X.env x=pure x:=by intro _;rfl):Lk X E (.ListComp elt [⟨tgt,iter,ifs,0⟩] scope pos) (eD n fr src tg tt fe):=by
 refine M5 N n fr hc hi hok blk hfr (λx hx z=>?_) (λx hx z=>?_) hkind (λx hx z=>?_) hs
 .have:=List.all_eq_true.mp hcell x hx
  rw[z]at this;simp at this
 .have:=List.all_eq_true.mp hfree x hx
  rw[z]at this;simpa using this
 .have:=List.all_eq_true.mp hnames x hx
  rw[z]at this;simpa using this
end DL
namespace Com
open PySem L2 DL
def er:am :=
 (av (gW (jy 1) (aa (ae 1) (dC (.int 0)) iG)
 (av (rh 0 1 (ai (ae 1) (ai (aa (ae 0) (ae 1) cX) aF)))
 aq))
 (av (bz (au (ai (ae 0) aF) (m1 Bb)))
 aq))
def iR:ac->aj D:=b9 2 er
def rH:am :=
 (av (bE 2 (au (ai (ae 0) (ai (ae 1) aF)) iR))
 (av (bz (au (ai (aa (ae 0) (ae 2) lW) (ai (aa (ae 1) (ae 2) lW) aF)) eQ))
 aq))
def D4:ac->aj D:=b9 3 rH
def yc:am :=
 (av (bz (eg (b7 (ae 0) (c4 "int")) (cb (b7 (ae 0) (c4 "bool")))))
 aq)
def m_is_whole:ac->aj D:=b9 1 yc
noncomputable def dq:am :=
 (av (bE 2 (au (ai (ae 0) aF) (m1 Bb)))
 (av (bE 3 (au (ai (ae 1) aF) (m1 Bb)))
 (av (gW (jy 3) (aa (ae 3) (dC (.int 0)) iG)
 (av (bE 4 (aa (ae 2) (ae 3) cX))
 (av (bE 2 (ae 3))
 (av (bE 3 (ae 4))
 aq))))
 (av (bz (ae 2))
 aq))))
def m_common_divisor:ac->aj D:=b9 5 dq
noncomputable def lZ:am :=
 (av (dw (gh (cb (au (ai (ae 0) aF) m_is_whole)) (cb (au (ai (ae 1) aF) m_is_whole)))
 (av cV
 aq)
 aq)
 (av (dw (aa (ae 1) (dC (.int 0)) kc)
 (av cV
 aq)
 aq)
 (av (bE 2 (au (ai (ae 0) (ai (ae 1) aF)) m_common_divisor))
 (av (dw (aa (ae 1) (dC (.int 0)) GK)
 (av (bE 2 (b7 (ae 2) FL))
 aq)
 aq)
 (av (bz (au (ai (aa (ae 0) (ae 2) lW) (ai (aa (ae 1) (ae 2) lW) aF)) eQ))
 aq)))))
def m_ratio:ac->aj D:=b9 3 lZ
noncomputable def b_plus:am :=
 (av (bz (au (ai (aa (aa (aa (ae 0) (dC (.int 0)) aM) (aa (ae 1) (dC (.int 1)) aM) bJ) (aa (aa (ae 1) (dC (.int 0)) aM) (aa (ae 0) (dC (.int 1)) aM) bJ) cn) (ai (aa (aa (ae 0) (dC (.int 1)) aM) (aa (ae 1) (dC (.int 1)) aM) bJ) aF)) m_ratio))
 aq)
def m_plus:ac->aj D:=b9 2 b_plus
def tm:am :=
 (av (bz (aa (aa (aa (ae 0) (dC (.int 0)) aM) (aa (ae 1) (dC (.int 1)) aM) bJ) (aa (aa (ae 1) (dC (.int 0)) aM) (aa (ae 0) (dC (.int 1)) aM) bJ) GK))
 aq)
def m_is_less:ac->aj D:=b9 2 tm
def Bj{f:α->aj β}:(aj.ok a).bind f=f a:=rfl
def gV(h:s ρ=.ok (.nx ρ')):av s t ρ=t ρ':=by unfold av;rw[h];rfl
def xm(h:s ρ=.ok (.rt d)):av s t ρ=.ok (.rt d):=by unfold av;rw[h];rfl
def BO(h:s ρ=.ok (.nx ρ')):av s aq ρ=.ok (.nx ρ'):=by unfold av;rw[h];rfl
def BN(h:f ρ=.ok d):bE i f ρ=.ok (.nx (ρ.set i (.sh d))):=by unfold bE;rw[h];rfl
def xo(h:f (fX ρ)=.ok d):bz f ρ=.ok (.rt d):=by unfold bz;rw[h];rfl
def Ip(h:c (fX ρ)=.ok (.bl false)):dw c s t ρ=t ρ:=by unfold dw;rw[h];rfl
def jY:iG (.int i) (.int j)=.ok (.bl (!(i==j))):=by unfold iG;rw[if_pos ⟨rfl,rfl⟩,cq]
def mD:kc (.int i) (.int j)=.ok (.bl (i==j)):=by unfold kc;rw[if_pos ⟨rfl,rfl⟩,cq]
def l5(h:f ρ=.ok x)(h':fa ρ=.ok xs):ai f fa ρ=.ok (x::xs):=by unfold ai;rw[h,Bj,h'];rfl
def qJ(h:f ρ=.ok x)(h':g ρ=.ok y):aa f g op ρ=op x y:=by unfold aa;rw[h,Bj,h'];rfl
def wN(h:fa ρ=.ok xs):au fa m ρ=m xs:=by unfold au;rw[h];rfl
def xC(h:b≠0):cX (.int a) (.int b)=.ok (.int (a.fmod b)):=by
 show(if decide (b≠0)=true then aj.ok (D.int (a.fmod b)) else .stuck)=_;rw[if_pos (decide_eq_true h)]
def Ds(h:eC a b=true):lW (.int a) (.int b)=.ok (.int (a.fdiv b)):=by
 show(if eC a b=true then aj.ok (D.int (a.fdiv b)) else .stuck)=_;rw[if_pos h]
def pj(a b:Int):Int.gcd b (a.fmod b)=Int.gcd a b:=by
 rw[Int.fmod_def,Int.gcd_sub_mul_left_right,Int.gcd_comm]
def zq{a b:Int}(h:b≠0):(a.fmod b).natAbs<b.natAbs:=by
 rcases Int.lt_or_gt_of_ne h with hb|hb
 .have h1:=Int.fmod_lt_of_pos (-a) (show 0 < -b by omega)
  have h2:=Int.fmod_nonneg_of_pos (-a) (show 0 < -b by omega);rw[Int.neg_fmod_neg]at h1 h2;omega
 .have h1:=Int.fmod_lt_of_pos a hb
  have h2:=Int.fmod_nonneg_of_pos a hb;omega
theorem lV:∀(n:Nat) (a b:Int),b.natAbs<n->∃g:Int,g.natAbs=Int.gcd a b /\
  cp (aa (ae 1) (dC (.int 0)) iG) (av (rh 0 1 (ai (ae 1) (ai (aa (ae 0) (ae 1) cX) aF))) aq) n [.sh (.int a),.sh (.int b)]=.ok (.nx [.sh (.int g),.sh (.int 0)])
 |0,a,b,h=>absurd h (Nat.not_lt_zero _)
 |n+1,a,b,h=>by
  unfold cp;have c:(aa (ae 1) (dC (.int 0)) iG) (fX [.sh (.int a),.sh (.int b)])=.ok (.bl (!(b==0))):=jY;rw[c]
  by_cases hb:b=0
  .subst hb
   exact⟨a,by simp,rfl⟩
  .have e:(!(b==0))=true:=by simp[hb]
   obtain⟨g,h1,h2⟩:=lV n b (a.fmod b) (by have:=zq (a:=a) hb;omega);refine⟨g,by rw[h1,pj],?_⟩;rw[←h2];rw[e];have st:(av (rh 0 1 (ai (ae 1) (ai (aa (ae 0) (ae 1) cX) aF))) aq) [.sh (.int a),.sh (.int b)]=.ok (.nx [.sh (.int b),.sh (.int (a.fmod b))]):=by
    refine BO ?_;unfold rh;have:(ai (ae 1) (ai (aa (ae 0) (ae 1) cX) aF)) [.sh (.int a),.sh (.int b)]=.ok [.int b,.int (a.fmod b)]:=by
     exact l5 rfl (l5 (xC hb) rfl)
    rw[this];rfl
   show(aj.bind _ _)=_;rw[st];rfl
def IB(a b:Int):iR [.int a,.int b]=.ok (.int (Int.gcd a b)):=by
 obtain⟨g,h1,h2⟩:=lV (b.natAbs+1) a b (Nat.lt_succ_self _);have w:gW (jy 1) (aa (ae 1) (dC (.int 0)) iG) (av (rh 0 1 (ai (ae 1) (ai (aa (ae 0) (ae 1) cX) aF))) aq) [.sh (.int a),.sh (.int b)]=.ok (.nx [.sh (.int g),.sh (.int 0)]):=h2;have r:er [.sh (.int a),.sh (.int b)]=.ok (.rt (.int (if g<0 then -g else g))):=by
  unfold er;rw[gV w];exact xm (xo rfl)
 show(er [.sh (.int a),.sh (.int b)]).bind _=_;rw[r];show aj.ok (D.int (if g<0 then -g else g))=_
 congr 2
 rw[←h1];split<;>omega
theorem m6:∀(n:Nat) (x y:D) (a b:Int) (r:Sl),0<=a->0<=b->b.natAbs<n->∃r',
  cp (aa (ae 3) (dC (.int 0)) iG) (av (bE 4 (aa (ae 2) (ae 3) cX)) (av (bE 2 (ae 3)) (av (bE 3 (ae 4)) aq))) n [.sh x,.sh y,.sh (.int a),.sh (.int b),r]=.ok (.nx [.sh x,.sh y,.sh (.int (Int.gcd a b)),.sh (.int 0),r'])
 |0,_,_,a,b,_,_,_,h=>absurd h (Nat.not_lt_zero _)
 |n+1,x,y,a,b,r,ha,hb0,h=>by
  unfold cp;have c:∀r,(aa (ae 3) (dC (.int 0)) iG) (fX [.sh x,.sh y,.sh (.int a),.sh (.int b),r])=.ok (.bl (!(b==0))):=λr=>jY;rw[c]
  by_cases hb:b=0
  .subst hb
   refine⟨r,?_⟩;have e:((Int.gcd a 0:Nat):Int)=a:=by simp;omega
   rw[e];rfl
  .have e:(!(b==0))=true:=by simp[hb]
   have hp:0<b:=by omega
   obtain⟨r',h2⟩:=m6 n x y b (a.fmod b) (.sh (.int (a.fmod b))) hb0 (Int.fmod_nonneg_of_pos a hp) (by have:=zq (a:=a) hb;omega);refine⟨r',?_⟩;rw[pj]at h2;rw[←h2,e];have st:(av (bE 4 (aa (ae 2) (ae 3) cX)) (av (bE 2 (ae 3)) (av (bE 3 (ae 4)) aq))) [.sh x,.sh y,.sh (.int a),.sh (.int b),r]=.ok (.nx [.sh x,.sh y,.sh (.int b),.sh (.int (a.fmod b)),.sh (.int (a.fmod b))]):=by
    have m:(aa (ae 2) (ae 3) cX) [.sh x,.sh y,.sh (.int a),.sh (.int b),r]=.ok (.int (a.fmod b)):=by
     exact xC hb
    rw[gV (BN m)];rfl
   show(aj.bind _ _)=_;rw[st];rfl
def jE(a b:Int):m_common_divisor [.int a,.int b]=.ok (.int (Int.gcd a b)):=by
 have e:∀i:Int,(if i<0 then -i else i)=(i.natAbs:Int):=λi=>by split<;>omega
 obtain⟨r',h⟩:=m6 ((b.natAbs:Int).natAbs+1) (.int a) (.int b) a.natAbs b.natAbs .no (Int.natCast_nonneg _) (Int.natCast_nonneg _) (Nat.lt_succ_self _);have hg:Int.gcd (a.natAbs:Int) (b.natAbs:Int)=Int.gcd a b:=by simp[Int.gcd]
 rw[hg]at h;have r:dq [.sh (.int a),.sh (.int b),.no,.no,.no]=.ok (.rt (.int (Int.gcd a b))):=by
  unfold dq;rw[gV (ρ':=[.sh (.int a),.sh (.int b),.sh (.int (a.natAbs:Int)),.no,.no]) (by rw[←e a];rfl)];rw[gV (ρ':=[.sh (.int a),.sh (.int b),.sh (.int (a.natAbs:Int)),.sh (.int (b.natAbs:Int)),.no]) (by rw[←e b];rfl)];have w:gW (jy 3) (aa (ae 3) (dC (.int 0)) iG) (av (bE 4 (aa (ae 2) (ae 3) cX)) (av (bE 2 (ae 3)) (av (bE 3 (ae 4)) aq))) [.sh (.int a),.sh (.int b),.sh (.int (a.natAbs:Int)),.sh (.int (b.natAbs:Int)),.no]=.ok (.nx [.sh (.int a),.sh (.int b),.sh (.int (Int.gcd a b)),.sh (.int 0),r']):=h;rw[gV w];exact xm (xo rfl)
 show(dq [.sh (.int a),.sh (.int b),.no,.no,.no]).bind _=_;rw[r];rfl
def xt:(2:Nat) ^ 64<=wX:=by rw[mL];exact Nat.pow_le_pow_right (by decide) (by decide)
def Kp{i:Int}(h:i.natAbs<18446744073709551616):i.natAbs<wX:=Nat.lt_of_lt_of_le h xt
def fG(h:i.natAbs<18446744073709551616)(h':j.natAbs<18446744073709551616):dy i j=true:=by
 unfold dy;rw[Bool.and_eq_true];exact⟨decide_eq_true (Kp h),decide_eq_true (Kp h')⟩
def cF(h:i.natAbs<wX)(h':j.natAbs<wX):dy i j=true:=by
 unfold dy;rw[Bool.and_eq_true];exact⟨decide_eq_true h,decide_eq_true h'⟩
def Du(h0:j≠0)(h:j.natAbs<B9):eC i j=true:=by
 unfold eC;rw[Bool.and_eq_true,Bool.or_eq_true];exact⟨decide_eq_true h0,.inl (decide_eq_true h)⟩
def qt(h0:j≠0)(h:i.natAbs<oa):eC i j=true:=by
 unfold eC;rw[Bool.and_eq_true,Bool.or_eq_true];exact⟨decide_eq_true h0,.inr (decide_eq_true h)⟩
def my{k:Nat}(h:ds[k]?=some d):aM (.lst ds) (.int (k:Int))=.ok d:=by
 unfold aM;simp only[eM h]
def eB{a b:Int}(hb:0<b):0<=a.fmod b/\a.fmod b<b:=⟨Int.fmod_nonneg_of_pos a hb,Int.fmod_lt_of_pos a hb⟩
def sA{n k:Nat}(h:k<n):(DL.intsFrom 0 n).drop k=.int (k:Int)::(DL.intsFrom 0 n).drop (k+1):=by
 have hl:(DL.intsFrom 0 n).length=n:=by unfold DL.intsFrom;simp
 rw[List.drop_eq_getElem_cons (by rw[hl];exact h)]
 congr 1
 unfold DL.intsFrom;simp
def vG:(DL.intsFrom 0 n).drop n=[]:=by
 have hl:(DL.intsFrom 0 n).length=n:=by unfold DL.intsFrom;simp
 exact List.drop_eq_nil_of_le (by omega)
def dN(h1:tg ρ d=.ok ρ1)(h2:s ρ1=.ok (.nx ρ2)):b3 tg s (d::r) ρ=b3 tg s r ρ2:=by
 rw[b3,h1,Bj,h2,Bj]
def Jn:D->Bool
 |.int _=>true
 |_=>false
def eS(d:D):m_is_whole [d]=.ok (.bl (Jn d)):=by cases d<;>first|rfl|(rename_i k _;cases k<;>rfl)
def gG{a g:Int}(hg:0<g):a.fdiv g=a / g:=Int.fdiv_eq_ediv_of_nonneg a (by omega)
def kK(h:b≠0):0<(Int.gcd a b:Int):=by
 have:=Int.gcd_pos_of_ne_zero_right a h;omega
def B3(hb:0<b)(h1:a.natAbs<oa)(h2:b.natAbs<oa):m_ratio [.int a,.int b]=.ok (.tup [.int (a / Int.gcd a b),.int (b / Int.gcd a b)]):=by
 have hg:=kK (a:=a) (b:=b) (by omega);have r:lZ [.sh (.int a),.sh (.int b),.no]=.ok (.rt (.tup [.int (a / Int.gcd a b),.int (b / Int.gcd a b)])):=by
  unfold lZ;rw[gV (ρ':=[.sh (.int a),.sh (.int b),.no]) (Ip (t:=aq) rfl)];rw[gV (ρ':=[.sh (.int a),.sh (.int b),.no]) (Ip (t:=aq) ((qJ (x:=.int b) (y:=.int 0) rfl rfl).trans (mD.trans (by rw[beq_eq_false_iff_ne.mpr (by omega)]))))];rw[gV (ρ':=[.sh (.int a),.sh (.int b),.sh (.int (Int.gcd a b))]) (BN ((wN (xs:=[.int a,.int b]) rfl).trans (jE a b)))];rw[gV (ρ':=[.sh (.int a),.sh (.int b),.sh (.int (Int.gcd a b))]) (Ip (t:=aq) (by
   show aj.ok (D.bl (decide (b<0)))=_;rw[decide_eq_false (by omega)]))]
  refine xm (xo ?_);refine(wN (xs:=[.int (a / Int.gcd a b),.int (b / Int.gcd a b)]) (l5 ?_ (l5 ?_ rfl))).trans rfl
  .rw[←gG hg]
   exact(qJ (x:=.int a) (y:=.int (Int.gcd a b)) rfl rfl).trans (Ds (qt (by omega) h1))
  .rw[←gG hg]
   exact(qJ (x:=.int b) (y:=.int (Int.gcd a b)) rfl rfl).trans (Ds (qt (by omega) h2))
 show(lZ [.sh (.int a),.sh (.int b),.no]).bind _=_;rw[r];rfl
def Ir(p q:Int):D:=.tup [.int p,.int q]
end Com
open Com
namespace Com
open PySem L2 DL
abbrev fw:=Int×Int
def fr(x:fw):D:=Ir x.1 x.2
def yl:Nat:=1000000000000000000000000000000000000000000000000000000000000
def Ja:yl<=B9:=by rw[Ah];exact Nat.le_trans (show yl<=2 ^ 200 by decide) (Nat.pow_le_pow_right (by decide) (by decide))
def F3:yl<=oa:=by rw[mM];exact Nat.le_trans (show yl<=2 ^ 200 by decide) (Nat.pow_le_pow_right (by decide) (by decide))
def Ae:yl<=wX:=by rw[mL];exact Nat.le_trans (show yl<=2 ^ 200 by decide) (Nat.pow_le_pow_right (by decide) (by decide))
def n9:oa<=wX:=by rw[mM,mL];exact Nat.pow_le_pow_right (by decide) (by decide)
structure Low (x:fw):Prop where
 q1:1<=x.2
 g1:Int.gcd x.1 x.2=1
structure gp (x:fw):Prop extends Low x where
 pN:x.1.natAbs<yl
 qN:x.2.natAbs<yl
def e9(a b:Int):fw:=(a / Int.gcd a b,b / Int.gcd a b)
def ig(hb:0<b):Low (e9 a b):=by
 have hg:=kK (a:=a) (b:=b) (by omega);refine⟨?_,Int.gcd_ediv_gcd_ediv_gcd (by omega)⟩;have:=Int.ediv_gcd_ne_zero_if_ne_zero_right a (show b≠0 by omega);have h2:0<=b / (Int.gcd a b:Int):=Int.ediv_nonneg (by omega) (by omega);show 1<=b / (Int.gcd a b:Int);omega
def Fh:(e9 a b).1*b=a*(e9 a b).2:=by
 unfold e9;obtain⟨x,hx⟩:=Int.gcd_dvd_left a b;obtain⟨y,hy⟩:=Int.gcd_dvd_right a b
 by_cases hg:(Int.gcd a b:Int)=0
 .simp only[hg,Int.ediv_zero,Int.zero_mul,Int.mul_zero]
 .generalize hG:(Int.gcd a b:Int)=G at *
  have e1:a / G=x:=by rw[hx];exact Int.mul_ediv_cancel_left x hg
  have e2:b / G=y:=by rw[hy];exact Int.mul_ediv_cancel_left y hg
  show a / G*b=a*(b / G);rw[e1,e2]
  calc x*b=x*(G*y):=by rw[←hy]
   _=G*x*y:=by grind
   _=a*y:=by rw[←hx]
def uf:(e9 a b).1.natAbs<=a.natAbs:=Int.natAbs_ediv_le_natAbs _ _
def ue:(e9 a b).2.natAbs<=b.natAbs:=Int.natAbs_ediv_le_natAbs _ _
def CM(hx:Low x)(hy:Low y)(h:x.1*y.2=y.1*x.2):x=y:=by
 have d1:x.2∣y.2:=by
  have:x.2∣x.1*y.2:=⟨y.1,by rw[h];exact Int.mul_comm _ _⟩
  rw[←Int.dvd_gcd_mul_iff_dvd_mul,Int.gcd_comm,hx.g1]at this;simpa using this
 have d2:y.2∣x.2:=by
  have:y.2∣y.1*x.2:=⟨x.1,by rw[←h];exact Int.mul_comm _ _⟩
  rw[←Int.dvd_gcd_mul_iff_dvd_mul,Int.gcd_comm,hy.g1]at this;simpa using this
 have e:x.2=y.2:=Int.dvd_antisymm (by have:=hx.q1;omega) (by have:=hy.q1;omega) d1 d2;have e1:x.1=y.1:=by
  rw[e]at h;exact Int.eq_of_mul_eq_mul_right (by have:=hy.q1;omega) h
 exact Prod.ext e1 e
def kr(hb:0<b)(h1:a.natAbs<oa)(h2:b.natAbs<oa):m_ratio [.int a,.int b]=.ok (fr (e9 a b)):=B3 hb h1 h2
def Kr(hb:0<b)(h1:a.natAbs<yl)(h2:b.natAbs<yl):gp (e9 a b):=⟨ig hb,Nat.lt_of_le_of_lt uf h1,Nat.lt_of_le_of_lt ue h2⟩
def EF(x:fw):bj (n+1) (fr x)=true:=by
 cases n<;>rfl
def eq_fr:cq (fr x) (fr y)=(x.1==y.1&&x.2==y.2):=by
 unfold fr Ir;simp[cq,eqDs]
def xQ:cq (fr x) (fr x)=true:=by rw[eq_fr];simp
def flt(x y:fw):Bool:=decide (x.1*y.2<y.1*x.2)
theorem zp{tg:Ev->D->aj Ev}{body:am}(P:Ev->Prop):∀{ds:ac},(∀d∈ds,∀ρ,P ρ->∃ρ1 ρ2,tg ρ d=.ok ρ1/\body ρ1=.ok (.nx ρ2)/\P ρ2)->∀ρ,P ρ->∃ρ',b3 tg body ds ρ=.ok (.nx ρ')/\P ρ'
 |[],_,ρ,h=>⟨ρ,rfl,h⟩
 |d::r,hs,ρ,h=>by
  obtain⟨ρ1,ρ2,h1,h2,h3⟩:=hs d List.mem_cons_self ρ h;obtain⟨ρ',h4,h5⟩:=zp P (λe he=>hs e (List.mem_cons_of_mem _ he)) ρ2 h3;exact⟨ρ',by rw[dN h1 h2];exact h4,h5⟩
def aG{α:Type}{a b:α}(h:a=b):a=b:=h
def Hr(t:am)(r:Fl):aj Fl:=match r with
 |.nx ρ'=>t ρ'
 |r=>.ok r
def JK(i:Nat)(ρ:Ev)(d:D):aj Fl:=.ok (.nx (ρ.set i (.sh d)))
def JM(d:D):aj Fl:=.ok (.rt d)
def GH(ρ:Ev)(_:D):aj Fl:=.ok (.nx ρ)
def LQ(s t:am)(ρ:Ev)(x:D):aj Fl:=match x with
 |.bl b=>if b=true then s ρ else t ρ
 |_=>.stuck
def J7(i:Nat)(ρ:Ev)(d:D):aj Fl:=match d with
 |.lst ds=>.ok (.nx (ρ.set i (.ow (.lst ds))))
 |_=>.stuck
def HV(s:Option Sl)(k:ac->aj Fl):aj Fl:=match s with
 |some (.ow (.lst ds))=>k ds
 |_=>.stuck
def KS(i:Nat)(ρ:Ev)(ds:ac)(d:D):aj Fl:=if ds.length<line then .ok (.nx (ρ.set i (.ow (.lst (ds++[d]))))) else .stuck
def gB(i:Nat)(ρ:Ev)(k:al)(ds:ac)(d:D):aj Fl:=(k ρ).bind (DL.putAt ρ i ds d)
def G3(is:bi)(ρ:Ev)(d:D):aj Fl:=match eJ is.length d with
 |some ds=>.ok (.nx (dP ρ is ds))
 |none=>.stuck
def J6(i j:Nat)(ρ:Ev)(ds:ac):aj Fl:=match ds with
 |[x,y]=>.ok (.nx ((ρ.set i (.sh x)).set j (.sh y)))
 |_=>.stuck
def k2(g:al)(op:D->D->aj D)(ρ:Ev)(x:D):aj D:=(g ρ).bind (op x)
def xU(x:D)(xs:ac):aj (ac):=.ok (x::xs)
def GO(fa:Ev->aj (ac))(ρ:Ev)(x:D):aj (ac):=(fa ρ).bind (xU x)
def IP(g:al)(ρ:Ev)(x:D):aj D:=match x with
 |.bl true=>g ρ
 |.bl false=>.ok (.bl false)
 |_=>.stuck
def LM(g:al)(ρ:Ev)(x:D):aj D:=match x with
 |.bl true=>.ok (.bl true)
 |.bl false=>g ρ
 |_=>.stuck
def Kc(x:D):aj D:=match x with
 |.bl b=>.ok (.bl (!b))
 |_=>.stuck
def Io(f g:al)(ρ:Ev)(x:D):aj D:=match x with
 |.bl true=>f ρ
 |.bl false=>g ρ
 |_=>.stuck
def Jv(s:Option Sl):aj D:=match s with
 |some (.sh d)=>.ok d
 |_=>.stuck
def Au(s:Sl):Sl:=match s with
 |.ow d=>.sh d
 |.ox _ ds=>.sh (.tup ds)
 |x=>x
def Hy(r:Fl):aj D:=match r with
 |.nx _=>.ok .non
 |.rt d=>.ok d
 |_=>.stuck
def Mq(x:D):aj (Option Int):=match x with
 |.int i=>.ok (some i)
 |_=>.stuck
def BM(x:D)(l:Option Int)(h:Option Int):aj D:=oy x l h
def LI(hi:Ev->aj (Option Int))(ρ:Ev)(x:D)(l:Option Int):aj D:=(hi ρ).bind (BM x l)
def JJ(lo hi:Ev->aj (Option Int))(ρ:Ev)(x:D):aj D:=(lo ρ).bind (LI hi ρ x)
def Kz(tg:Ev->D->aj Ev)(s:am)(ρ:Ev)(d:D):aj Fl:=match d with
 |.lst ds=>b3 tg s ds ρ
 |_=>.stuck
def FR(op':D->D->aj D)(h:al)(ρ:Ev)(y z:D):aj D:=match z with
 |.bl true=>(h ρ).bind (op' y)
 |.bl false=>.ok (.bl false)
 |_=>.stuck
def IH(op op':D->D->aj D)(h:al)(ρ:Ev)(x y:D):aj D:=(op x y).bind (FR op' h ρ y)
def MD(op op':D->D->aj D)(g h:al)(ρ:Ev)(x:D):aj D:=(g ρ).bind (IH op op' h ρ x)
section
variable {s t:am}{f g h:al}{fa:Ev->aj (ac)}{ρ r:Ev}{i j:Nat}{d x y:D}{ds xs:ac}{op op':D->D->aj D}{a b:Int}
def sG{a:α}{k:α->aj β}:(aj.ok a).bind k=k a:=aG rfl
def pK:av s t ρ=(s ρ).bind (Hr t):=aG rfl
def kY:Hr t (.nx ρ)=t ρ:=aG rfl
def kX:Hr t (.rt d)=.ok (.rt d):=aG rfl
def lA:aq ρ=.ok (.nx ρ):=aG rfl
def pJ:bE i f ρ=(f ρ).bind (JK i ρ):=aG rfl
def kW:JK i ρ d=.ok (.nx (ρ.set i (.sh d))):=aG rfl
def pO:bz f ρ=(f (fX ρ)).bind JM:=aG rfl
def lj:JM d=.ok (.rt d):=aG rfl
def lO:mO f ρ=(f (fX ρ)).bind (GH ρ):=aG rfl
def iY:GH ρ d=.ok (.nx ρ):=aG rfl
def vU:dw f s t ρ=(f (fX ρ)).bind (LQ s t ρ):=aG rfl
def qc:LQ s t ρ (.bl true)=s ρ:=aG rfl
def p9:LQ s t ρ (.bl false)=t ρ:=aG rfl
def pR:kq i f ρ=(f ρ).bind (J7 i ρ):=aG rfl
def lr:J7 i ρ (.lst ds)=.ok (.nx (ρ.set i (.ow (.lst ds)))):=aG rfl
def qj:dZ i f ρ=HV ρ[i]? λds=>(f ρ).bind (KS i ρ ds):=aG rfl
def lq{k:ac->aj Fl}:HV (some (.ow (.lst ds))) k=k ds:=aG rfl
def eK(h:decide (ds.length<=999)=true):KS i ρ ds d=.ok (.nx (ρ.set i (.ow (.lst (ds++[d]))))):=if_pos (Nat.lt_of_le_of_lt (of_decide_eq_true h) (by decide))
def pP:BR i f g ρ=HV ρ[i]? λds=>(f ρ).bind (gB i ρ g ds):=aG rfl
def ll:gB i ρ g ds d=(g ρ).bind (DL.putAt ρ i ds d):=aG rfl
def qd:BS i s ρ=s (unown i ρ):=aG rfl
def pA:Hu is f ρ=(f ρ).bind (G3 is ρ):=aG rfl
def pQ:rh i j fa ρ=(fa ρ).bind (J6 i j ρ):=aG rfl
def lp:J6 i j ρ [x,y]=.ok (.nx ((ρ.set i (.sh x)).set j (.sh y))):=aG rfl
def v8:b7 f o ρ=(f ρ).bind o:=aG rfl
def v7:aa f g op ρ=(f ρ).bind (k2 g op ρ):=aG rfl
def qi:k2 g op ρ x=(g ρ).bind (op x):=aG rfl
def v5:au fa m ρ=(fa ρ).bind m:=aG rfl
def pW:aF ρ=.ok []:=aG rfl
def lP:ai f fa ρ=(f ρ).bind (GO fa ρ):=aG rfl
def i6:GO fa ρ x=(fa ρ).bind (xU x):=aG rfl
def iZ:xU x xs=.ok (x::xs):=aG rfl
def qk:eg f g ρ=(f ρ).bind (IP g ρ):=aG rfl
def lR:IP g ρ (.bl true)=g ρ:=aG rfl
def lQ:IP g ρ (.bl false)=.ok (.bl false):=aG rfl
def vQ:gh f g ρ=(f ρ).bind (LM g ρ):=aG rfl
def pU:LM g ρ (.bl true)=.ok (.bl true):=aG rfl
def pT:LM g ρ (.bl false)=g ρ:=aG rfl
def pV:cb f ρ=(f ρ).bind Kc:=aG rfl
def lu:Kc (.bl c)=.ok (.bl (!c)):=aG rfl
def p8:IF h f g ρ=(h ρ).bind (Io f g ρ):=aG rfl
def lL:Io f g ρ (.bl true)=f ρ:=aG rfl
def lK:Io f g ρ (.bl false)=g ρ:=aG rfl
def pz:ae i ρ=Jv ρ[i]?:=aG rfl
def kM:Jv (some (.sh d))=.ok d:=aG rfl
def C2:dC d ρ=.ok d:=aG rfl
def kU:fX []=[]:=aG rfl
def pI:fX (c::r)=Au c::fX r:=aG rfl
def kT:Au (.ow d)=.sh d:=aG rfl
def nQ:Au (.ox j ds)=.sh (.tup ds):=aG rfl
def kS:Au (.sh d)=.sh d:=aG rfl
def kR:Au .no=.no:=aG rfl
def pM:b9 n s ds=(s (ds.map Sl.sh++List.replicate (n-ds.length) .no)).bind Hy:=aG rfl
def lh:Hy (.rt d)=.ok d:=aG rfl
def kZ:Hy (.nx ρ)=.ok .non:=aG rfl
def vP:eP f ρ=(f ρ).bind Mq:=aG rfl
def pS:Mq (.int a)=.ok (some a):=aG rfl
def vR:fu ρ=.ok none:=aG rfl
def vM:Ba f lo hi ρ=(f ρ).bind (JJ lo hi ρ):=aG rfl
def pH:JJ lo hi ρ x=(lo ρ).bind (LI hi ρ x):=aG rfl
def pG:LI hi ρ x l=(hi ρ).bind (BM x l):=aG rfl
def pF:BM (.lst ds) l l'=.ok (.lst (rG ds l l')):=aG rfl
def qe:nv f tg s ρ=(f ρ).bind (Kz tg s ρ):=aG rfl
def lN:Kz tg s ρ (.lst ds)=b3 tg s ds ρ:=aG rfl
def i7:fP op op' f g h ρ=(f ρ).bind (MD op op' g h ρ):=aG rfl
def vV:MD op op' g h ρ x=(g ρ).bind (IH op op' h ρ x):=aG rfl
def qh:IH op op' h ρ x y=(op x y).bind (FR op' h ρ y):=aG rfl
def qg:FR op' h ρ y (.bl true)=(h ρ).bind (op' y):=aG rfl
def qf:FR op' h ρ y (.bl false)=.ok (.bl false):=aG rfl
def p7:vE (λ_ _=>true) o (.int a) (.int b)=.ok (o a b):=aG rfl
def ql:cn (.int a) (.int b)=.ok (.int (a+b)):=aG rfl
def jB(h:decide (ds.length+es.length<=1000)=true):cn (.lst ds) (.lst es)=.ok (.lst (ds++es)):=if_pos (Nat.le_trans (of_decide_eq_true h) (by decide))
def pX:FL (.int a)=.ok (.int (-a)):=aG rfl
def vT:m1 m [x]=m x:=aG rfl
def vS:m2 m [x,y]=m x y:=aG rfl
def dO:dm (.lst ds)=.ok (.int ds.length):=aG rfl
def lC:dm (.tup ds)=.ok (.int ds.length):=aG rfl
def pD(h:decide (ds.length<=1000)=true):eQ ds=.ok (.tup ds):=if_pos (Nat.le_trans (of_decide_eq_true h) (by decide))
def pZ(h:decide (ds.length<=1000)=true):eR ds=.ok (.lst ds):=if_pos (Nat.le_trans (of_decide_eq_true h) (by decide))
def dJ:c4 "bool" (.bl c)=.ok (.bl true):=aG rfl
def da:c4 "bool" (.int a)=.ok (.bl false):=aG rfl
def dF:c4 "int" (.non)=.ok (.bl false):=aG rfl
def d9:c4 "int" (.bl c)=.ok (.bl true):=aG rfl
def dH:c4 "int" (.int a)=.ok (.bl true):=aG rfl
def dE:c4 "int" (.str z)=.ok (.bl false):=aG rfl
def dD:c4 "int" (.tup ds)=.ok (.bl false):=aG rfl
def dG:c4 "int" (.lst ds)=.ok (.bl false):=aG rfl
def dI:c4 "int" (.dic ks ds)=.ok (.bl false):=aG rfl
def dB:c4 "str" (.str z)=.ok (.bl true):=aG rfl
def cS:c4 "tuple" (.tup ds)=.ok (.bl true):=aG rfl
def c9:c4 "list" (.lst ds)=.ok (.bl true):=aG rfl
def fK:eV (.non) .non=.ok (.bl true):=aG rfl
def eU:cU (.non) .non=.ok (.bl false):=aG rfl
def fJ:eV (.str z) .non=.ok (.bl false):=aG rfl
def fI:eV (.tup ds) .non=.ok (.bl false):=aG rfl
def eT:cU (.tup ds) .non=.ok (.bl true):=aG rfl
def fL:eV (.lst ds) .non=.ok (.bl false):=aG rfl
def bO(h:dy a b=true):bJ (.int a) (.int b)=.ok (.int (a*b)):=if_pos h
def pY(h:(b==0)=false):cX (.int a) (.int b)=.ok (.int (a.fmod b)):=xC (λz=>by rw[z]at h;cases h)
def mC(h:eC a b=true):lW (.int a) (.int b)=.ok (.int (a.fdiv b)):=if_pos h
def kN(h:(ds.length==is.length)=true):G3 is ρ (.tup ds)=.ok (.nx (dP ρ is ds)):=by
 unfold G3 eJ;simp only[if_pos (eq_of_beq h)]
def vN:dP ρ (i::is) (d::ds)=dP (ρ.set i (.sh d)) is ds:=aG rfl
def pL:dP ρ [] ds=ρ:=aG rfl
def Mh(i:Nat)(ρ:Ev)(s:Option Sl):Ev:=match s with
 |some (.ow d)=>ρ.set i (.sh d)
 |_=>ρ
def vL:unown i ρ=Mh i ρ ρ[i]?:=aG rfl
def pC:Mh i ρ (some (.ow d))=ρ.set i (.sh d):=aG rfl
def vO{j:Int}(h:wW ds.length j=some n):DL.putAt ρ i ds d (.int j)=.ok (.nx (ρ.set i (.ow (.lst (ds.set n d))))):=by
 unfold DL.putAt;simp only[h]
def jA:aM (.lst (x0::xs)) (.int 0)=.ok x0:=by
 unfold aM;simp only[show atI (x0::xs) 0=some x0 from eM (j:=0) rfl]
def lI:aM (.tup (x0::xs)) (.int 0)=.ok x0:=by
 unfold aM;simp only[show atI (x0::xs) 0=some x0 from eM (j:=0) rfl]
def jz:aM (.lst (x0::x1::xs)) (.int 1)=.ok x1:=by
 unfold aM;simp only[show atI (x0::x1::xs) 1=some x1 from eM (j:=1) rfl]
def lH:aM (.tup (x0::x1::xs)) (.int 1)=.ok x1:=by
 unfold aM;simp only[show atI (x0::x1::xs) 1=some x1 from eM (j:=1) rfl]
def lJ:aM (.lst (x0::x1::x2::xs)) (.int 2)=.ok x2:=by
 unfold aM;simp only[show atI (x0::x1::x2::xs) 2=some x2 from eM (j:=2) rfl]
def lG:aM (.tup (x0::x1::x2::xs)) (.int 2)=.ok x2:=by
 unfold aM;simp only[show atI (x0::x1::x2::xs) 2=some x2 from eM (j:=2) rfl]
def lF:aM (.tup (x0::x1::x2::x3::xs)) (.int 3)=.ok x3:=by
 unfold aM;simp only[show atI (x0::x1::x2::x3::xs) 3=some x3 from eM (j:=3) rfl]
def lE:aM (.tup (x0::x1::x2::x3::x4::xs)) (.int 4)=.ok x4:=by
 unfold aM;simp only[show atI (x0::x1::x2::x3::x4::xs) 4=some x4 from eM (j:=4) rfl]
def vZ:((2:Nat):Int)=2:=aG rfl
def vY:((3:Nat):Int)=3:=aG rfl
def vX:((4:Nat):Int)=4:=aG rfl
def vW:((5:Nat):Int)=5:=aG rfl
end
def Gq(fa:Ev->aj (ac))(ρ:Ev)(x:D):aj D:=match x with
 |.str z=>(fa ρ).bind (kJ z)
 |_=>.stuck
def lD:sQ f fa ρ=(f ρ).bind (Gq fa ρ):=aG rfl
def iX:Gq fa ρ (.str z)=(fa ρ).bind (kJ z):=aG rfl
end Com
local macro_rules|`(tactic|open_line with[$xs,*])=>`(tactic|simp only[sG,pK,kY,kX,lA,pJ,kW,pO,lj,lO,iY,vU,qc,p9,pR,lr,qj,lq,pP,ll,qd,pA,pQ,lp,v8,v7,qi,v5,pW,lP,i6,iZ,qk,lR,lQ,vQ,pU,pT,pV,lu,p8,lL,lK,pz,kM,C2,kU,pI,kT,kS,kR,pM,lh,kZ,vP,pS,vR,vM,pH,pG,pF,qe,lN,i7,vV,qh,qg,qf,p7,ql,pX,vT,vS,dO,lC,mD,jY,List.map_cons,List.map_nil,List.length_cons,List.length_nil,List.replicate_succ,List.replicate_zero,List.nil_append,List.cons_append,List.getElem?_cons_zero,List.getElem?_cons_succ,List.set_cons_zero,List.set_cons_succ,Nat.sub_zero,Nat.reduceSub,Nat.reduceAdd,Nat.add_zero,Nat.zero_add,Bool.not_true,Bool.not_false,pD,pZ,jB,eK,pY,kN,vN,pL,vL,pC,jA,jz,lJ,lI,lH,lG,lF,lE,decide_true,decide_false,Nat.reduceLeDiff,Nat.reduceBEq,Int.reduceBEq,beq_self_eq_true,DL.dOne,DL.mYes,dJ,da,dF,d9,dH,dE,dD,dG,dI,dB,cS,c9,fK,eU,fJ,fI,eT,fL,vZ,vY,vX,vW,Int.reduceLT,Int.reduceLE,Int.reduceSub,Int.reduceAdd,Int.reduceMul,Int.reduceNeg,lD,iX,Int.reduceToNat,Bool.and_self,$[$xs:term],*])
namespace Com
open PySem L2 DL
noncomputable def gN:am :=
 (av (dw (gh (cb (b7 (ae 0) (c4 "str"))) (cb (fP GL GL (dC (.int 1)) (au (ai (ae 0) aF) (m1 dm)) (dC (.int 8)))))
 (av (bz (dC (.bl false)))
 aq)
 aq)
 (av (bz (au (ai (eD 1 [] (EB (ae 0)) (bW 0) mYes (aa (ae 0) (dC (.str "abcdefghijklmnopqrstuvwxyz")) Br)) aF) (m1 FO)))
 aq))
def m_is_name:ac->aj D:=b9 1 gN
noncomputable def df:am :=
 (av (dw (gh (cb (b7 (ae 0) (c4 "tuple"))) (aa (au (ai (ae 0) aF) (m1 dm)) (dC (.int 2)) iG))
 (av (bz (dC (.bl false)))
 aq)
 aq)
 (av (dw (gh (cb (au (ai (aa (ae 0) (dC (.int 0)) aM) aF) m_is_whole)) (cb (au (ai (aa (ae 0) (dC (.int 1)) aM) aF) m_is_whole)))
 (av (bz (dC (.bl false)))
 aq)
 aq)
 (av (bz (eg (aa (aa (ae 0) (dC (.int 1)) aM) (dC (.int 1)) Le) (aa (au (ai (aa (ae 0) (dC (.int 0)) aM) (ai (aa (ae 0) (dC (.int 1)) aM) aF)) m_common_divisor) (dC (.int 1)) kc)))
 aq)))
def m_is_ratio:ac->aj D:=b9 1 df
def IW:Str:="abcdefghijklmnopqrstuvwxyz"
def mX(c:Nat):Bool:=Kb ⟨#[c]⟩ IW
def nameB(z:Str):Bool:=decide (1<=z.length)&&(decide (z.length<=8)&&z.cps.toList.all mX)
def Kj:D->Bool
 |.str z=>nameB z
 |_=>false
def Ld:D->Bool
 |.str z=>decide (z.length<=line)
 |_=>true
theorem sU:∀{ds:ac},(∀d∈ds,∃ρ1,tg b d=.ok ρ1/\tt ρ1=.ok (.bl true)/\fe ρ1=.ok (F d))->bP b tg tt fe ds=.ok (ds.map F)
 |[],_=>rfl
 |d::r,h=>by
  obtain⟨ρ1,h1,h2,h3⟩:=h d List.mem_cons_self;rw[gJ h1 h2 h3,sU (λe he=>h e (List.mem_cons_of_mem _ he))];rfl
theorem m9{α:Type}(F:α->Bool):∀(cs:List α),gi (cs.map λc=>D.bl (F c))=some (cs.map F)
 |[]=>rfl
 |c::r=>by
  show(gi (r.map λc=>D.bl (F c))).map (F c::·)=_;rw[m9 F r];rfl
def xB(hz:z.length<=line):eD 1 [] (EB (ae 0)) (bW 0) mYes (aa (ae 0) (dC (.str "abcdefghijklmnopqrstuvwxyz")) Br) [.sh (.str z)]=.ok (.lst (z.cps.toList.map λc=>.bl (mX c))):=by
 have hl:(iK z).length<=line:=by rw[jW];exact hz
 unfold eD;show(if(iK z).length<=line then _ else _)=_;rw[if_pos hl];have:bP (cI 1 [] [.sh (.str z)]) (bW 0) mYes (aa (ae 0) (dC (.str "abcdefghijklmnopqrstuvwxyz")) Br) (iK z)=.ok (z.cps.toList.map λc=>D.bl (mX c)):=by
  unfold iK
  induction z.cps.toList with
  |nil=>rfl
  |cons c r ih=>
   rw[List.map_cons,gJ (x:=.bl (mX c)) rfl rfl rfl,ih];rfl
 rw[this]
def xJ(h:Ld d=true):m_is_name [d]=.ok (.bl (Kj d)):=by
 cases d with
 |str z=>
  have hz:z.length<=line:=of_decide_eq_true h;have hlen:dm (.str z)=.ok (.int z.length):=if_pos hz;show b9 1 gN _=.ok (.bl (nameB z));unfold nameB
  by_cases h1:1<=z.length
  .by_cases h8:z.length<=8
   .have e1:decide ((1:Int)<=(z.length:Int))=true:=decide_eq_true (by omega)
    have e2:decide ((z.length:Int)<=8)=true:=decide_eq_true (by omega);open_line with[gN,hlen,e1,e2,xB hz,FO,m9,decide_eq_true h1,decide_eq_true h8,Bool.true_and]
    simp[List.all_map,Function.comp_def]
   .have e1:decide ((1:Int)<=(z.length:Int))=true:=decide_eq_true (by omega)
    have e2:decide ((z.length:Int)<=8)=false:=decide_eq_false (by omega);open_line with[gN,hlen,e1,e2,decide_eq_true h1,decide_eq_false h8,Bool.false_and,Bool.and_false]
  .have e1:decide ((1:Int)<=(z.length:Int))=false:=decide_eq_false (by omega)
   open_line with[gN,hlen,e1,decide_eq_false h1,Bool.false_and]
 |ob k _=>cases k<;>rfl
 |_=>rfl
def oE:D->Bool
 |.tup [.int p,.int q]=>decide (1<=q)&&(Int.gcd p q==1)
 |_=>false
def Iu{g:Nat}:((g:Int)==1)=(g==1):=by
 cases h:(g==1) with
 |true=>rw[eq_of_beq h];rfl
 |false=>
  have:g≠1:=λz=>by rw[z]at h;cases h
  exact beq_eq_false_iff_ne.mpr (by omega)
def G7{xs:ac}:(∃x y,xs=[x,y])∨xs.length≠2:=by
 match xs with
 |[]=>exact .inr (by decide)
 |[x]=>exact .inr (by simp)
 |[x,y]=>exact .inl ⟨x,y,rfl⟩
 |x::y::z::r=>exact .inr (by simp)
theorem B2:∀{xs:ac},xs.length≠2->oE (.tup xs)=false
 |[],_=>rfl
 |[x],_=>by cases x<;>rfl
 |[x,y],h=>absurd rfl h
 |x::y::z::r,_=>by cases x<;>cases y<;>rfl
def xp:oE (.tup [x,y])=(Jn x&&(Jn y&&oE (.tup [x,y]))):=by
 cases x<;>cases y<;>rfl
def ug(d:D):m_is_ratio [d]=.ok (.bl (oE d)):=by
 cases d with
 |tup xs=>
  rcases G7 (xs:=xs) with⟨x,y,rfl⟩|h
  .rw[xp]
   show b9 1 df _=_;cases hx:Jn x with
   |false=>open_line with[df,eS,hx,Bool.false_and]
   |true=>
    cases hy:Jn y with
    |false=>open_line with[df,eS,hx,hy,Bool.false_and,Bool.true_and]
    |true=>
     cases x<;>first|(cases hx;done)|skip
     cases y<;>first|(cases hy;done)|skip
     rename_i p q;show _=aj.ok (D.bl (decide (1<=q)&&(Int.gcd p q==1)))
     by_cases hq:1<=q
     .open_line with[df,eS,hx,hy,jE,Bool.true_and,decide_eq_true hq,Iu]
     .open_line with[df,eS,hx,hy,jE,Bool.true_and,decide_eq_false hq,Bool.false_and]
  .have e2:((xs.length:Int)==2)=false:=beq_eq_false_iff_ne.mpr (by omega)
   rw[B2 h];show b9 1 df _=_;open_line with[df,e2]
 |ob k _=>cases k<;>rfl
 |_=>rfl
def FP{α:Type}{F:α->D}{xs:List α}:rG (xs.map F) lo hi=((xs.drop (HT.sIx xs.length 0 lo)).take (HT.sIx xs.length xs.length hi-HT.sIx xs.length 0 lo)).map F:=by
 unfold rG;rw[List.length_map,←List.map_drop,←List.map_take]
end Com
namespace DL
open PySem PySem.Spec PyProof.Rows L2
structure GS (k:Nat) (A:Around):Prop where
 dp:A.depth+3*k+5<recursionLimit
 un:A.units+16*k+200<cLine
def c5.h{k:Nat}(r:c5 k A):GS k A:=⟨r.dp,r.un⟩
structure MM (P:Program) (w:World) (K:W.Frag) (mg:Str->Option Value) (base:Heap) (k:Nat) (f:Addr) (fd:FuncData) (ps:List Str) (sp:Sp):Prop where
 len:∀vs H Q E,sp vs H Q E->vs.length=ps.length
 run:∀(A:Around) (outer:List PySem.Env) (s:Shared) (H:Hp) (args:Args) (us:List Value) (vs:ad) (Q:VK) (E:XK),GS k A->DX P w K mg base A outer s H->BindsTo s fd args (ps.zip us)->bD vs us->sp vs H Q E ->
  codeAny (model P w) A (.call (.ref f) args) (CR CX0 outer P w H s Q E) s
def MM.ok{K:W.Frag}{k:Nat}{ps:List Str}(F:MM P w K mg base k f fd ps sp):iy P w K mg base CX0 k f fd ps sp :=
 ⟨F.len,λA outer s H args us vs Q E hr=>F.run A outer s H args us vs Q E (c5.h hr)⟩
section
variable {X:Cx}{pins:List (Addr×Obj)}{σ:L2.St}{H:Hp}{s:Shared}{h':Heap}
def Ak{fp:List Addr}(I:Inv X pins σ H s)(k:∀b o,b∉fp->s.heap.get? b=some o->h'.get? b=some o)(hf:∀b∈fp,me X pins H b)(hT:s.heap.objs.size<=T)
  (new:cg X.prog X.w (upd H T (.tup xs)) h' T (.tup xs)):Inv X pins σ (upd H T (.tup xs)) { s with heap:=h',toks:=t' }:=by
 have hn:H T=none:=I.hok.fresh hT;have nit:∀b u,H b=some u->b∉fp:=λb u e z=>by rw[(hf b z).1]at e;cases e
 refine I.step (g':=s.gens) (d':=s.drawn) (ch:=fp) (λb hb=>?_) (λb o _ _ hc e _=>k b o hc e) (λb o _ _ hc e _=>⟨o.slots,k b o hc e⟩) (λb o _ e n=>?_)
  (λb o hc e=>⟨o,k b o hc e⟩) (λb xs e=>by rw[az (bq e hn)];exact e) (λb o u e=>by rw[az (bq e hn)];exact e) (λb ps e=>⟨#[],by rw[az (bq e hn),e];simp⟩) (λm hm=>?_) (λb u e=>?_) I.bare
 .obtain⟨_,f1,_,f3,f4,f5⟩:=hf b hb
  exact⟨f3,f1,f4,f5⟩
 .rw[az (Nat.ne_of_lt (Nat.lt_of_lt_of_le (Heap.lt_size e) hT))];exact n
 .obtain⟨o,es,ep,ho,r⟩:=hm
  exact⟨o,es,ep,k _ o (λz=>(hf _ z).2.1 rfl) ho,r⟩
 .by_cases hb:b=T
  .subst hb;rw[aI]at e;cases e;exact new
  .rw[az hb]at e
   refine(I.hok b u e).stay (λc v hc q=>k c v ?_ q) (λc q=>by rw[az (bq q hn)];exact q) λc xs q=>by rw[az (bq q hn)];exact q
   rcases hc with z|z
   .rw[z];exact nit b u e
   .exact nit c _ z
def Eo{fp:List Addr}(I:Inv X pins σ H s)(k:∀b o,b∉fp->s.heap.get? b=some o->h'.get? b=some o)(hf:∀b∈fp,me X pins H b):Inv X pins σ H { s with heap:=h',toks:=t' }:=by
 have nit:∀b u,H b=some u->b∉fp:=λb u e z=>by rw[(hf b z).1]at e;cases e
 refine I.step (g':=s.gens) (d':=s.drawn) (ch:=fp) (λb hb=>?_) (λb o _ _ hc e _=>k b o hc e) (λb o _ _ hc e _=>⟨o.slots,k b o hc e⟩) (λb o _ e n=>n)
  (λb o hc e=>⟨o,k b o hc e⟩) (λb xs e=>e) (λb o u e=>e) (λb ps e=>⟨#[],by rw[e];simp⟩) (λm hm=>?_) (λb u e=>?_) I.bare
 .obtain⟨_,f1,_,f3,f4,f5⟩:=hf b hb
  exact⟨f3,f1,f4,f5⟩
 .obtain⟨o,es,ep,ho,r⟩:=hm
  exact⟨o,es,ep,k _ o (λz=>(hf _ z).2.1 rfl) ho,r⟩
 .refine(I.hok b u e).stay (λc v hc q=>k c v ?_ q) (λ_ q=>q) λ_ _ q=>q
  rcases hc with z|z
  .rw[z];exact nit b u e
  .exact nit c _ z
end
def ML(K:W.Frag)(a:Addr):It :=
 ⟨λi H=>∃xs x,eN K H a xs/\xs[i]?=some x,λi H x H'=>∃p y,H p=none/\x=.ref p/\(∀xs,eN K H a xs->xs[i]?=some y)/\H'=upd H p (.tup [.int i,y]),λi H=>∃xs,eN K H a xs/\xs.length<=i⟩
def An{P:Program}{w:World}{K:W.Frag}{elts:List Expr}{k:Nat}{pos:Pos}(a it e:Addr)(hne:e≠it)(hae:a≠e)(hai:a≠it) :
  yf P w K (.Tuple elts k pos) (ML K a) [e,it] e (λi h=>(∃old,IsEnum h e it i old)/\h.IsListIter it a i) where
 mem:=by simp
 obj:=λi h st b hb=>by
  obtain⟨⟨old,he⟩,o,h1,h2,h3⟩:=st;rcases List.mem_cons.mp hb with rfl|hb
  .exact⟨_,he,λv z=>by cases z⟩
  .rcases List.mem_cons.mp hb with rfl|hb
   .exact⟨o,h1,λv z=>by rw[h3]at z;cases z⟩
   .cases hb
 keep:=λi h h' st k=>by
  obtain⟨⟨old,he⟩,hi⟩:=st;exact⟨⟨old,k e (by simp) _ he⟩,hi.at λo y=>k it (by simp) o y⟩
 item:=by
  intro X hP hw hK hc i pins s σ H E I hf st hg;subst hP hw hK;obtain⟨xs,x,hq,hx⟩:=hg;obtain⟨its,rv,p,hz⟩:=I.list hq;obtain⟨u,hu,ru⟩:=rv.get hx;have W:=WalksT.enumerate (prog:=X.prog) (w:=X.w) (I.ok.hd hc) e it a hne hae hai its.toArray;have hil:i<its.toArray.size:=by simpa using (List.getElem?_eq_some_iff.mp hu).1
  refine W.item i s _ _ hil ⟨st.1,st.2,p.isList⟩ λT vals h' tk hPt hT hTup hMid hk=>?_;refine⟨_,rfl,W.go elts k pos i T _ _ _ hMid λh'' st'' hk''=>?_⟩;obtain⟨t,y,hy,rfl⟩:=hPt;have hyu:y=u:=by
   have:its[i]?=some y:=by simpa using hy
   rw[hu]at this;cases this;rfl
  subst hyu;obtain⟨o,ho,hr⟩:=hTup;have ho':=hk'' T o (W.apart i T _ hMid) ho;refine⟨.ref T,upd H T (.tup [.int i,x]),Ak (s:=s) (h':=h'') (t':=tk) I (λb o hb e=>hk'' b o hb (hk b o hb e)) hf hT ⟨by show 2<=sizeLine;decide,[.int i t,y],.cons ⟨t,rfl⟩ (.cons ru .nil),o,ho',hr⟩,rfl,⟨T,x,I.hok.fresh hT,rfl,λys hy=>by rw[I.list_inj hy hq];exact hx,rfl⟩,⟨st''.1,st''.2.1⟩,λb hb=>?_⟩;have hb0:=(hf b hb).1;obtain⟨ob,hob,_⟩:∃o,s.heap.get? b=some o/\∀v,o.data≠.cell v:=by
   obtain⟨⟨old,he⟩,o,h1,h2,h3⟩:=st;rcases List.mem_cons.mp hb with rfl|hb
   .exact⟨_,he,λv z=>by cases z⟩
   .rcases List.mem_cons.mp hb with rfl|hb
    .exact⟨o,h1,λv z=>by rw[h3]at z;cases z⟩
    .cases hb
  rw[az (Nat.ne_of_lt (Nat.lt_of_lt_of_le (Heap.lt_size hob) hT))];exact hb0
 done:=by
  intro X hP hw hK hc i pins s σ H E I hf st hg;subst hP hw hK;obtain⟨xs,hq,hx⟩:=hg;obtain⟨its,rv,p,hz⟩:=I.list hq;have hl:=rv.length;obtain⟨⟨old,he⟩,hi⟩:=st;exact wpAny_pyNext_enum_end (I.ok.hd hc) he hi p.isList (by simp;omega) λh' hx=>⟨rfl,Eo (t':=s.toks) I (λb o hb e=>hx b o (λz=>hb (by simp[z])) e) hf⟩
 self:=λ_ _ _ _ _ st h=>by
  obtain⟨⟨old,he⟩,_⟩:=st;exact wpAny_pyIter_enum he h
section
variable {X:Cx}{E:XK}{elts:List Expr}{k:Nat}{tp:Pos}{e a b:Expr}{f g:al}
def Kv(K:W.Frag)(ta:TA):TI:=λσ H R=>ta σ H λvs H1=>∃a,vs=[.ref a]/\(∃xs,eN K H1 a xs)/\R (ML K a) H1
def ES(hg:Gl X "enumerate")(hm:X.mg "enumerate"=none)(ha:PA X [a] ta)(hs:starEach [a] X.env=[(false,eval a X.env)]:=by rfl):PI X (.Tuple elts k tp) (.Call (.Name "enumerate" p) [a] [] pos) (Kv X.K ta):=by
 intro pins s σ H R I h;refine Call_ (o8 I hg hm PyProof.Rows.Boot.«enumerate» (PyProof.Rows.callWith_type1 (cC (ha pos pins s σ H _ I h) λus s1 z9=>?_) hs rfl));obtain⟨vs,H1,I1,r1,q1⟩:=z9;obtain⟨l,e,⟨xs,hq⟩,q⟩:=q1;subst e;cases r1 with
 |cons r rr=>
  cases rr;cases r;obtain⟨its,rv,p,hz⟩:=I1.list hq;have hlt:l<s1.heap.objs.size:=by obtain⟨o,n,e,_⟩:=p;exact Heap.lt_size e
  refine call_enumerate_list p.isList λh' he hi hsz hk=>?_;refine wpAny_pyIter_enum he ?_;refine⟨s1.heap.objs.size+1,[s1.heap.objs.size+1,s1.heap.objs.size],_,_,H1,rfl,I1.kept (t':=s1.toks) hk,An l s1.heap.objs.size (s1.heap.objs.size+1) (Nat.succ_ne_self _) (Nat.ne_of_lt (Nat.lt_succ_of_lt hlt)) (Nat.ne_of_lt hlt),⟨⟨_,he⟩,hi⟩,λb hb=>?_,q⟩;have hb':s1.heap.objs.size<=b:=by
   rcases List.mem_cons.mp hb with rfl|hb
   .omega
   .rcases List.mem_cons.mp hb with rfl|hb
    .exact Nat.le_refl _
    .cases hb
  exact I1.fpOk hb' (I1.hok.fresh hb')
def numbered(n:Nat):ac->ac
 |[]=>[]
 |d::ds=>.tup [.int n,d]::numbered (n+1) ds
theorem ia:∀(ds:ac) (n:Nat),(numbered n ds).length=ds.length
 |[],_=>rfl
 |d::ds,n=>by simp[numbered,ia ds]
theorem ib:∀(ds:ac) (n i:Nat),(numbered n ds)[i]?=(ds[i]?).map λd=>D.tup [.int (n+i:Nat),d]
 |[],_,_=>by simp[numbered]
 |d::ds,n,0=>by simp[numbered]
 |d::ds,n,i+1=>by simp only[numbered,List.getElem?_cons_succ];rw[ib ds (n+1) i,show n+1+i=n+(i+1) by omega]
def Ar(f:al):Ev->aj (ac):=λρ=>(f ρ).bind λd=>match d with
 |.lst ds=>.ok (numbered 0 ds)
 |_=>.stuck
def Er{K:W.Frag}(hs:aB Ha H)(hp:H p=none)(r:Reps K Ha ds vs):∃H₀2,bc H Ha (upd H p (.tup vs)) H₀2/\Rep K H₀2 (.tup ds) (.ref p) :=
 ⟨upd Ha p (.tup vs),bu hs hp,aK.mpr ⟨p,vs,rfl,ji.of aI,r.mono (bu (o:=.tup vs) hs hp).z⟩⟩
def uA(hg:Gl X "enumerate")(hm:X.mg "enumerate"=none)(h:DE X E a f)(hn:Jm a=true:=by exact rfl):DI X E (.Tuple elts k tp) (.Call (.Name "enumerate" p) [a] [] pos) (Ar f):=by
 refine⟨gY (ES hg hm (dM h.o gr (fE hn)) (fE hn)) λσ H R z9=>?_⟩;obtain⟨Ha,ρ,hs,hr,q⟩:=z9;refine⟨Ha,ρ,hs,hr,?_⟩;unfold Ar at q;cases e1:f ρ with
 |stuck|exn x=>rw[e1]at q;exact q
 |ok d=>
  rw[e1]at q;intro v H1 H01 g1 r1;cases d with
  |lst ds=>
   obtain⟨l,vs,rfl,hv,hrv⟩:=aE.mp r1;refine⟨l,rfl,⟨vs,aB.sqL g1.sub hv⟩,q _ H1 H01 g1 ⟨λi H' Ha' s1 s2 hi=>?_,λi H' Ha' x H2 d s1 s2 hd hy=>?_,λi H' Ha' s1 s2 hi=>?_⟩⟩
   .rw[ia]at hi
    exact⟨vs,vs[i]'(by rw[←hrv.length];exact hi),aB.sqL (s1.trans s2) hv,by simp⟩
   .obtain⟨p,y,hp,rfl,hy,rfl⟩:=hy
    rw[ib]at hd;cases ei:ds[i]? with
    |none=>rw[ei]at hd;cases hd
    |some d'=>
     rw[ei]at hd;cases hd;obtain⟨u,k1,k2⟩:=hrv.get ei;have:=hy vs (aB.sqL (s1.trans s2) hv);rw[k1]at this;cases this;exact Er s2 hp (Reps.cons (aw.mpr (by simp)) (Reps.cons (k2.mono s1) Reps.nil))
   .rw[ia]at hi
    exact⟨vs,aB.sqL (s1.trans s2) hv,by rw[←hrv.length];exact hi⟩
  |_=>exact q.elim
end
end DL
namespace Com
open PySem L2 DL
def Gs(tg:Ev->D->aj Ev)(s:am)(ρ:Ev)(ds:ac):aj Fl:=b3 tg s ds ρ
def Ge(d:D):aj (ac):=match d with
 |.lst ds=>.ok (numbered 0 ds)
 |_=>.stuck
def Gd(d:D):aj (ac):=match d with
 |.lst ds=>.ok ds
 |_=>.stuck
def Gb(d:D):aj (ac):=match d with
 |.tup ds=>.ok ds
 |_=>.stuck
def i9(n:Nat)(fr:bi)(tg:Ev->D->aj Ev)(tt fe:al)(ρ:Ev)(ds:ac):aj D:=if ds.length<=line then match bP (cI n fr ρ) tg tt fe ds with
  |.ok es=>.ok (.lst es)
  |_=>.stuck
 else .stuck
def CZ(tg:Ev->D->aj Ev)(s:am)(ρ:Ev)(d:D):aj Fl:=match d with
 |.int j=>if -4611686018427387904<=j/\j<4611686018427387904 then b3 tg s (intsFrom 0 j.toNat) ρ else .stuck
 |_=>.stuck
section
variable {s t:am}{f g h:al}{src:Ev->aj (ac)}{fa:Ev->aj (ac)}{ρ r:Ev}{i j n:Nat}{d x y:D}{ds es xs:ac}{a b:Int}{tg:Ev->D->aj Ev}{tt fe:al}{fr:bi}
def nR:iL src tg s ρ=(src ρ).bind (Gs tg s ρ):=aG rfl
def lM:Gs tg s ρ ds=b3 tg s ds ρ:=aG rfl
def nP:Ar f ρ=(f ρ).bind Ge:=aG rfl
def kQ:Ge (.lst ds)=.ok (numbered 0 ds):=aG rfl
def nO:tN f ρ=(f ρ).bind Gd:=aG rfl
def kP:Gd (.lst ds)=.ok ds:=aG rfl
def nN:Aq f ρ=(f ρ).bind Gb:=aG rfl
def kO:Gb (.tup ds)=.ok ds:=aG rfl
def nS:eD n fr src tg tt fe ρ=(src ρ).bind (i9 n fr tg tt fe ρ):=aG rfl
def sH(h:(ds.length==is.length)=true):iW is ρ (.tup ds)=.ok (dP ρ is ds):=by
 show(match (if ds.length=is.length then some ds else none) with|some ds=>aj.ok (dP ρ is ds)|none=>.stuck)=_;rw[if_pos (eq_of_beq h)]
def gf:rS f tg s ρ=(f (fX ρ)).bind (CZ tg s ρ):=aG rfl
def gF{k:Nat}(h:k<=1000000):CZ tg s ρ (.int (k:Int))=b3 tg s (intsFrom 0 k) ρ:=by
 unfold CZ;dsimp only;rw[if_pos ⟨by omega,by omega⟩,Int.toNat_natCast]
def pE{l h:Option Int}(c:(HT.sIx ds.length 0 l==0&&HT.sIx ds.length ds.length h==ds.length)=false):BM (.tup ds) l h=.ok (.tup (rG ds l h)):=by
 show(if _ then _ else _)=_;rw[if_neg (λz=>by rw[z.1,z.2]at c;simp at c)]
def zt:IE (.int a) (.int b)=.ok (.int (if b > a then b else a)):=aG rfl
def zu:ka (.bl true)=.ok (.int 1):=aG rfl
def uo:ka (.bl false)=.ok (.int 0):=aG rfl
def mz:rE (.int 10) (.int 18)=.ok (.int 1000000000000000000):=aG rfl
def wJ(hl:ds.length<=1000000)(h:∀d∈ds,∃ρ1,tg (cI n fr ρ) d=.ok ρ1/\tt ρ1=.ok (.bl true)/\fe ρ1=.ok (F d)):i9 n fr tg tt fe ρ ds=.ok (.lst (ds.map F)):=by
 unfold i9;rw[if_pos (show ds.length<=line from hl),sU h]
theorem m7:∀{ds:ac},(∀d∈ds,∃ρ1,tg B d=.ok ρ1/\tt ρ1=.ok (.bl (p d))/\(p d=true->fe ρ1=.ok (F d)))->bP B tg tt fe ds=.ok ((ds.filter p).map F)
 |[],_=>rfl
 |d::ds,h=>by
  obtain⟨ρ1,h1,h2,h3⟩:=h d List.mem_cons_self;have ih:=m7 (ds:=ds) λd hd=>h d (List.mem_cons_of_mem _ hd);unfold bP;rw[h1,Bj,h2,Bj];cases hp:p d with
  |true=>
   show(fe ρ1).bind _=_;rw[h3 hp,Bj,ih,Bj,List.filter_cons_of_pos hp];rfl
  |false=>
   show bP B tg tt fe ds=_;rw[ih,List.filter_cons_of_neg (by rw[hp];decide)]
def wK(hl:ds.length<=1000000)(h:∀d∈ds,∃ρ1,tg (cI n fr ρ) d=.ok ρ1/\tt ρ1=.ok (.bl (p d))/\(p d=true->fe ρ1=.ok (F d))):i9 n fr tg tt fe ρ ds=.ok (.lst ((ds.filter p).map F)):=by
 unfold i9;rw[if_pos (show ds.length<=line from hl),m7 h]
end
def F4:yl<=2 ^ 200:=by decide
def un(s x:fw):fw:=(s.1*x.2+x.1*s.2,s.2*x.2)
end Com
local macro_rules|`(tactic|open_line with[$xs,*])=>`(tactic|simp only[sG,pK,kY,kX,lA,pJ,kW,pO,lj,lO,iY,vU,qc,p9,pR,lr,qj,lq,pP,ll,qd,pA,pQ,lp,v8,v7,qi,v5,pW,lP,i6,iZ,qk,lR,lQ,vQ,pU,pT,pV,lu,p8,lL,lK,pz,kM,C2,kU,pI,kT,kS,kR,nQ,pM,lh,kZ,vP,pS,vR,vM,pH,pG,pF,qe,lN,i7,vV,qh,qg,qf,p7,ql,pX,vT,vS,dO,lC,mD,jY,List.map_cons,List.map_nil,List.length_cons,List.length_nil,List.replicate_succ,List.replicate_zero,List.nil_append,List.cons_append,List.getElem?_cons_zero,List.getElem?_cons_succ,List.set_cons_zero,List.set_cons_succ,Nat.sub_zero,Nat.reduceSub,Nat.reduceAdd,Nat.add_zero,Nat.zero_add,Bool.not_true,Bool.not_false,pD,pZ,jB,eK,pY,kN,vN,pL,vL,pC,jA,jz,lJ,lI,lH,lG,lF,lE,decide_true,decide_false,Nat.reduceLeDiff,Nat.reduceBEq,Int.reduceBEq,beq_self_eq_true,DL.dOne,DL.mYes,dJ,da,dF,d9,dH,dE,dD,dG,dI,dB,cS,c9,fK,eU,fJ,fI,eT,fL,vZ,vY,vX,vW,Int.reduceLT,Int.reduceLE,Int.reduceSub,Int.reduceAdd,Int.reduceMul,Int.reduceNeg,lD,iX,Int.reduceToNat,Bool.and_self,nR,lM,nP,kQ,nO,kP,nN,kO,nS,sH,gf,pE,zt,zu,uo,mz,$[$xs:term],*])
local macro_rules|`(tactic|open_line with[$xs,*] seeing $h)=>`(tactic|simp only[sG,pK,kY,kX,lA,pJ,kW,pO,lj,lO,iY,vU,qc,p9,pR,lr,qj,lq,pP,ll,qd,pA,pQ,lp,v8,v7,qi,v5,pW,lP,i6,iZ,qk,lR,lQ,vQ,pU,pT,pV,lu,p8,lL,lK,pz,kM,C2,kU,pI,kT,kS,kR,nQ,pM,lh,kZ,vP,pS,vR,vM,pH,pG,pF,qe,lN,i7,vV,qh,qg,qf,p7,ql,pX,vT,vS,dO,lC,mD,jY,List.map_cons,List.map_nil,List.length_cons,List.length_nil,List.replicate_succ,List.replicate_zero,List.nil_append,List.cons_append,List.getElem?_cons_zero,List.getElem?_cons_succ,List.set_cons_zero,List.set_cons_succ,Nat.sub_zero,Nat.reduceSub,Nat.reduceAdd,Nat.add_zero,Nat.zero_add,Bool.not_true,Bool.not_false,pD,pZ,jB,eK,pY,kN,vN,pL,vL,pC,jA,jz,lJ,lI,lH,lG,lF,lE,decide_true,decide_false,Nat.reduceLeDiff,Nat.reduceBEq,Int.reduceBEq,beq_self_eq_true,DL.dOne,DL.mYes,dJ,da,dF,d9,dH,dE,dD,dG,dI,dB,cS,c9,fK,eU,fJ,fI,eT,fL,vZ,vY,vX,vW,Int.reduceLT,Int.reduceLE,Int.reduceSub,Int.reduceAdd,Int.reduceMul,Int.reduceNeg,lD,iX,Int.reduceToNat,Bool.and_self,nR,lM,nP,kQ,nO,kP,nN,kO,nS,sH,gf,pE,zt,zu,uo,mz,$[$xs:term],*] at $(⟨h⟩):ident)
namespace Com
open PySem L2 DL
def jZ(ha:0<=a)(hb:0<b):0<=(e9 a b).1:=Int.ediv_nonneg ha (by omega)
def Fi(ha:0<a)(hb:0<b):0<(e9 a b).1:=by
 have hg:0<(Int.gcd a b:Int):=kK (by omega);have hd:(Int.gcd a b:Int)∣a:=Int.gcd_dvd_left ..;exact Int.ediv_pos_of_pos_of_dvd ha (by omega) hd
def Kq(h0:0<=a)(h1:a<(yl:Int)):a.natAbs<oa:=Nat.lt_of_lt_of_le (show a.natAbs<yl by omega) F3
def uk(P:Nat->Ev->Prop)(h:∀k,k<n->∀ρ,P k ρ->∃ρ2,body (ρ.set i (.sh (.int (k:Int))))=.ok (.nx ρ2)/\P (k+1) ρ2)(h0:P 0 ρ):∃ρ',b3 (bW i) body (intsFrom 0 n) ρ=.ok (.nx ρ')/\P n ρ':=by
 have key:∀(m k:Nat) (ρ:Ev),k+m=n->P k ρ->∃ρ',b3 (bW i) body ((intsFrom 0 n).drop k) ρ=.ok (.nx ρ')/\P n ρ':=by
  intro m
  induction m with
  |zero=>
   intro k ρ hk hp;have:k=n:=by omega
   subst this;rw[vG];exact⟨ρ,rfl,hp⟩
  |succ m ih=>
   intro k ρ hk hp;obtain⟨ρ2,h1,h2⟩:=h k (by omega) ρ hp;rw[sA (by omega),dN (tg:=bW i) rfl h1];exact ih (k+1) ρ2 (by omega) h2
 exact key n 0 ρ (by omega) h0
def nM(P:Nat->Ev->Prop)(h:∀k d,ds[k]?=some d->∀ρ,P k ρ->∃ρ1 ρ2,tg ρ d=.ok ρ1/\body ρ1=.ok (.nx ρ2)/\P (k+1) ρ2)(h0:P 0 ρ):∃ρ',b3 tg body ds ρ=.ok (.nx ρ')/\P ds.length ρ':=by
 have key:∀(m k:Nat) (ρ:Ev),k+m=ds.length->P k ρ->∃ρ',b3 tg body (ds.drop k) ρ=.ok (.nx ρ')/\P ds.length ρ':=by
  intro m
  induction m with
  |zero=>
   intro k ρ hk hp;have:k=ds.length:=by omega
   subst this;rw[List.drop_length];exact⟨ρ,rfl,hp⟩
  |succ m ih=>
   intro k ρ hk hp;have hlt:k<ds.length:=by omega
   obtain⟨ρ1,ρ2,h1,h2,h3⟩:=h k ds[k] (List.getElem?_eq_getElem hlt) ρ hp;rw[List.drop_eq_getElem_cons hlt,dN h1 h2];exact ih (k+1) ρ2 (by omega) h3
 exact key ds.length 0 ρ (by omega) h0
def uI:("abcdefghijklmnopqrstuvwxyz":Str).cps.toList=(List.range 26).map (97 + ·):=by decide +kernel
def IV:∀n,n<26->mX (97+n)=true:=by decide +kernel
def IU(h0:0<=v)(h1:v<26):aM (.str "abcdefghijklmnopqrstuvwxyz") (.int v)=.ok (.str ⟨#[97+v.toNat]⟩):=by
 obtain⟨n,rfl⟩:=Int.eq_ofNat_of_zero_le h0;have hn:n<26:=by omega
 have e:atI ("abcdefghijklmnopqrstuvwxyz":Str).cps.toList ((n:Nat):Int)=some (97+n):=eM (by rw[uI];simp[hn]);show(if("abcdefghijklmnopqrstuvwxyz":Str).length<=line then(match atI ("abcdefghijklmnopqrstuvwxyz":Str).cps.toList ((n:Nat):Int) with|some c=>aj.ok (D.str ⟨#[c]⟩)|none=>.stuck) else .stuck)=_;rw[if_pos (by decide),e];rfl
theorem zf:∀cs:bi,Str.join "" (cs.map λc=>(⟨#[c]⟩:Str))=⟨cs.toArray⟩
 |[]=>rfl
 |[c]=>rfl
 |c::d::cs=>by
  show(⟨#[c]⟩:Str)++""++Str.join "" ((d::cs).map λc=>(⟨#[c]⟩:Str))=_;rw[zf (d::cs)];apply Str.ext';show(#[c]++("":Str).cps)++(d::cs).toArray=_;have:("":Str).cps=#[]:=rfl;rw[this];simp
theorem yw:∀cs:bi,gq (cs.map λc=>D.str ⟨#[c]⟩)=some (cs.map λc=>(⟨#[c]⟩:Str))
 |[]=>rfl
 |c::cs=>by
  show(gq (cs.map λc=>D.str ⟨#[c]⟩)).map _=_;rw[yw cs];rfl
def xH{cs:bi}(h:cs.length<=1000):kJ "" [.lst (cs.map λc=>D.str ⟨#[c]⟩)]=.ok (.str ⟨cs.toArray⟩):=by
 have Ld:f9 "" (cs.map λc=>(⟨#[c]⟩:Str))=true:=by
  unfold f9;have e:((cs.map λc=>(⟨#[c]⟩:Str)).map (·.length)).sum=cs.length:=by
   clear h
   induction cs with
   |nil=>rfl
   |cons c cs ih=>
    simp only[List.map_cons,List.sum_cons,List.length_cons,ih];show 1+cs.length=_;omega
  rw[e,Bool.and_eq_true];exact⟨by decide,decide_eq_true (by rw[List.length_map];omega)⟩
 show(match gq (cs.map λc=>D.str ⟨#[c]⟩) with|some ys=>if f9 "" ys=true then aj.ok (D.str (Txt.join "" ys)) else .stuck|none=>.stuck)=_;rw[yw];show(if f9 "" _=true then aj.ok (D.str (Txt.join "" _)) else .stuck)=_;rw[if_pos Ld];show aj.ok (D.str (Builtin.Str.glued "" _))=_;rw[StrLaws.glued_eq_join,zf]
structure ma (zs:List Str):Prop where
 nd:zs.Nodup
 nm:∀z∈zs,nameB z=true
def IG(a:bi):(⟨a.toArray⟩:Str).length=a.length:=by show a.toArray.size=_;simp
structure uJ where
 a:Str
 b:Str
 w:Str
 l:fw
 o:Option fw
def aV:Option fw->D
 |none=>.non
 |some x=>fr x
def bK(t:uJ):D:=.tup [.str t.a,.str t.b,.str t.w,fr t.l,aV t.o]
structure nk (zs:List Str) (t:uJ):Prop where
 a:t.a∈zs
 b:t.b∈zs
 ne:t.a≠t.b
 w:t.w="one"∨t.w="both"
 l:gp t.l
 l0:0<=t.l.1
 o:∀x,t.o=some x->gp x/\0<x.1
def tL{zs:List Str}{k:Int}(h0:0<=k)(h1:k<zs.length):∃z,zs[k.toNat]?=some z/\aM (.lst (zs.map D.str)) (.int k)=.ok (.str z):=by
 obtain⟨n,rfl⟩:=Int.eq_ofNat_of_zero_le h0;have hn:n<zs.length:=by omega
 refine⟨zs[n],by simp[hn],my ?_⟩;rw[List.getElem?_map,List.getElem?_eq_getElem hn];rfl
def Ef{k:Int}(h0:0<=k)(h1:k<2):∃z:Str,(z="one"∨z="both")/\aM (.lst [.str "one",.str "both"]) (.int k)=.ok (.str z):=by
 have:k=0∨k=1:=by omega
 rcases this with rfl|rfl
 .exact⟨_,.inl rfl,jA⟩
 .exact⟨_,.inr rfl,jz⟩
def tq{n d e:Int}(h2:2<=n)(d0:0<=d)(d1:d<n)(e0:0<=e)(e1:e<n-1):(0<=(d+1+e).fmod n/\(d+1+e).fmod n<n)/\(d+1+e).fmod n≠d:=by
 refine⟨eB (by omega),?_⟩;rw[Int.fmod_eq_emod_of_nonneg _ (by omega)]
 by_cases h:d+1+e<n
 .rw[Int.emod_eq_of_lt (by omega) h];omega
 .have:(d+1+e) % n=d+1+e-n:=by
   rw[←Int.sub_emod_right (d+1+e) n,Int.emod_eq_of_lt (by omega) (by omega)]
  rw[this];omega
def oX{α:Type}{zs:List α}(nd:zs.Nodup){i j:Nat}{x y:α}(hi:zs[i]?=some x)(hj:zs[j]?=some y)(hij:i≠j):x≠y:=by
 intro e;subst e;obtain⟨h1,e1⟩:=List.getElem?_eq_some_iff.mp hi;obtain⟨h2,e2⟩:=List.getElem?_eq_some_iff.mp hj;exact hij ((List.getElem_inj nd).mp (e1.trans e2.symm))
def ng:am :=
 (av (bz (eg (au (ai (ae 0) aF) m_is_ratio) (aa (aa (ae 0) (dC (.int 0)) aM) (dC (.int 0)) Le)))
 aq)
def m_is_length:ac->aj D:=b9 1 ng
def qM:am :=
 (av (bz (gh (aa (ae 0) (dC (.non)) eV) (eg (au (ai (ae 0) aF) m_is_ratio) (aa (aa (ae 0) (dC (.int 0)) aM) (dC (.int 0)) GN))))
 aq)
def m_is_worth:ac->aj D:=b9 1 qM
noncomputable def wQ:am :=
 (av (dw (gh (cb (b7 (ae 0) (c4 "tuple"))) (aa (au (ai (ae 0) aF) (m1 dm)) (dC (.int 5)) iG))
 (av (bz (dC (.bl false)))
 aq)
 aq)
 (av (dw (gh (cb (au (ai (aa (ae 0) (dC (.int 0)) aM) aF) m_is_name)) (gh (cb (au (ai (aa (ae 0) (dC (.int 1)) aM) aF) m_is_name)) (aa (aa (ae 0) (dC (.int 0)) aM) (aa (ae 0) (dC (.int 1)) aM) kc)))
 (av (bz (dC (.bl false)))
 aq)
 aq)
 (av (dw (gh (cb (b7 (aa (ae 0) (dC (.int 2)) aM) (c4 "str"))) (aa (aa (ae 0) (dC (.int 2)) aM) (dC (.tup [(.str "one"),(.str "both")])) cO))
 (av (bz (dC (.bl false)))
 aq)
 aq)
 (av (bz (eg (au (ai (aa (ae 0) (dC (.int 3)) aM) aF) m_is_length) (au (ai (aa (ae 0) (dC (.int 4)) aM) aF) m_is_worth)))
 aq))))
def m_is_tie:ac->aj D:=b9 1 wQ
noncomputable def gM:am :=
 (av (dw (gh (cb (b7 (ae 0) (c4 "list"))) (cb (fP GL GL (dC (.int 2)) (au (ai (ae 0) aF) (m1 dm)) (dC (.int 7)))))
 (av cV
 aq)
 aq)
 (av (iL (Ar (ae 0)) (iW [1,2])
 (av (dw (gh (cb (au (ai (ae 2) aF) m_is_name)) (aa (ae 2) (Ba (ae 0) fu (eP (ae 1))) Br))
 (av cV
 aq)
 aq)
 aq))
 aq))
def m_look_at_places:ac->aj D:=b9 3 gM
noncomputable def je:am :=
 (av (dw (gh (cb (b7 (ae 0) (c4 "list"))) (aa (au (ai (ae 0) aF) (m1 dm)) (dC (.int 14)) GN))
 (av cV
 aq)
 aq)
 (av (iL (Ar (ae 0)) (iW [2,3])
 (av (dw (gh (cb (au (ai (ae 3) aF) m_is_tie)) (gh (aa (aa (ae 3) (dC (.int 0)) aM) (ae 1) cO) (aa (aa (ae 3) (dC (.int 1)) aM) (ae 1) cO)))
 (av cV
 aq)
 aq)
 aq))
 aq))
def m_look_at_ties:ac->aj D:=b9 4 je
def qO:am :=
 (av (bz (eg (au (ai (ae 0) aF) m_is_name) (aa (ae 0) (ae 1) Br)))
 aq)
def m_is_place:ac->aj D:=b9 2 qO
noncomputable def jQ:am :=
 (av (dw (gh (cb (b7 (ae 0) (c4 "tuple"))) (aa (au (ai (ae 0) aF) (m1 dm)) (dC (.int 4)) iG))
 (av cV
 aq)
 aq)
 (av (mO (au (ai (aa (ae 0) (dC (.int 0)) aM) aF) m_look_at_places))
 (av (mO (au (ai (aa (ae 0) (dC (.int 1)) aM) (ai (aa (ae 0) (dC (.int 0)) aM) aF)) m_look_at_ties))
 (av (dw (cb (au (ai (aa (ae 0) (dC (.int 2)) aM) (ai (aa (ae 0) (dC (.int 0)) aM) aF)) m_is_place))
 (av cV
 aq)
 aq)
 (av (dw (gh (cb (au (ai (aa (ae 0) (dC (.int 3)) aM) (ai (aa (ae 0) (dC (.int 0)) aM) aF)) m_is_place)) (aa (aa (ae 0) (dC (.int 3)) aM) (aa (ae 0) (dC (.int 2)) aM) kc))
 (av cV
 aq)
 aq)
 aq)))))
def m_look_at_web:ac->aj D:=b9 1 jQ
def iD:am :=
 (av (bz (eg (au (ai (ae 1) aF) m_is_whole) (fP GL GK (dC (.int 0)) (ae 1) (au (ai (aa (ae 0) (dC (.int 1)) aM) aF) (m1 dm)))))
 aq)
def m_is_tie_number:ac->aj D:=b9 2 iD
noncomputable def gL:am :=
 (av (mO (au (ai (ae 0) aF) m_look_at_web))
 (av (dw (cb (b7 (ae 1) (c4 "list")))
 (av cV
 aq)
 aq)
 (av (bE 2 (b7 (dC (.int 1)) FL))
 (av (nv (ae 1) (bW 3)
 (av (dw (gh (cb (au (ai (ae 0) (ai (ae 3) aF)) m_is_tie_number)) (aa (ae 3) (ae 2) GL))
 (av cV
 aq)
 aq)
 (av (dw (aa (aa (aa (aa (ae 0) (dC (.int 1)) aM) (ae 3) aM) (dC (.int 4)) aM) (dC (.non)) eV)
 (av cV
 aq)
 aq)
 (av (bE 2 (ae 3))
 aq))))
 aq))))
def m_look_at_taking:ac->aj D:=b9 4 gL
structure gQ where
 ps:List Str
 ts:List uJ
 fi:Str
 la:Str
def aR(w:gQ):D:=.tup [.lst (w.ps.map D.str),.lst (w.ts.map bK),.str w.fi,.str w.la]
structure cJ (w:gQ):Prop where
 n2:2<=w.ps.length
 n7:w.ps.length<=7
 nm:ma w.ps
 t14:w.ts.length<=14
 ts:∀t∈w.ts,nk w.ps t
 fi:w.fi∈w.ps
 la:w.la∈w.ps
 ne:w.fi≠w.la
def jt(h:nameB z=true):m_is_name [.str z]=.ok (.bl true):=by
 have hl:z.length<=8:=by
  unfold nameB at h;simp only[Bool.and_eq_true,decide_eq_true_eq]at h;exact h.2.1
 rw[xJ (show Ld (.str z)=true from decide_eq_true (Nat.le_trans hl (by decide)))];show aj.ok (D.bl (nameB z))=_;rw[h]
def oC(h:Low x):m_is_ratio [fr x]=.ok (.bl true):=by
 rw[ug];show aj.ok (D.bl (oE (.tup [.int x.1,.int x.2])))=_;have h1:=h.q1;have h2:=h.g1;show aj.ok (D.bl (decide (1<=x.2)&&(Int.gcd x.1 x.2==1)))=_;rw[decide_eq_true h1,h2];rfl
def vy(h:Low x)(h0:0<=x.1):m_is_length [fr x]=.ok (.bl true):=by
 have e:fr x=.tup [.int x.1,.int x.2]:=rfl;have h1:=oC h;rw[e]at h1 ⊢;open_line with[m_is_length,ng,h1,decide_eq_true h0,decide_eq_true (show x.1≥0 from h0)]
def wY(h:∀x,o=some x->Low x/\0<x.1):m_is_worth [aV o]=.ok (.bl true):=by
 cases o with
 |none=>rfl
 |some x=>
  obtain⟨hx,h0⟩:=h x rfl;have e:aV (some x)=.tup [.int x.1,.int x.2]:=rfl;have h1:=oC hx;rw[show fr x=.tup [.int x.1,.int x.2] from rfl]at h1;rw[e];open_line with[m_is_worth,qM,h1,decide_eq_true h0]
def zv:kc (.str x) (.str y)=.ok (.bl (x==y)):=by unfold kc;rw[if_pos ⟨rfl,rfl⟩,cq]
def BF(nm:ma zs)(h:nk zs t):m_is_tie [bK t]=.ok (.bl true):=by
 obtain⟨a,b,w,l,o⟩:=t;obtain⟨ha,hb,hne,hw,hl,hl0,ho⟩:=h;have h1:=jt (nm.nm a ha);have h2:=jt (nm.nm b hb);have h3:=vy hl.toLow hl0;have h4:=wY (o:=o) λx hx=>⟨(ho x hx).1.toLow,(ho x hx).2⟩
 have h5:(a==b)=false:=beq_eq_false_iff_ne.mpr hne;have h6:cO (.str w) (.tup [.str "one",.str "both"])=.ok (.bl false):=by
  rcases hw with rfl|rfl<;>rfl
 have e:bK ⟨a,b,w,l,o⟩=.tup [.str a,.str b,.str w,fr l,aV o]:=rfl;rw[e];open_line with[m_is_tie,wQ,h1,h2,zv,h5,h6,h3,h4]
def Aa{zs:List Str}:(zs.map D.str).any (λd=>cq d (.str z))=decide (z∈zs):=by
 induction zs with
 |nil=>rfl
 |cons y zs ih=>
  rw[List.map_cons,List.any_cons,ih];show((y==z)||decide (z∈zs))=_
  by_cases h:y=z
  .subst h;simp
  .have:(y==z)=false:=beq_eq_false_iff_ne.mpr h
   rw[this,Bool.false_or];have:z∈y::zs↔z∈zs:=by simp[Ne.symm h]
   exact decide_eq_decide.mpr this.symm
def rP{zs:List Str}:(zs.map D.str).all (bj n)=true:=List.all_eq_true.mpr λd hd=>by
 obtain⟨z,_,rfl⟩:=List.mem_map.mp hd;cases n<;>rfl
def nL{zs:List Str}:Br (.str z) (.lst (zs.map D.str))=.ok (.bl (decide (z∈zs))):=by
 have e:D5 (.str z) (.lst (zs.map D.str))=some (decide (z∈zs)):=(if_pos ⟨rfl,rP⟩).trans (congrArg some Aa);unfold Br;rw[e]
def xw{zs:List Str}:cO (.str z) (.lst (zs.map D.str))=.ok (.bl (!(decide (z∈zs)))):=by
 have e:D5 (.str z) (.lst (zs.map D.str))=some (decide (z∈zs)):=(if_pos ⟨rfl,rP⟩).trans (congrArg some Aa);unfold cO;rw[e]
def oK{zs:List Str}(h:nameB z=true)(hz:z∈zs):m_is_place [.str z,.lst (zs.map D.str)]=.ok (.bl true):=by
 open_line with[m_is_place,qO,jt h,nL,decide_eq_true hz]
def kH{α:Type}{F:α->D}{xs:List α}{k:Nat}(h:(numbered 0 (xs.map F))[k]?=some d):∃x,xs[k]?=some x/\d=.tup [.int (k:Int),F x]:=by
 rw[ib,List.getElem?_map]at h;cases e:xs[k]? with
 |none=>rw[e]at h;cases h
 |some x=>
  rw[e]at h;cases h;exact⟨x,rfl,by simp⟩
def DD{α:Type}{F:α->D}{xs:List α}{k:Nat}(h:k<=xs.length):rG (xs.map F) none (some (k:Int))=(xs.take k).map F:=by
 rw[FP,HT.sIx_none,HT.sIx_nat,Nat.min_eq_left h,List.drop_zero,Nat.sub_zero]
def AE(h2:2<=zs.length)(h7:zs.length<=7)(nm:ma zs):m_look_at_places [.lst (zs.map D.str)]=.ok .non:=by
 obtain⟨ρ',hl,_⟩:=nM (ds:=numbered 0 (zs.map D.str)) (tg:=iW [1,2]) (ρ:=[.sh (.lst (zs.map D.str)),.no,.no])
  (body:=(av (dw (gh (cb (au (ai (ae 2) aF) m_is_name)) (aa (ae 2) (Ba (ae 0) fu (eP (ae 1))) Br)) (av cV aq) aq) aq))
  (λk ρ=>∃a b,ρ=[.sh (.lst (zs.map D.str)),a,b]) (by
   rintro k d hd ρ ⟨a,b,rfl⟩;obtain⟨z,hz,rfl⟩:=kH hd;refine⟨_,[.sh (.lst (zs.map D.str)),.sh (.int (k:Int)),.sh (.str z)],sH rfl,?_,_,_,rfl⟩;have hk:k<zs.length:=(List.getElem?_eq_some_iff.mp hz).1;have hnot:decide (z∈zs.take k)=false:=decide_eq_false λhm=>by
    obtain⟨j,hj⟩:=List.mem_iff_getElem?.mp hm;have hjk:j<k:=by have:=(List.getElem?_eq_some_iff.mp hj).1;simp at this;omega
    rw[List.getElem?_take_of_lt hjk]at hj;exact oX nm.nd hj hz (by omega) rfl
   open_line with[jt (nm.nm z (List.mem_of_getElem? hz)),DD (Nat.le_of_lt hk),nL,hnot]) ⟨.no,.no,rfl⟩
 have e1:decide ((2:Int)<=(zs.length:Int))=true:=decide_eq_true (by omega);have e2:decide ((zs.length:Int)<=7)=true:=decide_eq_true (by omega);open_line with[m_look_at_places,gM,List.length_map,e1,e2,hl]
def Es{ts:List uJ}(h14:ts.length<=14)(nm:ma zs)(ht:∀t∈ts,nk zs t):m_look_at_ties [.lst (ts.map bK),.lst (zs.map D.str)]=.ok .non:=by
 obtain⟨ρ',hl,_⟩:=nM (ds:=numbered 0 (ts.map bK)) (tg:=iW [2,3]) (ρ:=[.sh (.lst (ts.map bK)),.sh (.lst (zs.map D.str)),.no,.no])
  (body:=(av (dw (gh (cb (au (ai (ae 3) aF) m_is_tie)) (gh (aa (aa (ae 3) (dC (.int 0)) aM) (ae 1) cO) (aa (aa (ae 3) (dC (.int 1)) aM) (ae 1) cO))) (av cV aq) aq) aq))
  (λk ρ=>∃a b,ρ=[.sh (.lst (ts.map bK)),.sh (.lst (zs.map D.str)),a,b]) (by
   rintro k d hd ρ ⟨a,b,rfl⟩;obtain⟨t,ht',rfl⟩:=kH hd;refine⟨_,[.sh (.lst (ts.map bK)),.sh (.lst (zs.map D.str)),.sh (.int (k:Int)),.sh (bK t)],sH rfl,?_,_,_,rfl⟩;have hT:=ht t (List.mem_of_getElem? ht');have h1:=BF nm hT;rw[show bK t=.tup [.str t.a,.str t.b,.str t.w,fr t.l,aV t.o] from rfl]at h1 ⊢;open_line with[h1,xw,decide_eq_true hT.a,decide_eq_true hT.b]) ⟨.no,.no,rfl⟩
 have e1:decide ((14:Int)<(ts.length:Int))=false:=decide_eq_false (by omega);open_line with[m_look_at_ties,je,List.length_map,e1,decide_eq_false (show ¬(ts.length:Int) > 14 by omega),hl]
def GZ(h:cJ w):m_look_at_web [aR w]=.ok .non:=by
 obtain⟨ps,ts,fi,la⟩:=w;have h1:=AE h.n2 h.n7 h.nm;have h2:=Es h.t14 h.nm h.ts;have h3:=oK (h.nm.nm fi h.fi) h.fi;have h4:=oK (h.nm.nm la h.la) h.la;have h5:(la==fi)=false:=beq_eq_false_iff_ne.mpr (Ne.symm h.ne);rw[show aR ⟨ps,ts,fi,la⟩=.tup [.lst (ps.map D.str),.lst (ts.map bK),.str fi,.str la] from rfl];open_line with[m_look_at_web,jQ,h1,h2,h3,h4,zv,h5]
noncomputable def iC:am :=
 (av (bE 1 (dC (.int 1)))
 (av (nv (ae 0) (bW 2)
 (av (bE 1 (aa (aa (ae 1) (au (ai (ae 1) (ai (aa (ae 2) (dC (.int 1)) aM) aF)) m_common_divisor) lW) (aa (ae 2) (dC (.int 1)) aM) bJ))
 aq))
 (av (bz (ae 1))
 aq)))
def m_shared_bottom:ac->aj D:=b9 3 iC
def qP:am :=
 (av (bz (aa (aa (ae 0) (dC (.int 0)) aM) (aa (ae 1) (aa (ae 0) (dC (.int 1)) aM) lW) bJ))
 aq)
def m_as_whole:ac->aj D:=b9 2 qP
noncomputable def jc:am :=
 (av (bE 1 (au (ai (eD 1 [] (tN (ae 0)) (bW 0) (aa (ae 0) (dC (.non)) cU) (ae 0)) aF) m_shared_bottom))
 (av (bz (au (ai (eD 1 [1] (tN (ae 0)) (bW 0) mYes (IF (aa (ae 0) (dC (.non)) eV) (dC (.non)) (au (ai (ae 0) (ai (ae 1) aF)) m_as_whole))) (ai (ae 1) aF)) eQ))
 aq))
def m_on_one_scale:ac->aj D:=b9 2 jc
def aT(ks:bi):D:=.lst (ks.map λ(k:Nat)=>D.int (k:Int))
structure tH (w:gQ) (ks:bi):Prop where
 up:ks.Pairwise (· < ·)
 wo:∀k∈ks,∃t x,w.ts[k]?=some t/\t.o=some x
def tH.lt(T:tH w ks):∀k∈ks,k<w.ts.length:=λk hk=>by
 obtain⟨t,x,h1,h2⟩:=T.wo k hk;exact(List.getElem?_eq_some_iff.mp h1).1
def G2:∀{ks:bi}{n:Nat},ks.Pairwise (· < ·)->(∀k∈ks,k<n)->ks.length<=n:=by
 intro ks n h hb;have:∀(ks:bi) (lo:Nat),ks.Pairwise (· < ·)->(∀k∈ks,lo<=k/\k<n)->lo+ks.length<=n∨ks=[]:=by
  intro ks
  induction ks with
  |nil=>intro lo _ _;exact .inr rfl
  |cons a ks ih=>
   intro lo hp hb;rw[List.pairwise_cons]at hp;have ha:=hb a List.mem_cons_self;rcases ih (a+1) hp.2 (λk hk=>⟨hp.1 k hk,(hb k (List.mem_cons_of_mem _ hk)).2⟩) with h|h
   .left;simp;omega
   .left;subst h;simp;omega
 rcases this ks 0 h (λk hk=>⟨Nat.zero_le _,hb k hk⟩) with h|h
 .omega
 .subst h;simp
def oj{w:gQ}{k:Nat}(h:w.ts[k]?=some t):aM (.lst (w.ts.map bK)) (.int (k:Int))=.ok (bK t):=my (by rw[List.getElem?_map,h];rfl)
def vm{k:Nat}(h:k<w.ts.length):m_is_tie_number [aR w,.int (k:Int)]=.ok (.bl true):=by
 rw[show aR w=.tup [.lst (w.ps.map D.str),.lst (w.ts.map bK),.str w.fi,.str w.la] from rfl];open_line with[m_is_tie_number,iD,eS,Jn,List.length_map,decide_eq_true (show(0:Int)<=(k:Int) by omega),decide_eq_true (show(k:Int)<(w.ts.length:Int) by omega)]
def taking_ok(W:cJ w)(T:tH w ks):m_look_at_taking [aR w,aT ks]=.ok .non:=by
 obtain⟨ρ',hl,_⟩:=nM (ds:=ks.map λ(k:Nat)=>D.int (k:Int)) (tg:=bW 3) (ρ:=[.sh (aR w),.sh (aT ks),.sh (.int (-1)),.no])
  (body:=(av (dw (gh (cb (au (ai (ae 0) (ai (ae 3) aF)) m_is_tie_number)) (aa (ae 3) (ae 2) GL))
   (av cV aq) aq)
   (av (dw (aa (aa (aa (aa (ae 0) (dC (.int 1)) aM) (ae 3) aM) (dC (.int 4)) aM) (dC (.non)) eV)
   (av cV aq) aq)
   (av (bE 2 (ae 3)) aq))))
  (λj ρ=>∃(ah:Int) (x:Sl),ρ=[.sh (aR w),.sh (aT ks),.sh (.int ah),x]/\∀v∈ks.drop j,ah<(v:Int)) (by
   rintro j d hd ρ ⟨ah,x,rfl,hah⟩;rw[List.getElem?_map]at hd;cases e:ks[j]? with
   |none=>rw[e]at hd;cases hd
   |some k=>
    rw[e]at hd;cases hd;have hj:j<ks.length:=(List.getElem?_eq_some_iff.mp e).1;have hkm:=List.mem_of_getElem? e;obtain⟨t,y,h1,h2⟩:=T.wo k hkm;have hdr:ks.drop j=k::ks.drop (j+1):=by
     rw[List.drop_eq_getElem_cons hj]
     congr 1
     rw[List.getElem?_eq_getElem hj]at e;exact Option.some.inj e
    have hk:ah<(k:Int):=hah k (by rw[hdr];exact List.mem_cons_self);refine⟨_,[.sh (aR w),.sh (aT ks),.sh (.int (k:Int)),.sh (.int (k:Int))],rfl,?_,_,_,rfl,λv hv=>?_⟩
    .have hn:=vm (T.lt k hkm)
     have hix:=oj h1;rw[show aR w=.tup [.lst (w.ps.map D.str),.lst (w.ts.map bK),.str w.fi,.str w.la] from rfl]at hn ⊢;rw[show bK t=.tup [.str t.a,.str t.b,.str t.w,fr t.l,aV t.o] from rfl,h2]at hix;open_line with[hn,decide_eq_false (show ¬(k:Int)<=ah by omega),hix,aV,fr,Ir]
    .have hp:(k::ks.drop (j+1)).Pairwise (· < ·):=by rw[←hdr];exact T.up.sublist (List.drop_sublist _ _)
     have:=(List.pairwise_cons.mp hp).1 v hv;omega) ⟨-1,.no,rfl,λv _=>by omega⟩
 have hw:=GZ W;unfold aT at hl ⊢;open_line with[m_look_at_taking,gL,hw,hl]
def vD(h1:x.1.natAbs<wX)(h2:x.2.natAbs<wX)(h3:y.1.natAbs<wX)(h4:y.2.natAbs<wX):m_is_less [fr x,fr y]=.ok (.bl (flt x y)):=by
 rw[show fr x=.tup [.int x.1,.int x.2] from rfl,show fr y=.tup [.int y.1,.int y.2] from rfl];open_line with[m_is_less,tm,bO (cF h1 h4),bO (cF h3 h2)]
 rfl
def eW(b:Int)(x:fw):Int:=b / (Int.gcd b x.2:Int)*x.2
def FV(xs:List fw):Int:=xs.foldl eW 1
structure tJ (k:Nat) (b:Int):Prop where
 pos:0<b
 bd:b.natAbs<=2 ^ (200*k)
def tV{k:Nat}(h:k<=60):2 ^ (200*k)<oa:=by rw[mM];exact Nat.pow_lt_pow_right (by decide) (by omega)
def pq(h:b≠0):0<(Int.gcd a b:Int):=kK h
def tJ.step{k:Nat}(h:tJ k b)(hx:gp x):tJ (k+1) (eW b x)/\b∣eW b x/\x.2∣eW b x:=by
 have q1:=hx.q1;have hg:0<(Int.gcd b x.2:Int):=pq (by omega);have hd:(Int.gcd b x.2:Int)∣b:=Int.gcd_dvd_left ..;have hd2:(Int.gcd b x.2:Int)∣x.2:=Int.gcd_dvd_right ..;have hq:0<b / (Int.gcd b x.2:Int):=Int.ediv_pos_of_pos_of_dvd h.pos (by omega) hd;refine⟨⟨Int.mul_pos hq (by omega),?_⟩,?_,⟨b / (Int.gcd b x.2:Int),by unfold eW;rw[Int.mul_comm]⟩⟩
 .unfold eW
  rw[Int.natAbs_mul,show 200*(k+1)=200*k+200 by omega,Nat.pow_add];refine Nat.mul_le_mul (Nat.le_trans (Int.natAbs_ediv_le_natAbs _ _) h.bd) (Nat.le_trans (Nat.le_of_lt hx.qN) F4)
 .obtain⟨c,hc⟩:=hd
  obtain⟨d,hd'⟩:=hd2;refine⟨d,?_⟩;unfold eW;generalize (Int.gcd b x.2:Int)=g at *;have e1:b / g=c:=by rw[hc];exact Int.mul_ediv_cancel_left c (by omega)
  rw[e1,hd',hc,←Int.mul_assoc,Int.mul_comm c g]
def DK{xs:List fw}(hx:∀x∈xs,gp x):∀(b:Int) (k:Nat),tJ k b->tJ (k+xs.length) (xs.foldl eW b)/\b∣xs.foldl eW b/\∀x∈xs,x.2∣xs.foldl eW b:=by
 induction xs with
 |nil=>intro b k h;exact⟨h,Int.dvd_refl b,λx hx=>nomatch hx⟩
 |cons x xs ih=>
  intro b k h;obtain⟨h1,h2,h3⟩:=h.step (hx x List.mem_cons_self);obtain⟨k1,k2,k3⟩:=ih (λy hy=>hx y (List.mem_cons_of_mem _ hy)) _ _ h1;refine⟨?_,Int.dvd_trans h2 k2,λy hy=>?_⟩
  .rw[List.length_cons,show k+(xs.length+1)=k+1+xs.length by omega];exact k1
  .rcases List.mem_cons.mp hy with rfl|hy
   .exact Int.dvd_trans h3 k2
   .exact k3 y hy
def DN{L:Sl}:∀(xs:List fw) (k:Nat) (b:Int) (z:Sl),tJ k b->k+xs.length<=60->(∀x∈xs,gp x)->∃z',b3 (bW 2) (av (bE 1 (aa (aa (ae 1) (au (ai (ae 1) (ai (aa (ae 2) (dC (.int 1)) aM) aF)) m_common_divisor) lW) (aa (ae 2) (dC (.int 1)) aM) bJ)) aq) (xs.map fr) [L,.sh (.int b),z] =
  .ok (.nx [L,.sh (.int (xs.foldl eW b)),z']):=by
 intro xs
 induction xs with
 |nil=>intro k b z _ _ _;exact⟨z,rfl⟩
 |cons x xs ih=>
  intro k b z h hk hx;have hxx:=hx x List.mem_cons_self;have q1:=hxx.q1;obtain⟨h1,h2,h3⟩:=h.step hxx;simp only[List.length_cons]at hk;obtain⟨z',hz'⟩:=ih (k+1) _ (.sh (fr x)) h1 (by omega) (λy hy=>hx y (List.mem_cons_of_mem _ hy));refine⟨z',?_⟩;have hg:0<(Int.gcd b x.2:Int):=pq (by omega);have hdiv:eC b (Int.gcd b x.2:Int)=true:=qt (by omega) (Nat.lt_of_le_of_lt h.bd (tV (by omega)));have hb13:(b / (Int.gcd b x.2:Int)).natAbs<oa:=Nat.lt_of_le_of_lt (Nat.le_trans (Int.natAbs_ediv_le_natAbs _ _) h.bd) (tV (by omega));have hmul:dy (b / (Int.gcd b x.2:Int)) x.2=true:=cF (Nat.lt_of_lt_of_le hb13 n9) (Nat.lt_of_lt_of_le hxx.qN Ae);rw[List.map_cons,dN (ρ1:=[L,.sh (.int b),.sh (fr x)]) (ρ2:=[L,.sh (.int (eW b x)),.sh (fr x)]) rfl ?_]
  .exact hz'
  .rw[show fr x=.tup [.int x.1,.int x.2] from rfl]
   open_line with[jE,mC hdiv,gG hg,bO hmul]
   rfl
def Bi(hl:xs.length<=60)(hx:∀x∈xs,gp x):m_shared_bottom [.lst (xs.map fr)]=.ok (.int (FV xs)):=by
 obtain⟨z',hz⟩:=DN (L:=.sh (.lst (xs.map fr))) xs 0 1 .no ⟨by decide,by decide⟩ (by omega) hx;open_line with[m_shared_bottom,iC,hz]
 rfl
def wI(b:Int):Option fw->D
 |none=>.non
 |some x=>.int (x.1*(b / x.2))
def fF(os:List (Option fw)):List fw:=os.filterMap id
def AN{os:List (Option fw)}:x∈fF os↔some x∈os:=by unfold fF;simp
def Bz(hx:gp x)(hb:b.natAbs<oa):m_as_whole [fr x,.int b]=.ok (.int (x.1*(b / x.2))):=by
 have q1:=hx.q1;have hdiv:eC b x.2=true:=Du (by omega) (Nat.lt_of_lt_of_le hx.qN Ja);have hmul:dy x.1 (b / x.2)=true:=cF (Nat.lt_of_lt_of_le hx.pN Ae) (Nat.lt_of_lt_of_le (Nat.lt_of_le_of_lt (Int.natAbs_ediv_le_natAbs _ _) hb) n9);rw[show fr x=.tup [.int x.1,.int x.2] from rfl];open_line with[m_as_whole,qP,mC hdiv,gG (show 0<x.2 by omega),bO hmul]
theorem gT:∀os:List (Option fw),(os.map aV).filter (λd=>!(sv d))=(fF os).map fr
 |[]=>rfl
 |none::os=>by
  rw[List.map_cons,List.filter_cons_of_neg (by decide),gT os];rfl
 |some x::os=>by
  have:sv (aV (some x))=false:=rfl;rw[List.map_cons,List.filter_cons_of_pos (by rw[this];rfl),gT os];rfl
def BQ{os:List (Option fw)}(hl:os.length<=60)(hx:∀x,some x∈os->gp x):m_on_one_scale [.lst (os.map aV)]=.ok (.tup [.lst (os.map (wI (FV (fF os)))),.int (FV (fF os))]):=by
 have hxs:∀x∈fF os,gp x:=λx h=>hx x (AN.mp h);have hls:(fF os).length<=60:=Nat.le_trans (List.length_filterMap_le _ _) hl;have h1:=Bi hls hxs;obtain⟨B,_,_⟩:=DK hxs 1 0 ⟨by decide,by decide⟩;have hb:(FV (fF os)).natAbs<oa:=Nat.lt_of_le_of_lt B.bd (tV (by omega));have c1:i9 1 [] (bW 0) (aa (ae 0) (dC (.non)) cU) (ae 0) [.sh (.lst (os.map aV)),.no] (os.map aV)=.ok (.lst ((fF os).map fr)):=by
  rw[wK (F:=id) (p:=λd=>!(sv d)) (by rw[List.length_map];omega)]
  .rw[List.map_id,gT]
  .intro d hd
   exact⟨[.sh d],rfl,rfl,λ_=>rfl⟩
 have c2:i9 1 [1] (bW 0) mYes (IF (aa (ae 0) (dC (.non)) eV) (dC (.non)) (au (ai (ae 0) (ai (ae 1) aF)) m_as_whole)) [.sh (.lst (os.map aV)),.sh (.int (FV (fF os)))] (os.map aV)=.ok (.lst (os.map (wI (FV (fF os))))):=by
  rw[wJ (F:=λd=>match d with|.tup [.int p,.int q]=>.int (p*(FV (fF os) / q))|_=>.non) (by rw[List.length_map];omega)]
  .congr 2
   rw[List.map_map];apply List.map_congr_left;intro o _;cases o<;>rfl
  .intro d hd
   obtain⟨o,ho,rfl⟩:=List.mem_map.mp hd;refine⟨[.sh (aV o),.sh (.int (FV (fF os)))],rfl,rfl,?_⟩;cases o with
   |none=>rfl
   |some x=>
    have hw:=Bz (hx x ho) hb;rw[show fr x=.tup [.int x.1,.int x.2] from rfl]at hw;rw[show aV (some x)=.tup [.int x.1,.int x.2] from rfl];open_line with[hw]
 open_line with[m_on_one_scale,jc,c1,h1,c2]
def Fs:aM (.lst (xs++[x])) (.int (-1))=.ok x:=by
 have e:atI (xs++[x]) (-1)=some x:=by
  unfold atI wW;rw[if_neg (by decide)];have h:(-((xs++[x]).length:Int))<=-1:=by simp;omega
  rw[if_pos h];have e:(-1+((xs++[x]).length:Int)).toNat=xs.length:=by simp;omega
  rw[e];simp
 show(match atI (xs++[x]) (-1) with|some d=>aj.ok d|none=>.stuck)=_;rw[e]
def uO(h1:c (fX ρ)=.ok (.bl true))(h2:s ρ=.ok (.nx ρ2)):cp c s (n+1) ρ=cp c s n ρ2:=by
 conv=>lhs;unfold cp
 rw[h1,h2];rfl
def rK(h1:c (fX ρ)=.ok (.bl false)):cp c s (n+1) ρ=.ok (.nx ρ):=by
 conv=>lhs;unfold cp
 rw[h1];rfl
end Com
namespace DL
open PySem PySem.Spec PyProof.Rows L2
noncomputable def JZ(K:W.Frag) (E:XK) (He H0e Ha:Hp) (r:aj Fl) (D:mf):Prop:=match r with
 |.ok (.rt (.lst es))=>∀p us H Ha',bc He H0e H Ha'->He p=none->Ha' p=none->H p=some (.lst us)->Reps K Ha' es us->D.rt (.ref p) H
 |.exn x=>∀C ox H Ha',bc He H0e H Ha'->Ag K Ha' x C ox->E C ox H
 |_=>False
def MS(K:W.Frag)(E:XK)(He H0e:Hp)(g:am):TS:=λD σ H=>∃Ha ρ,cY K He H0e Ha σ H ρ/\JZ K E He H0e Ha (g ρ) D
structure DY (X:Cx) (E:XK) (He H0e:Hp) (st:List Stmt) (g:am):Prop where
 o:qZ X st (MS X.K E He H0e g)
section
variable {X:Cx}{E:XK}{He H0e:Hp}{st:Stmt}{rest:List Stmt}{e:Expr}{es:List Expr}{f:al}{fa:Ev->aj (ac)}{s t:am}{pos:Pos}
def Hs(t:am)(r:Fl):aj Fl:=match r with
 |.nx ρ=>t ρ
 |_=>.stuck
def rQ(s t:am):am:=λρ=>(s ρ).bind (Hs t)
def sJ(h1:DS X E He H0e st s)(h2:DY X E He H0e rest t):DY X E He H0e (st::rest) (rQ s t):=by
 refine⟨?_⟩;refine cQ (c6 h1.o h2.o) λD σ H z9=>?_;obtain⟨Ha,ρ,h,q⟩:=z9;refine⟨Ha,ρ,h,?_⟩
 unfold rQ at q;cases e1:s ρ with
 |stuck|exn x=>rw[e1]at q;exact q
 |ok r=>
  rw[e1]at q;cases r with|nx ρ'=>exact λσ' H' Ha' s' h'=>⟨Ha',ρ',h',q⟩|rt d|bk ρ'|ct ρ'=>exact q.elim
end
def HW(r:Fl):aj D:=match r with
 |.rt (.lst es)=>.ok (.lst es)
 |_=>.stuck
def Az(n:Nat)(s:am)(ds:ac):aj D:=(s (ds.map Sl.sh++List.replicate (n-ds.length) .no)).bind HW
noncomputable def JY(K:W.Frag) (E:XK) (H Ha:Hp) (r:aj D) (Q:VK):Prop:=match r with
 |.ok (.lst es)=>∀p us H' Ha',bc H Ha H' Ha'->H p=none->Ha' p=none->H' p=some (.lst us)->Reps K Ha' es us->Q (.ref p) H'
 |.exn x=>∀C ox H' Ha',bc H Ha H' Ha'->Ag K Ha' x C ox->E C ox H'
 |_=>False
def JI(K:W.Frag)(n:Nat)(m:ac->aj D):Sp:=λvs H Q E=>vs.length=n/\∃Ha ds,aB Ha H/\Reps K Ha ds vs/\JY K E H Ha (m ds) Q
def xO{K:W.Frag}{st:Stmt}{N ps:List Str}{k:Nat}(F:F6 K x qual st f fd)(S:gk N ps (defScope st))
  (hbody:∀(cdv:Value) (A:Around) (outer:List PySem.Env) (s0:Shared) (H Ha:Hp) (E:XK),c5 k (A.deeper (envOfC qual (defScope st) s0.heap.objs.size f cdv)) ->
   DY (nE CX0 P w K mg base N qual (defScope st) f cdv A outer s0 H E).nox E H Ha (defBody st) s):iy P w K mg base CX0 (k+1) f fd ps (JI K ps.length (Az N.length s)):=by
 have hpl:ps.length<=N.length:=by have:=congrArg List.length S.pre;rw[List.length_take]at this;omega
 refine F.ok S (λvs H Q E h=>h.1) λcdv A outer s0 H vs Q E hr h=>?_;obtain⟨hn,Ha,ds,hs,hv,q⟩:=h;refine⟨_,(hbody cdv A outer s0 H Ha E hr).o,Ha,ds.map Sl.sh++List.replicate (N.length-ds.length) .no,?_,?_⟩
 .refine⟨bc.refl hs,mN hv,λi d e=>?_,λi j d d' hij e=>?_,?_,OX.none rN ot⟩
  .by_cases hi:i<ds.length
   .rw[List.getElem?_append_left (by simpa using hi),List.getElem?_map]at e
    cases q:ds[i]? with|none|some d'=>rw[q]at e;cases e
   .rw[List.getElem?_append_right (by simpa using hi),List.getElem?_replicate]at e
    split at e<;>cases e
  .by_cases hi:i<ds.length
   .rw[List.getElem?_append_left (by simpa using hi),List.getElem?_map]at e
    cases q:ds[i]? with|none|some d'=>rw[q]at e;cases e
   .rw[List.getElem?_append_right (by simpa using hi),List.getElem?_replicate]at e
    split at e<;>cases e
  .unfold L2.start
   have:=hv.length;simp only[List.length_append,List.length_map,List.length_replicate];omega
 .unfold Az at q
  cases e1:s (ds.map Sl.sh++List.replicate (N.length-ds.length) .no) with
  |stuck|exn x=>rw[e1]at q;exact q
  |ok r=>
   rw[e1]at q;cases r with
   |rt d=>
    cases d with|lst es=>exact λp us H' Ha' g hp h0 hv' rr=>q p us H' Ha' g hp h0 hv' rr| _=>exact q.elim
   |_=>exact q.elim
section
variable {X:Cx}{E:XK}{He H0e:Hp}{e:Expr}{es:List Expr}{f:al}{fa:Ev->aj (ac)}{pos:Pos}
def FG{k n:Nat}{ps:List Str}(F:iy X.prog X.w X.K X.mg X.base CX k fn fd ps (JI X.K n m))(hr:c5 k X.A)(hg:Gl X x)(hm:X.mg x=some (.ref fn))
  (hk:W.keepIn X.K (.ref fn)=true)(hb:jV X.K fd ps [])(hx:fT CX X E)(ha:DA X E (e::es) fa)(hn:(e::es).length=n:=by rfl)(hl:∀ρ ds,fa ρ=.ok ds->ds.length=(e::es).length)
  (hdb:(x==("__debug__":Str))=false:=by decide)(he:starEach (e::es) X.env=(false,eval e X.env)::starEach es X.env:=by exact bA rfl)(hpl:(backTo pos (starEach es X.env)).any (·.1)=false:=by exact cf rfl) :
  DF X E (.Call (.Name x p) (e::es) [] pos) (au fa m):=by
 refine⟨?_⟩;refine aX (nJ F hr hg hm hk hb .nil hx ha.o hdb he hpl) λσ H Q h=>?_;obtain⟨Ha,ρ,hs,hr,q⟩:=h;refine⟨Ha,ρ,hs,hr,?_⟩;unfold au at q;cases e1:fa ρ with
 |stuck|exn x=>rw[e1]at q;exact q
 |ok ds=>
  rw[e1]at q;intro v H1 H01 g1 r1;refine⟨?_,H01,ds,g1.sub,by simpa using r1,?_⟩
  .have:=r1.length
   have:=hl ρ ds e1;simp only[List.append_nil];omega
  .replace q:match m ds with
    |.ok (.lst ds)=>∀p vs H' Ha',bc H Ha H' Ha'->H p=none->Ha' p=none->H' p=some (.lst vs)->Reps X.K Ha' ds vs->Q (.ref p) H'
    |.ok _=>False
    |.exn x=>∀C ox H' Ha',bc H Ha H' Ha'->Ag X.K Ha' x C ox->E C ox H'
    |.stuck=>False:=q
   cases e2:m ds with
   |stuck=>rw[e2]at q;exact q|exn x=>rw[e2]at q;exact λC ox H' Ha' g ex=>q C ox H' Ha' (g1.trans g) ex
   |ok d=>
    rw[e2]at q;cases d with|lst es=>exact λp us H' Ha' g hp h0 hv rr=>q p us H' Ha' (g1.trans g) (g1.s.free hp) h0 hv rr| _=>exact q.elim
end
section
variable {X:Cx}{E:XK}{He H0e:Hp}{e a b:Expr}{es:List Expr}{f g:al}{fa:Ev->aj (ac)}{pos:Pos}
def FN(x y:D):aj D:=match x,y with
 |.int i,.int j=>.ok (.int (if j<i then j else i))
 |_,_=>.stuck
def II:iF X E (λxs H Q=>∃i j,xs=[.int i,.int j]/\Q (.int (if j<i then j else i)) H) (m2 FN):=GP λx y v u H Ha Q hs r r' q=>by
 cases x with
 |int i=>
  cases y with|int j=>exact⟨i,j,by rw[aw.mp r,aw.mp r'],bf hs q (ri _)⟩| _=>exact q.elim
 |_=>exact q.elim
end
end DL
namespace Cod
open PySem L2 DL Com
def IS:Bb (.int c)=.ok (.int (c.natAbs:Int)):=by
 show aj.ok (D.int (if c<0 then -c else c))=_
 congr 2
 split<;>omega
noncomputable def qS:am :=
 (av (bE 2 (au (ai (ae 0) aF) (m1 Bb)))
 (av (bE 3 (ae 1))
 (av (gW (jy 3) (aa (ae 3) (dC (.int 0)) iG)
 (av (rh 2 3 (ai (ae 3) (ai (aa (ae 2) (ae 3) cX) aF)))
 aq))
 (av (bz (au (ai (aa (ae 0) (ae 2) lW) (ai (aa (ae 1) (ae 2) lW) aF)) eQ))
 aq))))
def br:ac->aj D:=b9 4 qS
theorem vv{A B:Sl}:∀(n:Nat) (a b:Int),0<=a->0<=b->b.natAbs<n->cp (aa (ae 3) (dC (.int 0)) iG) (av (rh 2 3 (ai (ae 3) (ai (aa (ae 2) (ae 3) cX) aF))) aq) n [A,B,.sh (.int a),.sh (.int b)]=.ok (.nx [A,B,.sh (.int (Int.gcd a b:Int)),.sh (.int 0)])
 |0,a,b,_,_,h=>absurd h (Nat.not_lt_zero _)
 |n+1,a,b,ha,hb,h=>by
  by_cases h0:b=0
  .subst h0
   have hc:(aa (ae 3) (dC (.int 0)) iG) (fX [A,B,.sh (.int a),.sh (.int 0)])=.ok (.bl false):=by
    cases A<;>cases B<;>rfl
   rw[rK hc];have:((Int.gcd a 0:Nat):Int)=a:=by rw[Int.gcd_zero_right];omega
   rw[this]
  .have hc:(aa (ae 3) (dC (.int 0)) iG) (fX [A,B,.sh (.int a),.sh (.int b)])=.ok (.bl true):=by
    have:(b==0)=false:=beq_eq_false_iff_ne.mpr h0;cases A<;>cases B<;>open_line with[this]
   have f:=eB (a:=a) (b:=b) (by omega);have hb0:(b==0)=false:=beq_eq_false_iff_ne.mpr h0;rw[uO (ρ2:=[A,B,.sh (.int b),.sh (.int (a.fmod b))]) hc ?_,vv n b (a.fmod b) (by omega) f.1 (by omega)]
   .rw[pj]
   .cases A<;>cases B<;>open_line with[hb0]
def low_ok(hb:0<b)(h1:a.natAbs<oa)(h2:b.natAbs<oa):br [.int a,.int b]=.ok (fr (e9 a b)):=by
 have hg:0<(Int.gcd a b:Int):=kK (by omega);have hgn:(Int.gcd (a.natAbs:Int) b:Int)=(Int.gcd a b:Int):=by
  congr 1
 have hl:=vv (A:=.sh (.int a)) (B:=.sh (.int b)) (b.natAbs+1) (a.natAbs:Int) b (by omega) (by omega) (Nat.lt_succ_self _);rw[hgn]at hl;have hwh:∀(c:al) (s:am),gW (jy 3) c s [.sh (.int a),.sh (.int b),.sh (.int (a.natAbs:Int)),.sh (.int b)]=cp c s (b.natAbs+1) [.sh (.int a),.sh (.int b),.sh (.int (a.natAbs:Int)),.sh (.int b)]:=λ_ _=>rfl;have d1:(Int.gcd a b:Int)∣a:=Int.gcd_dvd_left ..;have d2:(Int.gcd a b:Int)∣b:=Int.gcd_dvd_right ..;have q1:eC a (Int.gcd a b:Int)=true:=qt (by omega) h1;have q2:eC b (Int.gcd a b:Int)=true:=qt (by omega) h2;have e1:a.fdiv (Int.gcd a b:Int)=a / (Int.gcd a b:Int):=gG hg;have e2:b.fdiv (Int.gcd a b:Int)=b / (Int.gcd a b:Int):=gG hg;open_line with[br,qS,IS,hwh,hl,mC q1,mC q2,e1,e2]
 rfl
def S(cs:bi):Str:=⟨cs.toArray⟩
def S_inj(h:S a=S b):a=b:=by
 have:=congrArg (λs:Str=>s.cps.toList) h;simpa[S] using this
def KW(a:bi):(S a).length=a.length:=IG a
structure IsNm (cs:bi):Prop where
 l1:1<=cs.length
 l8:cs.length<=8
 ab:∀x∈cs,mX x=true
def IsNm.nameB(h:IsNm cs):Com.nameB (S cs)=true:=by
 unfold Com.nameB;rw[KW];simp only[Bool.and_eq_true,decide_eq_true_eq];exact⟨h.l1,h.l8,List.all_eq_true.mpr λx hx=>h.ab x (by simpa[S] using hx)⟩
def nmsD(css:List (bi)):ac:=css.map λcs=>D.str (S cs)
theorem nodup_le{α:Type}[DecidableEq α]:∀{l m:List α},l.Nodup->(∀x∈l,x∈m)->l.length<=m.length
 |[],_,_,_=>Nat.zero_le _
 |a::l,m,nd,h=>by
  rw[List.nodup_cons]at nd;have ha:=h a List.mem_cons_self;have:=nodup_le (l:=l) (m:=m.erase a) nd.2 λx hx=>by
   have hne:x≠a:=λz=>nd.1 (z▸hx);exact(List.mem_erase_of_ne hne).mpr (h x (List.mem_cons_of_mem _ hx))
  rw[List.length_erase_of_mem ha]at this;have:=List.length_pos_of_mem ha;simp only[List.length_cons];omega
def xh(d:D):aj (ac):=match d with
 |.int j=>if -4611686018427387904<=j/\j<4611686018427387904 then .ok (intsFrom 0 j.toNat) else .stuck
 |_=>.stuck
def ev_srcR1:iJ f ρ=(f ρ).bind xh:=aG rfl
def srcR1_nat{k:Nat}(h:k<=1000000):xh (.int (k:Int))=.ok (intsFrom 0 k):=by
 unfold xh;dsimp only;rw[if_pos ⟨by omega,by omega⟩,Int.toNat_natCast]
def first(es:List Int)(m:Nat):bi:=(List.range m).map λj=>97+((es[2+j]?).getD 0).toNat
end Cod
namespace DL
open PySem PySem.Spec PyProof.Rows L2
def M6(x:D):aj D:=match x with
 |.lst ds=>.ok (.lst ds.reverse)
 |_=>.stuck
def nD(f:al)(lo hi:Ev->aj (Option Int)):al:=λρ=>(f ρ).bind λx=>(lo ρ).bind λl=>(hi ρ).bind λh=>match x with
 |.lst ds=>.ok (.lst (rG ds l h))
 |_=>.stuck
section
variable {X:Cx}{E:XK}{a:Expr}{f:al}{pos p2:Pos}
def wA{lo hi:Option Expr}(ha:DE X E a f)(hl:DO X E lo fl)(hh:DO X E hi fh):DF X E (.Subscript a (.Slice lo hi none p2) pos) (nD f fl fh):=by
 refine⟨aX (u6 yx ha.o hl.o hh.o) λσ H Q z9=>?_⟩;obtain⟨Ha,ρ,hs,hr,q⟩:=z9;refine⟨Ha,ρ,hs,hr,?_⟩;unfold nD at q;cases e1:f ρ with
 |stuck|exn x=>rw[e1]at q;exact q
 |ok x=>
  rw[e1]at q;intro v H1 H01 g1 r1;refine⟨H01,ρ,g1.sub,hr.mono g1.z,?_⟩;simp only[aj.bind]at q;cases e2:fl ρ with
  |stuck=>rw[e2]at q;exact q|exn x=>rw[e2]at q;exact λC ox H' Ha' g' ex=>q C ox H' Ha' (g1.trans g') ex
  |ok l=>
   rw[e2]at q;intro H2 H02 g2;refine⟨H02,ρ,g2.sub,(hr.mono g1.z).mono g2.z,?_⟩;simp only[aj.bind]at q;cases e3:fh ρ with
   |stuck=>rw[e3]at q;exact q|exn x=>rw[e3]at q;exact λC ox H' Ha' g' ex=>q C ox H' Ha' ((g1.trans g2).trans g') ex
   |ok h=>
    rw[e3]at q;intro H3 H03 g3;simp only[aj.bind]at q;have g:=(g1.trans g2).trans g3;cases x with
    |lst ds=>
     simp only at q;obtain⟨b,vs,rfl,h1,h2⟩:=aE.mp ((r1.mono g2.z).mono g3.z);refine⟨b,vs,rfl,aB.sqL g3.sub h1,λp hp=>?_⟩;have h0:H03 p=none:=g3.sub.free hp;refine q p _ _ H03 (g.trans ⟨λb o q=>by rw[az (bq q hp)];exact q,aB.refl _,λb o q=>?_,λa h1 h2=>absurd h2 h1⟩) (g.s.free hp) h0 aI (h2.cut l h);rw[az (by intro z;subst z;rw[h0]at q;cases q)];exact g3.sub _ _ q
    |_=>exact q.elim
end
def MA{α:Type}{us:List α}(h:us.length=1):∃a,us=[a]:=List.length_eq_one_iff.mp h
def Mz{α:Type}{us:List α}(h:us.length=2):∃a b,us=[a,b]:=by
 cases us with|nil=>cases h|cons a us=>obtain⟨b,rfl⟩:=MA (Nat.succ.inj h);exact⟨a,b,rfl⟩
def My{α:Type}{us:List α}(h:us.length=3):∃a b c,us=[a,b,c]:=by
 cases us with|nil=>cases h|cons a us=>obtain⟨b,c,rfl⟩:=Mz (Nat.succ.inj h);exact⟨a,b,c,rfl⟩
def M4{α:Type}{us:List α}(h:us.length=4):∃a b c d,us=[a,b,c,d]:=by
 cases us with|nil=>cases h|cons a us=>obtain⟨b,c,d,rfl⟩:=My (Nat.succ.inj h);exact⟨a,b,c,d,rfl⟩
def A4(a:Addr)(H:Hp):Hp:=λb=>if b=a then none else H b
def fb(h:b≠a):A4 a H b=H b:=if_neg h
def de:A4 a H a=none:=if_pos rfl
structure eX (K:W.Frag) (He H0e Ha:Hp) (σ:L2.St) (H:Hp) (ρ:Ev) (a:Addr) (st:ac) (vs:ad):Prop where
 ha:He a=none
 h0:H0e a=none
 hl:H a=some (.lst vs)
 r:Reps K Ha st vs
 s:cY K (upd He a (.lst vs)) H0e Ha σ H ρ
def OX.he{K:W.Frag}(hn:∀b,He b=Option.none->He' b=Option.none)(h:OX K He Ha σ H ρ):OX K He' Ha σ H ρ:=⟨λi j ds e=>by
 obtain⟨a,P,h1,⟨vs,r1,r2,r3,r4,r5⟩,h2⟩:=h.1 i j ds e;exact⟨a,P,h1,⟨vs,hn _ r1,r2,r3,λk ok=>let ⟨es,us,q1,q⟩:=r4 k ok;⟨es,us,hn _ q1,q⟩,r5⟩,h2⟩,h.2⟩
section
variable {K:W.Frag}{He H0e Ha H:Hp}{σ:L2.St}{ρ:Ev}{a:Addr}{st st':ac}{vs us:ad}
def eX.n0(h:eX K He H0e Ha σ H ρ a st vs):Ha a=none:=by
 cases q:Ha a with
 |none=>rfl
 |some o=>
  have:=h.s.g.nw a (by rw[q];simp) h.h0;rw[aI]at this;cases this
def eX.back(h:eX K He H0e Ha σ H ρ a st vs)(z:aB Ha Ha')(s':cY K (upd He a (.lst vs)) H0e Ha' σ' H' ρ'):eX K He H0e Ha' σ' H' ρ' a st vs :=
 ⟨h.ha,h.h0,s'.g.s _ _ aI,h.r.mono z,s'⟩
def eX.change(h:eX K He H0e Ha σ H ρ a st vs)(g:bc (A4 a H) Ha H' Ha')(n:Ha' a=none)(hl:H' a=some (.lst us))(r:Reps K Ha' st' us):eX K He H0e Ha' σ H' ρ a st' us:=by
 have hne:∀b,upd He a (.lst us) b=none->b≠a/\He b=none:=λb e=>by
  by_cases c:b=a
  .subst c;rw[aI]at e;cases e
  .rw[az c]at e;exact⟨c,e⟩
 have hnn:∀b,upd He a (.lst vs) b=none->upd He a (.lst us) b=none:=λb e=>by
  by_cases c:b=a
  .subst c;rw[aI]at e;cases e
  .rw[az c]at e ⊢;exact e
 have gone:∀b o,b≠a->H b=some o->H' b=some o:=λb o c e=>g.s _ _ (by rw[fb c];exact e);have n':∀b,Ha b=none->(∃o,H b=some o/\b≠a)->Ha' b=none:=λb e ⟨o,e1,c⟩=>by
  cases q:Ha' b with
  |none=>rfl
  |some u=>
   have:=g.nw b (by rw[q];simp) e;rw[fb c,e1]at this;cases this
 refine⟨h.ha,h.h0,hl,r,⟨⟨λb o e=>?_,h.s.g.z.trans g.z,g.sub,λb h1 h2=>?_⟩,h.s.rd.mono g.z,λi d e=>?_,h.s.ap,h.s.ln,(h.s.ex.he hnn).upd (λj s e=>.inl ⟨e,rfl⟩) g.z (λb ws hb e=>gone b _ (hne b hb).1 e) λp ws hp q0 hq _=>⟨gone p _ (hne p hp).1 hq,n' p q0 ⟨_,hq,(hne p hp).1⟩⟩⟩⟩
 .by_cases c:b=a
  .subst c;rw[aI]at e;cases e;exact hl
  .rw[az c]at e
   exact gone b o c (h.s.g.s _ _ (by rw[az c];exact e))
 .by_cases c:b=a
  .subst c;exact absurd n h1
  .rw[az c]
   cases q:Ha b with
   |some u=>
    have:=h.s.g.nw b (by rw[q];simp) h2;rw[az c]at this;exact this
   |none=>
    have:=g.nw b h1 q;rw[fb c]at this;cases q2:He b with|none=>rfl|some u=>rw[h.s.g.s b u (by rw[az c];exact q2)]at this;cases this
 .obtain⟨b,k1,k2,k3,k4⟩:=h.s.ow i d e
  cases d with
  |lst ds=>
   obtain⟨ws,k5,k6⟩:=k4;have c:b≠a:=(hne b (hnn b k2)).1;exact⟨b,k1,hnn b k2,n' b k3 ⟨_,k5,c⟩,ws,gone b _ c k5,k6.mono g.z⟩
  |dic ks ds=>
   obtain⟨ws,k5,kl,k6⟩:=k4;have c:b≠a:=(hne b (hnn b k2)).1;exact⟨b,k1,hnn b k2,n' b k3 ⟨_,k5,c⟩,ws,gone b _ c k5,kl,k6.mono g.z⟩
  |_=>exact k4.elim
end
noncomputable def tM(K:W.Frag) (He H0e:Hp) (a:Addr) (f:Ev->ac->aj (D×ac)):TE:=λσ H Q=>∃Ha ρ st vs,eX K He H0e Ha σ H ρ a st vs/\match f ρ st with
 |.ok (d,st')=>∀v H' Ha' us,aB Ha Ha'->eX K He H0e Ha' σ H' ρ a st' us->Rep K Ha' d v->Q v H'
 |.exn _=>False
 |.stuck=>False
noncomputable def MV(K:W.Frag) (He H0e:Hp) (a:Addr) (f:Ev->ac->aj (ac×ac)):TA:=λσ H Q=>∃Ha ρ st vs,eX K He H0e Ha σ H ρ a st vs/\match f ρ st with
 |.ok (ds,st')=>∀xs H' Ha' us,aB Ha Ha'->eX K He H0e Ha' σ H' ρ a st' us->Reps K Ha' ds xs->Q xs H'
 |.exn _=>False
 |.stuck=>False
noncomputable def Mm(K:W.Frag) (He H0e:Hp) (a:Addr) (f:Ev->ac->aj (D×ac)):TT:=λσ H Q=>∃Ha ρ st vs,eX K He H0e Ha σ H ρ a st vs/\match f ρ st with
 |.ok (.bl b,st')=>∀H' Ha' us,aB Ha Ha'->eX K He H0e Ha' σ H' ρ a st' us->Q b H'
 |.ok _=>False
 |.exn _=>False
 |.stuck=>False
structure DM (X:Cx) (He H0e:Hp) (a:Addr) (e:Expr) (f:Ev->ac->aj (D×ac)):Prop where
 o:PE X e (tM X.K He H0e a f)
structure Jg (X:Cx) (He H0e:Hp) (a:Addr) (es:List Expr) (f:Ev->ac->aj (ac×ac)):Prop where
 o:PA X es (MV X.K He H0e a f)
structure Jf (X:Cx) (He H0e:Hp) (a:Addr) (e:Expr) (f:Ev->ac->aj (D×ac)):Prop where
 o:PT X e (Mm X.K He H0e a f)
def mP(f:al):Ev->ac->aj (D×ac):=λρ st=>(f ρ).bind λd=>.ok (d,st)
def sD(st:ac)(d:D):aj (D×ac):=if um d=true then .ok (d,st) else .stuck
def iV(s:Option Sl)(a:Addr):Bool:=match s with
 |some (.pt b)=>b==a
 |_=>false
def vw(i:Nat)(ρ:Ev)(st:ac):Ev:=(fX ρ).set i (.sh (.lst st))
def mV(i:Nat)(a:Addr)(f:al):Ev->ac->aj (D×ac):=λρ st=>if iV ρ[i]? a=true then(f (vw i ρ st)).bind (sD st) else .stuck
section
variable {X:Cx}{E:XK}{He H0e:Hp}{a:Addr}{e b:Expr}{es:List Expr}{pos:Pos}{f:al}{fm gm:Ev->ac->aj (D×ac)}{fa:Ev->ac->aj (ac×ac)}
def aN(he:DE X E e f):DM X He H0e a e (mP f):=⟨aX he.o λσ H Q ⟨Ha,ρ,st,vs,h,q⟩=>⟨Ha,ρ,h.s.g.sub,h.s.rd,by
 unfold mP at q;cases e1:f ρ with
 |stuck=>rw[e1]at q;exact q|exn x=>rw[e1]at q;exact q.elim
 |ok d=>
  rw[e1]at q;exact λv H' Ha' g rp=>q v H' Ha' vs g.z (h.back g.z (h.s.grow g)) rp⟩⟩
def eX.view{K:W.Frag}{st:ac}(h:eX K He H0e Ha σ H ρ a st vs)(hp:iV ρ[i]? a=true):aB (upd (frz (upd He a (.lst vs)) Ha H) a (.lst vs)) H/\aB (frz (upd He a (.lst vs)) Ha H) (upd (frz (upd He a (.lst vs)) Ha H) a (.lst vs))/\Reads K (upd (frz (upd He a (.lst vs)) Ha H) a (.lst vs)) σ (vw i ρ st):=by
 have hz:frz (upd He a (.lst vs)) Ha H a=none:=by unfold frz;rw[aI];exact h.n0
 have z:aB (frz (upd He a (.lst vs)) Ha H) (upd (frz (upd He a (.lst vs)) Ha H) a (.lst vs)):=λb o e=>by rw[az (by intro z;subst z;rw[hz]at e;cases e)];exact e
 refine⟨λb o e=>?_,z,λj d e=>?_⟩
 .by_cases c:b=a
  .subst c;rw[aI]at e;cases e;exact h.hl
  .rw[az c]at e;exact h.s.frz_le _ _ e
 .unfold vw at e
  by_cases c:i=j
  .subst c
   unfold iV at hp;cases q:ρ[i]? with
   |none=>rw[q]at hp;cases hp
   |some s=>
    rw[q]at hp;cases s with
    |pt b=>
     have hb:b=a:=eq_of_beq hp;subst hb;have hil:i<(fX ρ).length:=by unfold fX;rw[List.length_map];exact(List.getElem?_eq_some_iff.mp q).1
     rw[List.getElem?_set_self hil]at e;cases e;exact⟨_,h.s.ex.2 i b q,aE.mpr ⟨b,vs,rfl,eN.of aI,(h.r.mono h.s.frz_sub).mono z⟩⟩
    |_=>cases hp
  .rw[List.getElem?_set_ne c]at e
   obtain⟨v,h1,h2⟩:=h.s.looks j d e;exact⟨v,h1,h2.mono z⟩
def eX.behind{K:W.Frag}{st:ac}(h:eX K He H0e Ha σ H ρ a st vs)(g:bc H (upd (frz (upd He a (.lst vs)) Ha H) a (.lst vs)) H' J):aB Ha J/\aB Ha (gP Ha J)/\eX K He H0e (gP Ha J) σ H' ρ a st vs:=by
 have hz:frz (upd He a (.lst vs)) Ha H a=none:=by unfold frz;rw[aI];exact h.n0
 have z0:aB (frz (upd He a (.lst vs)) Ha H) (upd (frz (upd He a (.lst vs)) Ha H) a (.lst vs)):=λb o e=>by rw[az (by intro z;subst z;rw[hz]at e;cases e)];exact e
 have hJ:aB Ha J:=h.s.frz_sub.trans (z0.trans g.z);have z:aB Ha (gP Ha J):=λb o e=>by unfold gP;rw[e]
 refine⟨hJ,z,h.back z ?_⟩;have ja:J a=some (.lst vs):=g.z _ _ aI;have g':bc H (frz (upd He a (.lst vs)) Ha H) H' (A4 a J):=⟨g.s,λb o e=>by
   have c:b≠a:=by intro c;subst c;rw[hz]at e;cases e
   rw[fb c];exact g.z _ _ (z0 _ _ e),λb o e=>by
   by_cases c:b=a
   .subst c;rw[de]at e;cases e
   .rw[fb c]at e;exact g.sub _ _ e,λb h1 h2=>by
   by_cases c:b=a
   .subst c;exact absurd de h1
   .rw[fb c]at h1;exact g.nw b h1 (by rw[az c];exact h2)⟩
 have hs:=h.s.behind g';have e:gP Ha (A4 a J)=gP Ha J:=by
  funext b;unfold gP
  by_cases c:b=a
  .subst c;rw[h.n0,de,ja]
  .rw[fb c]
 rw[e]at hs;exact hs
def lU(he:DE X E e f):DM X He H0e a e (mV i a f):=⟨aX he.o λσ H Q z9=>by
 obtain⟨Ha,ρ,st,vs,h,q⟩:=z9;unfold mV at q
 by_cases hp:iV ρ[i]? a=true
 .rw[if_pos hp]at q
  obtain⟨v1,v2,v3⟩:=h.view hp;refine⟨_,vw i ρ st,v1,v3,?_⟩;cases e1:f (vw i ρ st) with
  |stuck=>rw[e1]at q;exact q|exn x=>rw[e1]at q;exact q.elim
  |ok d=>
   rw[e1]at q;intro v H' J g rp;obtain⟨hJ,z,hm⟩:=h.behind g;replace q:match sD st d with
    |.ok (d,st')=>∀v H' Ha' us,aB Ha Ha'->eX X.K He H0e Ha' σ H' ρ a st' us->Rep X.K Ha' d v->Q v H'
    |.exn _=>False
    |.stuck=>False:=q
   unfold sD at q
   by_cases fl:um d=true
   .rw[if_pos fl]at q
    exact q v H' (gP Ha J) vs z hm (rp.flat_to (FY hJ) fl)
   .rw[if_neg fl]at q;exact q.elim
 .rw[if_neg hp]at q;exact q.elim⟩
def mB(f g:Ev->ac->aj (D×ac))(op:D->D->aj D):Ev->ac->aj (D×ac):=λρ st=>(f ρ st).bind λp=>(g ρ p.2).bind λq=>(op p.1 q.1).bind λd=>.ok (d,q.2)
def gS(ho:q9 X.K E r op)(σ:L2.St)(H:Hp)(Q:VK)(h:tM X.K He H0e a (mB fm gm op) σ H Q):Jk r (tM X.K He H0e a fm) (tM X.K He H0e a gm) σ H Q:=by
 obtain⟨Ha,ρ,st,vs,h,q⟩:=h;refine⟨Ha,ρ,st,vs,h,?_⟩;unfold mB at q;cases e1:fm ρ st with
 |stuck|exn x=>rw[e1]at q;exact q
 |ok p=>
  obtain⟨x,s1⟩:=p;rw[e1]at q;intro v H1 H01 us z1 h1 r1;refine⟨H01,ρ,s1,us,h1,?_⟩;simp only[aj.bind]at q;cases e2:gm ρ s1 with
  |stuck|exn x=>rw[e2]at q;exact q
  |ok p2=>
   obtain⟨y,s2⟩:=p2;rw[e2]at q;intro u H2 H02 us2 z2 h2 r2;refine ho x y v u H2 H02 Q h2.s.g.sub (r1.mono z2) r2 ?_;simp only at q;cases e3:op x y with
   |stuck=>rw[e3]at q;exact q|exn x=>rw[e3]at q;exact q.elim
   |ok d=>
    rw[e3]at q;exact λv' H' Ha' g rp=>q v' H' Ha' us2 ((z1.trans z2).trans g.z) (h2.back g.z (h2.s.grow g)) rp
def GI(h:ez X (binaryOp op) r)(ho:q9 X.K E r o)(ha:DM X He H0e a l fm)(hb:DM X He H0e a b gm):DM X He H0e a (.BinOp l op b pos) (mB fm gm o):=⟨aX (Gk h ha.o hb.o) (gS ho)⟩
def IA(h:ez X (compareOp op) r)(ho:q9 X.K E r o)(ha:DM X He H0e a l fm)(hb:DM X He H0e a b gm)(hm:behindInMarks op b=false):DM X He H0e a (.Compare l [op] [b] pos) (mB fm gm o):=⟨aX (yP h ha.o hb.o hm) (gS ho)⟩
def KL(h:DV X r)(ho:q9 X.K E r o)(ha:DM X He H0e a l fm)(hb:DM X He H0e a b gm)(hs:ix b:=by intro _ _;rfl):DM X He H0e a (.Subscript l b pos) (mB fm gm o):=⟨aX (yO h ha.o hb.o hs) (gS ho)⟩
def cH:Ev->ac->aj (ac×ac):=λ_ st=>.ok ([],st)
def bp(f:Ev->ac->aj (D×ac))(fa:Ev->ac->aj (ac×ac)):Ev->ac->aj (ac×ac):=λρ st=>(f ρ st).bind λp=>(fa ρ p.2).bind λq=>.ok (p.1::q.1,q.2)
def bB:Jg X He H0e a [] cH:=⟨nK gr λσ H Q ⟨Ha,ρ,st,vs,h,q⟩=>q [] H Ha vs (aB.refl _) h Reps.nil⟩
def aW(ha:DM X He H0e a e fm)(hr:Jg X He H0e a es fa)(hs:starEach (e::es) X.env=(false,eval e X.env)::starEach es X.env:=by exact bA rfl):Jg X He H0e a (e::es) (bp fm fa):=⟨nK (dM ha.o hr.o hs) λσ H Q ⟨Ha,ρ,st,vs,h,q⟩=>⟨Ha,ρ,st,vs,h,by
 unfold bp at q;cases e1:fm ρ st with
 |stuck|exn x=>rw[e1]at q;exact q
 |ok p=>
  obtain⟨x,s1⟩:=p;rw[e1]at q;intro v H1 H01 us z1 h1 r1;refine⟨H01,ρ,s1,us,h1,?_⟩;simp only[aj.bind]at q;cases e2:fa ρ s1 with
  |stuck|exn x=>rw[e2]at q;exact q
  |ok p2=>
   obtain⟨ys,s2⟩:=p2;rw[e2]at q;exact λxs H2 H02 us2 z2 h2 r2=>q _ H2 H02 us2 (z1.trans z2) h2 (Reps.cons (r1.mono z2) r2)⟩⟩
def mA(fa:Ev->ac->aj (ac×ac))(m:ac->aj D):Ev->ac->aj (D×ac):=λρ st=>(fa ρ st).bind λp=>(m p.1).bind λd=>.ok (d,p.2)
end
inductive cy where
 |nx (ρ:Ev) (st:ac)|rt (d:D) (st:ac)|bk (ρ:Ev) (st:ac)|ct (ρ:Ev) (st:ac)
structure K2 (K:W.Frag) (He H0e Ha H:Hp) (a:Addr) (st:ac):Prop where
 g:bc He H0e H Ha
 n:Ha a=none
 l:∃us,H a=some (.lst us)/\Reps K Ha st us
noncomputable def cZ(K:W.Frag) (He H0e:Hp) (a:Addr) (Ha:Hp) (r:aj cy) (D:mf):Prop:=match r with
 |.ok (.nx ρ st)=>∀σ H Ha' vs,aB Ha Ha'->eX K He H0e Ha' σ H ρ a st vs->D.nx σ H
 |.ok (.rt d st)=>∀v H Ha',aB Ha Ha'->K2 K He H0e Ha' H a st->Rep K Ha' d v->D.rt v H
 |.ok (.bk ρ st)=>∀σ H Ha' vs,aB Ha Ha'->eX K He H0e Ha' σ H ρ a st vs->D.bk σ H
 |.ok (.ct ρ st)=>∀σ H Ha' vs,aB Ha Ha'->eX K He H0e Ha' σ H ρ a st vs->D.ct σ H
 |.exn _=>False
 |.stuck=>False
def cZ.grow{K:W.Frag}{D:mf}(h:cZ K He H0e a Ha r D)(s:aB Ha Hb):cZ K He H0e a Hb r D:=by
 cases r with
 |ok f=>
  cases f with|nx ρ st=>exact λσ H Ha' vs s'=>h σ H Ha' vs (s.trans s')|rt d st=>exact λv H Ha' s'=>h v H Ha' (s.trans s')|bk ρ st=>exact λσ H Ha' vs s'=>h σ H Ha' vs (s.trans s')|ct ρ st=>exact λσ H Ha' vs s'=>h σ H Ha' vs (s.trans s')
 |exn x=>exact h
 |stuck=>exact h
def La(K:W.Frag)(He H0e:Hp)(a:Addr)(g:Ev->ac->aj cy):TS:=λD σ H=>∃Ha ρ st vs,eX K He H0e Ha σ H ρ a st vs/\cZ K He H0e a Ha (g ρ st) D
structure SM (X:Cx) (He H0e:Hp) (a:Addr) (st:Stmt) (g:Ev->ac->aj cy):Prop where
 o:PS X st (La X.K He H0e a g)
structure Bs (X:Cx) (He H0e:Hp) (a:Addr) (st:List Stmt) (g:Ev->ac->aj cy):Prop where
 o:qZ X st (La X.K He H0e a g)
section
variable {X:Cx}{E:XK}{He H0e:Hp}{a:Addr}{st:Stmt}{rest:List Stmt}{e b:Expr}{es:List Expr}{pos:Pos}{f:al}{fm gm:Ev->ac->aj (D×ac)}{s t:Ev->ac->aj cy}
def bZ:Ev->ac->aj cy:=λρ st=>.ok (.nx ρ st)
def za(t:Ev->ac->aj cy)(r:cy):aj cy:=match r with
 |.nx ρ st=>t ρ st
 |r=>.ok r
def bx(s t:Ev->ac->aj cy):Ev->ac->aj cy:=λρ st=>(s ρ st).bind (za t)
def bQ:Bs X He H0e a [] bZ:=⟨cQ jq λD σ H ⟨Ha,ρ,st,vs,h,q⟩=>q σ H Ha vs (aB.refl _) h⟩
def aH(h1:SM X He H0e a st s)(h2:Bs X He H0e a rest t):Bs X He H0e a (st::rest) (bx s t):=by
 refine⟨?_⟩;refine cQ (c6 h1.o h2.o) λD σ H z9=>?_;obtain⟨Ha,ρ,st,vs,h,q⟩:=z9;refine⟨Ha,ρ,st,vs,h,?_⟩
 unfold bx at q;cases e1:s ρ st with
 |stuck|exn x=>rw[e1]at q;exact q
 |ok r=>
  rw[e1]at q;cases r with|nx ρ' st'=>exact λσ' H' Ha' vs' s' h'=>⟨Ha',ρ',st',vs',h',cZ.grow (r:=t ρ' st') q s'⟩|rt d st'|bk ρ' st'|ct ρ' st'=>exact q
def xE(st:ac)(r:Fl):aj cy:=match r with
 |.nx ρ=>.ok (.nx ρ st)
 |.bk ρ=>.ok (.bk ρ st)
 |.ct ρ=>.ok (.ct ρ st)
 |.rt _=>.stuck
def dA(g:am):Ev->ac->aj cy:=λρ st=>(g ρ).bind (xE st)
def cA(h:∀vs,DS X E (upd He a (.lst vs)) H0e st g):SM X He H0e a st (dA g):=by
 refine⟨?_⟩;rintro pins sh σ H D I ⟨Ha,ρ,st,vs,hm,q⟩;refine(h vs).o pins sh σ H D I ⟨Ha,ρ,hm.s,?_⟩;unfold dA at q;cases e1:g ρ with
 |stuck=>rw[e1]at q;exact q|exn x=>rw[e1]at q;exact q.elim
 |ok r=>
  rw[e1]at q;cases r with|nx ρ'=>exact λσ' H' Ha' z h'=>q σ' H' Ha' vs z (hm.back z h')|bk ρ'=>exact λσ' H' Ha' z h'=>q σ' H' Ha' vs z (hm.back z h')|ct ρ'=>exact λσ' H' Ha' z h'=>q σ' H' Ha' vs z (hm.back z h')|rt d=>exact q.elim
def CH(i:Nat)(ρ:Ev)(p:D×ac):aj cy:=.ok (.nx (ρ.set i (.sh p.1)) p.2)
def d8(i:Nat)(f:Ev->ac->aj (D×ac)):Ev->ac->aj cy:=λρ st=>(f ρ st).bind (CH i ρ)
def cK(hN:X.N.Nodup)(hi:X.N[i]?=some x)(hx:Af X.env.scope x)(he:DM X He H0e a e fm)(hs:swapsWith e (some (.Name x pos')) pos.line X.env=pure false:=by rfl)
  (hf:X.fn x=true∨X.env.scope.names.lookup x=some .local := by first|exact .inl rfl|exact .inr rfl|assumption):SM X He H0e a (.Assign [.Name x pos'] e pos) (d8 i fm):=by
 refine⟨?_⟩;refine bH (iM hN hi hx he.o hs hf) λD σ H z9=>?_;obtain⟨Ha,ρ,st,vs,h,q⟩:=z9;refine⟨Ha,ρ,st,vs,h,?_⟩
 unfold d8 at q;cases e1:fm ρ st with
 |stuck|exn x=>rw[e1]at q;exact q
 |ok p=>
  obtain⟨d,st'⟩:=p;rw[e1]at q;exact λv H' Ha' us z h' rp=>q _ H' Ha' us z (h'.back (aB.refl _) (h'.s.put rp))
def CI(p:D×ac):aj cy:=.ok (.rt p.1 p.2)
def Fc(f:Ev->ac->aj (D×ac)):Ev->ac->aj cy:=λρ st=>(f ρ st).bind CI
def eX.out{K:W.Frag}{st:ac}(h:eX K He H0e Ha σ H ρ a st vs)(z:aB Ha J)(hs:aB J H)(hw:∀b,J b≠none->Ha b=none->upd He a (.lst vs) b=none)(n:J a=none):K2 K He H0e J H a st :=
 ⟨⟨λb o e=>h.s.g.s _ _ (by rw[az (by intro c;subst c;rw[h.ha]at e;cases e)];exact e),h.s.g.z.trans z,hs,λb h1 h2=>by
  have key:upd He a (.lst vs) b=none:=by
   cases q:Ha b with|none=>exact hw b h1 q|some o=>exact h.s.g.nw b (by rw[q];simp) h2
  by_cases c:b=a
  .subst c;exact h.ha
  .rw[az c]at key;exact key⟩,n,vs,h.hl,h.r.mono z⟩
def Hj(he:DM X He H0e a e fm):SM X He H0e a (.Return (some e) pos) (Fc fm):=by
 refine⟨?_⟩;refine bH (tT he.o) λD σ H z9=>?_;obtain⟨Ha,ρ,st,vs,h,q⟩:=z9;refine⟨Ha,ρ,st,vs,h,?_⟩
 unfold Fc at q;cases e1:fm ρ st with
 |stuck|exn x=>rw[e1]at q;exact q
 |ok p=>
  obtain⟨d,st'⟩:=p;rw[e1]at q;exact λv H' Ha' us z h' rp=>q v H' Ha' z (h'.out (aB.refl _) h'.s.g.sub (λb h1 h2=>absurd h2 h1) h'.n0) rp
def gE(f:al):Ev->ac->aj cy:=λρ st=>(f (fX ρ)).bind λd=>.ok (.rt d st)
def fW(he:DE X E e f):SM X He H0e a (.Return (some e) pos) (gE f):=by
 refine⟨?_⟩;refine bH (tT he.o) λD σ H z9=>?_;obtain⟨Ha,ρ,st,vs,h,q⟩:=z9;refine⟨frz (upd He a (.lst vs)) Ha H,fX ρ,h.s.frz_le,h.s.looks,?_⟩
 unfold gE at q;cases e1:f (fX ρ) with
 |stuck=>rw[e1]at q;exact q|exn x=>rw[e1]at q;exact q.elim
 |ok d=>
  rw[e1]at q;intro v H' J g rp;have hz:frz (upd He a (.lst vs)) Ha H a=none:=by unfold frz;rw[aI];exact h.n0
  have z:aB Ha J:=h.s.frz_sub.trans g.z;have n:J a=none:=by
   cases qq:J a with|none=>rfl|some o=>have:=g.nw a (by rw[qq];simp) hz;rw[h.hl]at this;cases this
  have hg:=h.s.frz_grow.trans g;refine q v H' J z ⟨⟨λb o e=>hg.s _ _ (by rw[az (by intro c;subst c;rw[h.ha]at e;cases e)];exact e),hg.z,hg.sub,λb h1 h2=>?_⟩,n,vs,g.s _ _ h.hl,h.r.mono z⟩ rp;have key:=hg.nw b h1 h2
  by_cases c:b=a
  .subst c;exact h.ha
  .rw[az c]at key;exact key
def Fd(s t:Ev->ac->aj cy)(ρ:Ev)(p:D×ac):aj cy:=match p.1 with
 |.bl b=>if b=true then s ρ p.2 else t ρ p.2
 |_=>.stuck
def CJ(c:Ev->ac->aj (D×ac))(s t:Ev->ac->aj cy):Ev->ac->aj cy:=λρ st=>(c ρ st).bind (Fd s t ρ)
def rO(hc:Jf X He H0e a c fm)(ha:Bs X He H0e a sa s)(hb:Bs X He H0e a sb t):SM X He H0e a (.If c sa sb pos) (CJ fm s t):=by
 refine⟨?_⟩;refine bH (yI hc.o ha.o hb.o) λD σ H z9=>?_;obtain⟨Ha,ρ,st,vs,h,q⟩:=z9;refine⟨Ha,ρ,st,vs,h,?_⟩
 unfold CJ at q;cases e1:fm ρ st with
 |stuck|exn x=>rw[e1]at q;exact q
 |ok p=>
  obtain⟨d,st'⟩:=p;rw[e1]at q;cases d with
  |bl b=>
   intro H' Ha' us z h';replace q:cZ X.K He H0e a Ha (if b=true then s ρ st' else t ρ st') D:=q;cases b with|true=>rw[if_pos rfl]at q ⊢;exact⟨Ha',ρ,st',us,h',q.grow z⟩|false=>rw[if_neg Bool.false_ne_true]at q ⊢;exact⟨Ha',ρ,st',us,h',q.grow z⟩
  |_=>exact q.elim
end
section
variable {X:Cx}{E:XK}{He H0e:Hp}{a:Addr}{st:Stmt}{e l b:Expr}{rest es:List Expr}{pos:Pos}{f:al}{fm gm:Ev->ac->aj (D×ac)}{s t:Ev->ac->aj cy}
def nX(h:ez X (compareOp op) r)(ho:q9 X.K E r o)(ha:DM X He H0e a l fm)(hb:DM X He H0e a b gm)(hm:behindInMarks op b=false):Jf X He H0e a (.Compare l [op] [b] pos) (mB fm gm o):=by
 refine⟨?_⟩;refine gX (yH h ha.o hb.o hm) λσ H Q h=>?_;have w:tM X.K He H0e a (mB fm gm o) σ H λx H'=>∃k,x=.bl k/\Q k H':=by
  obtain⟨Ha,ρ,st,vs,h,q⟩:=h;refine⟨Ha,ρ,st,vs,h,?_⟩;cases e1:mB fm gm o ρ st with
  |stuck|exn x=>rw[e1]at q;exact q
  |ok p=>
   obtain⟨d,st'⟩:=p;rw[e1]at q;intro v H1 H01 us z h1 r1;cases d with|bl b=>rw[aJ.mp r1];exact⟨b,rfl,q H1 H01 us z h1⟩| _=>exact q.elim
 exact gS ho σ H _ w
def mT(f:al):Ev->ac->aj (D×ac):=λρ st=>(f (fX ρ)).bind λd=>.ok (d,st)
def wu(h:DT X E e f):Jf X He H0e a e (mT f):=⟨gX h.o λσ H Q ⟨Ha,ρ,st,vs,h,q⟩=>⟨frz (upd He a (.lst vs)) Ha H,fX ρ,h.s.frz_le,h.s.looks,by
 unfold mT at q;cases e1:f (fX ρ) with
 |stuck=>rw[e1]at q;exact q|exn x=>rw[e1]at q;exact q.elim
 |ok d=>
  rw[e1]at q;cases d with
  |bl b=>exact λH' J g=>q H' Ha vs (aB.refl _) (h.back (aB.refl _) (h.s.same g.s))
  |_=>exact q.elim⟩⟩
def Lc(i:Nat)(a:Addr)(f:al):Ev->ac->aj (D×ac):=λρ st=>if iV ρ[i]? a=true then(f (vw i ρ st)).bind λd=>.ok (d,st) else .stuck
def Dn(h:DT X E e f):Jf X He H0e a e (Lc i a f):=⟨gX h.o λσ H Q z9=>by
 obtain⟨Ha,ρ,st,vs,h,q⟩:=z9;unfold Lc at q
 by_cases hp:iV ρ[i]? a=true
 .rw[if_pos hp]at q
  obtain⟨v1,v2,v3⟩:=h.view hp;refine⟨_,vw i ρ st,v1,v3,?_⟩;cases e1:f (vw i ρ st) with
  |stuck=>rw[e1]at q;exact q|exn x=>rw[e1]at q;exact q.elim
  |ok d=>
   rw[e1]at q;cases d with|bl b=>exact λH' J g=>q H' Ha vs (aB.refl _) (h.back (aB.refl _) (h.s.same g.s))| _=>exact q.elim
 .rw[if_neg hp]at q;exact q.elim⟩
structure Jr (X:Cx) (He H0e:Hp) (a:Addr) (e:Expr) (f:Ev->ac->aj (D×ac)):Prop where
 o:PW X e (Mm X.K He H0e a f)
def zb(g:Ev->ac->aj (D×ac))(ρ:Ev)(p:D×ac):aj (D×ac):=match p.1 with
 |.bl b=>if b=true then g ρ p.2 else .ok (.bl false,p.2)
 |_=>.stuck
def CL(f g:Ev->ac->aj (D×ac)):Ev->ac->aj (D×ac):=λρ st=>(f ρ st).bind (zb g ρ)
def FA(ha:Jf X He H0e a l fm):Jr X He H0e a (.BoolOp .And [l] pos) fm:=⟨yG ha.o⟩
def FC(ha:Jf X He H0e a l fm)(hb:Jr X He H0e a (.BoolOp .And (b::rest) pos) gm):Jr X He H0e a (.BoolOp .And (l::b::rest) pos) (CL fm gm):=by
 refine⟨?_⟩;refine tR (B7 ha.o hb.o) λσ H Q z9=>?_;obtain⟨Ha,ρ,st,vs,h,q⟩:=z9;refine⟨Ha,ρ,st,vs,h,?_⟩
 unfold CL at q;cases e1:fm ρ st with
 |stuck|exn x=>rw[e1]at q;exact q
 |ok p=>
  obtain⟨d,st'⟩:=p;rw[e1]at q;cases d with
  |bl c=>
   intro H1 H01 us z h1;cases c with
   |true=>
    rw[if_pos rfl];refine⟨H01,ρ,st',us,h1,?_⟩;replace q:match gm ρ st' with
     |.ok (.bl b,st')=>∀H' Ha' us,aB Ha Ha'->eX X.K He H0e Ha' σ H' ρ a st' us->Q b H'
     |.ok _=>False
     |.exn _=>False
     |.stuck=>False:=q
    cases e2:gm ρ st' with
    |stuck|exn x=>rw[e2]at q;exact q
    |ok p2=>
     obtain⟨d2,s2⟩:=p2;rw[e2]at q;cases d2 with|bl c2=>exact λH2 H02 us2 z2 h2=>q H2 H02 us2 (z.trans z2) h2| _=>exact q.elim
   |false=>rw[if_neg Bool.false_ne_true];exact q H1 H01 us z h1
  |_=>exact q.elim
noncomputable def forM(tg:Ev->D->aj Ev) (body:Ev->ac->aj cy):ac->Ev->ac->aj cy
 |[],ρ,st=>.ok (.nx ρ st)
 |d::r,ρ,st=>(tg ρ d).bind λρ1=>(body ρ1 st).bind λx=>match x with
  |.nx ρ2 s2=>forM tg body r ρ2 s2
  |.ct ρ2 s2=>forM tg body r ρ2 s2
  |.bk ρ2 s2=>.ok (.nx ρ2 s2)
  |.rt d s=>.ok (.rt d s)
def LD(K:W.Frag)(He H0e:Hp)(a:Addr)(tg:Ev->D->aj Ev):TG:=λv σ H Q=>∃Ha ρ st vs d,eX K He H0e Ha σ H ρ a st vs/\Rep K Ha d v/\match tg ρ d with
  |.ok ρ'=>∀σ' H' Ha',aB Ha Ha'->eX K He H0e Ha' σ' H' ρ' a st vs->Q σ' H'
  |_=>False
def J1(hg:∀vs,DG X E (upd He a (.lst vs)) H0e tgt tg):PG X tgt (LD X.K He H0e a tg):=by
 rintro pins sh σ H v u Q I r ⟨Ha,ρ,st,vs,d,h,rp,q⟩;refine(hg vs).o pins sh σ H v u Q I r ⟨Ha,ρ,d,h.s,rp,?_⟩;cases e1:tg ρ d with
 |stuck|exn x=>rw[e1]at q;exact q
 |ok ρ'=>
  rw[e1]at q;exact λσ' H' Ha' z h'=>q σ' H' Ha' z (h.back z h')
def md(K:W.Frag)(He H0e:Hp)(a:Addr)(Hb:Hp)(tg:Ev->D->aj Ev)(s:Ev->ac->aj cy)(ds:ac)(D':mf)(i:Nat)(σ:L2.St)(H:Hp):Prop :=
 ∃Ha ρ st vs,aB Hb Ha/\eX K He H0e Ha σ H ρ a st vs/\cZ K He H0e a Ha (forM tg s (ds.drop i) ρ st) D'
def md.done{K:W.Frag}(h:md K He H0e a Hb tg s ds D' ds.length σ H):D'.nx σ H:=by
 obtain⟨Ha,ρ,st,vs,z,h,q⟩:=h;rw[List.drop_length]at q;unfold forM at q;exact q σ H Ha vs (aB.refl _) h
end
section
variable {X:Cx}{E:XK}{He H0e:Hp}{a:Addr}{st:Stmt}{e l b:Expr}{rest es:List Expr}{pos:Pos}{f:al}{fm gm:Ev->ac->aj (D×ac)}{fa:Ev->ac->aj (ac×ac)}{s t:Ev->ac->aj cy}
def so(i:Nat)(ρ:Ev)(ds:ac)(p:D×ac):aj cy:=if ds.length<line then .ok (.nx (ρ.set i (.ow (.lst (ds++[p.1])))) p.2) else .stuck
def EZ(s:Option Sl)(k:ac->aj cy):aj cy:=match s with
 |some (.ow (.lst ds))=>k ds
 |_=>.stuck
def CK(i:Nat)(f:Ev->ac->aj (D×ac)):Ev->ac->aj cy:=λρ st=>EZ ρ[i]? λds=>(f ρ st).bind (so i ρ ds)
def As(hN:X.N[i]?=some x)(hv:Bm X.env.scope x)(he:DM X He H0e a e fm)
  (hd:(x==("__debug__":Str))=false:=by decide)(hcd:(x==("__classdict__":Str))=false:=by decide)
  (hbase:attributeBase (.Name x p1) "append" X.env (eval (.Name x p1) X.env)=eval (.Name x p1) X.env:=by rfl)
  (hfew:((backTo p3 (starEach [e] X.env)).all (λx=>!x.1)&&(backToKw p3 (keywordEach [] X.env)).all (λx=>x.1.isSome)
  &&decide ([e].length+([]:List Keyword).length+(if([]:List Keyword).isEmpty then 0 else 1)<30))=true:=by exact kL rfl)
  (hline:(p2.endLine==p3.line)=true:=by rfl) (hs:starEach [e] X.env=(false,eval e X.env)::starEach [] X.env:=by exact bA rfl) (hplain:(backTo p3 (starEach [] X.env)).any (·.1)=false:=by exact cf rfl)
  (hw:swapsWith (.Call (.Attribute (.Name x p1) "append" p2) [e] [] p3) none pos.line X.env=pure false:=by rfl) :
  SM X He H0e a (.Expr (.Call (.Attribute (.Name x p1) "append" p2) [e] [] p3) pos) (CK i fm):=by
 refine⟨?_⟩;refine bH (nI (yQ PySem.F.plainAttrs_list PySem.F.slot_list_append PySem.F.type_list_append ju (gZ hN hv hd hcd) (dM he.o gr hs) hbase hfew hline hs hplain) hw) λD σ H ⟨Ha,ρ,st,vs,h,q⟩=>?_;unfold CK EZ at q;cases e0:ρ[i]? with
 |none=>rw[e0]at q;exact q.elim
 |some sl=>
  rw[e0]at q;cases sl with
  |ow d=>
   cases d with
   |lst ds=>
    obtain⟨p,k1,k2,k3,ws,k4,k5⟩:=h.s.ow i _ e0;refine⟨.ref p,k1,.inl ⟨rfl,ws,eN.of k4⟩,?_⟩;refine⟨Ha,ρ,st,vs,h,?_⟩;replace q:cZ X.K He H0e a Ha ((fm ρ st).bind (so i ρ ds)) D:=q;cases e1:fm ρ st with
    |stuck|exn x=>rw[e1]at q;exact q
    |ok pr=>
     obtain⟨d,st'⟩:=pr;rw[e1]at q;intro v H' Ha' us z h' rp;obtain⟨p',k1',k2',k3',ws',k4',k5'⟩:=h'.s.ow i _ e0;rw[k1]at k1';cases k1';replace q:cZ X.K He H0e a Ha (so i ρ ds (d,st')) D:=q;unfold so at q
     by_cases hl:ds.length<line
     .rw[if_pos hl]at q
      refine⟨p,ws',v,rfl,rfl,k4',by rw[←k5'.length];exact Nat.lt_of_lt_of_le hl (by decide),?_⟩;have hpa:p≠a:=by intro c;subst c;rw[aI]at k2';cases k2'
      exact q σ _ Ha' us z ⟨h'.ha,h'.h0,by rw[az (Ne.symm hpa)];exact h'.hl,h'.r,h'.s.write e0 k1 (k5'.app (Reps.cons rp Reps.nil))⟩
     .rw[if_neg hl]at q;exact q.elim
   |_=>exact q.elim
  |_=>exact q.elim
def ku(ρ:Ev)(d:D)(p:D×ac):aj cy:=match p.1 with
 |.int j=>match wW p.2.length j with
  |some n=>.ok (.nx ρ (p.2.set n d))
  |none=>.stuck
 |_=>.stuck
def vt(i:Nat)(a:Addr)(f k:Ev->ac->aj (D×ac)):Ev->ac->aj cy:=λρ st=>if iV ρ[i]? a=true then(f ρ st).bind λp=>(k ρ p.2).bind (ku ρ p.1) else .stuck
def zh{s:Option Sl}(h:iV s a=true):s=some (.pt a):=by
 unfold iV at h;split at h
 .rw[eq_of_beq h]
 .cases h
def xj(hN:X.N[i]?=some x)(hv:Bm X.env.scope x)(he:DM X He H0e a e fm)(hk:DM X He H0e a b gm)
  (hd:(x==("__debug__":Str))=false:=by decide)(hcd:(x==("__classdict__":Str))=false:=by decide)
  (ha:∀v,assign (.Subscript (.Name x p1) b p2) X.env v=(do
   let ov ←holding [v] (eval (.Name x p1) X.env)
   let iv ←holding [v,ov] (eval b X.env)
   standAt p2
   holding [v,ov,iv] (setItem ov iv v)
   release [v,ov,iv] []):=by intro _;rfl)
  (hs:swapsWithSole [.Subscript (.Name x p1) b p2] e pos.line X.env=pure false:=by rfl) (hw:swappedStores [.Subscript (.Name x p1) b p2] e X.env=pure none:=by rfl)
  (h1:(assignEach [.Subscript (.Name x p1) b p2] X.env).map (·.2)=[assign (.Subscript (.Name x p1) b p2) X.env]:=by rfl) :
  SM X He H0e a (.Assign [.Subscript (.Name x p1) b p2] e pos) (vt i a fm gm):=by
 refine⟨?_⟩;refine bH (xr he.o (Cm (gZ hN hv hd hcd) hk.o uS ha) hs hw h1) λD σ H z9=>?_;obtain⟨Ha,ρ,st,vs,h,q⟩:=z9;refine⟨Ha,ρ,st,vs,h,?_⟩
 unfold vt at q
 by_cases hp:iV ρ[i]? a=true
 .rw[if_pos hp]at q
  have hσ:=h.s.ex.2 i a (zh hp);cases e1:fm ρ st with
  |stuck|exn x=>rw[e1]at q;exact q
  |ok pr=>
   obtain⟨d,s1⟩:=pr;rw[e1]at q;intro v H1 H01 us1 z1 h1' r1;refine⟨.ref a,hσ,H01,ρ,s1,us1,h1',?_⟩;replace q:cZ X.K He H0e a Ha ((gm ρ s1).bind (ku ρ d)) D:=q;cases e2:gm ρ s1 with
   |stuck|exn x=>rw[e2]at q;exact q
   |ok pr2=>
    obtain⟨j,s2⟩:=pr2;rw[e2]at q;intro u H2 H02 us2 z2 h2 r2;replace q:cZ X.K He H0e a Ha (ku ρ d (j,s2)) D:=q;unfold ku at q;cases j with
    |int n=>
     cases en:wW s2.length n with
     |none=>simp only[en]at q;exact q.elim
     |some m=>
      simp only[en]at q;refine⟨a,us2,n,m,rfl,aw.mp r2,h2.hl,by rw[←h2.r.length];exact en,?_⟩;refine q σ _ H02 (us2.set m v) (z1.trans z2) (h2.change (H':=upd H2 a (.lst (us2.set m v))) ⟨λb o e=>?_,aB.refl _,λb o e=>?_,λb k1 k2=>absurd k2 k1⟩ h2.n0 aI (h2.r.set (r1.mono z2) m))
      .have c:b≠a:=by intro c;subst c;rw[de]at e;cases e
       rw[az c];rw[fb c]at e;exact e
      .have c:b≠a:=by intro c;subst c;rw[h2.n0]at e;cases e
       rw[az c];exact h2.s.g.sub _ _ e
    |_=>exact q.elim
 .rw[if_neg hp]at q;exact q.elim
variable {CX:Bo}{k n:Nat}{fn:Addr}{fd:FuncData}{ps:List Str}{x:Str}{p:Pos}
def FD(F:iy X.prog X.w X.K X.mg X.base CX k fn fd ps (spD X.K n m))(hr:c5 k X.A)(hg:Gl X x)(hm:X.mg x=some (.ref fn))
  (hk:W.keepIn X.K (.ref fn)=true)(hb:jV X.K fd ps [])(hx:fT CX X E)(ha:Jg X He H0e a (e::es) fa)(hn:(e::es).length=n:=by rfl)(hl:∀ρ st ds,fa ρ st=.ok ds->ds.1.length=(e::es).length)
  (hdb:(x==("__debug__":Str))=false:=by decide)(he:starEach (e::es) X.env=(false,eval e X.env)::starEach es X.env:=by exact bA rfl)(hpl:(backTo pos (starEach es X.env)).any (·.1)=false:=by exact cf rfl) :
  DM X He H0e a (.Call (.Name x p) (e::es) [] pos) (mA fa m):=by
 refine⟨?_⟩;refine aX (nJ F hr hg hm hk hb .nil hx ha.o hdb he hpl) λσ H Q z9=>?_;obtain⟨Ha,ρ,st,vs,h,q⟩:=z9;refine⟨Ha,ρ,st,vs,h,?_⟩
 unfold mA at q;cases e1:fa ρ st with
 |stuck|exn x=>rw[e1]at q;exact q
 |ok pr=>
  obtain⟨ds,s1⟩:=pr;rw[e1]at q;intro xs H1 H01 us z1 h1 r1;refine⟨?_,H01,ds,h1.s.g.sub,by simpa using r1,?_⟩
  .have:=r1.length
   have:=hl ρ st _ e1;simp only[List.append_nil]at *;omega
  .simp only[aj.bind]at q
   cases e2:m ds with
   |stuck=>rw[e2]at q;exact q|exn x=>rw[e2]at q;exact q.elim
   |ok d=>
    rw[e2]at q;exact λv' H' Ha' g rp=>q v' H' Ha' us (z1.trans g.z) (h1.back g.z (h1.s.grow g)) rp
noncomputable def D1(K:W.Frag) (n:Nat) (m:Addr->ac->ac->aj (D×ac)):Sp:=λvs H Q E=>vs.length=n+1/\∃Ha ds a st us0 vs0,vs=.ref a::vs0/\aB Ha H/\Reps K Ha ds vs0/\Ha a=none/\H a=some (.lst us0)/\Reps K Ha st us0/\match m a st ds with
 |.ok (d,st')=>∀v H' Ha' us,bc (A4 a H) Ha H' Ha'->Ha' a=none->H' a=some (.lst us)->Reps K Ha' st' us->Rep K Ha' d v->Q v H'
 |.exn _=>False
 |.stuck=>False
def xZ(a:Addr)(m:Addr->ac->ac->aj (D×ac))(p:ac×ac):aj (D×ac):=m a p.2 p.1
def bT(i:Nat)(a:Addr)(fa:Ev->ac->aj (ac×ac))(m:Addr->ac->ac->aj (D×ac)):Ev->ac->aj (D×ac):=λρ st=>if iV ρ[i]? a=true then(fa ρ st).bind (xZ a m) else .stuck
def Dq(F:iy X.prog X.w X.K X.mg X.base CX k fn fd ps (D1 X.K n m))(hr:c5 k X.A)(hg:Gl X x)(hm:X.mg x=some (.ref fn))
  (hk:W.keepIn X.K (.ref fn)=true)(hb:jV X.K fd ps [])(hx:fT CX X E)(hN:X.N[i]?=some y)(hv:Bm X.env.scope y)(ha:Jg X He H0e a es fa)(hl:∀ρ st ds,fa ρ st=.ok ds->ds.1.length=n)
  (hd:(y==("__debug__":Str))=false:=by decide)(hcd:(y==("__classdict__":Str))=false:=by decide)(hdb:(x==("__debug__":Str))=false:=by decide)(he:starEach (.Name y p1::es) X.env=(false,eval (.Name y p1) X.env)::starEach es X.env:=by exact bA rfl)(hpl:(backTo pos (starEach es X.env)).any (·.1)=false:=by exact cf rfl) :
  DM X He H0e a (.Call (.Name x p) (.Name y p1::es) [] pos) (bT i a fa m):=by
 refine⟨?_⟩;refine aX (nJ F hr hg hm hk hb .nil hx (dM (gZ hN hv hd hcd) ha.o he) hdb he hpl) λσ H Q ⟨Ha,ρ,st,vs,h,q⟩=>?_;unfold bT at q
 by_cases hp:iV ρ[i]? a=true
 .rw[if_pos hp]at q
  have hσ:=h.s.ex.2 i a (zh hp);refine⟨.ref a,hσ,Ha,ρ,st,vs,h,?_⟩;cases e1:fa ρ st with
  |stuck|exn x=>rw[e1]at q;exact q
  |ok pr=>
   obtain⟨ds,s1⟩:=pr;rw[e1]at q;intro xs H1 H01 us z1 h1 r1;refine⟨?_,H01,ds,a,s1,us,xs,by simp,h1.s.g.sub,r1,h1.n0,h1.hl,h1.r,?_⟩
   .have:=r1.length
    have:=hl ρ st _ e1;simp only[List.append_nil,List.length_cons]at *;omega
   .replace q:match m a s1 ds with
     |.ok (d,st')=>∀v H' Ha' us,aB Ha Ha'->eX X.K He H0e Ha' σ H' ρ a st' us->Rep X.K Ha' d v->Q v H'
     |.exn _=>False
     |.stuck=>False:=q
    cases e2:m a s1 ds with
    |stuck|exn x=>rw[e2]at q;exact q
    |ok pr2=>
     obtain⟨d,s2⟩:=pr2;rw[e2]at q;exact λv H' Ha' us' g n' hl' r' rp=>q v H' Ha' us' (z1.trans g.z) (h1.change g n' hl' r') rp
 .rw[if_neg hp]at q;exact q.elim
end
def BU(r:cy):aj (D×ac):=match r with
 |.nx _ st=>.ok (.non,st)
 |.rt d st=>.ok (d,st)
 |_=>.stuck
def rl(n:Nat)(s:Addr->Ev->ac->aj cy)(a:Addr)(st ds:ac):aj (D×ac):=(s a (.pt a::ds.map Sl.sh++List.replicate (n-(ds.length+1)) .no) st).bind BU
def xN{K:W.Frag}{st:Stmt}{N ps:List Str}{k n:Nat}(F:F6 K x qual st f fd)(S:gk N ps (defScope st))(hn:ps.length=n+1)
  (hbody:∀(cdv:Value) (A:Around) (outer:List PySem.Env) (s0:Shared) (H He Ha:Hp) (a:Addr) (E:XK),c5 k (A.deeper (envOfC qual (defScope st) s0.heap.objs.size f cdv)) ->
   Bs (nE CX0 P w K mg base N qual (defScope st) f cdv A outer s0 H E).nox He Ha a (defBody st) (s a)):iy P w K mg base CX0 (k+1) f fd ps (D1 K n (rl N.length s)):=by
 have hpl:ps.length<=N.length:=by have:=congrArg List.length S.pre;rw[List.length_take]at this;omega
 refine F.ok S (λvs H Q E h=>h.1.trans hn.symm) λcdv A outer s0 H vs Q E hr h=>?_;obtain⟨hlen,Ha,ds,a,sl,us0,vs0,rfl,hs,hv,h0,hl,hst,q⟩:=h;have lv:=hv.length;have hσ:start N (.ref a::vs0)=some (.ref a)::(vs0.map some++List.replicate (N.length-(vs0.length+1)) none):=by
  unfold L2.start;simp
 have hρ0:∀(i:Nat) (z:Sl),(Sl.pt a::ds.map Sl.sh++List.replicate (N.length-(ds.length+1)) Sl.no)[i]?=some z->z=.no∨(i=0/\z=.pt a)∨∃j d,i=j+1/\ds[j]?=some d/\z=.sh d:=λi z e=>by
  cases i with
  |zero=>simp at e;exact .inr (.inl ⟨rfl,e.symm⟩)
  |succ j=>
   rw[List.cons_append,List.getElem?_cons_succ]at e
   by_cases hj:j<ds.length
   .rw[List.getElem?_append_left (by simpa using hj),List.getElem?_map,List.getElem?_eq_getElem hj]at e
    cases e;exact .inr (.inr ⟨j,ds[j],rfl,List.getElem?_eq_getElem hj,rfl⟩)
   .rw[List.getElem?_append_right (by simpa using hj),List.getElem?_replicate]at e
    split at e
    .cases e;exact .inl rfl
    .cases e
 refine⟨_,(hbody cdv A outer s0 H (A4 a H) Ha a E hr).o,Ha,.pt a::ds.map Sl.sh++List.replicate (N.length-(ds.length+1)) .no,sl,us0,⟨de,h0,hl,hst,?_⟩,?_⟩
 .refine⟨⟨λb o e=>?_,aB.refl _,hs,λb h1 h2=>absurd h2 h1⟩,λi d e=>?_,λi d e=>?_,λi j d d' hij e=>?_,?_,⟨λi j es e=>?_,λi b e=>?_⟩⟩
  .by_cases c:b=a
   .subst c;rw[aI]at e;cases e;exact hl
   .rw[az c,fb c]at e;exact e
  .rcases hρ0 i _ e with h|⟨_,h⟩|⟨j,d',rfl,hd,h⟩
   .cases h
   .cases h
   .cases h
    obtain⟨v,h1,h2⟩:=hv.get hd;refine⟨v,?_,h2⟩;rw[hσ,List.getElem?_cons_succ,List.getElem?_append_left (by rw[List.length_map];exact(List.getElem?_eq_some_iff.mp h1).1),List.getElem?_map,h1];rfl
  .rcases hρ0 i _ e with h|⟨_,h⟩|⟨j,d',rfl,hd,h⟩<;>cases h
  .rcases hρ0 i _ e with h|⟨_,h⟩|⟨j,d',rfl,hd,h⟩<;>cases h
  .rw[hσ]
   simp only[List.length_cons,List.length_append,List.length_map,List.length_replicate];omega
  .rcases hρ0 i _ e with h|⟨_,h⟩|⟨j,d',rfl,hd,h⟩<;>cases h
  .rcases hρ0 i _ e with h|⟨rfl,h⟩|⟨j,d',rfl,hd,h⟩
   .cases h
   .cases h;rw[hσ];rfl
   .cases h
 .unfold rl at q
  cases e1:s a (.pt a::ds.map Sl.sh++List.replicate (N.length-(ds.length+1)) .no) sl with
  |stuck|exn x=>rw[e1]at q;exact q
  |ok r=>
   rw[e1]at q;cases r with
   |nx ρ' st'=>exact λσ' H' Ha' us z h'=>q .non H' Ha' us ⟨λb o e=>h'.s.g.s _ _ (by rw[az (by intro c;subst c;rw[de]at e;cases e)];exact e),h'.s.g.z,h'.s.g.sub,λb h1 h2=>by
      have:=h'.s.g.nw b h1 h2
      by_cases c:b=a
      .subst c;exact de
      .rw[az c]at this;exact this⟩ h'.n0 h'.hl h'.r (aO.mpr rfl)
   |rt d st'=>exact λv H' Ha' z o rp=>let ⟨us,l1,l2⟩:=o.l;q v H' Ha' us o.g o.n l1 l2 rp
   |bk ρ' st'|ct ρ' st'=>exact q.elim
section
variable {K:W.Frag}{He H0e Ha H:Hp}{σ:L2.St}{ρ:Ev}
def cY.enter(h:cY K He H0e Ha σ H ρ)(hi:i<ρ.length)(he:He p=none)(h0:Ha p=none)(hl:H p=some (.lst vs))(r:Reps K Ha ds vs)
  (ho:∀(j:Nat) (d:D) (q:Addr),ρ[j]?=some (.ow d)->σ[j]?=some (some (.ref q))->q≠p)(hx:∀(j k:Nat) (es:ac),ρ[j]?≠some (.ox k es)):eX K He H0e Ha (σ.set i (some (.ref p))) H (ρ.set i (.pt p)) p ds vs:=by
 have key:∀(j:Nat) (s:Sl),(ρ.set i (.pt p))[j]?=some s->(j=i/\s=.pt p)∨(j≠i/\ρ[j]?=some s):=λj s e=>by
  by_cases hj:i=j
  .subst hj;rw[List.getElem?_set_self hi]at e;cases e;exact .inl ⟨rfl,rfl⟩
  .rw[List.getElem?_set_ne hj]at e;exact .inr ⟨λz=>hj z.symm,e⟩
 have h0e:H0e p=none:=h.g.z.free h0;refine⟨he,h0e,hl,r,⟨⟨λb o e=>?_,h.g.z,h.g.sub,λb h1 h2=>?_⟩,λj d e=>?_,λj d e=>?_,λj k d d' hn e1 e2=>?_,by simp[h.ln],⟨λj k es e=>?_,λj b e=>?_⟩⟩⟩
 .by_cases c:b=p
  .subst c;rw[aI]at e;cases e;exact hl
  .rw[az c]at e;exact h.g.s _ _ e
 .have c:b≠p:=by intro c;subst c;exact h1 h0
  rw[az c];exact h.g.nw b h1 h2
 .rcases key j _ e with⟨_,e'⟩|⟨hj,e'⟩
  .cases e'
  .obtain⟨v,h1,h2⟩:=h.rd j d e'
   exact⟨v,by rw[List.getElem?_set_ne (Ne.symm hj)];exact h1,h2⟩
 .rcases key j _ e with⟨_,e'⟩|⟨hj,e'⟩
  .cases e'
  .obtain⟨q,h1,h2,h3,h4⟩:=h.ow j d e'
   exact⟨q,by rw[List.getElem?_set_ne (Ne.symm hj)];exact h1,by rw[az (ho j d q e' h1)];exact h2,h3,h4⟩
 .rcases key j _ e1 with⟨_,e'⟩|⟨hj,e1'⟩
  .cases e'
  rcases key k _ e2 with⟨_,e'⟩|⟨hk,e2'⟩
  .cases e'
  rw[List.getElem?_set_ne (Ne.symm hj),List.getElem?_set_ne (Ne.symm hk)];exact h.ap j k d d' hn e1' e2'
 .rcases key j _ e with⟨_,e'⟩|⟨hj,e'⟩
  .cases e'
  .exact absurd e' (hx j k es)
 .rcases key j _ e with⟨rfl,e'⟩|⟨hj,e'⟩
  .cases e'
   rw[List.getElem?_set_self (by rw[←h.ln];exact hi)]
  .rw[List.getElem?_set_ne (Ne.symm hj)];exact h.ex.2 j b e'
def uD(i:Nat)(ρ:Ev):Ev:=ρ.take i++List.replicate (ρ.length-i) .no
def DH:(uD i ρ).length=ρ.length:=by
 unfold uD;rw[List.length_append,List.length_take,List.length_replicate];omega
def FQ{j:Nat}(e:(uD i ρ)[j]?=some s):s=.no∨ρ[j]?=some s:=by
 unfold uD at e
 by_cases hj:j<(ρ.take i).length
 .rw[List.getElem?_append_left hj]at e
  rw[List.getElem?_take]at e;split at e
  .exact .inr e
  .cases e
 .rw[List.getElem?_append_right (by omega),List.getElem?_replicate]at e
  split at e
  .cases e;exact .inl rfl
  .cases e
def eX.leave{st:ac}(h:eX K He H0e Ha σ H ρ a st vs)(i:Nat):cY K He H0e Ha σ H (uD i ρ):=by
 have hn:∀b,upd He a (.lst vs) b=none->He b=none:=λb e=>by
  by_cases c:b=a
  .subst c;exact h.ha
  .rw[az c]at e;exact e
 have key:∀(j:Nat) (s:Sl),(uD i ρ)[j]?=some s->s=.no∨ρ[j]?=some s:=λj s e=>FQ e;refine⟨⟨λb o e=>h.s.g.s _ _ (by rw[az (by intro c;subst c;rw[h.ha]at e;cases e)];exact e),h.s.g.z,h.s.g.sub,λb h1 h2=>hn b (h.s.g.nw b h1 h2)⟩,λj d e=>?_,λj d e=>?_,λj k d d' hij e1 e2=>?_,by rw[DH];exact h.s.ln,(h.s.ex.he hn).upd (λj s e=>?_) (aB.refl _) (λ_ _ _ e=>e) λp us _ q0 hq _=>⟨hq,q0⟩⟩
 .rcases key j _ e with h'|h'
  .cases h'
  .exact h.s.rd j d h'
 .rcases key j _ e with h'|h'
  .cases h'
  .obtain⟨q,h1,h2,h3⟩:=h.s.ow j d h'
   exact⟨q,h1,hn q h2,h3⟩
 .rcases key j _ e1 with h'|h'
  .cases h'
  rcases key k _ e2 with h''|h''
  .cases h''
  exact h.s.ap j k d d' hij h' h''
 .rcases key j _ e with h'|h'
  .exact .inr (.inr (.inl h'))
  .exact .inl ⟨h',rfl⟩
end
open Classical in
noncomputable def xF(F:Addr->aj Fl):aj Fl:=if h:∃r,∀a,F a=r then h.choose else .stuck
def Ff(h:∀a,F a=r):xF F=r:=by
 have hx:∃r,∀a,F a=r:=⟨r,h⟩
 unfold xF;rw[dif_pos hx];exact(hx.choose_spec 0).symm.trans (h 0)
def Fe(h:xF F≠.stuck)(a:Addr):F a=xF F:=by
 unfold xF at h ⊢
 by_cases hx:∃r,∀a,F a=r
 .rw[dif_pos hx];exact hx.choose_spec a
 .rw[dif_neg hx]at h;exact absurd rfl h
def zr(i:Nat)(r:aj cy):aj Fl:=match r with
 |.ok (.nx ρ _)=>.ok (.nx (uD i ρ))
 |.ok (.rt d _)=>.ok (.rt d)
 |.ok (.bk ρ _)=>.ok (.bk (uD i ρ))
 |.ok (.ct ρ _)=>.ok (.ct (uD i ρ))
 |_=>.stuck
def Ke(ρ:Ev):Bool:=ρ.all λs=>match s with
 |.ox _ _=>false
 |_=>true
noncomputable def uq(i:Nat) (s:Addr->Ev->ac->aj cy) (ρ:Ev) (d:D):aj Fl:=match d with
 |.lst ds=>if Ke ρ=true/\i<ρ.length then xF λa=>zr i (s a (ρ.set i (.pt a)) ds) else .stuck
 |_=>.stuck
noncomputable def jX(i:Nat) (f:al) (s:Addr->Ev->ac->aj cy):am:=λρ=>(f ρ).bind (uq i s ρ)
section
variable {X:Cx}{E:XK}{He H0e:Hp}{st:Stmt}{rest:List Stmt}{e:Expr}{es:List Expr}{pos:Pos}{f:al}{s:Addr->Ev->ac->aj cy}
def A5(hN:X.N.Nodup)(hi:X.N[i]?=some x)(hx:Af X.env.scope x)(he:DF X E e f)(hr:∀a,Bs X He H0e a rest (s a))(hs:swapsWith e (some (.Name x pos')) pos.line X.env=pure false:=by rfl)
  (hf:X.fn x=true∨X.env.scope.names.lookup x=some .local := by first|exact .inl rfl|exact .inr rfl|assumption):Bt X E He H0e (.Assign [.Name x pos'] e pos::rest) (jX i f s):=by
 refine⟨?_⟩;have h2:qZ X rest λG σ H=>∃p,La X.K He H0e p (s p) G σ H:=λpins sh σ H G I ⟨p,h⟩=>(hr p).o pins sh σ H G I h;refine cQ (c6 (iM hN hi hx he.o hs hf) h2) λG σ H z9=>?_;obtain⟨Ha,ρ,h,q⟩:=z9;refine⟨Ha,ρ,h.g.sub,h.rd,?_⟩
 unfold jX at q;cases e1:f ρ with
 |stuck=>rw[e1]at q;exact q|exn x=>rw[e1]at q;exact λC ox H' Ha' g ex=>q C ox H' Ha' (h.g.trans g) ex
 |ok d=>
  rw[e1]at q;replace q:bV X.K E He H0e Ha (uq i s ρ d) G:=q;unfold uq at q;cases d with
  |lst ds=>
   simp only at q
   by_cases hc:Ke ρ=true/\i<ρ.length
   .rw[if_pos hc]at q
    intro p vs H' Ha' g hp h0 hv rp;have hg:=h.grow g;have hnx:∀(j k:Nat) (es:ac),ρ[j]?≠some (.ox k es):=λj k es e=>by
     have:=List.all_eq_true.mp hc.1 _ (List.mem_of_getElem? e);cases this
    have hm:=hg.enter (i:=i) (p:=p) (ds:=ds) (vs:=vs) hc.2 (h.g.s.free hp) h0 hv rp (λj d q' ej es'=>by
     obtain⟨q2,k1,_,_,k4⟩:=h.ow j d ej;rw[es']at k1;cases k1;cases d with
     |lst ds'|dic ks' ds'=>obtain⟨ws,k5,_⟩:=k4;intro c;subst c;rw[hp]at k5;cases k5
     |_=>exact k4.elim) hnx
    have hns:xF (λa=>zr i (s a (ρ.set i (.pt a)) ds))≠.stuck:=λz=>by rw[z]at q;exact q
    have hF:=Fe hns p;rw[←hF]at q;refine⟨p,Ha',_,ds,vs,hm,?_⟩;replace q:=bV.grow q g.z;unfold zr at q;cases e2:s p (ρ.set i (.pt p)) ds with
    |stuck=>rw[e2]at q;exact q|exn x=>rw[e2]at q;exact q.elim
    |ok r=>
     rw[e2]at q;cases r with|nx ρ' st'=>exact λσ' H2 H02 us z h'=>q σ' H2 H02 z (h'.leave i)|rt d st'=>exact λv H2 H02 z o rp=>q v H2 H02 o.g rp|bk ρ' st'=>exact λσ' H2 H02 us z h'=>q σ' H2 H02 z (h'.leave i)|ct ρ' st'=>exact λσ' H2 H02 us z h'=>q σ' H2 H02 z (h'.leave i)
   .rw[if_neg hc]at q;exact q.elim
  |_=>exact q.elim
end
noncomputable def MU(K:W.Frag) (He H0e:Hp) (a:Addr) (src:Ev->ac->aj (ac×ac)):TI:=λσ H R=>∃Ha ρ st vs,eX K He H0e Ha σ H ρ a st vs/\match src ρ st with
 |.ok (ds,st')=>∀J H' Ha' us,aB Ha Ha'->eX K He H0e Ha' σ H' ρ a st' us->Jd K ds J Ha'->R J H'
 |.exn _=>False
 |.stuck=>False
structure MI (X:Cx) (He H0e:Hp) (a:Addr) (tg iter:Expr) (src:Ev->ac->aj (ac×ac)):Prop where
 o:PI X tg iter (MU X.K He H0e a src)
def AO(src:Ev->aj (ac)):Ev->ac->aj (ac×ac):=λρ st=>(src ρ).bind λds=>.ok (ds,st)
def ud(p:D×ac):aj (ac×ac):=match p.1 with
 |.int j=>if -4611686018427387904<=j/\j<4611686018427387904 then .ok (intsFrom 0 j.toNat,p.2) else .stuck
 |_=>.stuck
def y9(f:Ev->ac->aj (D×ac)):Ev->ac->aj (ac×ac):=λρ st=>(f ρ st).bind ud
section
variable {X:Cx}{E:XK}{He H0e:Hp}{a:Addr}{st:Stmt}{e l b tgt iter:Expr}{rest es:List Expr}{pos:Pos}{f:al}{fm gm:Ev->ac->aj (D×ac)}{fa:Ev->ac->aj (ac×ac)}{s t:Ev->ac->aj cy}
def uc(h:DI X E tgt iter src):MI X He H0e a tgt iter (AO src):=⟨gY h.o λσ H R ⟨Ha,ρ,st,vs,h,q⟩=>⟨Ha,ρ,h.s.g.sub,h.s.rd,by
 unfold AO at q;cases e1:src ρ with
 |stuck=>rw[e1]at q;exact q|exn x=>rw[e1]at q;exact q.elim
 |ok ds=>
  rw[e1]at q;exact λJ H' Ha' g it=>q J H' Ha' vs g.z (h.back g.z (h.s.grow g)) it⟩⟩
def AM(hgl:Gl X "range")(hm:X.mg "range"=none)(hi:DM X He H0e a iter fm)(hst:starEach [iter] X.env=[(false,eval iter X.env)]:=by exact fE rfl):MI X He H0e a tgt (.Call (.Name "range" p) [iter] [] pos2) (y9 fm):=by
 refine⟨gY (mq hgl hm (dM hi.o gr hst) hst) λσ H R z9=>?_⟩;obtain⟨Ha,ρ,st,vs,h,q⟩:=z9;refine⟨Ha,ρ,st,vs,h,?_⟩;unfold y9 at q;cases e1:fm ρ st with
 |stuck|exn x=>rw[e1]at q;exact q
 |ok pr=>
  obtain⟨d,s1⟩:=pr;rw[e1]at q;intro v H1 H01 us z h1 r1;cases d with
  |int j=>
   rw[aw.mp r1];replace q:match (if -4611686018427387904<=j/\j<4611686018427387904 then aj.ok (intsFrom 0 j.toNat,s1) else .stuck) with
    |.ok (ds,st')=>∀J H' Ha' us,aB Ha Ha'->eX X.K He H0e Ha' σ H' ρ a st' us->Jd X.K ds J Ha'->R J H'
    |.exn _=>False
    |.stuck=>False:=q
   by_cases hj:-4611686018427387904<=j/\j<4611686018427387904
   .rw[if_pos hj]at q
    exact⟨j,rfl,hj.1,hj.2,q _ H1 H01 us z h1 su⟩
   .rw[if_neg hj]at q;exact q.elim
  |_=>exact q.elim
def md.step2{K:W.Frag}{st:ac}(z:aB Hb Ha)(h:eX K He H0e Ha σ H ρ a st vs)(q:cZ K He H0e a Ha (forM tg s (ds.drop i) ρ st) D')(hd:ds[i]?=some d)(rv:Rep K Ha d v)
  (he:∀ρ,tg ρ d=.stuck∨∃ρ',tg ρ d=.ok ρ') :
  LD K He H0e a tg v σ H λσ2 H2=>La K He H0e a s { D' with nx:=md K He H0e a Hb tg s ds D' (i+1),ct:=md K He H0e a Hb tg s ds D' (i+1),bk:=D'.nx } σ2 H2:=by
 have hi:i<ds.length:=(List.getElem?_eq_some_iff.mp hd).1;have hdr:ds.drop i=d::ds.drop (i+1):=by
  rw[List.drop_eq_getElem_cons hi];rw[List.getElem?_eq_getElem hi]at hd;cases hd;rfl
 rw[hdr]at q;refine⟨Ha,ρ,st,vs,d,h,rv,?_⟩;unfold forM at q;rcases he ρ with e1|⟨ρ1,e1⟩
 .rw[e1]at q;exact q.elim
 .rw[e1]at q ⊢
  intro σ' H' Ha' z' h';refine⟨Ha',ρ1,st,vs,h',?_⟩;replace q:=cZ.grow (r:=(s ρ1 st).bind λx=>match x with
   |.nx ρ2 s2=>forM tg s (ds.drop (i+1)) ρ2 s2
   |.ct ρ2 s2=>forM tg s (ds.drop (i+1)) ρ2 s2
   |.bk ρ2 s2=>.ok (.nx ρ2 s2)
   |.rt d s=>.ok (.rt d s)) q z'
  cases e2:s ρ1 st with
  |stuck|exn x=>rw[e2]at q;exact q
  |ok r=>
   rw[e2]at q;cases r with|nx ρ2 s2=>exact λσ3 H3 H03 vs3 z3 h3=>⟨H03,ρ2,s2,vs3,(z.trans z').trans z3,h3,cZ.grow (r:=forM tg s (ds.drop (i+1)) ρ2 s2) q z3⟩|ct ρ2 s2=>exact λσ3 H3 H03 vs3 z3 h3=>⟨H03,ρ2,s2,vs3,(z.trans z').trans z3,h3,cZ.grow (r:=forM tg s (ds.drop (i+1)) ρ2 s2) q z3⟩|bk ρ2 s2|rt d s2=>exact q
def rZ(src:Ev->ac->aj (ac×ac))(tg:Ev->D->aj Ev)(s:Ev->ac->aj cy):Ev->ac->aj cy:=λρ st=>(src ρ st).bind λp=>forM tg s p.1 ρ p.2
def tO(hp:PassesOwn (model X.prog X.w) X.A X.env X.xe)(hc:X.calm=true)(hi:MI X He H0e a tgt iter src)(hg:∀vs,DG X E (upd He a (.lst vs)) H0e tgt tg)(ht:tE tg)(hb:Bs X He H0e a body s)
  (hs:∀x,foldedSetIterable iter X.env x=pure x:=by intro _;rfl):SM X He H0e a (.For tgt iter body [] pos) (rZ src tg s):=by
 refine⟨bH (tU hp hc hi.o (J1 hg) hb.o hs) λD' σ H z9=>?_⟩;obtain⟨Ha,ρ,st,vs,h,q⟩:=z9;refine⟨Ha,ρ,st,vs,h,?_⟩;unfold rZ at q;cases e1:src ρ st with
 |stuck|exn x=>rw[e1]at q;exact q
 |ok pr=>
  obtain⟨ds,s1⟩:=pr;rw[e1]at q;intro J H1 H01 us z h1 it;have q1:cZ X.K He H0e a H01 (forM tg s ds ρ s1) D':=cZ.grow (r:=forM tg s ds ρ s1) q z;refine⟨λi m σ' H'=>m+i=ds.length/\md X.K He H0e a H01 tg s ds D' i σ' H',⟨ds.length,rfl,H01,ρ,s1,us,aB.refl _,h1,q1⟩,?_⟩;rintro i m σ' H' ⟨hm,Ha',ρ',st',vs',z',h',hq⟩
  by_cases hlt:i<ds.length
  .refine .inr ⟨it.go i H' Ha' z' h'.s.g.sub hlt,λσ2 H2=>md X.K He H0e a H01 tg s ds D' (i+1) σ2 H2,λσ2 H2 hl=>⟨m-1,by omega,by omega,hl⟩,λx H2 hy=>?_⟩
   obtain⟨H₀2,g2,rp⟩:=it.yld i H' Ha' x H2 ds[i] z' h'.s.g.sub (List.getElem?_eq_getElem hlt) hy;exact md.step2 (z'.trans g2.z) (h'.back g2.z (h'.s.grow g2)) (cZ.grow (r:=forM tg s (ds.drop i) ρ' st') hq g2.z) (List.getElem?_eq_getElem hlt) rp λρ=>ht ρ _
  .have e:i=ds.length:=by omega
   refine .inl ⟨it.stop i H' Ha' z' h'.s.g.sub (by omega),?_⟩;subst e;exact md.done ⟨Ha',ρ',st',vs',z',h',hq⟩
end
def Hq(s:Option Sl):Sl:=match s with
 |some (.sh d)=>.sh d
 |some (.pt b)=>.pt b
 |_=>.no
def eE(n:Nat)(fr:bi)(ρ:Ev):Ev:=List.replicate n .no++fr.map λ(i:Nat)=>Hq ρ[i]?
def gI(b:Ev)(tg:Ev->D->aj Ev)(fm:Ev->ac->aj (D×ac)):ac->ac->aj (ac×ac)
 |[],st=>.ok ([],st)
 |d::r,st=>(tg b d).bind λρ1=>(fm ρ1 st).bind λp=>(gI b tg fm r p.2).bind λq=>.ok (p.1::q.1,q.2)
def qv(b:Ev)(tg:Ev->D->aj Ev)(fm:Ev->ac->aj (D×ac))(p:ac×ac):aj (D×ac):=if p.1.length<=line then(gI b tg fm p.1 p.2).bind λq=>.ok (.lst q.1,q.2) else .stuck
def mZ(n:Nat)(fr:bi)(src:Ev->ac->aj (ac×ac))(tg:Ev->D->aj Ev)(fm:Ev->ac->aj (D×ac)):Ev->ac->aj (D×ac):=λρ st=>(src ρ st).bind (qv (eE n fr ρ) tg fm)
def Bl{fr:bi}:(eE n fr ρ).length=n+fr.length:=by unfold eE;simp
def qK{fr:bi}{k:Nat}(h:k<n):(eE n fr ρ)[k]?=some .no:=by
 unfold eE;rw[List.getElem?_append_left (by simpa using h),List.getElem?_replicate,if_pos h]
def qL{fr:bi}{k:Nat}(h:¬k<n)(e:(eE n fr ρ)[k]?=some s):∃j,fr[k-n]?=some j/\s=Hq ρ[j]?:=by
 unfold eE at e;rw[List.getElem?_append_right (by simpa using h),List.length_replicate,List.getElem?_map]at e;cases hf:fr[k-n]? with|none=>rw[hf]at e;cases e|some j=>rw[hf]at e;cases e;exact⟨j,rfl,rfl⟩
def Hn(h:Sl.sh d=Hq s):s=some (.sh d):=by
 unfold Hq at h;split at h<;>cases h
 rfl
def Ho(h:Sl.pt b=Hq s):s=some (.pt b):=by
 unfold Hq at h;split at h<;>cases h
 rfl
def DP{fr:bi}{k j:Nat}(h:¬k<n)(hf:fr[k-n]?=some j)(hs:σ[j]?=some (some v)):(iB n fr σ)[k]?=some (some v):=by
 unfold iB;rw[List.getElem?_append_right (by simpa using h),List.length_replicate,List.getElem?_map,hf];simp[hs]
def tI{K:W.Frag}{st:ac}(ha:He a=none)(h0:H0e a=none)(hl:H a=some (.lst vs))(r:Reps K Ha st vs)(g:bc (upd He a (.lst vs)) H0e H Ha)(rd:Reads K Ha σ ρ)
  (no:∀(j:Nat) (s:Sl),ρ[j]?=some s->s=.no∨(∃d,s=.sh d)∨∃b,s=.pt b/\σ[j]?=some (some (.ref b)))(ln:ρ.length=σ.length):eX K He H0e Ha σ H ρ a st vs:=by
 refine⟨ha,h0,hl,r,⟨g,rd,λi d e=>?_,λi j d d' _ e=>?_,ln,OX.none (λi j ds e=>?_) λi b e=>?_⟩⟩
 .rcases no i _ e with h|⟨_,h⟩|⟨_,h,_⟩<;>cases h
 .rcases no i _ e with h|⟨_,h⟩|⟨_,h,_⟩<;>cases h
 .rcases no i _ e with h|⟨_,h⟩|⟨_,h,_⟩<;>cases h
 .rcases no i _ e with h|⟨_,h⟩|⟨_,h,h'⟩
  .cases h
  .cases h
  .cases h;exact h'
def CV(K:W.Frag)(a:Addr)(tg:Ev->D->aj Ev):TG:=λv σ H Q=>∃He H0e,LD K He H0e a tg v σ H Q
def BI(K:W.Frag)(a:Addr)(fm:Ev->ac->aj (D×ac)):TE:=λσ H Q=>∃He H0e,tM K He H0e a fm σ H Q
def xX{r st es stF:ac}(h:gI b tg fm (d::r) st=.ok (es,stF)):∃ρ1 y s1 rest,tg b d=.ok ρ1/\fm ρ1 st=.ok (y,s1)/\gI b tg fm r s1=.ok (rest,stF)/\es=y::rest:=by
 unfold gI at h;cases e1:tg b d with
 |stuck|exn x=>rw[e1]at h;cases h
 |ok ρ1=>
  rw[e1]at h;simp only[aj.bind]at h;cases e2:fm ρ1 st with
  |stuck|exn x=>rw[e2]at h;cases h
  |ok p=>
   obtain⟨y,s1⟩:=p;rw[e2]at h;simp only at h;cases e3:gI b tg fm r s1 with
   |stuck|exn x=>rw[e3]at h;cases h
   |ok q=>
    obtain⟨rest,sF⟩:=q;rw[e3]at h;cases h;exact⟨ρ1,y,s1,rest,rfl,e2,e3,rfl⟩
def wH{K:W.Frag}{fr:bi}(h1:eX K He H0e H01 σ H1 ρ a st0 us0)(it:Jd K ds J H01)(hl:ds.length<=line)
  (e2:gI (eE n fr ρ) tg fm ds st0=.ok (es,stF))(hok:yg n tg)
  (q:∀p xs H' Ha' us',bc (A4 a H1) H01 H' Ha'->Ha' a=none->H' a=some (.lst us')->Reps K Ha' stF us'->H1 p=none->Ha' p=none->H' p=some (.lst xs)->Reps K Ha' es xs->Q (.ref p) H') :
  oo n fr (CV K a tg) BH (BI K a fm) J σ H1 Q:=by
 intro Da hDa;have h0D:H01 Da=none:=h1.s.g.sub.free hDa;have aD:a≠Da:=λz=>by have:=h1.hl;rw[z,hDa]at this;cases this
 have nob:∀{σ':L2.St}(_:∀(k:Nat),¬k<n->∀b,(eE n fr ρ)[k]?=some (.pt b)->σ'[k]?=some (some (.ref b))) (j:Nat) (s:Sl),(eE n fr ρ)[j]?=some s->s=.no∨(∃d,s=.sh d)∨∃b,s=.pt b/\σ'[j]?=some (some (.ref b)):=λ{σ'} hp j s e=>by
  by_cases hj:j<n
  .rw[qK hj]at e;cases e;exact .inl rfl
  .obtain⟨i,_,hs⟩:=qL hj e
   cases s with
   |no=>exact .inl rfl|sh d=>exact .inr (.inl ⟨d,rfl⟩)|pt b=>exact .inr (.inr ⟨b,rfl,hp j hj b e⟩)
   |_=>unfold Hq at hs;split at hs<;>cases hs
 refine⟨λi m ys σ' H'=>m=ds.length-i/\i<=ds.length/\∃Ha' st' us' es1 rest,eX K (upd (A4 a H1) Da (.lst ys)) H01 Ha' σ' H' (eE n fr ρ) a st' us'/\Reps K Ha' es1 ys/\es1.length=i/\gI (eE n fr ρ) tg fm (ds.drop i) st'=.ok (rest,stF)/\es=es1++rest,
  ⟨ds.length,by simp,Nat.zero_le _,H01,st0,us0,[],es,?_,Reps.nil,rfl,by rw[List.drop_zero];exact e2,rfl⟩,?_⟩
 .refine tI (by rw[az aD];exact de) h1.n0 (by rw[az aD];exact h1.hl) h1.r ⟨λb o e=>?_,aB.refl _,λb o e=>?_,λb k1 k2=>absurd k2 k1⟩ (λk d e=>?_) (nob λk hk b e=>?_) (by unfold iB;rw[Bl];simp)
  .by_cases c:b=a
   .subst c;rw[aI]at e;cases e;rw[az aD];exact h1.hl
   .rw[az c]at e
    by_cases c2:b=Da
    .subst c2;rw[aI]at e ⊢;exact e
    .rw[az c2]at e ⊢;rw[fb c]at e;exact e
  .rw[az (by intro z;subst z;rw[h0D]at e;cases e)];exact h1.s.g.sub _ _ e
  .by_cases hk:k<n
   .rw[qK hk]at e;cases e
   .obtain⟨j,hf,hs⟩:=qL hk e
    obtain⟨v,k1,k2⟩:=h1.s.rd j d (Hn hs);exact⟨v,DP hk hf k1,k2⟩
  .obtain⟨j,hf,hs⟩:=qL hk e
   exact DP hk hf (h1.s.ex.2 j b (Ho hs))
 .rintro i m ys σ' H' ⟨rfl,hile,Ha',st',us',es1,rest,h',hys,hle,hco,hes⟩
  have hDl:H' Da=some (.lst ys):=h'.s.g.s _ _ (by rw[az (Ne.symm aD),aI]);refine⟨hDl,?_⟩
  by_cases hlt:i<ds.length
  .refine .inr ⟨it.go i H' Ha' h'.s.g.z h'.s.g.sub hlt,?_,?_⟩
   .rw[←hys.length,hle]
    have h2:line<sizeLine:=by decide
    omega
   .intro x H2 hy
    obtain⟨H₀2,g2,rp⟩:=it.yld i H' Ha' x H2 ds[i] h'.s.g.z h'.s.g.sub (List.getElem?_eq_getElem hlt) hy;have hm2:=h'.back g2.z (h'.s.grow g2);rw[List.drop_eq_getElem_cons hlt]at hco;obtain⟨ρ1,y,s1,rest',t1,t2,t3,t4⟩:=xX hco;refine⟨_,_,H₀2,eE n fr ρ,st',us',ds[i],hm2,rp,?_⟩;rw[t1];intro σ3 H3 H03 z3 h3;unfold BH;dsimp only;rw[if_pos rfl];refine⟨_,_,H03,ρ1,st',us',h3,?_⟩;rw[t2];intro yv H5 H05 us5 z5 h5 ry;have hD5:H5 Da=some (.lst ys):=h5.s.g.s _ _ (by rw[az (Ne.symm aD),aI]);have n5:H05 Da=none:=by
     cases qq:H05 Da with|none=>rfl|some o=>have:=h5.s.g.nw Da (by rw[qq];simp) h0D;rw[az (Ne.symm aD),aI]at this;cases this
    have hrl:=hok _ _ _ t1;refine⟨hD5,ds.length-(i+1),by omega,rfl,hlt,H05,s1,us5,es1++[y],rest',?_,(hys.mono ((g2.z.trans z3).trans z5)).app (Reps.cons ry Reps.nil),by simp[hle],t3,by rw[hes,t4];simp⟩;refine tI (by rw[az aD];exact de) h1.n0 (by rw[az aD];exact h5.hl) h5.r ⟨λb o e=>?_,h5.s.g.z,λb o e=>?_,λb k1 k2=>?_⟩ (λk d e=>?_) (nob λk hk b e=>?_) (by rw[←h5.s.ln,hrl.1])
    .by_cases c:b=a
     .subst c;rw[aI]at e;cases e;rw[az aD];exact h5.hl
     .rw[az c]at e
      by_cases c2:b=Da
      .subst c2;rw[aI]at e ⊢;exact e
      .rw[az c2]at e ⊢
       exact h5.s.g.s _ _ (by rw[az c,az c2];exact e)
    .rw[az (by intro z;subst z;rw[n5]at e;cases e)];exact h5.s.g.sub _ _ e
    .have:=h5.s.g.nw b k1 k2
     by_cases c:b=a
     .subst c;rw[aI]at this;cases this
     .rw[az c]at this ⊢
      by_cases c2:b=Da
      .subst c2;rw[aI]at this;cases this
      .rw[az c2]at this ⊢;exact this
    .by_cases hk:k<n
     .rw[qK hk]at e;cases e
     .rw[←hrl.2 k (by omega)]at e
      exact h5.s.rd k d e
    .rw[←hrl.2 k (by omega)]at e
     exact h5.s.ex.2 k b e
  .have hi2:i=ds.length:=by omega
   refine .inl ⟨it.stop i H' Ha' h'.s.g.z h'.s.g.sub (by omega),?_⟩;rw[hi2,List.drop_length]at hco;cases hco;rw[List.append_nil]at hes;subst hes;refine q Da ys H' Ha' us' ⟨λb o e=>?_,h'.s.g.z,h'.s.g.sub,λb k1 k2=>?_⟩ h'.n0 h'.hl h'.r hDa ?_ hDl hys
   .have c:b≠a:=by intro c;subst c;rw[de]at e;cases e
    have c2:b≠Da:=by intro c2;subst c2;rw[fb c,hDa]at e;cases e
    exact h'.s.g.s _ _ (by rw[az c,az c2];exact e)
   .have:=h'.s.g.nw b k1 k2
    by_cases c:b=a
    .subst c;exact de
    .rw[az c]at this
     by_cases c2:b=Da
     .subst c2;rw[aI]at this;cases this
     .rw[az c2]at this;exact this
   .cases qq:Ha' Da with
    |none=>rfl
    |some o=>have:=h'.s.g.nw Da (by rw[qq];simp) h0D;rw[az (Ne.symm aD),aI]at this;cases this
noncomputable def Lz(K:W.Frag) (He H0e:Hp) (a:Addr) (f:Ev->ac->aj (D×ac)):TE:=λσ H Q=>∃Ha ρ st vs,eX K He H0e Ha σ H ρ a st vs/\match f ρ st with
 |.ok (.lst ds,st')=>∀p xs H1 H01 st1 us1 H' Ha' us,aB Ha H01->eX K He H0e H01 σ H1 ρ a st1 us1->bc (A4 a H1) H01 H' Ha'->Ha' a=none->H' a=some (.lst us)->Reps K Ha' st' us->H1 p=none->Ha' p=none->H' p=some (.lst xs)->Reps K Ha' ds xs->Q (.ref p) H'
 |.ok _=>False
 |.exn _=>False
 |.stuck=>False
structure Mb (X:Cx) (He H0e:Hp) (a:Addr) (e:Expr) (f:Ev->ac->aj (D×ac)):Prop where
 ev:PE X e (Lz X.K He H0e a f)
 st:∀{i:Nat}{x:Str}{pos' spos:Pos},X.N.Nodup->X.N[i]?=some x->X.env.scope.names.lookup x=some .local -> swapsWith e (some (.Name x pos')) spos.line X.env=pure true->PS X (.Assign [.Name x pos'] e spos) (Ez (Lz X.K He H0e a f) (zo i))
def M3(N:List Str)(n:Nat)(fr:bi)(hc:X.calm=true)(hi:MI X He H0e a tgt iter src)(hok:yg n tg)
  (blk:∀s H C fp pn,(∀He H0e,DG (cz X N scope s H C fp pn) E He H0e tgt tg)/\∀He H0e,DM (cz X N scope s H C fp pn) He H0e a elt fm)
  (hfr:ym X N n fr scope)(hcell:∀x∈scope.names,x.2≠.cell)(hfree:∀x∈scope.names,x.2=.free->X.env.scope.names.lookup x.1=some .cell)(hkind:scope.kind=.function)(hnames:∀x∈scope.names,x.2=.local -> scope.names.lookup x.1=some .local)
  (hs:∀x,foldedSetIterable iter X.env x=pure x:=by intro _;rfl):Mb X He H0e a (.ListComp elt [⟨tgt,iter,[],0⟩] scope pos) (mZ n fr src tg fm):=by
 have blk':∀s H C fp pn,PG (cz X N scope s H C fp pn) tgt (CV X.K a tg)/\Jq (cz X N scope s H C fp pn) [] BH/\PE (cz X N scope s H C fp pn) elt (BI X.K a fm):=λs H C fp pn=>
  ⟨λpins s' σ' H' v u Q' I r ⟨He,H0e,q'⟩=>(J1 (X:=cz X N scope s H C fp pn) λvs=>(blk s H C fp pn).1 _ _) pins s' σ' H' v u Q' I r q',yL,λpins s' σ' H' Q' I ⟨He,H0e,q'⟩=>((blk s H C fp pn).2 He H0e).o pins s' σ' H' Q' I q'⟩
 have first:∀{pins:List (Addr×Obj)}{s:Shared}{σ:L2.St}{H:Hp}{Q:VK}{RR:Value->Addr->Result->Shared->Prop},L2.Inv X pins σ H s->Lz X.K He H0e a (mZ n fr src tg fm) σ H Q ->
   (∀(Da C:Addr) (s6:Shared) (H5:Hp) (m:Str->Option Value),L2.Inv X pins σ H5 s6->s6.heap.Ns C m->me X pins H5 C->Q (.ref Da) H5->RR (.ref Da) C (.ok .next) s6) ->
   wpAny (model X.prog X.w) X.A (eval iter X.env) (λx sg=>wpAny (model X.prog X.w) X.A (pyIter x) (λit si=>wpAny (model X.prog X.w) X.A (newList []) (λacc sj=>
    wpAny (model X.prog X.w) X.A (newFunctionEnv scope X.env.globals (fQ X.env.cells scope.names []) [] X.env.qual none .none (some X.env)) (λcenv sk=>
     codeAny (model X.prog X.w) X.A (.compStart (.ListComp elt [⟨tgt,iter,[],0⟩] scope pos) 0 it acc { cenv with scope:=relabel scope X.env }) (RR acc cenv.locals) sk) X.xe sj) X.xe si) X.xe sg) X.xe s:=by
  intro pins s σ H Q RR I ⟨Ha,ρ,st,vs,h,q⟩ fin;refine cC (hi.o pins s σ H (λJ H1=>oo n fr (CV X.K a tg) BH (BI X.K a fm) J σ H1 Q) I ⟨Ha,ρ,st,vs,h,?_⟩) λv s1 h1=>cC h1 λitv s2 h2=>sR (N:=N) hc hfr hcell hfree hkind blk' h2 fin;unfold mZ at q;cases e1:src ρ st with
  |stuck|exn x=>rw[e1]at q;exact q
  |ok pr=>
   obtain⟨ds,st1⟩:=pr;rw[e1]at q;intro J H1 H01 us z h1 it;replace q:match (if ds.length<=line then(gI (eE n fr ρ) tg fm ds st1).bind λq=>aj.ok (D.lst q.1,q.2) else .stuck) with
    |.ok (.lst ds,st')=>∀p xs H1 H01 st1 us1 H' Ha' us,aB Ha H01->eX X.K He H0e H01 σ H1 ρ a st1 us1->bc (A4 a H1) H01 H' Ha'->Ha' a=none->H' a=some (.lst us)->Reps X.K Ha' st' us->H1 p=none->Ha' p=none->H' p=some (.lst xs)->Reps X.K Ha' ds xs->Q (.ref p) H'
    |.ok _=>False
    |.exn _=>False
    |.stuck=>False:=q
   by_cases hl:ds.length<=line
   .rw[if_pos hl]at q
    cases e2:gI (eE n fr ρ) tg fm ds st1 with
    |stuck|exn x=>rw[e2]at q;exact q.elim
    |ok pr2=>
     obtain⟨es,stF⟩:=pr2;rw[e2]at q;exact wH h1 it hl e2 hok λp xs H' Ha' us' g n' hl' r' hp h0 hv rp=>q p xs H1 H01 st1 us H' Ha' us' z h1 g n' hl' r' hp h0 hv rp
   .rw[if_neg hl]at q;exact q.elim
 have hcl:∀{pins:List (Addr×Obj)}{s:Shared}{σ:L2.St}{H:Hp},L2.Inv X pins σ H s->closureFor scope X.env=pure (fQ X.env.cells scope.names []):=λ{pins s σ H} I=>jP λy hy hf=>I.ok.has y.1 (.inl (hfree y hy hf));refine⟨λpins s σ H Q I h=>?_,λ{i x pos' spos} hN hi' hx hsw pins s σ H D' I h=>?_⟩
 .rw[eval_ListComp]
  refine wpAny_comprehension_free (use:=none) rfl hs (hcl I) hkind hnames (first (RR:=λacc C=>compPost (model X.prog X.w) X.A X.xe none (EP X pins σ Q) acc C) I h λDa C s6 H5 m I6 ns fC q=>?_);refine⟨m,ns,λh' sb=>⟨.ref Da,H5,?_,rfl,q⟩⟩;exact I6.turned (t':=s6.toks) (it:=C) (λb o hb e=>(sb.2 b hb).trans e) fC.1 fC.2.1 fC.2.2.2.1 fC.2.2.2.2.1 fC.2.2.2.2.2
 .rw[exec_Assign_Name_used _ _ _ _ hsw]
  refine wpAny_bind (wpAny_standAt (wpAny_bind ?_));show wpAny _ X.A (do let _ ←comprehension (.ListComp elt [⟨tgt,iter,[],0⟩] scope pos) scope X.env _ (newList []) false (eval iter X.env) (some (assign (.Name x pos') X.env))) _ _ s;refine wpAny_bind (wpAny_mono (wpAny_comprehension_free (use:=some (assign (.Name x pos') X.env)) (Q:=λ_ s'=>SP X pins D' .next s') rfl hs (hcl I) hkind hnames
   (first (RR:=λacc C=>compPost (model X.prog X.w) X.A X.xe (some (assign (.Name x pos') X.env)) (λ_ s'=>SP X pins D' .next s') acc C) I h λDa C s6 H5 m I6 ns fC q=>?_)) (λ_ s' hq=>wpAny_pure (wpAny_pure hq)) λ_ _ e=>e)
  show wpAny _ X.A (assign (.Name x pos') X.env (.ref Da)) _ _ _;refine wpAny_assign_Name (ml (v:=.ref Da) I6 hN hi' (.inl hx) rfl (λs' I' z9=>?_) (.inr hx));obtain⟨a,sb,ha⟩:=z9;have hCa:C≠a:=by
   rcases ha with rfl|ha
   .exact fC.2.1
   .exact λz=>fC.2.2.2.2.1 x a ha z.symm
  refine⟨m,ns.sameBut sb hCa,λh' sb'=>⟨_,H5,?_,q⟩⟩;exact I'.turned (t':=s'.toks) (it:=C) (λb o hb e=>(sb'.2 b hb).trans e) fC.1 fC.2.1 fC.2.2.2.1 fC.2.2.2.2.1 fC.2.2.2.2.2
def xW{fr:bi}:∀ρ st d s',mZ n fr src tg fm ρ st=.ok (d,s')->∃ds,d=.lst ds:=λρ st d s' h=>by
 unfold mZ at h;cases e1:src ρ st with
 |stuck|exn x=>rw[e1]at h;cases h
 |ok pr=>
  rw[e1]at h;simp only[aj.bind,qv]at h
  by_cases hl:pr.1.length<=line
  .rw[if_pos hl]at h
   cases e2:gI (eE n fr ρ) tg fm pr.1 pr.2 with|stuck|exn x=>rw[e2]at h;cases h|ok q=>rw[e2]at h;cases h;exact⟨_,rfl⟩
  .rw[if_neg hl]at h;cases h
def eX.addL{K:W.Frag}(h1:eX K He H0e H01 σ H1 ρ a st1 us1)(g:bc (A4 a H1) H01 H' Ha')(n:Ha' a=none)(hl:H' a=some (.lst us))(r:Reps K Ha' st' us)(hp:H1 p=none)(h0:Ha' p=none)(hv:H' p=some (.lst xs))(rp:Reps K Ha' ds xs) :
  aB H01 (upd Ha' p (.lst xs))/\eX K He H0e (upd Ha' p (.lst xs)) σ H' ρ a st' us/\Rep K (upd Ha' p (.lst xs)) (.lst ds) (.ref p):=by
 have pa:a≠p:=λz=>by have:=h1.hl;rw[z,hp]at this;cases this
 have z:aB Ha' (upd Ha' p (.lst xs)):=λb o e=>by rw[az (by intro z;subst z;rw[h0]at e;cases e)];exact e
 have g':bc (A4 a H1) H01 H' (upd Ha' p (.lst xs)):=⟨g.s,g.z.trans z,λb o e=>by
  by_cases c:b=p
  .subst c;rw[aI]at e;cases e;exact hv
  .rw[az c]at e;exact g.sub _ _ e,λb k1 k2=>by
  by_cases c:b=p
  .subst c;rw[fb (Ne.symm pa)];exact hp
  .rw[az c]at k1;exact g.nw b k1 k2⟩
 exact⟨g'.z,h1.change g' (by rw[az pa];exact n) hl (r.mono z),aE.mpr ⟨p,xs,rfl,eN.of aI,rp.mono z⟩⟩
section
variable {X:Cx}{E:XK}{He H0e:Hp}{a:Addr}{e:Expr}{pos:Pos}{fm:Ev->ac->aj (D×ac)}
def EE(hN:X.N.Nodup)(hi:X.N[i]?=some x)(hx:X.env.scope.names.lookup x=some .local)(h:Mb X He H0e a e fm)(ho:∀ρ st d s',fm ρ st=.ok (d,s')->∃ds,d=.lst ds)(hs:swapsWith e (some (.Name x pos')) pos.line X.env=pure true:=by rfl):SM X He H0e a (.Assign [.Name x pos'] e pos) (d8 i fm):=by
 refine⟨bH (h.st hN hi hx hs) λD' σ H z9=>?_⟩;obtain⟨Ha,ρ,st,vs,h,q⟩:=z9;refine⟨Ha,ρ,st,vs,h,?_⟩;unfold d8 at q;cases e1:fm ρ st with
 |stuck|exn x=>rw[e1]at q;exact q
 |ok pr=>
  obtain⟨d,s1⟩:=pr;obtain⟨ds,rfl⟩:=ho _ _ _ _ e1;rw[e1]at q;intro p xs H1 H01 st1 us1 H' Ha' us z h1 g n hl r hp h0 hv rp;obtain⟨k1,k2,k3⟩:=h1.addL g n hl r hp h0 hv rp;exact q _ H' _ us (z.trans k1) (k2.back (aB.refl _) (k2.s.put k3))
end
mutual
def eG:D->Option PyData
 |.non=>some .none
 |.bl b=>some (.bool b)
 |.int i=>some (.int i)
 |.str x=>some (.str x)
 |.tup ds=>(toPys ds).map PyData.tuple
 |.lst ds=>(toPys ds).map PyData.list
 |.dic ks ds=>(toPys ds).map λps=>.dict ((ks.map PyData.str).zip ps)
 |.exc _=>none
 |.ob k ds=>match k with
  |.dint ks=>(toPys ds).map λps=>.dict ((ks.map PyData.int).zip ps)
  |_=>none
def toPys:ac->Option (List PyData)
 |[]=>some []
 |d::ds=>match eG d,toPys ds with
  |some x,some xs=>some (x::xs)
  |_,_=>none
end
section
variable {X:Cx}{E:XK}{pins:List (Addr×Obj)}{σ:L2.St}{H:Hp}{s:Shared}
def Fg(I:L2.Inv X pins σ H s)(h:eN X.K H a vs):a≠sysModules:=by
 intro z;subst z;obtain⟨mm,o,es,ep,e,hd,_⟩:=I.ok.mod.sm;have:=(I.bs _ _ e).2;rcases h with h|⟨o',_,_,h1,h2,_,h3,_⟩
 .rcases h with h|⟨_,h⟩<;>(rw[this]at h;cases h)
 .have e':=I.ok.mod.kin _ _ h1
  rw[e]at e';cases e';rw[hd]at h3;cases h3
theorem mj:∀{ds:ac}{ps:List PyData},toPys ds=some ps->ps.length=ds.length
 |[],ps,e=>by rw[toPys]at e;cases e;rfl
 |d::ds,ps,e=>by
  rw[toPys]at e;cases e1:eG d with
  |none=>rw[e1]at e;cases e
  |some p=>
   cases e2:toPys ds with|none=>rw[e1,e2]at e;cases e|some qs=>rw[e1,e2]at e;cases e;simp[mj e2]
def yF:eA->PyData
 |.inl i=>.int i
 |.inr x=>.str x
theorem ze:∀{ks:List eA}{vs:ad}{us:List (eA×Value)},KV (ks.zip vs) us->ks.length=vs.length->bD vs (us.map (·.2))/\us.map (·.1)=ks
 |[],[],_,.nil,_=>⟨.nil,rfl⟩
 |k::ks,v::vs,_,.cons ⟨a,b⟩ t,h=>by
  obtain⟨h1,h2⟩:=ze (ks:=ks) (vs:=vs) t (by simpa using h);exact⟨.cons b h1,by rw[List.map_cons,h2,←a]⟩
theorem mR{h:Heap}:∀{es:List DictEntry}{us:List (eA×Value)},Pairs (cB prog w) es us->PySem.ReadsAll h (es.map (·.key)) ((us.map (·.1)).map yF) []/\es.map (·.val)=us.map (·.2)
 |_,_,.nil=>⟨.nil,rfl⟩
 |_,_,.cons (e:=e) (kv:=kv) a b t=>by
  obtain⟨h1,h2⟩:=mR t;refine⟨?_,by rw[List.map_cons,List.map_cons,h2,b]⟩;have hk:PySem.Reads h e.key (yF kv.1) []:=by
   rcases cm (show pd kv.1 e.key=true from a) with⟨i,t,e1,e2⟩|⟨x,t,e1,e2⟩
   .rw[e1,e2];exact .int i t
   .rw[e1,e2];exact .str x t
  exact PySem.ReadsAll.cons hk h1
theorem yo{α β:Type}:∀{xs:List α}{ys:List β},xs.length=ys.length->(xs.zip ys).map (·.1)=xs/\(xs.zip ys).map (·.2)=ys
 |[],[],_=>⟨rfl,rfl⟩
 |x::xs,y::ys,h=>by
  obtain⟨h1,h2⟩:=yo (xs:=xs) (ys:=ys) (by simpa using h);exact⟨by rw[List.zip_cons_cons,List.map_cons,h1],by rw[List.zip_cons_cons,List.map_cons,h2]⟩
def oB(I:L2.Inv X pins σ H s){ks:List eA}{ps:List PyData}{bs:List Addr}(h2:Rd H a (.dK (ks.zip vs)))(h4:ks.length=vs.length)(hl:ps.length=ks.length)
  (hr:∀us,bD vs us->∃bs,PySem.ReadsAll s.heap us ps bs/\sysModules∉bs):∃as,PySem.Reads s.heap (.ref a) (.dict ((ks.map yF).zip ps)) as/\sysModules∉as:=by
 obtain⟨_,n1,us,k1,d1⟩:=(show cg X.prog X.w H s.heap a (.dK (ks.zip vs)) from h2.ok I.hok)
 obtain⟨o,es,ep,e1,e2,e3,_,e5,_⟩:=d1;obtain⟨hv,hk⟩:=ze k1 h4;obtain⟨bs,r1,m1⟩:=hr _ hv;obtain⟨p1,p2⟩:=mR (h:=s.heap) e5;obtain⟨z1,z2⟩:=yo (xs:=ks.map yF) (ys:=ps) (by rw[List.length_map,hl]);refine⟨_,.dict e1 e2.1 e3 (as:=[]) (bs:=bs) (by rw[z1,←hk];exact p1) (by rw[z2,p2];exact r1),?_⟩;simp only[List.append_nil,List.cons_append,List.nil_append,List.mem_cons,not_or];exact⟨λz=>by rw[←z]at n1;simp at n1,m1⟩
mutual
theorem uX(I:L2.Inv X pins σ H s):∀(d:D) (v:V) (u:Value) (p:PyData),Rep X.K H d v->bo v u->eG d=some p->∃as,PySem.Reads s.heap u p as/\sysModules∉as
 |.non,v,u,p,r,rv,e=>by
  rw[eG]at e;cases e;rw[aO.mp r]at rv;cases rv;exact⟨_,.none,by simp⟩
 |.bl b,v,u,p,r,rv,e=>by
  rw[eG]at e;cases e;rw[aJ.mp r]at rv;cases rv;exact⟨_,.bool b,by simp⟩
 |.int i,v,u,p,r,rv,e=>by
  rw[eG]at e;cases e;rw[aw.mp r]at rv;obtain⟨t,rfl⟩:=rv;exact⟨_,.int i t,by simp⟩
 |.str x,v,u,p,r,rv,e=>by
  rw[eG]at e;cases e;rw[Rep.str_iff.mp r]at rv;obtain⟨t,rfl⟩:=rv;exact⟨_,.str x t,by simp⟩
 |.tup ds,v,u,p,r,rv,e=>by
  rw[eG]at e;cases e1:toPys ds with
  |none=>rw[e1]at e;cases e
  |some ps=>
   rw[e1]at e;cases e;obtain⟨a,vs,its,rfl,rfl,h1,h2,h3,⟨o,k1,k2,n,k3⟩,_⟩:=bb I r rv;obtain⟨as,h4,h5⟩:=reads_ofs I ds vs its ps h2 h3 e1;exact⟨_,.tuple k1 k2 k3 (by simpa using h4),h5⟩
 |.lst ds,v,u,p,r,rv,e=>by
  rw[eG]at e;cases e1:toPys ds with
  |none=>rw[e1]at e;cases e
  |some ps=>
   rw[e1]at e;cases e;obtain⟨a,vs,its,rfl,rfl,h1,h2,h3,⟨o,k1,k2,n,k3⟩,_⟩:=aZ I r rv;obtain⟨as,h4,h5⟩:=reads_ofs I ds vs its ps h2 h3 e1;exact⟨_,.list k1 k2 k3 (by simpa using h4),by rw[List.mem_cons,not_or];exact⟨Ne.symm (Fg I h1),h5⟩⟩
 |.dic ks ds,v,u,p,r,rv,e=>by
  rw[eG]at e;cases e1:toPys ds with
  |none=>rw[e1]at e;cases e
  |some ps=>
   rw[e1]at e;cases e;rw[Rep]at r;obtain⟨a,kvs,vs,rfl,h2,h3,h4,h5⟩:=r;subst h3;obtain rfl:u=Value.ref a:=rv;have hl:=h5.length;have:=oB I (bs:=[]) (ps:=ps) h2 (by rw[List.length_map];exact h4) (by rw[List.length_map,mj e1,hl,h4]) λus hv=>reads_ofs I ds vs us ps h5 hv e1;rw[List.map_map]at this;exact this
 |.exc _,v,u,p,r,rv,e=>by rw[eG]at e;cases e
 |.ob k ds,v,u,p,r,rv,e=>by
  cases k with
  |dint ks=>
   rw[eG]at e;cases e1:toPys ds with
   |none=>rw[e1]at e;cases e
   |some ps=>
    rw[e1]at e;cases e;obtain⟨a,vs,rfl,⟨kvs,h2,h3,h4⟩,h5⟩:=iw.mp r;subst h3;obtain rfl:u=Value.ref a:=rv;have hl:=h5.length;have:=oB I (bs:=[]) (ps:=ps) h2 (by rw[List.length_map];exact h4) (by rw[List.length_map,mj e1,hl,h4]) λus hv=>reads_ofs I ds vs us ps h5 hv e1;rw[List.map_map]at this;exact this
  |_=>simp[eG]at e
theorem reads_ofs(I:L2.Inv X pins σ H s):∀(ds:ac) (vs:ad) (us:List Value) (ps:List PyData),Reps X.K H ds vs->bD vs us->toPys ds=some ps->∃as,PySem.ReadsAll s.heap us ps as/\sysModules∉as
 |[],vs,us,ps,r,rv,e=>by
  rw[toPys]at e;cases e;rw[Reps.nil_iff.mp r]at rv;cases rv;exact⟨_,.nil,by simp⟩
 |d::ds,vs,us,ps,r,rv,e=>by
  obtain⟨v,vr,rfl,h1,h2⟩:=aC.mp r;cases rv with
  |cons ra rb=>
   rw[toPys]at e;cases e1:eG d with
   |none=>rw[e1]at e;cases e
   |some p=>
    cases e2:toPys ds with
    |none=>rw[e1,e2]at e;cases e
    |some qs=>
     rw[e1,e2]at e;cases e;obtain⟨as,k1,m1⟩:=uX I d v _ p h1 ra e1;obtain⟨bs,k2,m2⟩:=reads_ofs I ds vr _ qs h2 rb e2;exact⟨_,.cons k1 k2,by rw[List.mem_append,not_or];exact⟨m1,m2⟩⟩
end
def BP(d:D):Bool:=match d with
 |.tup _=>true
 |.lst _=>true
 |_=>false
def jL(p:PyData):Bool:=p.showable&&decide (p.depth<=100)&&decide (p.shown.length<=sizeLine)
def ef(d:D):aj D:=match eG d with
 |some p=>if BP d=true/\jL p=true then .ok (.str p.shown) else .stuck
 |none=>.stuck
def jF{k:Nat}(hr:c5 k X.A):iE X (.builtin "repr") (λxs H Q=>∃v d p,xs=[v]/\Rep X.K H d v/\eG d=some p/\BP d=true/\jL p=true/\Q (.str p.shown) H):=by
 intro pins s σ H xs us Q I r h;obtain⟨v,d,p,rfl,rd,e,hq,hw,q⟩:=h;obtain⟨u,rfl,rx⟩:=oh r;obtain⟨as,hR,hm⟩:=uX I d v u p rd rx e;have hu:∃a,u=.ref a:=by
  cases d with|tup ds=>obtain⟨a,_,_,_,h,_⟩:=bb I rd rx;exact⟨a,h⟩|lst ds=>obtain⟨a,_,_,_,h,_⟩:=aZ I rd rx;exact⟨a,h⟩| _=>cases hq
 obtain⟨a,rfl⟩:=hu;unfold jL at hw;simp only[Bool.and_eq_true,decide_eq_true_eq]at hw;obtain⟨⟨w1,w3⟩,w4⟩:=hw;refine repr_of_reads' hR w1 (λ_=>hm) hr.gd (by have:=hr.un;omega) (λb o e=>e) (λh' u' tk hk=>⟨.str p.shown,H,I.kept hk,⟨u',rfl⟩,q⟩) w4
def n6:iF X E (λxs H Q=>∃v d p,xs=[v]/\Rep X.K H d v/\eG d=some p/\BP d=true/\jL p=true/\Q (.str p.shown) H) (m1 ef):=sV λx v H Ha Q hs r q=>by
 unfold ef at q;cases e:eG x with
 |none=>rw[e]at q;exact q.elim
 |some p=>
  rw[e]at q;replace q:post X.K E H Ha (if BP x=true/\jL p=true then .ok (.str p.shown) else .stuck) Q:=q
  by_cases hc:BP x=true/\jL p=true
  .rw[if_pos hc]at q
   exact⟨v,x,p,rfl,r.mono hs,e,hc.1,hc.2,bf hs q (Rep.str_iff.mpr rfl)⟩
  .rw[if_neg hc]at q;exact q.elim
end
structure FT (K:W.Frag) (mg:Str->Option Value) (x:Str) (st:Stmt) (ps:List Str) (a:Addr) (d:FuncData):Prop where
 F:F6 K x x st a d
 b:jV K d ps []
 g:mg x=some (.ref a)
noncomputable def QA(K:W.Frag) (x:Str) (st:Stmt) (a:Addr):Prop:=W.nsIn K mainGlobals x=some (some (.ref a))/\W.keepIn K (.ref a)=true/\∃oc kV dc pm cd ct od an sl,K.lookup a=some ⟨oc,od,.func (W.fnOf x x (defArgs st) (defBody st) (defScope st) .none kV dc pm an cd ct),sl⟩/\W.codeIn K cd x=true
def Ky{K:W.Frag}{h:Heap}{st:Stmt}{ps:List Str}(X:K.In h)(G:h.Ns mainGlobals mg)(q:QA K x st a)
  (hb:∀(kV doc pm:Value) (an:Option Addr) (cdv ct:Value) (us:List Value),us.length=ps.length->bindArgs (W.fnOf x x (defArgs st) (defBody st) (defScope st) .none kV doc pm an cdv ct) ⟨us,[]⟩=pure (ps.zip us)) :
  ∃d,FT K mg x st ps a d/\∃kV doc pm an cdv ct,d=W.fnOf x x (defArgs st) (defBody st) (defScope st) .none kV doc pm an cdv ct:=by
 obtain⟨e1,e4,oc,kV,dc,pm,cd,ct,od,an,sl,e2,e3⟩:=q;exact⟨_,⟨CW e2 e3 e4,(CW (st:=st) e2 e3 e4).binds hb,W.mg_of X G e1⟩,_,_,_,_,_,_,rfl⟩
section
variable {X:Cx}{E:XK}{e:Expr}{es:List Expr}{fa:Ev->aj (ac)}{f g h i j:al}{pos:Pos}{CX:Bo}{k n:Nat}{fn:Addr}{fd:FuncData}{ps:List Str}{m:ac->aj D}{x:Str}{p:Pos}{st:Stmt}
def L6(ρ:Ev)(ds:ac)(h:ai f aF ρ=.ok ds):ds.length=1:=jH (λ_ h=>DU h) h
def L5(ρ:Ev)(ds:ac)(q:ai f (ai g aF) ρ=.ok ds):ds.length=2:=jH (L6 ρ) q
def L4(ρ:Ev)(ds:ac)(q:ai f (ai g (ai h aF)) ρ=.ok ds):ds.length=3:=jH (L5 ρ) q
def MG(ρ:Ev)(ds:ac)(q:ai f (ai g (ai h (ai i aF))) ρ=.ok ds):ds.length=4:=jH (L4 ρ) q
end
section
variable {X:Cx}{E:XK}{He H0e:Hp}{a:Addr}{e:Expr}{es:List Expr}{pos:Pos}{f g:al}{fm gm hm im jm:Ev->ac->aj (D×ac)}{fa:Ev->ac->aj (ac×ac)}{s:Ev->ac->aj cy}{st:Stmt}
def uV(f:al):am:=λρ=>(f ρ).bind λd=>.ok (.rt d)
def A6(h:DF X E e f):DY X E He H0e [.Return (some e) pos] (uV f):=by
 refine⟨cQ (c6 (tT h.o) jq) λD' σ H z9=>?_⟩;obtain⟨Ha,ρ,h,q⟩:=z9;refine⟨Ha,ρ,h.g.sub,h.rd,?_⟩;unfold uV at q;cases e1:f ρ with
 |stuck=>rw[e1]at q;exact q|exn x=>rw[e1]at q;exact λC ox H' Ha' g r=>q C ox H' Ha' (h.g.trans g) r
 |ok d=>
  rw[e1]at q;cases d with|lst ds=>exact λp vs H' Ha' g hp h0 hv rp=>q p vs H' Ha' (h.g.trans g) (h.g.s.free hp) h0 hv rp| _=>exact q.elim
def Jr.dt(h:Jr X He H0e a e fm):Jf X He H0e a e fm:=⟨PW.pt h.o⟩
def r8(hr:∀ρ st ds,fa ρ st=.ok ds->ds.1.length=n)(ρ:Ev)(st:ac)(ds:ac×ac)(h:bp fm fa ρ st=.ok ds):ds.1.length=n+1:=by
 unfold bp at h;cases e1:fm ρ st with
 |stuck|exn x=>rw[e1]at h;cases h
 |ok p=>
  rw[e1]at h;simp only[aj.bind]at h;cases e2:fa ρ p.2 with|stuck|exn x=>rw[e2]at h;cases h|ok q=>rw[e2]at h;cases h;simp[hr _ _ _ e2]
def MF(ρ:Ev)(st:ac)(ds:ac×ac)(h:cH ρ st=.ok ds):ds.1.length=0:=by cases h;rfl
def L3(ρ:Ev)(st:ac)(ds:ac×ac)(h:bp fm cH ρ st=.ok ds):ds.1.length=1:=r8 MF ρ st ds h
def ME(ρ:Ev)(st:ac)(ds:ac×ac)(h:bp fm (bp gm cH) ρ st=.ok ds):ds.1.length=2:=r8 L3 ρ st ds h
variable {CX:Bo}{k n:Nat}{fn:Addr}{fd:FuncData}{ps:List Str}{x:Str}{p:Pos}{ft:Stmt}
def mF(ha:DM X He H0e a l fm)(hb:DM X He H0e a b gm):DM X He H0e a (.BinOp l .Add b pos) (mB fm gm cn):=GI (E:=E0) (ez.or Cw (ez.or oP (ez.or yX yW))) (by
 intro x y v u H Ha Q hs r1 r2 q;unfold cn at q;cases x with
 |int i=>
  cases y with|int j=>exact .inl ⟨i,j,aw.mp r1,aw.mp r2,bf hs q (ri _)⟩| _=>exact q.elim
 |str i=>
  cases y with
  |str j=>
   by_cases h:i.length+j.length<=line
   .simp only[if_pos h]at q
    exact .inr (.inl ⟨i,j,Rep.str_iff.mp r1,Rep.str_iff.mp r2,c3 h,bf hs q (Rep.str_iff.mpr rfl)⟩)
   .simp only[if_neg h]at q;exact q.elim
  |_=>exact q.elim
 |lst ds=>
  cases y with
  |lst es=>
   by_cases h:ds.length+es.length<=line
   .simp only[if_pos h]at q
    obtain⟨l,vs,rfl,h1,h2⟩:=aE.mp r1;obtain⟨m,us,rfl,k1,k2⟩:=aE.mp r2;refine .inr (.inr (.inl ⟨l,m,vs,us,rfl,rfl,aB.sqL hs h1,aB.sqL hs k1,by rw[←h2.length,←k2.length];exact c3 h,λp hp=>?_⟩));exact q _ _ _ (bu hs hp) (aE.mpr ⟨p,_,rfl,eN.of aI,(h2.app k2).mono (bu hs hp).z⟩)
   .simp only[if_neg h]at q;exact q.elim
  |_=>exact q.elim
 |tup ds=>
  cases y with
  |tup es=>
   by_cases h:ds.isEmpty=false/\ds.length+es.length<=line
   .simp only[if_pos h]at q
    obtain⟨l,vs,rfl,h1,h2⟩:=aK.mp r1;obtain⟨m,us,rfl,k1,k2⟩:=aK.mp r2;refine .inr (.inr (.inr ⟨l,m,vs,us,rfl,rfl,aB.sqT hs h1,aB.sqT hs k1,λz=>?_,by rw[←h2.length,←k2.length];exact c3 h.2,λz=>?_,λz p hp=>?_⟩))
    .have:=h2.length
     rw[z]at this;have e:ds=[]:=List.length_eq_zero_iff.mp this;rw[e]at h;exact absurd h.1 (by decide)
    .have:=k2.length
     rw[z]at this;have e:es=[]:=List.length_eq_zero_iff.mp this;rw[e,List.append_nil]at q;exact bf hs q r1
    .exact q _ _ _ (bu hs hp) (aK.mpr ⟨p,_,rfl,ji.of aI,(h2.app k2).mono (bu hs hp).z⟩)
   .simp only[if_neg h]at q;exact q.elim
  |_=>exact q.elim
 |_=>exact q.elim) ha hb
def Dp(ha:DM X He H0e a l fm)(hb:DM X He H0e a b gm):DM X He H0e a (.BinOp l .Mod b pos) (mB fm gm cX):=GI (E:=E0) yT (ua (λ_ _ h=>of_decide_eq_true h) λ_ _ _ _=>ri _) ha hb
def uz(ha:DM X He H0e a l fm)(hb:DM X He H0e a b gm)(hs:ix b:=by intro _ _;rfl):DM X He H0e a (.Subscript l b pos) (mB fm gm aM):=KL (E:=E0) CS Gm ha hb hs
def LN(N:List Str)(n:Nat)(fr:bi)(hc:X.calm=true)(hi:MI X He H0e a tgt iter src)(hok:yg n tg)
  (blk:∀s H C fp pn,(∀He H0e,DG (cz X N scope s H C fp pn) E He H0e tgt tg)/\∀He H0e,DM (cz X N scope s H C fp pn) He H0e a elt fm)
  (hfr:ym X N n fr scope)(hcell:(scope.names.all λx=>!(x.2==.cell))=true)(hfree:(scope.names.all λx=>!(x.2==.free)||(X.env.scope.names.lookup x.1==some .cell))=true)(hkind:scope.kind=.function)
  (hnames:(scope.names.all λx=>!(x.2==.local)||(scope.names.lookup x.1==some .local))=true)
  (hs:∀x,foldedSetIterable iter X.env x=pure x:=by intro _;rfl):Mb X He H0e a (.ListComp elt [⟨tgt,iter,[],0⟩] scope pos) (mZ n fr src tg fm):=by
 refine M3 (E:=E) N n fr hc hi hok blk hfr (λx hx z=>?_) (λx hx z=>?_) hkind (λx hx z=>?_) hs
 .have:=List.all_eq_true.mp hcell x hx
  rw[z]at this;simp at this
 .have:=List.all_eq_true.mp hfree x hx
  rw[z]at this;simpa using this
 .have:=List.all_eq_true.mp hnames x hx
  rw[z]at this;simpa using this
end
def zW(x:D):aj D:=match x with
 |.dic ks _=>.ok (.int ks.length)
 |x=>dm x
section
variable {X:Cx}{E:XK}
abbrev Gh(K:W.Frag):ad->Hp->VK->Prop:=λxs H Q=>(∃x n,xs=[x]/\Jb K x H n/\Q (.int n) H)∨∃a kvs,xs=[V.ref a]/\Rd H a (.dK kvs)/\Q (.int kvs.length) H
def Bg:iE X (.builtin "len") (Gh X.K):=by
 intro pins s σ H xs us Q I r h;rcases h with h|⟨a,kvs,rfl,hd,q⟩
 .exact bN pins s σ H xs us Q I r h
 .obtain⟨u,rfl,rx⟩:=oh r
  cases rx;exact KR I hd λt s' I'=>⟨.int kvs.length,H,I',⟨t,rfl⟩,q⟩
def FU:iF X E (Gh X.K) (m1 zW):=sV λx v H Ha Q hs r q=>by
 cases x with
 |dic ks ds=>
  rw[Rep]at r;obtain⟨a,kvs,vs,rfl,h1,rfl,h3,h4⟩:=r;refine .inr ⟨a,(ks.map Sum.inr).zip vs,rfl,aB.rd hs h1,?_⟩;rw[List.length_zip,List.length_map,←h3,Nat.min_self];exact bf hs q (ri _)
 |lst ds=>
  obtain⟨p,vs,rfl,h1,h2⟩:=aE.mp r;refine .inl ⟨_,vs.length,rfl,.inl ⟨vs,aB.sqL hs h1,rfl⟩,?_⟩;rw[←h2.length];exact bf hs q (ri _)
 |tup ds=>
  obtain⟨p,vs,rfl,h1,h2⟩:=aK.mp r;refine .inl ⟨_,vs.length,rfl,.inr ⟨vs,aB.sqT hs h1,rfl⟩,?_⟩;rw[←h2.length];exact bf hs q (ri _)
 |str z=>
  unfold zW dm at q
  by_cases hz:z.length<=line
  .simp only[if_pos hz]at q
   rw[Rep.str_iff.mp r];exact .inl ⟨_,z.length,rfl,⟨c3 hz,rfl⟩,bf hs q (ri _)⟩
  .simp only[if_neg hz]at q;exact q.elim
 |_=>exact q.elim
end
def nj:List Str->ac->Str->Option D
 |k::ks,d::ds,x=>if k=x then some d else nj ks ds x
 |_,_,_=>none
def cc(x y:D):aj D:=match x,y with
 |.dic ks ds,.str k=>match nj ks ds k with
  |some d=>.ok d
  |none=>.stuck
 |_,_=>.stuck
def wF(x y:D):aj D:=match x,y with
 |.str k,.dic ks ds=>.ok (.bl (nj ks ds k).isSome)
 |_,_=>.stuck
def eL(x y:D):aj D:=match x,y with
 |.str k,.dic ks ds=>.ok (.bl (!(nj ks ds k).isSome))
 |_,_=>.stuck
theorem uF{K:W.Frag}{H:Hp}{k:Str}:∀{ks:List Str}{ds:ac}{vs:ad},ks.length=vs.length->Reps K H ds vs ->
  (∀d,nj ks ds k=some d->∃v,nu ((ks.map Sum.inr).zip vs) (Sum.inr k:eA)=some v/\Rep K H d v)/\(nj ks ds k=none->nu ((ks.map Sum.inr).zip vs) (Sum.inr k:eA)=none)
 |[],ds,vs,hl,r=>by
  exact⟨λd e=>(nomatch e),λ_=>rfl⟩
 |x::ks,ds,vs,hl,r=>by
  cases vs with
  |nil=>cases hl
  |cons v vs=>
   cases ds with
   |nil=>have:=Reps.nil_iff.mp r;cases this
   |cons d ds=>
    obtain⟨v',vr,e0,h1,h2⟩:=aC.mp r;cases e0;obtain⟨i1,i2⟩:=uF (k:=k) (ks:=ks) (ds:=ds) (vs:=vs) (by simpa using hl) h2;rw[List.map_cons,List.zip_cons_cons]
    by_cases hx:x=k
    .subst hx
     refine⟨λd' e=>?_,λe=>?_⟩
     .rw[nj,if_pos rfl]at e;cases e
      exact⟨v,kn rfl,h1⟩
     .rw[nj,if_pos rfl]at e;cases e
    .have hne:¬(Sum.inr x:eA)=Sum.inr k:=λz=>hx (Sum.inr.inj z)
     refine⟨λd' e=>?_,λe=>?_⟩
     .rw[nj,if_neg hx]at e
      rw[iI hne];exact i1 d' e
     .rw[nj,if_neg hx]at e
      rw[iI hne];exact i2 e
section
variable {X:Cx}{E:XK}{a b:Expr}{f g:al}{pos:Pos}
abbrev JU:R2:=λx y H Q=>∃p v,x=.ref p/\uL H p y (some v)/\Q v H
abbrev JT:R2:=λy x H Q=>∃p o,x=.ref p/\uL H p y o/\Q (.bl o.isSome) H
abbrev yD:R2:=λy x H Q=>∃p o,x=.ref p/\uL H p y o/\Q (.bl (!o.isSome)) H
def E6:q9 X.K E JU cc:=by
 intro x y v u H Ha Q hs r1 r2 q;unfold cc at q;cases x with
 |dic ks ds=>
  cases y with
  |str k=>
   rw[Rep]at r1;obtain⟨p,kvs,vs,rfl,h1,rfl,hl,h4⟩:=r1;rw[Rep.str_iff.mp r2];cases e:nj ks ds k with
   |none=>simp only[e]at q;exact q.elim
   |some d=>
    simp only[e]at q;obtain⟨v,hv,rv⟩:=(uF hl h4).1 d e;exact⟨p,v,rfl,.inl ⟨_,.inr k,aB.rd hs h1,rfl,hv.symm⟩,bf hs q rv⟩
  |_=>exact q.elim
 |_=>exact q.elim
def zl{k:Str}{K:W.Frag}(hs:aB Ha H)(r1:Rep K Ha (.str k) v)(r2:Rep K Ha (.dic ks ds) u):∃p o,u=.ref p/\uL H p v o/\o.isSome=(nj ks ds k).isSome:=by
 rw[Rep]at r2;obtain⟨p,kvs,vs,rfl,h1,rfl,hl,h4⟩:=r2;rw[Rep.str_iff.mp r1];refine⟨p,_,rfl,.inl ⟨_,.inr k,aB.rd hs h1,rfl,rfl⟩,?_⟩;cases e:nj ks ds k with|none=>rw[(uF hl h4).2 e];rfl|some d=>obtain⟨v,hv,_⟩:=(uF hl h4).1 d e;rw[hv];rfl
def Cz:q9 X.K E JT wF:=by
 intro x y v u H Ha Q hs r1 r2 q;unfold wF at q;cases x with
 |str k=>
  cases y with
  |dic ks ds=>
   obtain⟨p,o,e1,e2,e3⟩:=zl hs r1 r2;exact⟨p,o,e1,e2,by rw[e3];exact bf hs q (rb _)⟩
  |_=>exact q.elim
 |_=>exact q.elim
def mx:q9 X.K E yD eL:=by
 intro x y v u H Ha Q hs r1 r2 q;unfold eL at q;cases x with
 |str k=>
  cases y with
  |dic ks ds=>
   obtain⟨p,o,e1,e2,e3⟩:=zl hs r1 r2;exact⟨p,o,e1,e2,by rw[e3];exact bf hs q (rb _)⟩
  |_=>exact q.elim
 |_=>exact q.elim
def Cv(hu:X.A.units+1<cLine):ez X (compareOp .In) JT:=by
 intro pins s σ H x y v u Q I rx ry h;obtain⟨p,o,rfl,g,q⟩:=h;cases ry;exact LZ hu I g rx λs' I'=>⟨.bl o.isSome,H,I',rfl,q⟩
def mr(hu:X.A.units+1<cLine):ez X (compareOp .NotIn) yD:=by
 intro pins s σ H x y v u Q I rx ry h;obtain⟨p,o,rfl,g,q⟩:=h;cases ry;exact FK hu I g rx λs' I'=>⟨.bl (!o.isSome),H,I',rfl,q⟩
def cN(hu:X.A.units+1<cLine)(ha:DE X E a f)(hb:DE X E b g)(hs:IZ b:=by intro _ _;rfl):DE X E (.Subscript a b pos) (aa f g cc) :=
 ⟨aX (EX hu ha.o hb.o hs) (gw E6)⟩
end
section
variable {K:W.Frag}{E:XK}{He H0e Ha H H1:Hp}{σ:L2.St}{ρ:Ev}
def cY.putOwnG(h:cY K He H0e Ha σ H ρ)(hp:∀(j:Nat) (a:Addr),σ[j]?=some (some (V.ref a))->a=p->∀d:D,ρ[j]?≠some (Sl.ow d))(he:He p=none)(h0:Ha p=none)(ho:F1 K Ha H p dn)(hx:∀(i j:Nat) (ds:ac) (a:Addr) (P:Nat->Addr),ρ[i]?=some (.ox j ds)->σ[i]?=some (some (.ref a))->KZ K He Ha H a j ds P->∀l,rm j l=true->p≠P l) :
  cY K He H0e Ha (σ.set i (some (.ref p))) H (ρ.set i (.ow dn)):=by
 have key:∀(j:Nat) (s:Sl),(ρ.set i (.ow dn))[j]?=some s->(j=i/\s=.ow dn/\i<σ.length)∨(j≠i/\ρ[j]?=some s):=λj s e=>by
  by_cases hj:i=j
  .subst hj
   rw[List.getElem?_set_self']at e;cases q:ρ[i]? with
   |none=>rw[q]at e;cases e
   |some s'=>
    rw[q]at e;cases e;refine .inl ⟨rfl,rfl,?_⟩;rw[←h.ln];exact(List.getElem?_eq_some_iff.mp q).1
  .rw[List.getElem?_set_ne hj]at e
   exact .inr ⟨λz=>hj z.symm,e⟩
 have other:∀(k:Nat) (d2:D),k≠i->ρ[k]?=some (.ow d2)->some (some (V.ref p))≠σ[k]?:=λk d2 hk e2 z=>by
  obtain⟨a,h1,_⟩:=h.ow k d2 e2;rw[h1]at z;cases z;exact hp k p h1 rfl d2 e2
 refine⟨h.g,λj d' e=>?_,λj d' e=>?_,λj k d1 d2 hn e1 e2=>?_,by simp[h.ln],h.ex.upd (λj s e=>?_) (aB.refl _) (λa vs _ e=>e) λp us _ h0 hp _=>⟨hp,h0⟩⟩
 rotate_left 3
 .rcases key j _ e with⟨rfl,e',hl⟩|⟨hj,e'⟩
  .exact .inr (.inr (.inr ⟨dn,p,e',by rw[List.getElem?_set_self hl],hx⟩))
  .exact .inl ⟨e',by rw[List.getElem?_set_ne (Ne.symm hj)]⟩
 .rcases key j _ e with⟨rfl,e',hl⟩|⟨hj,e'⟩
  .cases e'
  .obtain⟨v',h1,h2⟩:=h.rd j d' e'
   exact⟨v',by rw[List.getElem?_set_ne (Ne.symm hj)];exact h1,h2⟩
 .rcases key j _ e with⟨rfl,e',hl⟩|⟨hj,e'⟩
  .cases e'
   exact⟨p,by rw[List.getElem?_set_self hl],he,h0,ho⟩
  .obtain⟨a,h1,h2⟩:=h.ow j d' e'
   exact⟨a,by rw[List.getElem?_set_ne (Ne.symm hj)];exact h1,h2⟩
 .rcases key j _ e1 with⟨rfl,_,hl⟩|⟨hj,e1'⟩
  .rcases key k _ e2 with⟨rfl,_,_⟩|⟨hk,e2'⟩
   .exact absurd rfl hn
   .rw[List.getElem?_set_self hl,List.getElem?_set_ne (Ne.symm hk)]
    exact other k d2 hk e2'
  .rcases key k _ e2 with⟨rfl,_,hl⟩|⟨hk,e2'⟩
   .rw[List.getElem?_set_self hl,List.getElem?_set_ne (Ne.symm hj)]
    exact λz=>other j d1 hj e1' z.symm
   .rw[List.getElem?_set_ne (Ne.symm hj),List.getElem?_set_ne (Ne.symm hk)]
    exact h.ap j k d1 d2 hn e1' e2'
def cY.writeG(h:cY K He H0e Ha σ H ρ)(e:ρ[i]?=some (.ow d))(es:σ[i]?=some (some (.ref p)))(ho:F1 K Ha (upd H p o) p dn) :
  cY K He H0e Ha σ (upd H p o) (ρ.set i (.ow dn)):=by
 obtain⟨a,h1,h2,h3,h4⟩:=h.ow i d e;rw[h1]at es;cases es;have hil:i<ρ.length:=(List.getElem?_eq_some_iff.mp e).1;have key:∀(j:Nat) (s:Sl),(ρ.set i (.ow dn))[j]?=some s->(j=i/\s=.ow dn)∨(j≠i/\ρ[j]?=some s):=λj s e=>by
  by_cases hj:i=j
  .subst hj
   rw[List.getElem?_set_self hil]at e;cases e;exact .inl ⟨rfl,rfl⟩
  .rw[List.getElem?_set_ne hj]at e
   exact .inr ⟨λz=>hj z.symm,e⟩
 refine⟨⟨λb o' eb=>?_,h.g.z,λb o' eb=>?_,h.g.nw⟩,λj d' e'=>?_,λj d' e'=>?_,λj k d1 d2 hn e1 e2=>?_,by simp[h.ln],h.ex.upd (λj s e'=>?_) (aB.refl _) (λb us _ eb=>?_) λq us _ q0 hq hd=>?_⟩
 rotate_left 5
 .rcases key j _ e' with⟨rfl,e''⟩|⟨hj,e''⟩
  .exact .inr (.inr (.inr ⟨dn,p,e'',h1,λi' j' ds' a' P' x1 x2 x3 l ol=>by
    obtain⟨a2,P2,y1,y2,y3,_⟩:=h.ex.1 i' j' ds' x1;rw[x2]at y1;cases y1;have:P2 l=P' l:=by
     obtain⟨vs1,_,z1,_,y5,_⟩:=x3;obtain⟨vs2,_,z3,_,y4,_⟩:=y2;rw[z1]at z3;cases z3;obtain⟨_,_,_,_,_,z2,_⟩:=y5 l ol;obtain⟨_,_,_,_,_,z4,_⟩:=y4 l ol;rw[z2]at z4;injection z4 with z4;injection z4 with z4;exact z4.symm
    rw[←this];intro zz;rw[zz]at h1;exact y3 j d l ol e h1⟩))
  .exact .inl ⟨e'',rfl⟩
 .rw[az (by
   intro z;subst z;cases d with
   |lst ds'|dic ks ds'=>obtain⟨vs',h5,_⟩:=h4;rw[h5]at eb;cases eb
   |_=>exact h4)];exact eb
 .have hq':q≠p:=by
   intro z;subst z;exact hd i d e h1
  exact⟨by rw[az hq'];exact hq,q0⟩
 .rw[az (by intro z;subst z;rw[h2]at eb;cases eb)];exact h.g.s _ _ eb
 .rw[az (by intro z;subst z;rw[h3]at eb;cases eb)];exact h.g.sub _ _ eb
 .rcases key j _ e' with⟨rfl,e''⟩|⟨hj,e''⟩
  .cases e''
  .exact h.rd j d' e''
 .rcases key j _ e' with⟨rfl,e''⟩|⟨hj,e''⟩
  .cases e''
   exact⟨p,h1,h2,h3,ho⟩
  .obtain⟨b,k1,k2,k3,k4⟩:=h.ow j d' e''
   refine⟨b,k1,k2,k3,?_⟩;have hb:b≠p:=by
    intro z;subst z;exact h.ap j i d' d hj e'' e (by rw[k1,h1])
   cases d' with
   |lst ds'=>
    obtain⟨vs',h5,h6⟩:=k4;exact⟨vs',by rw[az hb];exact h5,h6⟩
   |dic ks ds'=>
    obtain⟨vs',h5,hl,h6⟩:=k4;exact⟨vs',by rw[az hb];exact h5,hl,h6⟩
   |_=>exact k4.elim
 .rcases key j _ e1 with⟨rfl,e1'⟩|⟨hj,e1'⟩
  .rcases key k _ e2 with⟨rfl,_⟩|⟨hk,e2'⟩
   .exact absurd rfl hn
   .exact h.ap j k d d2 hn e e2'
  .rcases key k _ e2 with⟨rfl,_⟩|⟨hk,e2'⟩
   .exact h.ap j k d1 d hn e1' e
   .exact h.ap j k d1 d2 hn e1' e2'
end
def B1:List Str->ac->Str->D->ac
 |k::ks,e::ds,x,d=>(if k=x then d else e)::B1 ks ds x d
 |_,ds,_,_=>ds
def u3(ks:List Str)(ds:ac)(k:Str)(d:D):D:=if k∈ks then .dic ks (B1 ks ds k d) else .dic (ks++[k]) (ds++[d])
theorem z9{k:Str}:∀{ks:List Str}{vs:ad},ks.length=vs.length->(((ks.map Sum.inr).zip vs).any λkv=>decide (kv.1=(Sum.inr k:eA)))=decide (k∈ks)
 |[],_,_=>rfl
 |x::ks,[],h=>nomatch h
 |x::ks,v::vs,h=>by
  rw[List.map_cons,List.zip_cons_cons,List.any_cons,z9 (by simpa using h)]
  by_cases hx:x=k
  .subst hx;simp
  .have:¬k=x:=λz=>hx z.symm
   simp[hx,this]
theorem yC{K:W.Frag}{H:Hp}{k:Str}{d:D}{v:V}(r:Rep K H d v):∀{ks:List Str}{ds:ac}{vs:ad},ks.length=vs.length->Reps K H ds vs ->
  ∃vs',(((ks.map Sum.inr).zip vs).map λkv=>if kv.1=(Sum.inr k:eA) then(kv.1,v) else kv)=(ks.map Sum.inr).zip vs'/\ks.length=vs'.length/\Reps K H (B1 ks ds k d) vs'
 |[],ds,vs,hl,h=>⟨vs,rfl,hl,by cases ds<;>exact h⟩
 |x::ks,ds,[],hl,h=>nomatch hl
 |x::ks,[],v'::vs,hl,h=>by have:=Reps.nil_iff.mp h;cases this
 |x::ks,e::ds,v'::vs,hl,h=>by
  obtain⟨v2,vr,e0,h1,h2⟩:=aC.mp h;cases e0;obtain⟨vs',i1,i2,i3⟩:=yC r (ks:=ks) (ds:=ds) (vs:=vs) (by simpa using hl) h2;rw[List.map_cons,List.zip_cons_cons,List.map_cons,i1]
  by_cases hx:x=k
  .subst hx
   refine⟨v::vs',by rw[if_pos rfl];rfl,by simp[i2],?_⟩;rw[B1,if_pos rfl];exact Reps.cons r i3
  .have hne:¬(Sum.inr x:eA)=Sum.inr k:=λz=>hx (Sum.inr.inj z)
   refine⟨v'::vs',by rw[if_neg hne];rfl,by simp[i2],?_⟩;rw[B1,if_neg hx];exact Reps.cons h1 i3
theorem Reps.snoc{K:W.Frag}(r:Rep K H d v):∀{ds:ac}{vs:ad},Reps K H ds vs->Reps K H (ds++[d]) (vs++[v])
 |[],vs,h=>by rw[Reps.nil_iff.mp h];exact Reps.cons r Reps.nil
 |e::ds,vs,h=>by
  obtain⟨v2,vr,rfl,h1,h2⟩:=aC.mp h;exact Reps.cons h1 (Reps.snoc r h2)
def EJ{K:W.Frag}{k:Str}(hl:ks.length=vs.length)(h:Reps K Ha ds vs)(r:Rep K Ha d v):F1 K Ha (upd H p (.dK (gB ((ks.map Sum.inr).zip vs) (Sum.inr k) v))) p (u3 ks ds k d):=by
 unfold u3;rw[show ∀(kvs:List (eA×V)) (u:V),gB kvs (Sum.inr k:eA) u=if(kvs.any λkv=>decide (kv.1=(Sum.inr k:eA)))=true then kvs.map (λkv=>if kv.1=(Sum.inr k:eA) then(kv.1,u) else kv) else kvs++[((Sum.inr k:eA),u)] from λ_ _=>rfl];rw[z9 hl]
 by_cases hk:k∈ks
 .rw[if_pos hk,if_pos (decide_eq_true hk)]
  obtain⟨vs',i1,i2,i3⟩:=yC (k:=k) r hl h;exact⟨vs',by rw[aI,i1],i2,i3⟩
 .rw[if_neg hk,if_neg (by rw[decide_eq_false hk];decide)]
  refine⟨vs++[v],by rw[aI,List.map_append,List.zip_append (by rw[List.length_map];exact hl)];rfl,by simp[hl],Reps.snoc r h⟩
noncomputable def MW(K:W.Frag) (E:XK) (f:al):TE:=λσ H Q=>∃Ha ρ,aB Ha H/\Reads K Ha σ ρ/\match f ρ with
 |.ok (.dic ks ds)=>∀p vs H' Ha',bc H Ha H' Ha'->H p=none->Ha' p=none->H' p=some (.dK ((ks.map Sum.inr).zip vs))->ks.length=vs.length->Reps K Ha' ds vs->Q (.ref p) H'
 |.ok _=>False
 |.exn x=>∀C ox H' Ha',bc H Ha H' Ha'->Ag K Ha' x C ox->E C ox H'
 |.stuck=>False
structure Mf (X:Cx) (E:XK) (e:Expr) (f:al):Prop where
 o:PE X e (MW X.K E f)
def Cu(i:Nat)(ρ:Ev)(d:D):aj Fl:=match d with
 |.dic ks ds=>.ok (.nx (ρ.set i (.ow (.dic ks ds))))
 |_=>.stuck
def uW(i:Nat)(f:al):am:=λρ=>(f ρ).bind (Cu i ρ)
section
variable {X:Cx}{E:XK}{He H0e:Hp}{e b:Expr}{pos:Pos}{f k:al}
def zV(hN:X.N.Nodup)(hi:X.N[i]?=some x)(hx:Af X.env.scope x)(he:Mf X E e f)(hs:swapsWith e (some (.Name x pos')) pos.line X.env=pure false:=by rfl)
  (hf:X.fn x=true∨X.env.scope.names.lookup x=some .local := by first|exact .inl rfl|exact .inr rfl|assumption):DS X E He H0e (.Assign [.Name x pos'] e pos) (uW i f):=by
 refine⟨?_⟩;refine bH (iM hN hi hx he.o hs hf) λD σ H z9=>?_;obtain⟨Ha,ρ,h,q⟩:=z9;refine⟨Ha,ρ,h.g.sub,h.rd,?_⟩
 unfold uW at q;cases e1:f ρ with
 |stuck=>rw[e1]at q;exact q|exn x=>rw[e1]at q;exact λC ox H' Ha' g ex=>q C ox H' Ha' (h.g.trans g) ex
 |ok d=>
  rw[e1]at q;cases d with
  |dic ks ds=>
   intro p vs H' Ha' g hp h0 hv hl rp;refine q _ H' Ha' g.z ((h.grow g).putOwnG (dn:=.dic ks ds) (λj a ej ea d ed=>?_) (h.g.s.free hp) h0 ⟨vs,hv,hl,rp⟩ (h.fresh_x g.s hp));subst ea;obtain⟨a',k1,_,_,k4⟩:=h.ow j d ed;rw[ej]at k1;cases k1;cases d with|lst ds'|dic ks ds'=>obtain⟨vs',h5,_⟩:=k4;rw[hp]at h5;cases h5| _=>exact k4.elim
  |_=>exact q.elim
def FF:Mf X E (.Dict [] [] pos) (dC (.dic [] [])):=by
 refine⟨aX Cr λσ H Q ⟨Ha,ρ,hs,hr,q⟩=>λp hp=>?_⟩;have q:∀p vs H' Ha',bc H Ha H' Ha'->H p=none->Ha' p=none->H' p=some (.dK ((([]:List Str).map Sum.inr).zip vs))->([]:List Str).length=vs.length->Reps X.K Ha' [] vs->Q (.ref p) H':=q;have h0:Ha p=none:=hs.free hp;refine q p [] _ Ha ⟨λb o q=>by rw[az (bq q hp)];exact q,aB.refl _,λb o q=>?_,λa h1 h2=>absurd h2 h1⟩ hp h0 aI rfl Reps.nil;rw[az (by intro z;subst z;rw[h0]at q;cases q)];exact hs _ _ q
end
def Dv(k d:D):aj D:=match k with
 |.str x=>.ok (.dic [x] [d])
 |_=>.stuck
def zX(kf vf:al):al:=aa kf vf Dv
def xv(ρ:Ev)(i:Nat)(k:List Str->ac->aj Fl):aj Fl:=match ρ[i]? with
 |some (.ow (.dic ks ds))=>k ks ds
 |_=>.stuck
def kz(i:Nat)(ρ:Ev)(ks:List Str)(ds:ac)(d j:D):aj Fl:=match j with
 |.str x=>if ks.length<line then .ok (.nx (ρ.set i (.ow (u3 ks ds x d)))) else .stuck
 |_=>.stuck
def rR(i:Nat)(f k:al):am:=λρ=>xv ρ i λks ds=>(f ρ).bind λd=>(k ρ).bind (kz i ρ ks ds d)
section
variable {X:Cx}{E:XK}{He H0e:Hp}{e b:Expr}{pos:Pos}{f k:al}
def A7(hk:DE X E b k)(hv:DE X E e f):Mf X E (.Dict [some b] [e] pos) (zX k f):=by
 refine⟨?_⟩;refine aX (EW (Ci hk.o hv.o EL) rfl rfl (by simp) (by simp)) λσ H Q ⟨Ha,ρ,hs,hr,q⟩ p hpn=>?_;have h0:Ha p=none:=hs.free hpn;have hs2:aB Ha (upd H p (.dK [])):=λb o e=>by rw[az (by intro z;subst z;rw[h0]at e;cases e)];exact hs _ _ e
 have back:∀{H' Ha':Hp},bc (upd H p (.dK [])) Ha H' Ha'->bc H Ha H' Ha':=λg=>⟨λb o e=>g.s _ _ (by rw[az (bq e hpn)];exact e),g.z,g.sub,λa k1 k2=>by
   have:=g.nw a k1 k2
   by_cases ha:a=p
   .subst ha;exact hpn
   .rw[az ha]at this;exact this⟩
 refine⟨Ha,ρ,hs2,hr,?_⟩;unfold zX aa at q;cases e1:k ρ with
 |stuck=>rw[e1]at q;exact q|exn z=>rw[e1]at q;exact λC ox H' Ha' g ex=>q C ox H' Ha' (back g) ex
 |ok kd=>
  rw[e1]at q;intro xk H1 H01 g1 r1;refine⟨H01,ρ,g1.sub,hr.mono g1.z,?_⟩;cases e2:f ρ with
  |stuck=>rw[e2]at q;exact q|exn z=>rw[e2]at q;exact λC ox H' Ha' g ex=>q C ox H' Ha' (back (g1.trans g)) ex
  |ok d=>
   rw[e2]at q;intro v H2 H02 g2 r2;cases kd with
   |str x=>
    have G:=g1.trans g2;have hp2:H2 p=some (.dK []):=G.s _ _ aI;have n02:H02 p=none:=by
     cases qq:H02 p with|none=>rfl|some o=>have:=G.nw p (by rw[qq];simp) h0;rw[aI]at this;cases this
    rw[Rep.str_iff.mp r1];refine⟨hp2,[(Sum.inr x,v)],rfl,by simp,?_⟩;have q:∀p vs H' Ha',bc H Ha H' Ha'->H p=none->Ha' p=none->H' p=some (.dK (([x].map Sum.inr).zip vs))->[x].length=vs.length->Reps X.K Ha' [d] vs->Q (.ref p) H':=q;refine q p [v] _ H02 ⟨λb o e=>?_,G.z,λb o e=>?_,(back G).nw⟩ hpn n02 aI rfl (Reps.cons r2 Reps.nil)
    .rw[az (bq e hpn)];exact(back G).s _ _ e
    .rw[az (by intro z;subst z;rw[n02]at e;cases e)];exact G.sub _ _ e
   |_=>exact q.elim
def AG{K:W.Frag}{k:List Str->ac->aj Fl}(h:cY K He H0e Ha σ H ρ)(q:bV K E He H0e Ha (xv ρ i k) D') :
  ∃ks ds p vs,ρ[i]?=some (.ow (.dic ks ds))/\σ[i]?=some (some (.ref p))/\H p=some (.dK ((ks.map Sum.inr).zip vs))/\ks.length=vs.length/\Reps K Ha ds vs/\bV K E He H0e Ha (k ks ds) D':=by
 unfold xv at q;cases e:ρ[i]? with
 |none=>rw[e]at q;exact q.elim
 |some s=>
  rw[e]at q;cases s with
  |no|sh d|ox j ds|pt a=>exact q.elim
  |ow d=>
   cases d with
   |dic ks ds=>
    obtain⟨p,h1,h2,h3,vs,h4,h5,h6⟩:=h.ow i _ e;exact⟨ks,ds,p,vs,rfl,h1,h4,h5,h6,q⟩
   |_=>exact q.elim
def B8{K:W.Frag}(h:cY K He H0e Ha σ H ρ)(e1:ρ[i]?=some (.ow (.dic ks ds)))(e2:σ[i]?=some (some (.ref p)))(e5:H p=some (.dK ((ks.map Sum.inr).zip vs)))(el:ks.length=vs.length)(e6:Reps K Ha ds vs)
  (rp:Rep K Ha d v)(rj:Rep K Ha j u)(q:bV K E He H0e Ha (kz i ρ ks ds d j) D'):∃a H4,V.ref p=.ref a/\yn H a u v H4/\D'.nx σ H4:=by
 unfold kz at q;cases j with
 |str x=>
  by_cases hl:ks.length<line
  .simp only[if_pos hl]at q
   rw[Rep.str_iff.mp rj];refine⟨p,_,rfl,yn.k (k:=.inr x) e5 ?_,?_⟩
   .rw[List.length_zip,List.length_map,←el,Nat.min_self]
    have:line<=sizeLine:=c3 (Nat.le_refl _);omega
   .exact q σ _ Ha (aB.refl _) (h.writeG e1 e2 (EJ el e6 rp))
  .simp only[if_neg hl]at q;exact q.elim
 |_=>exact q.elim
def zU(hu:X.A.units+1<cLine)(hN:X.N[i]?=some x)(hv:Bm X.env.scope x)(he:DE X E e f)(hk:DE X E b k)
  (hd:(x==("__debug__":Str))=false:=by decide)(hcd:(x==("__classdict__":Str))=false:=by decide)
  (hs:swapsWith e (some (.Subscript (.Name x p1) b p2)) pos.line X.env=pure false:=by rfl):DS X E He H0e (.Assign [.Subscript (.Name x p1) b p2] e pos) (rR i f k):=by
 refine⟨?_⟩;refine bH (yJ hu (gZ hN hv hd hcd) hk.o he.o hs) λD σ H z9=>?_;obtain⟨Ha,ρ,h,q⟩:=z9;refine⟨Ha,ρ,h.g.sub,h.rd,?_⟩
 obtain⟨ks,ds,p,vs,e1,e2,e5,el,e6,q⟩:=AG h q;refine plain (k:=λd=>(k ρ).bind (kz i ρ ks ds d)) h q λd v H1 H01 _ g1 r1 q1=>⟨.ref p,e2,?_⟩
 have h1':=h.grow g1;refine⟨H01,ρ,h1'.g.sub,h1'.rd,plain (k:=kz i ρ ks ds d) h1' q1 λj u H2 H02 _ g2 r2 q2=>?_⟩;exact B8 (h1'.grow g2) e1 e2 (g2.s _ _ (g1.s _ _ e5)) el ((e6.mono g1.z).mono g2.z) (r1.mono g2.z) r2 q2
end
mutual
def nd:D->Bool
 |.lst ds=>nds ds
 |.tup ds=>nds ds
 |.dic _ _=>false
 |.exc _=>false
 |.ob _ _=>false
 |_=>true
def nds:ac->Bool
 |[]=>true
 |d::ds=>nd d&&nds ds
end
mutual
theorem Rep.nd_to{K:W.Frag}{H H':Hp}(et:∀a vs,Rd H a (.tup vs)->Rd H' a (.tup vs))(el:∀a vs,Rd H a (.lst vs)->Rd H' a (.lst vs)):∀{d:D}{v:V},nd d=true->Rep K H d v->Rep K H' d v
 |.non,_,_,h=>by unfold Rep at h ⊢;exact h
 |.bl _,_,_,h=>by unfold Rep at h ⊢;exact h
 |.int _,_,_,h=>by unfold Rep at h ⊢;exact h
 |.str _,_,_,h=>by unfold Rep at h ⊢;exact h
 |.tup ds,_,f,h=>by
  unfold nd at f;obtain⟨a,vs,e1,e2,e3⟩:=aK.mp h;refine aK.mpr ⟨a,vs,e1,?_,Reps.nd_to et el f e3⟩;rcases e2 with e2|e2
  .exact .inl (et _ _ e2)
  .exact .inr e2
 |.lst ds,_,f,h=>by
  unfold nd at f;obtain⟨a,vs,e1,e2,e3⟩:=aE.mp h;refine aE.mpr ⟨a,vs,e1,?_,Reps.nd_to et el f e3⟩;rcases e2 with e2|e2
  .exact .inl (el _ _ e2)
  .exact .inr e2
 |.dic ks ds,_,f,h=>by unfold nd at f;cases f
 |.exc x,_,f,h=>by unfold nd at f;cases f
 |.ob k ds,_,f,h=>by unfold nd at f;cases f
theorem Reps.nd_to{K:W.Frag}{H H':Hp}(et:∀a vs,Rd H a (.tup vs)->Rd H' a (.tup vs))(el:∀a vs,Rd H a (.lst vs)->Rd H' a (.lst vs)):∀{ds:ac}{vs:ad},nds ds=true->Reps K H ds vs->Reps K H' ds vs
 |[],_,_,h=>by unfold Reps at h ⊢;exact h
 |d::ds,_,f,h=>by
  unfold nds at f;rw[Bool.and_eq_true]at f;obtain⟨v,r,e1,e2,e3⟩:=aC.mp h;exact aC.mpr ⟨v,r,e1,Rep.nd_to et el f.1 e2,Reps.nd_to et el f.2 e3⟩
end
def nF(Ha J:Hp):Hp:=λa=>match Ha a with
 |some o=>some o
 |none=>match J a with
  |some (.dK _)=>none
  |o=>o
def rX(ρ:Ev):Bool:=ρ.all λs=>match s with
 |.ow (.lst _)=>false
 |.ox _ _=>false
 |.pt _=>false
 |_=>true
section
variable {K:W.Frag}{E:XK}{He H0e Ha H H1 J:Hp}{σ:L2.St}{ρ:Ev}
def F0(h:aB Ha J):∀a o,nF Ha J a=some o->J a=some o:=λa o e=>by
 unfold nF at e;cases q:Ha a with
 |some u=>rw[q]at e;cases e;exact h _ _ q
 |none=>
  rw[q]at e;cases q2:J a with
  |none=>rw[q2]at e;cases e
  |some u=>rw[q2]at e;cases u<;>first|(cases e;rfl)|cases e
def Ad(h:aB Ha J)(e:J a=some o)(hn:∀kvs,o≠.dK kvs):nF Ha J a=some o:=by
 unfold nF;cases q:Ha a with
 |some u=>have:=h _ _ q;rw[e]at this;cases this;rfl
 |none=>rw[e];cases o<;>first|rfl|exact absurd rfl (hn _)
def Ac(h:aB Ha J)(hu:∀kvs,u≠.dK kvs)(a:Addr)(e:Rd J a u):Rd (nF Ha J) a u:=by
 rcases e with e|⟨o,e⟩
 .exact .inl (Ad h e hu)
 .exact .inr ⟨o,Ad h e λ_ z=>nomatch z⟩
def cY.behindS(h:cY K He H0e Ha σ H ρ)(ho:rX ρ=true)(g:bc H (frz He Ha H) H1 J):cY K He H0e (nF Ha J) σ H1 ρ:=by
 have hJ:aB Ha J:=h.frz_sub.trans g.z;have le:=F0 (Ha:=Ha) (J:=J) hJ;have z:aB Ha (nF Ha J):=λb o e=>by unfold nF;rw[e]
 have ok:∀(i:Nat) (s:Sl),ρ[i]?=some s->(match s with|.ow (.lst _)=>false|.ox _ _|.pt _=>false|_=>true)=true:=λi s e=>List.all_eq_true.mp ho s (List.mem_of_getElem? e);refine⟨⟨h.g.s.trans g.s,h.g.z.trans z,λb o e=>g.sub _ _ (le b o e),λa h1 h2=>?_⟩,h.rd.mono z,λi d e=>?_,h.ap,h.ln,OX.none (λi j ds e=>by have:=ok i _ e;cases this) (λi a e=>by have:=ok i _ e;cases this)⟩
 .cases q:nF Ha J a with
  |none=>exact absurd q h1
  |some o=>
   have hj:=le a o q;exact(h.frz_grow.trans g).nw a (by rw[hj];simp) h2
 .obtain⟨a,k1,k2,k3,k4⟩:=h.ow i d e
  cases d with
  |lst ds=>have:=ok i _ e;cases this
  |dic ks ds=>
   obtain⟨vs,h5,hl,h6⟩:=k4;refine⟨a,k1,k2,?_,vs,g.s _ _ h5,hl,h6.mono z⟩;have:frz He Ha H a=some (.dK ((ks.map Sum.inr).zip vs)):=by unfold frz;rw[k2];exact h5
   have:=g.z _ _ this;unfold nF;rw[k3,this]
  |_=>exact k4.elim
end
def yy(i:Nat)(ρ:Ev)(d:D):aj Fl:=if nd d=true/\rX ρ=true then .ok (.nx (ρ.set i (.sh d))) else .stuck
def uU(i:Nat)(f:al):am:=λρ=>(f (fX ρ)).bind (yy i ρ)
section
variable {X:Cx}{E:XK}{He H0e:Hp}{e b o:Expr}{pos apos cpos:Pos}{f k g:al}
def zT(hN:X.N.Nodup)(hi:X.N[i]?=some x)(hx:Af X.env.scope x)(he:DE X E e f)(hs:swapsWith e (some (.Name x pos')) pos.line X.env=pure false:=by rfl)
  (hf:X.fn x=true∨X.env.scope.names.lookup x=some .local := by first|exact .inl rfl|exact .inr rfl|assumption):DS X E He H0e (.Assign [.Name x pos'] e pos) (uU i f):=by
 refine⟨?_⟩;refine bH (iM hN hi hx he.o hs hf) λD σ H z9=>?_;obtain⟨Ha,ρ,h,q⟩:=z9;refine⟨frz He Ha H,fX ρ,h.frz_le,h.looks,?_⟩
 refine look h q λd v H' J _ g rp q'=>?_;unfold yy at q'
 by_cases fl:nd d=true/\rX ρ=true
 .rw[if_pos fl]at q'
  have hJ:aB Ha J:=h.frz_sub.trans g.z;refine q' _ H' (nF Ha J) (λb o e=>by unfold nF;rw[e]) ((h.behindS fl.2 g).put (rp.nd_to (λa vs e=>Ac hJ (λ_ z=>by cases z) a e) (λa vs e=>Ac hJ (λ_ z=>by cases z) a e) fl.1))
 .rw[if_neg fl]at q';exact q'.elim
def oi(h:n+64<cLine):n+1<cLine:=Nat.lt_of_le_of_lt (by omega) h
end
structure Rw where
 x:Str
 st:Stmt
 N:List Str
 n:Nat
abbrev Rw.ps(r:Rw):List Str:=r.N.take r.n
instance {N P:List Str}{sc:Scope}:Decidable (gk N P sc) :=
 decidable_of_iff (sc.kind=.function/\sc.isCoroutine=false/\sc.isGenerator=false/\N.Nodup/\N.take P.length=P/\(∀x∈P,sc.names.lookup x=some .local ∨ sc.names.lookup x=some .cell)/\∀y∈sc.names,y.2≠.free)
  ⟨λ⟨a,b,c,d,e,f,g⟩=>⟨a,b,c,d,e,f,g⟩,λ⟨a,b,c,d,e,f,g⟩=>⟨a,b,c,d,e,f,g⟩⟩
def L8(rows:List Rw):Prop:=∀r∈rows,gk r.N r.ps (defScope r.st)
instance {rows:List Rw}:Decidable (L8 rows):=inferInstanceAs (Decidable (∀r∈rows,_))
def TG(rows:List Rw)(K:W.Frag)(mg:Str->Option Value)(A:Nat->Addr)(Q:Nat->FuncData):Prop:=∀i r,rows[i]?=some r->FT K mg r.x r.st r.ps (A i) (Q i)
def Js(r:Rw):Prop:=∀(kV doc pm:Value) (an:Option Addr) (cdv ct:Value) (us:List Value),us.length=r.ps.length->bindArgs (W.fnOf r.x r.x (defArgs r.st) (defBody r.st) (defScope r.st) .none kV doc pm an cdv ct) ⟨us,[]⟩=pure (r.ps.zip us)
def QAs(K:W.Frag):List Rw->List Addr->Prop
 |[],_=>True
 |r::rs,a::as=>QA K r.x r.st a/\QAs K rs as
 |_::_,[]=>False
def QAs.cons{K:W.Frag}{st:Stmt}(q:QA K x st a)(t:QAs K rs as):QAs K (⟨x,st,N,n⟩::rs) (a::as):=⟨q,t⟩
theorem F8{K:W.Frag}{h:Heap}{mg:Str->Option Value}(X:K.In h)(G:h.Ns mainGlobals mg):∀{rows:List Rw}{as:List Addr},(∀r∈rows,Js r)->QAs K rows as ->
  ∃Q:Nat->FuncData,∀i r,rows[i]?=some r->FT K mg r.x r.st r.ps (as.getD i 0) (Q i)/\∃kV doc pm an cdv ct,Q i=W.fnOf r.x r.x (defArgs r.st) (defBody r.st) (defScope r.st) .none kV doc pm an cdv ct
 |[],as,_,_=>⟨λ_=>default,λi r e=>by simp at e⟩
 |r::rs,[],_,q=>q.elim
 |r::rs,a::as,hb,q=>by
  obtain⟨Q,h⟩:=F8 X G (λr hr=>hb r (List.mem_cons_of_mem _ hr)) q.2;obtain⟨d,h1,h2⟩:=Ky X G q.1 (hb r List.mem_cons_self);refine⟨λi=>match i with|0=>d|i+1=>Q i,λi r' e=>?_⟩;cases i with|zero=>rw[List.getElem?_cons_zero]at e;cases e;exact⟨h1,h2⟩|succ i=>rw[List.getElem?_cons_succ]at e;exact h i r' e
structure fB (P:Program) (w:World) (K:W.Frag) (mg:Str->Option Value) (base:Heap) (CX:Bo) (k:Nat) (fn:Addr) (fd:FuncData) (ps:List Str) (sp:Sp) (x:Str) (st:Stmt):Prop where
 F:iy P w K mg base CX k fn fd ps sp
 t:FT K mg x st ps fn fd
section
variable {P:Program}{w:World}{K:W.Frag}{mg:Str->Option Value}{base:Heap}{rows:List Rw}{A:Nat->Addr}{Q:Nat->FuncData}{i k n:Nat}{r:Rw}{s:am}{sM:Addr->Ev->ac->aj cy}
variable (T:TG rows K mg A Q) (S:L8 rows) (h:rows[i]?=some r)
include T S h
theorem oD(b:∀(cdv:Value) (A':Around) (outer:List PySem.Env) (s0:Shared) (H Ha:Hp) (E:XK),c5 k (A'.deeper (envOfC r.x (defScope r.st) s0.heap.objs.size (A i) cdv)) ->
   Bt (nE CX0 P w K mg base r.N r.x (defScope r.st) (A i) cdv A' outer s0 H E).nox E H Ha (defBody r.st) s):fB P w K mg base CX0 (k+1) (A i) (Q i) r.ps (spD K r.ps.length (b9 r.N.length s)) r.x r.st :=
 ⟨A3 (T i r h).F (S r (List.mem_of_getElem? h)) b,T i r h⟩
theorem oF(b:∀(cdv:Value) (A':Around) (outer:List PySem.Env) (s0:Shared) (H Ha:Hp) (E:XK),c5 k (A'.deeper (envOfC r.x (defScope r.st) s0.heap.objs.size (A i) cdv)) ->
   DY (nE CX0 P w K mg base r.N r.x (defScope r.st) (A i) cdv A' outer s0 H E).nox E H Ha (defBody r.st) s):fB P w K mg base CX0 (k+1) (A i) (Q i) r.ps (JI K r.ps.length (Az r.N.length s)) r.x r.st :=
 ⟨xO (T i r h).F (S r (List.mem_of_getElem? h)) b,T i r h⟩
theorem oM(hn:r.ps.length=n+1)(b:∀(cdv:Value) (A':Around) (outer:List PySem.Env) (s0:Shared) (H He Ha:Hp) (a:Addr) (E:XK),c5 k (A'.deeper (envOfC r.x (defScope r.st) s0.heap.objs.size (A i) cdv)) ->
   Bs (nE CX0 P w K mg base r.N r.x (defScope r.st) (A i) cdv A' outer s0 H E).nox He Ha a (defBody r.st) (sM a)):fB P w K mg base CX0 (k+1) (A i) (Q i) r.ps (D1 K n (rl r.N.length sM)) r.x r.st :=
 ⟨xN (T i r h).F (S r (List.mem_of_getElem? h)) hn b,T i r h⟩
end
section
variable {X:Cx}{E:XK}{e:Expr}{es:List Expr}{fa:Ev->aj (ac)}{pos:Pos}{CX:Bo}{k k0 n:Nat}{fn:Addr}{fd:FuncData}{ps:List Str}{m:ac->aj D}{x:Str}{p:Pos}{st:Stmt}
def rC(B:fB X.prog X.w X.K X.mg X.base CX k0 fn fd ps (spD X.K n m) x st)(hr:c5 k X.A)(ha:DA X E (e::es) fa)(hle:k0<=k:=by decide)(hx:fT CX X E:=by first|exact yR|exact pass0E|exact passesE)(hl:∀ρ ds,fa ρ=.ok ds->ds.length=(e::es).length:=by first|exact L6|exact L5|exact L4|exact MG|exact al5)(hn:(e::es).length=n:=by rfl)
  (hg:Gl X x:=by exact rfl)(hdb:(x==("__debug__":Str))=false:=by decide)(he:starEach (e::es) X.env=(false,eval e X.env)::starEach es X.env:=by exact bA rfl)(hpl:(backTo pos (starEach es X.env)).any (·.1)=false:=by exact cf rfl) :
  DE X E (.Call (.Name x p) (e::es) [] pos) (au fa m):=FJ (B.F.mono hle) hr hg B.t.g B.t.F.kp B.t.b hx ha hn hl hdb he hpl
def rF(B:fB X.prog X.w X.K X.mg X.base CX k0 fn fd ps (JI X.K n m) x st)(hr:c5 k X.A)(ha:DA X E (e::es) fa)(hle:k0<=k:=by decide)(hx:fT CX X E:=by first|exact yR|exact pass0E|exact passesE)(hl:∀ρ ds,fa ρ=.ok ds->ds.length=(e::es).length:=by first|exact L6|exact L5|exact L4|exact MG|exact al5)(hn:(e::es).length=n:=by rfl)
  (hg:Gl X x:=by exact rfl)(hdb:(x==("__debug__":Str))=false:=by decide)(he:starEach (e::es) X.env=(false,eval e X.env)::starEach es X.env:=by exact bA rfl)(hpl:(backTo pos (starEach es X.env)).any (·.1)=false:=by exact cf rfl) :
  DF X E (.Call (.Name x p) (e::es) [] pos) (au fa m):=FG (B.F.mono hle) hr hg B.t.g B.t.F.kp B.t.b hx ha hn hl hdb he hpl
end
section
variable {X:Cx}{He H0e:Hp}{a:Addr}{E:XK}{e:Expr}{es:List Expr}{fa:Ev->ac->aj (ac×ac)}{pos:Pos}{CX:Bo}{k k0 n:Nat}{fn:Addr}{fd:FuncData}{ps:List Str}{x:Str}{p:Pos}{ft:Stmt}
def M0(B:fB X.prog X.w X.K X.mg X.base CX k0 fn fd ps (spD X.K n m) x ft)(hr:c5 k X.A)(ha:Jg X He H0e a (e::es) fa)(hle:k0<=k:=by decide)(hx:fT CX X E0:=by exact yR)(hl:∀ρ st ds,fa ρ st=.ok ds->ds.1.length=(e::es).length:=by first|exact L3|exact ME|exact am3|exact am4|exact am5)(hn:(e::es).length=n:=by rfl)
  (hg:Gl X x:=by exact rfl)(hdb:(x==("__debug__":Str))=false:=by decide)(he:starEach (e::es) X.env=(false,eval e X.env)::starEach es X.env:=by exact bA rfl)(hpl:(backTo pos (starEach es X.env)).any (·.1)=false:=by exact cf rfl) :
  DM X He H0e a (.Call (.Name x p) (e::es) [] pos) (mA fa m):=FD (E:=E0) (B.F.mono hle) hr hg B.t.g B.t.F.kp B.t.b hx ha hn hl hdb he hpl
def rM(i:Nat)(B:fB X.prog X.w X.K X.mg X.base CX k0 fn fd ps (D1 X.K n m) x ft)(hr:c5 k X.A)(ha:Jg X He H0e a es fa)(hle:k0<=k:=by decide)(hx:fT CX X E0:=by exact yR)(hl:∀ρ st ds,fa ρ st=.ok ds->ds.1.length=n:=by first|exact MF|exact L3|exact ME|exact am3|exact am4|exact am5)
  (hN:X.N[i]?=some y:=by rfl)(hv:Bm X.env.scope y:=by first|exact Or.inl rfl|exact Or.inr (Or.inl rfl)|exact Or.inr (Or.inr rfl))(hg:Gl X x:=by exact rfl)
  (hd:(y==("__debug__":Str))=false:=by decide)(hcd:(y==("__classdict__":Str))=false:=by decide)(hdb:(x==("__debug__":Str))=false:=by decide)(he:starEach (.Name y p1::es) X.env=(false,eval (.Name y p1) X.env)::starEach es X.env:=by exact bA rfl)(hpl:(backTo pos (starEach es X.env)).any (·.1)=false:=by exact cf rfl) :
  DM X He H0e a (.Call (.Name x p) (.Name y p1::es) [] pos) (bT i a fa m):=Dq (E:=E0) (B.F.mono hle) hr hg B.t.g B.t.F.kp B.t.b hx hN hv ha hl hd hcd hdb he hpl
end
def Na(hn:r.ps.length=1:=by rfl)(hb:∀(kV doc pm:Value) (an:Option Addr) (cdv ct b:Value),bindArgs (W.fnOf r.x r.x (defArgs r.st) (defBody r.st) (defScope r.st) .none kV doc pm an cdv ct) ⟨[b],[]⟩=pure (r.ps.zip [b]):=by intros;rfl):Js r:=λ_ _ _ _ _ _ us hl=>by
 obtain⟨b,rfl⟩:=MA (hl.trans hn);exact hb ..
def M9(hn:r.ps.length=2:=by rfl)(hb:∀(kV doc pm:Value) (an:Option Addr) (cdv ct b c:Value),bindArgs (W.fnOf r.x r.x (defArgs r.st) (defBody r.st) (defScope r.st) .none kV doc pm an cdv ct) ⟨[b,c],[]⟩=pure (r.ps.zip [b,c]):=by intros;rfl):Js r:=λ_ _ _ _ _ _ us hl=>by
 obtain⟨b,c,rfl⟩:=Mz (hl.trans hn);exact hb ..
def M8(hn:r.ps.length=3:=by rfl)(hb:∀(kV doc pm:Value) (an:Option Addr) (cdv ct b c d:Value),bindArgs (W.fnOf r.x r.x (defArgs r.st) (defBody r.st) (defScope r.st) .none kV doc pm an cdv ct) ⟨[b,c,d],[]⟩=pure (r.ps.zip [b,c,d]):=by intros;rfl):Js r:=λ_ _ _ _ _ _ us hl=>by
 obtain⟨b,c,d,rfl⟩:=My (hl.trans hn);exact hb ..
def M7(hn:r.ps.length=4:=by rfl)(hb:∀(kV doc pm:Value) (an:Option Addr) (cdv ct b c d e:Value),bindArgs (W.fnOf r.x r.x (defArgs r.st) (defBody r.st) (defScope r.st) .none kV doc pm an cdv ct) ⟨[b,c,d,e],[]⟩=pure (r.ps.zip [b,c,d,e]):=by intros;rfl):Js r:=λ_ _ _ _ _ _ us hl=>by
 obtain⟨b,c,d,e,rfl⟩:=M4 (hl.trans hn);exact hb ..
end DL
namespace Com
open PySem L2 DL
def Ic(st:ac)(d:D):aj (D×ac):=.ok (d,st)
def Mt(st:ac)(d:D):aj cy:=.ok (.rt d st)
def vc{α:Type}(b:Bool)(x:aj α):aj α:=if b=true then x else .stuck
def Mw(g:Ev->ac->aj (D×ac))(op:D->D->aj D)(ρ:Ev)(p:D×ac):aj (D×ac):=(g ρ p.2).bind λq=>(op p.1 q.1).bind λd=>.ok (d,q.2)
def Kn(op:D->D->aj D)(x:D)(q:D×ac):aj (D×ac):=(op x q.1).bind (Ic q.2)
def Mv(fa:Ev->ac->aj (ac×ac))(ρ:Ev)(p:D×ac):aj (ac×ac):=(fa ρ p.2).bind λq=>.ok (p.1::q.1,q.2)
def Km(x:D)(q:ac×ac):aj (ac×ac):=.ok (x::q.1,q.2)
def Mx(m:ac->aj D)(p:ac×ac):aj (D×ac):=(m p.1).bind λd=>.ok (d,p.2)
def Ms(st ds:ac):aj (ac×ac):=.ok (ds,st)
def Mu(tg:Ev->D->aj Ev)(s:Ev->ac->aj cy)(ρ:Ev)(p:ac×ac):aj cy:=forM tg s p.1 ρ p.2
def Mr(k:Ev->ac->aj (D×ac))(ρ:Ev)(p:D×ac):aj cy:=(k ρ p.2).bind (ku ρ p.1)
section
variable {s t:Ev->ac->aj cy}{S:am}{f g h:Ev->ac->aj (D×ac)}{F:al}{fa:Ev->ac->aj (ac×ac)}{src:Ev->aj (ac)}{srm:Ev->ac->aj (ac×ac)}{tg:Ev->D->aj Ev}{ρ r:Ev}{i j n:Nat}{d x y:D}{st ds xs:ac}{op:D->D->aj D}{a:Addr}
def C7:bx s t ρ st=(s ρ st).bind (za t):=aG rfl
def zD:za t (.nx ρ st)=t ρ st:=aG rfl
def zC:za t (.rt d st)=.ok (.rt d st):=aG rfl
def zL:bZ ρ st=.ok (.nx ρ st):=aG rfl
def zI:dA S ρ st=(S ρ).bind (xE st):=aG rfl
def we:xE st (.nx ρ)=.ok (.nx ρ st):=aG rfl
def C6:d8 i f ρ st=(f ρ st).bind (CH i ρ):=aG rfl
def zB:CH i ρ (d,st)=.ok (.nx (ρ.set i (.sh d)) st):=aG rfl
def C9:Fc f ρ st=(f ρ st).bind CI:=aG rfl
def zG:CI (d,st)=.ok (.rt d st):=aG rfl
def zF:gE F ρ st=(F (fX ρ)).bind (Mt st):=aG rfl
def v9:Mt st d=.ok (.rt d st):=aG rfl
def Gy:CJ f s t ρ st=(f ρ st).bind (Fd s t ρ):=aG rfl
def Df:Fd s t ρ (.bl true,st)=s ρ st:=aG rfl
def De:Fd s t ρ (.bl false,st)=t ρ st:=aG rfl
def KG:mP F ρ st=(F ρ).bind (Ic st):=aG rfl
def GC:Ic st d=.ok (d,st):=aG rfl
def Gz{k:Int}:sD st (.int k)=.ok (.int k,st):=aG rfl
def GA:sD st (.bl b)=.ok (.bl b,st):=aG rfl
def KC:mV i a F ρ st=vc (iV ρ[i]? a) ((F (vw i ρ st)).bind (sD st)):=aG rfl
def KD:mT F ρ st=(F (fX ρ)).bind (Ic st):=aG rfl
def GB:Lc i a F ρ st=vc (iV ρ[i]? a) ((F (vw i ρ st)).bind (Ic st)):=aG rfl
def Gx:iV (some (.pt a)) a=true:=beq_self_eq_true a
def zK{z:aj α}:vc true z=z:=if_pos rfl
def Gw:vw i ρ st=(fX ρ).set i (.sh (.lst st)):=aG rfl
def C5:Au (.pt a)=.pt a:=aG rfl
def KH:mB f g op ρ st=(f ρ st).bind (Mw g op ρ):=aG rfl
def GF:Mw g op ρ (x,st)=(g ρ st).bind (Kn op x):=aG rfl
def GD:Kn op x (y,st)=(op x y).bind (Ic st):=aG rfl
def Dd:cH ρ st=.ok ([],st):=aG rfl
def zN:bp f fa ρ st=(f ρ st).bind (Mv fa ρ):=aG rfl
def wj:Mv fa ρ (x,st)=(fa ρ st).bind (Km x):=aG rfl
def wg:Km x (xs,st)=.ok (x::xs,st):=aG rfl
def KI:mA fa m ρ st=(fa ρ st).bind (Mx m):=aG rfl
def GG:Mx m (ds,st)=(m ds).bind (Ic st):=aG rfl
def zP:bT i a fa m ρ st=vc (iV ρ[i]? a) ((fa ρ st).bind (xZ a m)):=aG rfl
def wm:xZ a m (ds,st)=m a st ds:=aG rfl
def Dc:vt i a f h ρ st=vc (iV ρ[i]? a) ((f ρ st).bind (Mr h ρ)):=aG rfl
def zH:Mr h ρ (d,st)=(h ρ st).bind (ku ρ d):=aG rfl
def Dh:CK i f ρ st=EZ ρ[i]? λds=>(f ρ st).bind (so i ρ ds):=aG rfl
def zJ{k:ac->aj cy}:EZ (some (.ow (.lst ds))) k=k ds:=aG rfl
def uu(e:decide (ds.length<=999)=true):so i ρ ds (d,st)=.ok (.nx (ρ.set i (.ow (.lst (ds++[d])))) st):=if_pos (Nat.lt_of_le_of_lt (of_decide_eq_true e) (by decide))
def Di:CL f g ρ st=(f ρ st).bind (zb g ρ):=aG rfl
def zR:zb g ρ (.bl true,st)=g ρ st:=aG rfl
def zQ:zb g ρ (.bl false,st)=.ok (.bl false,st):=aG rfl
def C4:AO src ρ st=(src ρ).bind (Ms st):=aG rfl
def zA:Ms st ds=.ok (ds,st):=aG rfl
def zy:y9 f ρ st=(f ρ st).bind ud:=aG rfl
def qp{k:Int}(e:-4611686018427387904<=k/\k<4611686018427387904):ud (.int k,st)=.ok (intsFrom 0 k.toNat,st):=if_pos e
def Dg:rZ srm tg s ρ st=(srm ρ st).bind (Mu tg s ρ):=aG rfl
def zM:Mu tg s ρ (ds,st)=forM tg s ds ρ st:=aG rfl
def zO{fr:bi}:mZ n fr srm tg f ρ st=(srm ρ st).bind (qv (eE n fr ρ) tg f):=aG rfl
def C8:rl n b a st ds=(b a (.pt a::ds.map Sl.sh++List.replicate (n-(ds.length+1)) .no) st).bind BU:=aG rfl
def zE:BU (.rt d st)=.ok (d,st):=aG rfl
end
def pw{tg:Ev->D->aj Ev}{body:Ev->ac->aj cy}(I:Nat->Ev->ac->Prop)(ds:ac)(step:∀(j:Nat) (d:D) (ρ:Ev) (st:ac),ds[j]?=some d->I j ρ st->∃ρ1 ρ2 st2,tg ρ d=.ok ρ1/\(body ρ1 st=.ok (.nx ρ2 st2)∨body ρ1 st=.ok (.ct ρ2 st2))/\I (j+1) ρ2 st2) :
  ∀(j:Nat) (ρ:Ev) (st:ac),j<=ds.length->I j ρ st->∃ρ2 st2,forM tg body (ds.drop j) ρ st=.ok (.nx ρ2 st2)/\I ds.length ρ2 st2:=by
 intro j ρ st hj h;generalize hk:ds.length-j=k
 induction k generalizing j ρ st with
 |zero=>
  have:j=ds.length:=by omega
  subst this;exact⟨ρ,st,by rw[List.drop_length];rfl,h⟩
 |succ k ih=>
  have hlt:j<ds.length:=by omega
  obtain⟨ρ1,ρ2,st2,h1,h2,h3⟩:=step j ds[j] ρ st (List.getElem?_eq_getElem hlt) h;obtain⟨ρ3,st3,h4,h5⟩:=ih (j+1) ρ2 st2 (by omega) h3 (by omega);refine⟨ρ3,st3,?_,h5⟩;rw[List.drop_eq_getElem_cons hlt];unfold DL.forM;rw[h1];rcases h2 with h2|h2
  .simp only[aj.bind,h2];exact h4
  .simp only[aj.bind,h2];exact h4
theorem sT{b:Ev}{tg:Ev->D->aj Ev}{fm:Ev->ac->aj (D×ac)}(I:ac->Prop)(P:D->Prop):∀(ds st:ac),I st->(∀d st,d∈ds->I st->∃ρ1 y st2,tg b d=.ok ρ1/\fm ρ1 st=.ok (y,st2)/\P y/\I st2)->∃es st2,gI b tg fm ds st=.ok (es,st2)/\es.length=ds.length/\(∀e∈es,P e)/\I st2
 |[],st,h,_=>⟨[],st,rfl,rfl,λe he=>by simp at he,h⟩
 |d::ds,st,h,step=>by
  obtain⟨ρ1,y,st1,h1,h2,h3,h4⟩:=step d st (by simp) h;obtain⟨es,st2,k1,k2,k3,k4⟩:=sT I P ds st1 h4 λd' st' hd=>step d' st' (List.mem_cons_of_mem _ hd);refine⟨y::es,st2,?_,by simp[k2],λe he=>?_,k4⟩
  .unfold gI
   rw[h1];simp only[aj.bind,h2,k1]
  .rcases List.mem_cons.mp he with rfl|he
   .exact h3
   .exact k3 e he
end Com
namespace Bor
open PySem L2 DL
abbrev br:ac->aj D:=Cod.br
noncomputable def iu:am :=
 (rQ (bE 2 (dC (.int 0)))
 (rQ (dw (aa (ae 1) (au (ai (ae 0) aF) (m1 dm)) GK)
 (av (bE 2 (aa (ae 0) (ae 1) aM))
 aq)
 aq)
 (uV (au (ai (ae 2) (ai (aa (aa (aa (aa (ae 2) (dC (.int 2147483587)) cX) (aa (aa (dC (.int 104729)) (ae 1) bJ) (ae 1) bJ) cn) (dC (.int 7)) cn) (dC (.int 2147483587)) cX) (ai (aa (ae 2) (aa (dC (.int 10)) (dC (.int 18)) rE) Le) aF))) eR))))
def bY:ac->aj D:=Az 3 iu
noncomputable def jf:Addr->Ev->ac->aj cy:=λa=>
 (bx (CJ (Lc 0 a (aa (ae 0) (dC (.int 2)) aM))
 (bx (d8 2 (mV 0 a (aa (aa (ae 0) (dC (.int 0)) aM) (ae 1) cX)))
 (bx (vt 0 a (mV 0 a (aa (aa (ae 0) (dC (.int 0)) aM) (ae 1) lW)) (mP (dC (.int 0))))
 (bx (vt 0 a (mV 0 a (aa (aa (ae 0) (dC (.int 0)) aM) (dC (.int 0)) GN)) (mP (dC (.int 2))))
 (bx (gE (ae 2))
 bZ))))
 bZ)
 (bx (dA (bE 3 (dC (.int 0))))
 (bx (rZ (AO (iJ (aa (dC (.int 1)) (aa (dC (.int 2)) (au (ai (aa (ae 1) (aa (dC (.int 10)) (dC (.int 6)) rE) GN) aF) (m1 ka)) bJ) cn))) (bW 4)
 (bx (vt 0 a (mV 0 a (aa (aa (aa (aa (ae 0) (dC (.int 1)) aM) (dC (.int 39373)) bJ) (dC (.int 17)) cn) (dC (.int 2147483647)) cX)) (mP (dC (.int 1))))
 (bx (d8 3 (mV 0 a (aa (aa (ae 3) (dC (.int 2147483587)) bJ) (aa (aa (aa (ae 0) (dC (.int 1)) aM) (aa (ae 0) (dC (.int 1)) aM) bJ) (dC (.int 2147483587)) cX) cn)))
 bZ)))
 (bx (gE (aa (aa (ae 3) (dC (.int 64)) lW) (ae 1) cX))
 bZ))))
def aL:Addr->ac->ac->aj (D×ac):=rl 5 jf
noncomputable def l4:Addr->Ev->ac->aj cy:=λa=>
 (bx (d8 2 (mZ 1 [0] (AO (iJ (dC (.int 8)))) (bW 0) (bT 1 a (bp (mP (dC (.int 26))) cH) aL)))
 (bx (d8 3 (mB (mP (dC (.int 1))) (bT 0 a (bp (mP (dC (.int 8))) cH) aL) cn))
 (bx (d8 4 (bT 0 a (bp (mP (ae 3)) cH) aL))
 (bx (d8 5 (bT 0 a (bp (mP (dC (.int 26))) cH) aL))
 (bx (d8 6 (mB (mP (au (ai (dC (.int 1)) (ai (dC (.int 3)) (ai (dC (.int 5)) (ai (dC (.int 7)) (ai (dC (.int 9)) (ai (dC (.int 11)) aF)))))) eR)) (bT 0 a (bp (mP (dC (.int 6))) cH) aL) aM))
 (bx (d8 7 (mB (bT 0 a (bp (mP (dC (.int 3))) cH) aL) (mP (dC (.int 0))) kc))
 (bx (dA (kq 8 (au aF eR)))
 (bx (dA (rS (ae 1) (bW 9)
 (av (kq 10 (nD (ae 2) fu (eP (ae 3))))
 (av (BR 10 (aa (aa (ae 5) (aa (ae 6) (ae 9) bJ) cn) (dC (.int 26)) cX) (ae 4))
 (av (dw (ae 7)
 (av (kq 10 (nD (ae 2) fu (eP (aa (dC (.int 1)) (aa (aa (ae 5) (ae 9) cn) (dC (.int 8)) cX) cn))))
 aq)
 aq)
 (av (BS 10 (dZ 8 (sQ (dC (.str "")) (ai (eD 1 [] (tN (ae 10)) (bW 0) mYes (aa (dC (.str "abcdefghijklmnopqrstuvwxyz")) (ae 0) aM)) aF))))
 aq))))))
 (bx (gE (ae 8))
 bZ)))))))))
def dg:Addr->ac->ac->aj (D×ac):=rl 11 l4
noncomputable def jU:Addr->Ev->ac->aj cy:=λa=>
 (bx (d8 2 (bT 0 a (bp (mP (dC (.int 6))) cH) aL))
 (bx (d8 3 (mB (mP (ae 1)) (bT 0 a (bp (mP (aa (au (ai (dC (.int 3)) (ai (dC (.int 6)) (ai (dC (.int 20)) (ai (dC (.int 12)) (ai (dC (.int 90)) (ai (aa (dC (.int 10)) (dC (.int 12)) rE) aF)))))) eR) (ae 2) aM)) cH) aL) cn))
 (bx (dA (bE 4 (aa (au (ai (dC (.int 1)) (ai (dC (.int 1)) (ai (dC (.int 1)) (ai (dC (.int 4)) (ai (dC (.int 12)) (ai (dC (.int 12)) aF)))))) eR) (ae 2) aM)))
 (bx (dA (bE 5 (au (ai (dC (.int 1)) (ai (dC (.int 2)) (ai (dC (.int 3)) (ai (dC (.int 4)) (ai (dC (.int 5)) (ai (dC (.int 6)) (ai (dC (.int 10)) (ai (dC (.int 12)) (ai (dC (.int 15)) (ai (dC (.int 20)) (ai (dC (.int 30)) (ai (dC (.int 60)) aF)))))))))))) eR)))
 (bx (Fc (mA (bp (mP (ae 3)) (bp (mB (mP (ae 5)) (bT 0 a (bp (mP (ae 4)) cH) aL) aM) cH)) br))
 bZ)))))
def cx:Addr->ac->ac->aj (D×ac):=rl 6 jU
noncomputable def G9:Addr->Ev->ac->aj cy:=λa=>
 (CJ (mB (bT 0 a (bp (mP (dC (.int 2))) cH) aL) (mP (dC (.int 0))) kc)
 (bx (dA (bE 4 (aa (ae 2) (ae 3) cX)))
 (bx (dA (bE 5 (aa (aa (ae 2) (dC (.int 1)) cn) (ae 3) cX)))
 bZ))
 bZ)
def Eu:Addr->Ev->ac->aj cy:=λa=>
 (CJ (mB (bT 0 a (bp (mP (dC (.int 4))) cH) aL) (mP (dC (.int 0))) kc)
 (bx (dA (bE 8 (dC (.non))))
 bZ)
 bZ)
noncomputable def Ei:Addr->Ev->ac->aj cy:=λa=>
 (CJ (mB (bT 0 a (bp (mP (dC (.int 2))) cH) aL) (mP (dC (.int 0))) kc)
 (bx (d8 7 (bT 0 a (bp (mP (ae 4)) cH) aL))
 (bx (d8 8 (mB (mB (mP (aa (ae 7) (dC (.int 1)) cn)) (bT 0 a (bp (mP (aa (ae 4) (dC (.int 1)) rD)) cH) aL) cn) (mP (ae 4)) cX))
 bZ))
 bZ)
noncomputable def qR:Addr->Ev->ac->aj cy:=λa=>
 (bx (dA (bE 3 (au (ai (ae 1) aF) (m1 dm))))
 (bx (d8 4 (bT 0 a (bp (mP (ae 3)) cH) aL))
 (bx (d8 5 (mB (mB (mP (aa (ae 4) (dC (.int 1)) cn)) (bT 0 a (bp (mP (aa (ae 3) (dC (.int 1)) rD)) cH) aL) cn) (mP (ae 3)) cX))
 (bx (G9 a)
 (bx (d8 6 (mB (mP (au (ai (dC (.str "one")) (ai (dC (.str "both")) aF)) eR)) (bT 0 a (bp (mP (dC (.int 2))) cH) aL) aM))
 (bx (d8 7 (bT 0 a (bp (mP (dC (.int 0))) cH) cx))
 (bx (d8 8 (bT 0 a (bp (mP (dC (.int 1))) cH) cx))
 (bx (Eu a)
 (bx (gE (au (ai (aa (ae 1) (ae 4) aM) (ai (aa (ae 1) (ae 5) aM) (ai (ae 6) (ai (ae 7) (ai (ae 8) aF))))) eQ))
 bZ)))))))))
def dQ:Addr->ac->ac->aj (D×ac):=rl 9 qR
noncomputable def qQ:Addr->Ev->ac->aj cy:=λa=>
 (bx (d8 3 (bT 0 a (bp (mB (mP (dC (.int 2))) (bT 0 a (bp (mP (aa (ae 1) (dC (.int 1)) rD)) cH) aL) cn) cH) dg))
 (bx (dA (bE 4 (au (ai (ae 3) aF) (m1 dm))))
 (bx (dA (kq 5 (au aF eR)))
 (bx (rZ (y9 (bT 0 a (bp (mP (aa (ae 2) (dC (.int 1)) cn)) cH) aL)) (bW 6)
 (bx (CK 5 (bT 0 a (bp (mP (ae 3)) (bp (mP (ae 6)) cH)) dQ))
 bZ))
 (bx (dA (bE 7 (dC (.int 0))))
 (bx (dA (bE 8 (aa (ae 4) (dC (.int 1)) rD)))
 (bx (Ei a)
 (bx (gE (au (ai (ae 3) (ai (ae 5) (ai (aa (ae 3) (ae 7) aM) (ai (aa (ae 3) (ae 8) aM) aF)))) eQ))
 bZ))))))))
def c7:Addr->ac->ac->aj (D×ac):=rl 9 qQ
noncomputable def jS:Addr->Ev->ac->aj cy:=λa=>
 (bx (dA (kq 3 (au aF eR)))
 (bx (rZ (AO (iJ (au (ai (aa (ae 1) (dC (.int 1)) aM) aF) (m1 dm)))) (bW 4)
 (bx (CJ (CL (mB (bT 0 a (bp (mP (ae 2)) cH) aL) (mP (dC (.int 0))) kc) (mT (aa (aa (aa (aa (ae 1) (dC (.int 1)) aM) (ae 4) aM) (dC (.int 4)) aM) (dC (.non)) cU)))
 (bx (dA (dZ 3 (ae 4)))
 bZ)
 bZ)
 bZ))
 (bx (gE (ae 3))
 bZ)))
def cw:Addr->ac->ac->aj (D×ac):=rl 5 jS
end Bor
namespace DL
open PySem PySem.Spec PyProof.Rows L2
mutual
def plainD:D->Bool
 |.tup ds=>plainDs ds
 |.lst ds=>plainDs ds
 |.dic _ _=>false
 |.exc _=>false
 |.ob _ _=>false
 |_=>true
def plainDs:ac->Bool
 |[]=>true
 |d::ds=>plainD d&&plainDs ds
end
mutual
/-- the cells of a tree -/
def Ft(K:W.Frag)(H:Hp):D->V->Addr->Prop
 |.tup ds,v,b=>∃a vs,v=.ref a/\((b=a/\Rd H a (.tup vs))∨(ji K H a vs/\Fts K H ds vs b))
 |.lst ds,v,b=>∃a vs,v=.ref a/\((b=a/\Rd H a (.lst vs)/\Reps K H ds vs)∨(eN K H a vs/\Reps K H ds vs/\Fts K H ds vs b))
 |_,_,_=>False
def Fts(K:W.Frag)(H:Hp):ac->ad->Addr->Prop
 |d::ds,v::vs,b=>Ft K H d v b∨Fts K H ds vs b
 |_,_,_=>False
end
open Classical in
noncomputable def rst(H:Hp) (S:Addr->Prop):Hp:=λb=>if S b then H b else none
def BX{S:Addr->Prop}(h:S b):rst H S b=H b:=if_pos h
def oz{S:Addr->Prop}:aB (rst H S) H:=λb o e=>by
 unfold rst at e;split at e
 .exact e
 .cases e
def BW{S:Addr->Prop}(h:S b)(r:Rd H b u):Rd (rst H S) b u:=by
 unfold Rd;rw[BX h];exact r
mutual
theorem Rep.rst{K:W.Frag}{H:Hp}{S:Addr->Prop}:∀{d:D}{v:V},plainD d=true->Rep K H d v->(∀b,Ft K H d v b->S b)->Rep K (rst H S) d v
 |.non,_,_,h,_=>by unfold Rep at h ⊢;exact h
 |.bl _,_,_,h,_=>by unfold Rep at h ⊢;exact h
 |.int _,_,_,h,_=>by unfold Rep at h ⊢;exact h
 |.str _,_,_,h,_=>by unfold Rep at h ⊢;exact h
 |.tup ds,_,p,h,s=>by
  obtain⟨a,vs,rfl,e2,e3⟩:=aK.mp h;unfold plainD at p;refine aK.mpr ⟨a,vs,rfl,?_,Reps.rst p e3 λb hb=>s b (by unfold Ft;exact⟨a,vs,rfl,.inr ⟨e2,hb⟩⟩)⟩;rcases e2 with e2|e2
  .exact .inl (BW (s a (by unfold Ft;exact⟨a,vs,rfl,.inl ⟨rfl,e2⟩⟩)) e2)
  .exact .inr e2
 |.lst ds,_,p,h,s=>by
  obtain⟨a,vs,rfl,e2,e3⟩:=aE.mp h;unfold plainD at p;refine aE.mpr ⟨a,vs,rfl,?_,Reps.rst p e3 λb hb=>s b (by unfold Ft;exact⟨a,vs,rfl,.inr ⟨e2,e3,hb⟩⟩)⟩;rcases e2 with e2|e2
  .exact .inl (BW (s a (by unfold Ft;exact⟨a,vs,rfl,.inl ⟨rfl,e2,e3⟩⟩)) e2)
  .exact .inr e2
 |.dic _ _,_,p,_,_=>by unfold plainD at p;cases p
 |.exc _,_,p,_,_=>by unfold plainD at p;cases p
 |.ob _ _,_,p,_,_=>by unfold plainD at p;cases p
theorem Reps.rst{K:W.Frag}{H:Hp}{S:Addr->Prop}:∀{ds:ac}{vs:ad},plainDs ds=true->Reps K H ds vs->(∀b,Fts K H ds vs b->S b)->Reps K (rst H S) ds vs
 |[],_,_,h,_=>by rw[Reps.nil_iff.mp h];exact Reps.nil
 |d::ds,_,p,h,s=>by
  obtain⟨v,r,rfl,h1,h2⟩:=aC.mp h;unfold plainDs at p;rw[Bool.and_eq_true]at p;exact Reps.cons (Rep.rst p.1 h1 λb hb=>s b (by unfold Fts;exact .inl hb)) (Reps.rst p.2 h2 λb hb=>s b (by unfold Fts;exact .inr hb))
end
def yj{K:W.Frag}(h:Rep K H d (.int i)):d=.int i:=by
 cases d with|int j=>rw[aw]at h;cases h;rfl|non=>cases aO.mp h|bl b=>cases aJ.mp h|str x=>cases Rep.str_iff.mp h|tup ds=>obtain⟨_,_,e,_⟩:=aK.mp h;cases e|lst ds=>obtain⟨_,_,e,_⟩:=aE.mp h;cases e|dic ks ds=>rw[Rep]at h;obtain⟨_,_,_,e,_⟩:=h;cases e|exc x=>obtain⟨_,_,_,e,_⟩:=jk.mp h;cases e|ob k ds=>obtain⟨_,_,e,_⟩:=iw.mp h;cases e
theorem l6{K:W.Frag}:∀{ds:ac}{ns:List Int},Reps K H ds (ns.map V.int)->ds=ns.map D.int
 |[],[],_=>rfl
 |[],n::ns,h=>by cases Reps.nil_iff.mp h
 |d::ds,[],h=>by obtain⟨_,_,e,_⟩:=aC.mp h;cases e
 |d::ds,n::ns,h=>by
  obtain⟨_,_,e,h1,h2⟩:=aC.mp h;cases e;rw[yj h1,l6 h2];rfl
theorem l7{K:W.Frag}:∀{ns:List Int}{vs:ad},Reps K H (ns.map D.int) vs->vs=ns.map V.int
 |[],vs,h=>Reps.nil_iff.mp h
 |n::ns,vs,h=>by
  obtain⟨v,r,rfl,h1,h2⟩:=aC.mp h;rw[aw.mp h1,l7 h2];rfl
def yk(h:Rd H a (.lst xs))(h':Rd H a (.lst ys)):xs=ys:=by
 rcases h with h|⟨o,h⟩<;>rcases h' with h'|⟨o',h'⟩<;>rw[h]at h'<;>cases h'<;>rfl
def Rd.lt(h:Rd H a (.lst xs))(h':Rd H a (.tup ys)):False:=by
 rcases h with h|⟨o,h⟩<;>rcases h' with h'|⟨o',h'⟩<;>rw[h]at h'<;>cases h'
def Rd.dl(h:Rd H a (.dK xs))(h':Rd H a (.lst ys)):False:=by
 rcases h with h|⟨o,h⟩<;>rcases h' with h'|⟨o',h'⟩<;>rw[h]at h'<;>cases h'
def Rd.dt(h:Rd H a (.dK xs))(h':Rd H a (.tup ys)):False:=by
 rcases h with h|⟨o,h⟩<;>rcases h' with h'|⟨o',h'⟩<;>rw[h]at h'<;>cases h'
mutual
/-- a list of just these numbers stands in the tree -/
def fH(ns:List Int):D->Prop
 |.tup ds=>hasIs ns ds
 |.lst ds=>ds=ns.map D.int∨hasIs ns ds
 |_=>False
def hasIs(ns:List Int):ac->Prop
 |[]=>False
 |d::ds=>fH ns d∨hasIs ns ds
end
mutual
theorem Ft.ints{K:W.Frag}{H:Hp}{ns:List Int}{b:Addr}(r:Rd H b (.lst (ns.map V.int))):∀{d:D}{v:V},Ft K H d v b->fH ns d
 |.non,_,h=>by unfold Ft at h;exact h.elim
 |.bl _,_,h=>by unfold Ft at h;exact h.elim
 |.int _,_,h=>by unfold Ft at h;exact h.elim
 |.str _,_,h=>by unfold Ft at h;exact h.elim
 |.dic _ _,_,h=>by unfold Ft at h;exact h.elim
 |.exc _,_,h=>by unfold Ft at h;exact h.elim
 |.ob _ _,_,h=>by unfold Ft at h;exact h.elim
 |.tup ds,_,h=>by
  unfold Ft at h;unfold fH;obtain⟨a,vs,rfl,⟨rfl,h⟩|⟨_,h⟩⟩:=h
  .exact(Rd.lt r h).elim
  .exact Fts.ints r h
 |.lst ds,_,h=>by
  unfold Ft at h;unfold fH;obtain⟨a,vs,rfl,⟨rfl,h,h'⟩|⟨_,_,h⟩⟩:=h
  .cases yk r h
   exact .inl (l6 h')
  .exact .inr (Fts.ints r h)
theorem Fts.ints{K:W.Frag}{H:Hp}{ns:List Int}{b:Addr}(r:Rd H b (.lst (ns.map V.int))):∀{ds:ac}{vs:ad},Fts K H ds vs b->hasIs ns ds
 |[],_,h=>by unfold Fts at h;exact h.elim
 |d::ds,[],h=>by unfold Fts at h;exact h.elim
 |d::ds,v::vs,h=>by
  unfold Fts at h;unfold hasIs;rcases h with h|h
  .exact .inl (Ft.ints r h)
  .exact .inr (Fts.ints r h)
end
mutual
theorem Ft.dict{K:W.Frag}{H:Hp}{xs:List (eA×V)}{b:Addr}(r:Rd H b (.dK xs)):∀{d:D}{v:V},Ft K H d v b->False
 |.non,_,h=>by unfold Ft at h;exact h.elim
 |.bl _,_,h=>by unfold Ft at h;exact h.elim
 |.int _,_,h=>by unfold Ft at h;exact h.elim
 |.str _,_,h=>by unfold Ft at h;exact h.elim
 |.dic _ _,_,h=>by unfold Ft at h;exact h.elim
 |.exc _,_,h=>by unfold Ft at h;exact h.elim
 |.ob _ _,_,h=>by unfold Ft at h;exact h.elim
 |.tup ds,_,h=>by
  unfold Ft at h;obtain⟨a,vs,rfl,⟨rfl,h⟩|⟨_,h⟩⟩:=h
  .exact(Rd.dt r h).elim
  .exact Fts.dict r h
 |.lst ds,_,h=>by
  unfold Ft at h;obtain⟨a,vs,rfl,⟨rfl,h,h'⟩|⟨_,_,h⟩⟩:=h
  .exact(Rd.dl r h).elim
  .exact Fts.dict r h
theorem Fts.dict{K:W.Frag}{H:Hp}{xs:List (eA×V)}{b:Addr}(r:Rd H b (.dK xs)):∀{ds:ac}{vs:ad},Fts K H ds vs b->False
 |[],_,h=>by unfold Fts at h;exact h.elim
 |d::ds,[],h=>by unfold Fts at h;exact h.elim
 |d::ds,v::vs,h=>by
  unfold Fts at h;rcases h with h|h
  .exact Ft.dict r h
  .exact Fts.dict r h
end
def Vw(A:Addr->Prop)(H H2:Hp):Prop:=∀c,H2 c=H c∨(A c/\∃o u,H c=some (.frz o u)/\H2 c=some u)
def Vw.keep(v:Vw A H H2)(e:H c=some u)(n:∀o w,u≠.frz o w):H2 c=some u:=by
 rcases v c with h|⟨_,o,w,h,_⟩
 .rw[h];exact e
 .rw[e]at h;cases h;exact absurd rfl (n o w)
def Vw.rd(v:Vw A H H2)(r:Rd H c u)(n:∀o w,u≠.frz o w):Rd H2 c u:=by
 rcases r with r|⟨o,r⟩
 .exact .inl (v.keep r n)
 .rcases v c with h|⟨_,o',w,h,h2⟩
  .exact .inr ⟨o,by rw[h];exact r⟩
  .rw[r]at h;cases h;exact .inl h2
def Vw.none(v:Vw A H H2)(e:H c=Option.none):H2 c=Option.none:=by
 rcases v c with h|⟨_,o',w,h,h2⟩
 .rw[h];exact e
 .rw[e]at h;cases h
theorem wU.view{K:W.Frag}(e:Vw A H H'):∀{k:Kd}{a:Addr}{vs:ad},wU K H k a vs->wU K H' k a vs
 |.ins c ks,a,vs,⟨C,dx,h0,h1,h2,h3⟩=>⟨C,dx,h0,h1,e.keep h2 (λ_ _ z=>by cases z),h3⟩
 |.dint ks,a,vs,⟨kvs,h1,h2,h3⟩=>⟨kvs,e.rd h1 (λ_ _ z=>by cases z),h2,h3⟩
 |.exf c ks,a,vs,⟨C,dx,fs,h1,h2,h3,h4⟩=>⟨C,dx,fs,h1,e.rd h2 (λ_ _ z=>by cases z),e.keep h3 (λ_ _ z=>by cases z),h4⟩
mutual
theorem Rep.view{K:W.Frag}{A:Addr->Prop}{H H':Hp}(e:Vw A H H'):∀{d:D}{v:V},Rep K H d v->Rep K H' d v
 |.non,_,h=>by unfold Rep at h ⊢;exact h
 |.bl _,_,h=>by unfold Rep at h ⊢;exact h
 |.int _,_,h=>by unfold Rep at h ⊢;exact h
 |.str _,_,h=>by unfold Rep at h ⊢;exact h
 |.tup ds,_,h=>by
  unfold Rep at h ⊢;obtain⟨a,vs,e1,e2,e3⟩:=h;exact⟨a,vs,e1,e2.imp (λr=>e.rd r (λ_ _ z=>by cases z)) id,Reps.view e e3⟩
 |.lst ds,_,h=>by
  unfold Rep at h ⊢;obtain⟨a,vs,e1,e2,e3⟩:=h;exact⟨a,vs,e1,e2.imp (λr=>e.rd r (λ_ _ z=>by cases z)) id,Reps.view e e3⟩
 |.dic ks ds,_,h=>by
  unfold Rep at h ⊢;obtain⟨a,kvs,vs,e1,e2,e3,e4,e5⟩:=h;exact⟨a,kvs,vs,e1,e.rd e2 (λ_ _ z=>by cases z),e3,e4,Reps.view e e5⟩
 |.exc x,_,h=>by
  unfold Rep at h ⊢;obtain⟨a,C,dc,e1,e2,e3⟩:=h;exact⟨a,C,dc,e1,e2,e.rd e3 (λ_ _ z=>by cases z)⟩
 |.ob k ds,_,h=>by
  unfold Rep at h ⊢;obtain⟨a,vs,e1,e2,e3⟩:=h;exact⟨a,vs,e1,e2.view e,Reps.view e e3⟩
theorem Reps.view{K:W.Frag}{A:Addr->Prop}{H H':Hp}(e:Vw A H H'):∀{ds:ac}{vs:ad},Reps K H ds vs->Reps K H' ds vs
 |[],_,h=>by unfold Reps at h ⊢;exact h
 |d::ds,_,h=>by
  unfold Reps at h ⊢;obtain⟨v,r,e1,e2,e3⟩:=h;exact⟨v,r,e1,Rep.view e e2,Reps.view e e3⟩
end
def cg.view{h:Heap}(v:Vw A H H2)(x:cg P w H h a o):cg P w H2 h a o :=
 x.stay (λb u _ q=>q) (λb q=>v.keep q (λ_ _ z=>by cases z)) λb xs q=>v.keep q (λ_ _ z=>by cases z)
def Inv.view(v:Vw (λc=>X.Ha c=none) H H2)(I:Inv X pins σ H s):Inv X pins σ H2 s:=by
 refine⟨I.ok,I.os,I.bare,⟨I.base.keep,I.base.slot,λb o e n hx=>v.none (I.base.free b o e n hx),I.base.there,λb xs e=>v.keep (I.base.tups b xs e) (λ_ _ z=>by cases z),λb o u e=>?_,λb ps e=>?_⟩,I.loc,I.cell,v.none I.free,λx c e=>v.none (I.freeC x c e),λp hp=>?_,λa o e=>?_,I.len⟩
 .have h1:=I.base.frzs b o u e
  rcases v b with h|⟨h,_⟩
  .rw[h];exact h1
  .rw[e]at h;cases h
 .obtain⟨m,h1⟩:=I.base.tbls b ps e
  exact⟨m,v.keep h1 (λ_ _ z=>by cases z)⟩
 .obtain⟨h1,h2,h3⟩:=I.pin p hp
  exact⟨h1,v.none h2,h3⟩
 .rcases v a with h|⟨_,ob,u,h,h2⟩
  .rw[h]at e;exact cg.view v (I.hok a o e)
  .rw[h2]at e;obtain rfl:u=o:=Option.some.inj e
   obtain⟨_,q⟩:=(show cg X.prog X.w H s.heap a (.frz ob u) from I.hok a _ h)
   exact cg.view v q
def Cc{st:List Stmt}(h:qZ X st t):qZ X st λG σ H=>∃H2,Vw (λc=>X.Ha c=none) H H2/\t G σ H2 :=
 λpins s σ H G I ⟨H2,v,q⟩=>h pins s σ H2 G (Inv.view v I) q
def K0(K:W.Frag):Prop:=∀a o,K.lookup a=some o->o.cls≠.type "list"
def K0.rd{K:W.Frag}(n:K0 K)(h:eN K H a xs):Rd H a (.lst xs):=by
 rcases h with h|⟨o,its,k,h1,h2,_⟩
 .exact h
 .exact absurd h2 (n a o h1)
def rY(ρ:Ev):Bool:=ρ.all λs=>match s with
 |.ow _=>false
 |.ox _ _=>false
 |_=>true
section
variable {K:W.Frag}{He H0e Ha H H2:Hp}{σ:L2.St}{ρ:Ev}{a:Addr}{st:ac}{vs:ad}
def rY.ow(h:rY ρ=true){i:Nat}(e:ρ[i]?=some (.ow d)):False:=by
 have:=List.all_eq_true.mp h _ (List.mem_of_getElem? e);cases this
def rY.ox(h:rY ρ=true){i j:Nat}(e:ρ[i]?=some (.ox j ds)):False:=by
 have:=List.all_eq_true.mp h _ (List.mem_of_getElem? e);cases this
def cY.poke(h:cY K He H0e Ha σ H ρ)(n:rY ρ=true)(hs:aB He H2)(hz:aB Ha H2):cY K He H0e Ha σ H2 ρ :=
 ⟨⟨hs,h.g.z,hz,h.g.nw⟩,h.rd,λi d e=>(rY.ow n e).elim,λi j d d' _ e=>(rY.ow n e).elim,h.ln,⟨λi j ds e=>(rY.ox n e).elim,h.ex.2⟩⟩
def eX.poke(h:eX K He H0e Ha σ H ρ a st vs)(n:rY ρ=true)(hs:aB (upd He a (.lst vs)) H2)(hz:aB Ha H2):eX K He H0e Ha σ H2 ρ a st vs :=
 ⟨h.ha,h.h0,hs _ _ aI,h.r,h.s.poke n hs hz⟩
def cY.dropT(h:cY K He H0e Ha σ H ρ):cY K He H0e Ha (σ.set i (some v)) H (ρ.set i .no):=by
 have key:∀(j:Nat) (s:Sl),(ρ.set i .no)[j]?=some s->s=.no∨(j≠i/\ρ[j]?=some s):=λj s e=>by
  by_cases hj:i=j
  .subst hj
   rw[List.getElem?_set_self']at e;cases q:ρ[i]? with|none=>rw[q]at e;cases e|some s'=>rw[q]at e;cases e;exact .inl rfl
  .rw[List.getElem?_set_ne hj]at e
   exact .inr ⟨λz=>hj z.symm,e⟩
 refine⟨h.g,λj d' e=>?_,λj d' e=>?_,λj k d1 d2 hn e1 e2=>?_,by simp[h.ln],h.ex.upd (λj s e=>?_) (aB.refl _) (λa vs _ e=>e) λp us _ h0 hp _=>⟨hp,h0⟩⟩
 .rcases key j _ e with e'|⟨hj,e'⟩
  .cases e'
  .obtain⟨v',h1,h2⟩:=h.rd j d' e'
   exact⟨v',by rw[List.getElem?_set_ne (Ne.symm hj)];exact h1,h2⟩
 .rcases key j _ e with e'|⟨hj,e'⟩
  .cases e'
  .obtain⟨b,h1,h2⟩:=h.ow j d' e'
   exact⟨b,by rw[List.getElem?_set_ne (Ne.symm hj)];exact h1,h2⟩
 .rcases key j _ e1 with e'|⟨hj,e1'⟩
  .cases e'
  rcases key k _ e2 with e'|⟨hk,e2'⟩
  .cases e'
  rw[List.getElem?_set_ne (Ne.symm hj),List.getElem?_set_ne (Ne.symm hk)];exact h.ap j k d1 d2 hn e1' e2'
 .rcases key j _ e with e'|⟨hj,e'⟩
  .exact .inr (.inr (.inl e'))
  .exact .inl ⟨e',by rw[List.getElem?_set_ne (Ne.symm hj)]⟩
end
structure TD (K:W.Frag) (He Ha:Hp) (σ:L2.St) (H:Hp) (x:Nat) (d:D):Prop where
 p:∃t v0 v1 b kvs d0 d1 d2,d=.tup [d0,d1,d2]/\σ[x]?=some (some (.ref t))/\ji K (frz He Ha H) t [v0,v1,.ref b]/\Rep K (frz He Ha H) d (.ref t)/\H b=some (.dK kvs)/\He b=none/\Ha b=none/\kvs.length<line /\
  ((d0=.non/\v0=.non)∨∃(p:Addr) (us:ad) (ns:List Int),d0=.lst (ns.map D.int)/\us.length<line/\v0=.ref p/\H p=some (.lst us)/\He p=none/\Ha p=none)
structure TU (K:W.Frag) (He Ha:Hp) (σ:L2.St) (H:Hp) (x:Nat):Prop where
 p:∃t v0 v1 b kvs,σ[x]?=some (some (.ref t))/\ji K (frz He Ha H) t [v0,v1,.ref b]/\H b=some (.dK kvs)/\He b=none/\Ha b=none/\kvs.length<line
def pv(s:aB H H'):aB (frz He Ha H) (frz He Ha H'):=λc o e=>by
 unfold frz at e ⊢;cases q:He c with|none=>rw[q]at e;exact s _ _ e|some _=>rw[q]at e;exact e
def TD.same{K:W.Frag}(h:TD K He Ha σ H x d)(s:aB H H'):TD K He Ha σ H' x d:=by
 obtain⟨t,v0,v1,b,kvs,d0,d1,d2,h1,h2,h3,h4,h5,h6,h7,hl,h8⟩:=h;refine⟨t,v0,v1,b,kvs,d0,d1,d2,h1,h2,aB.sqT (pv s) h3,h4.mono (pv s),s _ _ h5,h6,h7,hl,?_⟩;rcases h8 with h8|⟨p,us,ns,k1,k0,k2,k3,k4,k5⟩
 .exact .inl h8
 .exact .inr ⟨p,us,ns,k1,k0,k2,s _ _ k3,k4,k5⟩
def vx(x:Nat)(d:D)(ρ:Ev):Ev:=(fX ρ).set x (.sh d)
def TD.looks{K:W.Frag}(t:TD K He Ha σ H x d)(h:cY K He H0e Ha σ H ρ):Reads K (frz He Ha H) σ (vx x d ρ):=λi d' e=>by
 obtain⟨t,v0,v1,b,kvs,d0,d1,d2,h1,h2,h3,h4,h5⟩:=t;unfold vx at e
 by_cases c:x=i
 .subst c
  rw[List.getElem?_set_self']at e;cases q:(fX ρ)[x]? with|none=>rw[q]at e;cases e|some s=>rw[q]at e;cases e;exact⟨_,h2,h4⟩
 .rw[List.getElem?_set_ne c]at e
  exact h.looks i d' e
def Mk(K:W.Frag)(He H0e:Hp)(a:Addr)(x:Nat)(g:D->Ev->ac->aj cy):TS:=λG σ H=>∃Ha ρ st vs d,eX K He H0e Ha σ H ρ a st vs/\TD K (upd He a (.lst vs)) Ha σ H x d/\cZ K He H0e a Ha (g d ρ st) G
def MR(K:W.Frag)(He H0e:Hp)(a:Addr)(x:Nat)(g:Ev->ac->aj cy):TS:=λG σ H=>∃Ha ρ st vs,eX K He H0e Ha σ H ρ a st vs/\TU K (upd He a (.lst vs)) Ha σ H x/\cZ K He H0e a Ha (g ρ st) G
structure Jp (X:Cx) (He H0e:Hp) (a:Addr) (x:Nat) (st:List Stmt) (g:D->Ev->ac->aj cy):Prop where
 o:qZ X st (Mk X.K He H0e a x g)
structure MH (X:Cx) (He H0e:Hp) (a:Addr) (x:Nat) (st:List Stmt) (g:Ev->ac->aj cy):Prop where
 o:qZ X st (MR X.K He H0e a x g)
section
variable {X:Cx}{E:XK}{He H0e:Hp}{a:Addr}{x:Nat}{st:Stmt}{rest:List Stmt}{e b c:Expr}{pos:Pos}{f fk:al}{g:D->Ev->ac->aj cy}{s r:Ev->ac->aj cy}
def BV(r:cy):aj cy:=match r with
 |.rt d st=>.ok (.rt d st)
 |_=>.stuck
def tIf(x:Nat)(f:al)(s:Ev->ac->aj cy)(g:D->Ev->ac->aj cy):D->Ev->ac->aj cy:=λd ρ st=>(f (vx x d ρ)).bind λb=>match b with
 |.bl true=>(s ρ st).bind BV
 |.bl false=>g d ρ st
 |_=>.stuck
def Jw(hc:DT X E c f)(hb:Bs X He H0e a body s)(hr:Jp X He H0e a x rest g):Jp X He H0e a x (.If c body [] pos::rest) (tIf x f s g):=by
 refine⟨?_⟩;refine cQ (c6 (yI hc.o hb.o jq) hr.o) λG σ H ⟨Ha,ρ,st,vs,d,h,t,q⟩=>?_;refine⟨frz (upd He a (.lst vs)) Ha H,vx x d ρ,h.s.frz_le,t.looks h.s,?_⟩;unfold tIf at q;cases e1:f (vx x d ρ) with
 |stuck=>rw[e1]at q;exact q|exn y=>rw[e1]at q;exact q.elim
 |ok y=>
  rw[e1]at q;cases y with
  |bl y=>
   cases y with
   |true=>
    intro H' J g1;have h':=h.back (aB.refl _) (h.s.same g1.s);show if true=true then _ else _
    rw[if_pos rfl];refine⟨Ha,ρ,st,vs,h',?_⟩;replace q:cZ X.K He H0e a Ha ((s ρ st).bind BV) G:=q;cases e2:s ρ st with
    |stuck|exn z=>rw[e2]at q;exact q
    |ok z=>
     rw[e2]at q;cases z with|rt d' st'=>exact q|nx _ _|bk _ _|ct _ _=>exact q.elim
   |false=>
    intro H' J g1;have h':=h.back (aB.refl _) (h.s.same g1.s);show if false=true then _ else _
    rw[if_neg (by decide)];exact⟨Ha,ρ,st,vs,d,h',t.same g1.s,q⟩
  |_=>exact q.elim
def oq(x i:Nat)(f:al)(g:D->Ev->ac->aj cy):D->Ev->ac->aj cy:=λd ρ st=>(f (vx x d ρ)).bind λy=>match y with
 |.str z=>if x≠i then g d (ρ.set i (.sh (.str z))) st else .stuck
 |_=>.stuck
def Hc(hN:X.N.Nodup)(hi:X.N[i]?=some y)(hx:Af X.env.scope y)(he:DE X E e f)(hr:Jp X He H0e a x rest g)(hs:swapsWith e (some (.Name y pos')) pos.line X.env=pure false:=by rfl)
  (hf:X.fn y=true∨X.env.scope.names.lookup y=some .local := by first|exact .inl rfl|exact .inr rfl|assumption):Jp X He H0e a x (.Assign [.Name y pos'] e pos::rest) (oq x i f g):=by
 refine⟨?_⟩;refine cQ (c6 (iM hN hi hx he.o hs hf) hr.o) λG σ H ⟨Ha,ρ,st,vs,d,h,t,q⟩=>?_;refine⟨frz (upd He a (.lst vs)) Ha H,vx x d ρ,h.s.frz_le,t.looks h.s,?_⟩;unfold oq at q;cases e1:f (vx x d ρ) with
 |stuck=>rw[e1]at q;exact q|exn y=>rw[e1]at q;exact q.elim
 |ok y=>
  rw[e1]at q;cases y with
  |str z=>
   intro v H' J g1 rp;rw[Rep.str_iff.mp rp];have h':=h.back (aB.refl _) (h.s.same g1.s);replace q:cZ X.K He H0e a Ha (if x≠i then g d (ρ.set i (.sh (.str z))) st else .stuck) G:=q
   by_cases hxi:x=i
   .rw[if_neg (by simpa using hxi)]at q;exact q.elim
   rw[if_pos hxi]at q;obtain⟨t',v0,v1,b,kvs,d0,d1,d2,k1,k2,k3⟩:=t.same g1.s;exact⟨Ha,ρ.set i (.sh (.str z)),st,vs,d,h'.back (aB.refl _) (h'.s.put (Rep.str_iff.mpr rfl)),⟨t',v0,v1,b,kvs,d0,d1,d2,k1,by rw[List.getElem?_set_ne (Ne.symm hxi)];exact k2,k3⟩,q⟩
  |_=>exact q.elim
def Ap(x:Nat)(f:al)(r:Ev->ac->aj cy):D->Ev->ac->aj cy:=λd ρ st=>if rY ρ=true then(f (vx x d ρ)).bind λy=>match y,d with
 |.bl true,.tup (.lst _::_)=>r ρ st
 |.bl false,_=>r ρ st
 |_,_=>.stuck
 else .stuck
def Hd{k n:Int}{jj jn}{p0 p1 p2 p3 p4 p5 p6:Pos}(hk:k=0)(hN:X.N[x]?=some y)(hv:Bm X.env.scope y)(hc:DT X E c f)(hr:MH X He H0e a x rest r)
  (hd:(y==("__debug__":Str))=false:=by decide)(hcd:(y==("__classdict__":Str))=false:=by decide)(hix:ix (.Constant (.int k) jj p4):=by exact λ_ _=>rfl)
  (hbase:attributeBase (.Subscript (.Name y p1) (.Constant (.int k) jj p4) p0) "append" X.env (eval (.Subscript (.Name y p1) (.Constant (.int k) jj p4) p0) X.env)=eval (.Subscript (.Name y p1) (.Constant (.int k) jj p4) p0) X.env:=by rfl)
  (hfew:((backTo p3 (starEach [.Constant (.int n) jn p6] X.env)).all (λx=>!x.1)&&(backToKw p3 (keywordEach [] X.env)).all (λx=>x.1.isSome)
  &&decide ([(.Constant (.int n) jn p6:Expr)].length+([]:List Keyword).length+(if([]:List Keyword).isEmpty then 0 else 1)<30))=true:=by exact kL rfl)
  (hline:(p2.endLine==p3.line)=true:=by rfl) (hs:starEach [.Constant (.int n) jn p6] X.env=(false,eval (.Constant (.int n) jn p6) X.env)::starEach [] X.env:=by exact bA rfl) (hplain:(backTo p3 (starEach [] X.env)).any (·.1)=false:=by exact cf rfl)
  (hw:swapsWith (.Call (.Attribute (.Subscript (.Name y p1) (.Constant (.int k) jj p4) p0) "append" p2) [.Constant (.int n) jn p6] [] p3) none p5.line X.env=pure false:=by rfl) :
  Jp X He H0e a x (.If c [.Expr (.Call (.Attribute (.Subscript (.Name y p1) (.Constant (.int k) jj p4) p0) "append" p2) [.Constant (.int n) jn p6] [] p3) p5] [] pos::rest) (Ap x f r):=by
 refine⟨?_⟩;have hb:=nI (yQ PySem.F.plainAttrs_list PySem.F.slot_list_append PySem.F.type_list_append ju (yO xI (gZ hN hv hd hcd) tX hix) (dM (tX (i:=n) (j:=jn) (pos:=p6)) gr hs) hbase hfew hline hs hplain) hw;refine cQ (c6 (yI hc.o (c6 hb jq) jq) hr.o) λG σ H ⟨Ha,ρ,st,vs,d,h,t,q⟩=>?_;refine⟨frz (upd He a (.lst vs)) Ha H,vx x d ρ,h.s.frz_le,t.looks h.s,?_⟩;unfold Ap at q
 by_cases hn:rY ρ=true
 .rw[if_pos hn]at q
  cases e1:f (vx x d ρ) with
  |stuck=>rw[e1]at q;exact q|exn y=>rw[e1]at q;exact q.elim
  |ok z=>
   rw[e1]at q;cases z with
   |bl z=>
    obtain⟨t,v0,v1,b,kvs,d0,d1,d2,k1,k2,k3,k4,k5,k6,k7,k8,k9⟩:=t;subst k1;cases z with
    |false=>
     intro H' J g1;have h':=h.back (aB.refl _) (h.s.same g1.s);show if false=true then _ else _
     rw[if_neg (by decide)];exact⟨Ha,ρ,st,vs,h',⟨t,v0,v1,b,kvs,k2,aB.sqT (pv g1.s) k3,g1.s _ _ k5,k6,k7,k8⟩,q⟩
    |true=>
     intro H' J g1;have h':=h.back (aB.refl _) (h.s.same g1.s);show if true=true then _ else _
     rw[if_pos rfl];rcases k9 with⟨m1,m2⟩|⟨p,us,ns,m1,m0,m2,m3,m4,m5⟩
     .subst m1;exact q.elim
     .subst m1 m2
      replace q:cZ X.K He H0e a Ha (r ρ st) G:=q;have sF:aB (frz (upd He a (.lst vs)) Ha H) H':=h.s.frz_le.trans g1.s;have hp:H' p=some (.lst us):=g1.s _ _ m3;have hb':H' b=some (.dK kvs):=g1.s _ _ k5;have hpb:b≠p:=by intro z;subst z;rw[hb']at hp;cases hp
      refine⟨.ref t,k2,?_⟩;refine⟨t,[.ref p,v1,.ref b],k,.ref p,rfl,rfl,aB.sqT sF k3,by rw[hk];rfl,.inl ⟨rfl,us,eN.of hp⟩,?_⟩;refine⟨p,us,.int n,rfl,rfl,hp,Nat.lt_of_lt_of_le m0 (by decide),?_⟩;have sE:aB (upd He a (.lst vs)) (upd H' p (.lst (us++[.int n]))):=λc o e=>by
       rw[az (by intro z;subst z;rw[m4]at e;cases e)];exact h'.s.g.s _ _ e
      have sZ:aB Ha (upd H' p (.lst (us++[.int n]))):=λc o e=>by
       rw[az (by intro z;subst z;rw[m5]at e;cases e)];exact h'.s.g.sub _ _ e
      refine⟨Ha,ρ,st,vs,h'.poke hn sE sZ,⟨t,.ref p,v1,b,kvs,k2,?_,by rw[az hpb];exact hb',k6,k7,k8⟩,q⟩;rcases k3 with k3|k3
      .have nt:t≠p:=by
        intro z;subst z;rcases k3 with k3|⟨o,k3⟩
        .have:=sF _ _ k3;rw[hp]at this;cases this
        .have:=sF _ _ k3;rw[hp]at this;cases this
       refine .inl (k3.imp (λk3=>?_) λ⟨o,k3⟩=>⟨o,?_⟩)
       .unfold frz at k3 ⊢
        cases q2:upd He a (.lst vs) t with|none=>rw[q2]at k3;simp only at k3 ⊢;rw[az nt];exact g1.s _ _ k3|some _=>rw[q2]at k3;exact k3
       .unfold frz at k3 ⊢
        cases q2:upd He a (.lst vs) t with|none=>rw[q2]at k3;simp only at k3 ⊢;rw[az nt];exact g1.s _ _ k3|some _=>rw[q2]at k3;exact k3
      .exact .inr k3
   |_=>exact q.elim
 .rw[if_neg hn]at q;exact q.elim
def Ao(fk:al)(r:Ev->ac->aj cy):Ev->ac->aj cy:=λρ st=>if rY ρ=true then(fk ρ).bind λy=>match y with
 |.str _=>r ρ st
 |_=>.stuck
 else .stuck
def G8{k:Int}{jj jn}{p0 p1 p2 p4 p6:Pos}(hk:k=2)(hu:X.A.units+1<cLine)(hN:X.N[x]?=some y)(hv:Bm X.env.scope y)(hb:DE X E b fk)(hr:Bs X He H0e a rest r)
  (hd:(y==("__debug__":Str))=false:=by decide)(hcd:(y==("__classdict__":Str))=false:=by decide)(hix:ix (.Constant (.int k) jj p4):=by exact λ_ _=>rfl)
  (hs:swapsWith (.Constant .none jn p6) (some (.Subscript (.Subscript (.Name y p1) (.Constant (.int k) jj p4) p0) b p2)) pos.line X.env=pure false:=by rfl) :
  MH X He H0e a x (.Assign [.Subscript (.Subscript (.Name y p1) (.Constant (.int k) jj p4) p0) b p2] (.Constant .none jn p6) pos::rest) (Ao fk r):=by
 refine⟨?_⟩;refine cQ (c6 (yJ hu (yO xI (gZ hN hv hd hcd) tX hix) hb.o Co hs) hr.o) λG σ H ⟨Ha,ρ,st,vs,h,t,q⟩=>?_;unfold Ao at q
 by_cases hn:rY ρ=true
 .rw[if_pos hn]at q
  obtain⟨t,v0,v1,b,kvs,k2,k3,k5,k6,k7,k8⟩:=t;refine⟨.ref t,k2,⟨t,[v0,v1,.ref b],k,.ref b,rfl,rfl,aB.sqT h.s.frz_le k3,by rw[hk];rfl,?_⟩⟩;refine⟨Ha,ρ,h.s.g.sub,h.s.rd,?_⟩;cases e1:fk ρ with
  |stuck=>rw[e1]at q;exact q|exn y=>rw[e1]at q;exact q.elim
  |ok z=>
   rw[e1]at q;cases z with
   |str z=>
    intro v H' J g1 rp;rw[Rep.str_iff.mp rp];have h':=h.back (aB.refl _) (h.s.same g1.s);have hb':H' b=some (.dK kvs):=g1.s _ _ k5;refine⟨b,_,rfl,yn.k (k:=.inr z) hb' (Nat.lt_of_lt_of_le k8 (by decide)),?_⟩;refine⟨Ha,ρ,st,vs,h'.poke hn (λc o e=>?_) (λc o e=>?_),q⟩
    .rw[az (by intro z;subst z;rw[k6]at e;cases e)];exact h'.s.g.s _ _ e
    .rw[az (by intro z;subst z;rw[k7]at e;cases e)];exact h'.s.g.sub _ _ e
   |_=>exact q.elim
 .rw[if_neg hn]at q;exact q.elim
def pe(js:bi)(ρ:Ev):Ev:=ρ.mapIdx λi s=>if js.contains i then s else .no
def CQ(h:(pe js ρ)[i]?=some (.sh d)):i∈js/\ρ[i]?=some (.sh d):=by
 unfold pe at h;rw[List.getElem?_mapIdx]at h;cases q:ρ[i]? with
 |none=>rw[q]at h;cases h
 |some s=>
  rw[q]at h;simp only[Option.map_some,Option.some.injEq]at h
  by_cases c:js.contains i=true
  .rw[if_pos c]at h;exact⟨by simpa using c,by rw[h]⟩
  .rw[if_neg c]at h;cases h
noncomputable def Ka(js:bi) (ρ:Ev) (d:D):Prop:=(∀j∈js,∀d',ρ[j]?=some (.sh d')->plainD d'=true)/\rY ρ=true/\match d with
 |.tup [.non,_,.dic ks _]=>ks.length<line
 |.tup [.lst es,_,.dic ks _]=>ks.length<line/\∃ns:List Int,es=ns.map D.int/\ns.length<line/\∀j∈js,∀d',ρ[j]?=some (.sh d')->¬fH ns d'
 |_=>False
open Classical in
noncomputable def oZ(x:Nat) (js:bi) (f:al) (g:D->Ev->ac->aj cy):Ev->ac->aj cy:=λρ st=>(f (pe js ρ)).bind λd=>if Ka js ρ d/\x<ρ.length then g d (ρ.set x .no) st else .stuck
end
def MO:Option HO->Option HO
 |some (.frz _ u)=>some u
 |o=>o
def DZ(l:List Addr)(H:Hp):Hp:=λc=>if c∈l then MO (H c) else H c
def BC(h:∀c∈l,A c):Vw A H (DZ l H):=λc=>by
 unfold DZ
 by_cases hc:c∈l
 .rw[if_pos hc]
  cases q:H c with
  |none=>exact .inl rfl
  |some o=>
   cases o with|frz ob u=>exact .inr ⟨h c hc,ob,u,rfl,rfl⟩| _=>exact .inl rfl
 .rw[if_neg hc];exact .inl rfl
def En(hc:c∈l)(r:Rd H c (.lst xs)):DZ l H c=some (.lst xs):=by
 unfold DZ;rw[if_pos hc];rcases r with r|⟨o,r⟩<;>rw[r]<;>rfl
def G5(hc:c∈l)(r:Rd H c (.dK xs)):DZ l H c=some (.dK xs):=by
 unfold DZ;rw[if_pos hc];rcases r with r|⟨o,r⟩<;>rw[r]<;>rfl
def E8(h:rY ρ=true):rY (ρ.set x .no)=true:=by
 unfold rY at h ⊢;rw[List.all_eq_true]at h ⊢;intro s hs;rcases List.mem_or_eq_of_mem_set hs with h1|h1
 .exact h s h1
 .subst h1;rfl
section
variable {X:Cx}{E:XK}{He H0e:Hp}{a:Addr}{x:Nat}{rest:List Stmt}{e:Expr}{pos:Pos}{f:al}{g:D->Ev->ac->aj cy}
def BK(js:bi)(hN:X.N.Nodup)(hi:X.N[x]?=some y)(hx:Af X.env.scope y)(hK:K0 X.K)(hE:∀b,He b=none->X.Ha b=none)(he:DE X E e f)(hr:Jp X He H0e a x rest g)(hs:swapsWith e (some (.Name y pos')) pos.line X.env=pure false:=by rfl)
  (hf:X.fn y=true∨X.env.scope.names.lookup y=some .local := by first|exact .inl rfl|exact .inr rfl|assumption):Bs X He H0e a (.Assign [.Name y pos'] e pos::rest) (oZ x js f g):=by
 refine⟨?_⟩;refine cQ (c6 (iM hN hi hx he.o hs hf) (Cc hr.o)) λG σ H ⟨Ha,ρ,st,vs,h,q⟩=>?_;unfold oZ at q;cases e1:f (pe js ρ) with
 |stuck|exn z=>rw[e1]at q;exact q.elim
 |ok d=>
  rw[e1]at q;replace q:cZ X.K He H0e a Ha (open Classical in if Ka js ρ d/\x<ρ.length then g d (ρ.set x .no) st else .stuck) G:=q
  by_cases hc:Ka js ρ d/\x<ρ.length
  rotate_left
  .rw[if_neg hc]at q;exact q.elim
  rw[if_pos hc]at q;obtain⟨⟨hp,hn,hd⟩,hxl⟩:=hc
  let S:Addr->Prop:=λb=>∃j∈js,∃dj v,ρ[j]?=some (.sh dj)/\σ[j]?=some (some v)/\Ft X.K Ha dj v b
  refine⟨rst Ha S,pe js ρ,oz.trans h.s.g.sub,λi di ei=>?_,?_⟩
  .obtain⟨hj,ei⟩:=CQ ei
   obtain⟨v,h1,h2⟩:=h.s.rd i di ei;exact⟨v,h1,Rep.rst (hp i hj di ei) h2 λb hb=>⟨i,hj,di,v,ei,h1,hb⟩⟩
  rw[e1];intro v H' Hm g1 rp;have fresh:∀c,Hm c≠none->(S c->Hm c=Ha c->False)->H c=none:=λc hm hs=>by
   cases q0:Ha c with
   |none=>exact g1.nw c hm (oz.free q0)
   |some o=>
    by_cases sc:S c
    .have:=g1.z c o (by rw[BX sc];exact q0)
     exact(hs sc (by rw[this,q0])).elim
    .exact g1.nw c hm (by unfold rst;rw[if_neg sc])
  have hF:aB Hm (frz (upd He a (.lst vs)) Ha H'):=λc o e=>by
   unfold frz;cases q1:upd He a (.lst vs) c with
   |none=>exact g1.sub _ _ e
   |some o1=>
    simp only;have hH:=h.s.g.s _ _ q1;cases q2:rst Ha S c with|none=>have:=g1.nw c (by rw[e];simp) q2;rw[hH]at this;cases this|some o2=>have:=g1.z _ _ q2;rw[e]at this;cases this;exact oz _ _ q2
  obtain⟨d0,d1,ks,es,rfl⟩:∃d0 d1 ks es,d=.tup [d0,d1,.dic ks es]:=by
   split at hd
   .exact⟨_,_,_,_,rfl⟩
   .exact⟨_,_,_,_,rfl⟩
   .exact hd.elim
  have rp0:=rp;obtain⟨t,ws,rfl,ht,hw⟩:=aK.mp rp;obtain⟨v0,_,rfl,r0,hw⟩:=aC.mp hw;obtain⟨v1,_,rfl,r1,hw⟩:=aC.mp hw;obtain⟨v2,_,rfl,r2,hw⟩:=aC.mp hw;rw[Reps.nil_iff.mp hw]at ht;rw[Rep]at r2;obtain⟨b,kvs,us2,rfl,rb,ek,el,_⟩:=r2;have hb0:Hm b≠none:=by rcases rb with r|⟨_,r⟩<;>rw[r]<;>simp
  have hbH:H b=none:=fresh b hb0 λ⟨j,hj,dj,vj,_,_,hft⟩ eq=>Ft.dict (xs:=kvs) (by unfold Rd;rw[←eq];exact rb) hft;have kl:kvs.length=ks.length:=by rw[ek,List.length_zip,List.length_map,←el,Nat.min_self]
  have common:∀l:List Addr,b∈l->(∀c∈l,H c=none)->ks.length<line->((d0=.non/\v0=.non)∨∃(p:Addr) (us:ad) (ns:List Int),d0=.lst (ns.map D.int)/\us.length<line/\v0=.ref p/\p∈l/\Rd Hm p (.lst us)) ->
    ∃H2,Vw (λc=>X.Ha c=none) H' H2/\Mk X.K He H0e a x g G (σ.set x (some (.ref t))) H2:=λl hbl hl hkl hd0=>by
   have hHx:∀c∈l,upd He a (.lst vs) c=none:=λc hc=>h.s.g.s.free (hl c hc);have hH0:∀c∈l,Ha c=none:=λc hc=>h.s.g.sub.free (hl c hc);have hHe:∀c∈l,X.Ha c=none:=λc hc=>hE c (by
    have:=hHx c hc
    by_cases z:c=a
    .subst z;exact h.ha
    .rw[az z]at this;exact this)
   refine⟨DZ l H',BC hHe,Ha,ρ.set x .no,st,vs,.tup [d0,d1,.dic ks es],?_,?_,q⟩
   .have h1:=h.back (aB.refl _) (h.s.same g1.s)
    have h2:=h1.back (aB.refl _) (h1.s.dropT (i:=x) (v:=.ref t));refine h2.poke (E8 hn) (λc o e=>?_) λc o e=>?_
    .unfold DZ;rw[if_neg (λz=>by rw[hHx c z]at e;cases e)];exact h2.s.g.s _ _ e
    .unfold DZ;rw[if_neg (λz=>by rw[hH0 c z]at e;cases e)];exact h2.s.g.sub _ _ e
   .have vF:Vw (λc=>H c=none) (frz (upd He a (.lst vs)) Ha H') (frz (upd He a (.lst vs)) Ha (DZ l H')):=λc=>by
     unfold frz;cases q1:upd He a (.lst vs) c with|none=>exact BC hl c|some _=>exact .inl rfl
    refine⟨t,v0,v1,b,kvs,d0,d1,.dic ks es,rfl,by rw[List.getElem?_set_self (by rw[←h.s.ln];exact hxl)],?_,(rp0.mono hF).view vF,G5 hbl (aB.rd g1.sub rb),hHx b hbl,hH0 b hbl,by rw[kl];exact hkl,?_⟩
    .exact(aB.sqT hF ht).imp (λr=>vF.rd r (λ_ _ z=>by cases z)) id
    .rcases hd0 with hd0|⟨p,us,ns,k1,k2,k3,k4,k5⟩
     .exact .inl hd0
     .exact .inr ⟨p,us,ns,k1,k2,k3,En k4 (aB.rd g1.sub k5),hHx p k4,hH0 p k4⟩
  show ∃H2,_/\_;cases d0 with
  |non=>exact common [b] (by simp) (by simpa using hbH) hd (.inl ⟨rfl,aO.mp r0⟩)
  |lst e0=>
   obtain⟨hkl,ns,rfl,hnl,hni⟩:=hd;obtain⟨p,us,rfl,hp1,hp2⟩:=aE.mp r0;have rd:=hK.rd hp1;have eu:=l7 hp2;subst eu;have hp0:Hm p≠none:=by rcases rd with r|⟨_,r⟩<;>rw[r]<;>simp
   have hpH:H p=none:=fresh p hp0 λ⟨j,hj,dj,vj,ej,_,hft⟩ eq=>hni j hj dj ej (Ft.ints (by unfold Rd;rw[←eq];exact rd) hft);exact common [b,p] (by simp) (by simp[hbH,hpH]) hkl (.inr ⟨p,_,ns,rfl,by simpa using hnl,rfl,by simp,rd⟩)
  |_=>exact hd.elim
end
end DL
namespace DL
open PySem L2
def MB(o:Obj):Bool:=match o.cls with
 |.type n=>n=="list"
 |_=>false
def Ia(K:W.Frag):Bool:=K.all λp=>!MB p.2
theorem y0:∀{K:W.Frag},Ia K=true->K0 K
 |[],_,_,_,h=>by cases h
 |(b,q)::K,h,a,o,e=>by
  unfold Ia at h;rw[List.all_cons,Bool.and_eq_true]at h;rw[List.lookup_cons]at e;split at e
  .cases e
   intro z;have h1:=h.1;unfold MB at h1;simp only[z]at h1;exact absurd h1 (by decide)
  .exact y0 (K:=K) h.2 a o e
end DL
namespace K11
open PySem L2 DL
noncomputable def eh:am :=
 (av (dw (aa (aa (ae 0) (dC (.int 0)) aM) (ae 1) kc)
 (av (bz (aa (ae 0) (dC (.int 1)) aM))
 aq)
 aq)
 (av (dw (eg (aa (aa (ae 0) (dC (.int 1)) aM) (ae 1) kc) (aa (aa (ae 0) (dC (.int 2)) aM) (dC (.str "both")) kc))
 (av (bz (aa (ae 0) (dC (.int 0)) aM))
 aq)
 aq)
 (av (bz (dC (.non)))
 aq)))
def bw:ac->aj D:=b9 2 eh
noncomputable def bG:am :=
 (av (dw (gh (cb (b7 (ae 1) (c4 "int"))) (b7 (ae 1) (c4 "bool")))
 (av (bz (dC (.bl false)))
 aq)
 aq)
 (av (bz (fP GL GK (dC (.int 0)) (ae 1) (au (ai (aa (ae 0) (dC (.int 1)) aM) aF) (m1 dm))))
 aq))
def aP:ac->aj D:=b9 2 bG
noncomputable def fA:am :=
 (av (dw (cb (b7 (ae 2) (c4 "list")))
 (av (bz (au (ai (dC (.str "at")) (ai (dC (.non)) aF)) eQ))
 aq)
 aq)
 (av (bE 3 (aa (ae 0) (dC (.int 2)) aM))
 (av (kq 4 (au (ai (ae 3) aF) eR))
 (av (rS (au (ai (ae 2) aF) (m1 dm)) (bW 5)
 (av (bE 6 (aa (ae 2) (ae 5) aM))
 (av (bE 7 (dC (.non)))
 (av (dw (eg (aa (ae 3) (aa (ae 0) (dC (.int 3)) aM) iG) (eg (au (ai (ae 0) (ai (ae 6) aF)) aP) (aa (ae 6) (ae 1) cO)))
 (av (bE 7 (au (ai (aa (aa (ae 0) (dC (.int 1)) aM) (ae 6) aM) (ai (ae 3) aF)) bw))
 aq)
 aq)
 (av (dw (gh (aa (ae 7) (dC (.non)) eV) (aa (ae 7) (ae 4) Br))
 (av (bz (au (ai (dC (.str "at")) (ai (ae 5) aF)) eQ))
 aq)
 aq)
 (av (bE 3 (ae 7))
 (av (dZ 4 (ae 3))
 aq)))))))
 (av (dw (aa (ae 3) (aa (ae 0) (dC (.int 3)) aM) iG)
 (av (bz (au (ai (dC (.str "at")) (ai (au (ai (ae 2) aF) (m1 dm)) aF)) eQ))
 aq)
 aq)
 (av (bz (au (ai (dC (.str "way")) (ai (ae 4) aF)) eQ))
 aq))))))
def cj:ac->aj D:=b9 8 fA
noncomputable def gu:am :=
 (av (bE 1 (au (ai (aa (ae 0) (dC (.int 0)) aM) (ai (aa (ae 0) (dC (.int 1)) aM) aF)) eQ))
 (av (dw (aa (aa (ae 0) (dC (.int 2)) aM) (dC (.str "one")) kc)
 (av (bz (au (ai (ae 1) aF) eR))
 aq)
 aq)
 (av (bz (au (ai (ae 1) (ai (au (ai (aa (ae 0) (dC (.int 1)) aM) (ai (aa (ae 0) (dC (.int 0)) aM) aF)) eQ) aF)) eR))
 aq)))
def m_steps_along:ac->aj D:=b9 2 gu
end K11
namespace K12
open PySem L2 DL
abbrev br:ac->aj D:=Cod.br
abbrev m_ratio:ac->aj D:=Com.m_ratio
abbrev m_plus:ac->aj D:=Com.m_plus
noncomputable def nh:am :=
 (av (bz (au (ai (aa (aa (aa (ae 0) (dC (.int 0)) aM) (aa (ae 1) (dC (.int 1)) aM) bJ) (aa (aa (ae 1) (dC (.int 0)) aM) (aa (ae 0) (dC (.int 1)) aM) bJ) cn) (ai (aa (aa (ae 0) (dC (.int 1)) aM) (aa (ae 1) (dC (.int 1)) aM) bJ) aF)) br))
 aq)
def bS:ac->aj D:=b9 2 nh
end K12
namespace K51
open PySem L2 DL
abbrev br:ac->aj D:=Cod.br
def l3:am :=
 (av (bz (au (ai (aa (aa (ae 0) (dC (.int 0)) aM) (aa (ae 1) (dC (.int 0)) aM) bJ) (ai (aa (aa (ae 0) (dC (.int 1)) aM) (aa (ae 1) (dC (.int 1)) aM) bJ) aF)) br))
 aq)
def fz:ac->aj D:=b9 2 l3
abbrev bS:ac->aj D:=K12.bS
noncomputable def gO:am :=
 (av (dw (gh (cb (b7 (ae 0) (c4 "tuple"))) (aa (au (ai (ae 0) aF) (m1 dm)) (dC (.int 2)) iG))
 (av (bz (dC (.bl false)))
 aq)
 aq)
 (av (iL (Aq (ae 0)) (bW 1)
 (av (dw (gh (cb (b7 (ae 1) (c4 "int"))) (b7 (ae 1) (c4 "bool")))
 (av (bz (dC (.bl false)))
 aq)
 aq)
 aq))
 (av (bz (eg (aa (aa (ae 0) (dC (.int 0)) aM) (dC (.int 0)) Le) (eg (aa (aa (ae 0) (dC (.int 1)) aM) (dC (.int 0)) GN) (aa (au (ai (aa (ae 0) (dC (.int 0)) aM) (ai (aa (ae 0) (dC (.int 1)) aM) aF)) br) (ae 0) kc))))
 aq)))
def bM:ac->aj D:=b9 2 gO
def ni:am :=
 (av (bz (aa (aa (aa (ae 0) (dC (.int 0)) aM) (aa (ae 1) (dC (.int 1)) aM) bJ) (aa (aa (ae 1) (dC (.int 0)) aM) (aa (ae 0) (dC (.int 1)) aM) bJ) GK))
 aq)
def c8:ac->aj D:=b9 2 ni
abbrev m_is_less:ac->aj D:=Com.m_is_less
abbrev m_ratio:ac->aj D:=Com.m_ratio
abbrev m_plus:ac->aj D:=Com.m_plus
def zZ:am :=
 (av (bz (au (ai (aa (aa (ae 0) (dC (.int 0)) aM) (aa (ae 1) (dC (.int 0)) aM) bJ) (ai (aa (aa (ae 0) (dC (.int 1)) aM) (aa (ae 1) (dC (.int 1)) aM) bJ) aF)) m_ratio))
 aq)
def m_times:ac->aj D:=b9 2 zZ
abbrev m_steps_along:ac->aj D:=K11.m_steps_along
noncomputable def b_steps_left:am :=
 (av (kq 2 (au aF eR))
 (av (iL (Ar (aa (ae 0) (dC (.int 1)) aM)) (iW [3,4])
 (av (dw (aa (ae 3) (ae 1) cO)
 (av (nv (au (ai (ae 4) aF) m_steps_along) (iW [5,6])
 (av (dZ 2 (au (ai (ae 3) (ai (ae 5) (ai (ae 6) aF))) eQ))
 aq))
 aq)
 aq)
 aq))
 (av (bz (ae 2))
 aq)))
def m_steps_left:ac->aj D:=b9 7 b_steps_left
end K51
namespace K17
open PySem L2 DL
abbrev m_look_at_taking:ac->aj D:=Com.m_look_at_taking
abbrev m_on_one_scale:ac->aj D:=Com.m_on_one_scale
def gK:am :=
 (av (bz (au (ai (eD 1 [] (tN (aa (ae 0) (dC (.int 1)) aM)) (bW 0) mYes (aa (ae 0) (dC (.int 3)) aM)) aF) m_on_one_scale))
 aq)
def m_scaled_lengths:ac->aj D:=b9 1 gK
abbrev m_steps_along:ac->aj D:=K11.m_steps_along
abbrev m_steps_left:ac->aj D:=K51.m_steps_left
noncomputable def jd:am :=
 (av (bE 3 (dC (.non)))
 (av (nv (ae 0) (iW [4,5,6])
 (av (dw (eg (aa (ae 5) (ae 2) wF) (aa (ae 6) (ae 2) eL))
 (av (bE 7 (aa (aa (aa (ae 2) (ae 5) cc) (dC (.int 0)) aM) (aa (ae 1) (ae 4) aM) cn))
 (av (dw (gh (aa (ae 3) (dC (.non)) eV) (aa (ae 7) (aa (ae 3) (dC (.int 1)) aM) GK))
 (av (bE 3 (au (ai (ae 6) (ai (ae 7) (ai (aa (aa (aa (ae 2) (ae 5) cc) (dC (.int 1)) aM) (au (ai (ae 4) aF) eR) cn) aF))) eQ))
 aq)
 aq)
 aq))
 aq)
 aq))
 (av (bz (ae 3))
 aq)))
def m_nearest_step:ac->aj D:=b9 8 jd
noncomputable def jR:am :=
 (av (bE 3 (au (ai (ae 0) (ai (ae 1) aF)) m_steps_left))
 (av (uW 4 (zX (aa (ae 0) (dC (.int 2)) aM) (au (ai (dC (.int 0)) (ai (au aF eR) aF)) eQ)))
 (av (uU 5 (au (ai (ae 3) (ai (ae 2) (ai (ae 4) aF))) m_nearest_step))
 (av (gW (λ_=>8) (aa (ae 5) (dC (.non)) cU)
 (av (rR 4 (au (ai (aa (ae 5) (dC (.int 1)) aM) (ai (aa (ae 5) (dC (.int 2)) aM) aF)) eQ) (aa (ae 5) (dC (.int 0)) aM))
 (av (uU 5 (au (ai (ae 3) (ai (ae 2) (ai (ae 4) aF))) m_nearest_step))
 aq)))
 (av (bz (ae 4))
 aq)))))
def m_all_reached:ac->aj D:=b9 6 jR
abbrev m_ratio:ac->aj D:=Com.m_ratio
noncomputable def kh:am :=
 (av (bE 2 (au (ai (ae 0) aF) m_scaled_lengths))
 (av (bE 3 (au (ai (ae 0) (ai (ae 1) (ai (aa (ae 2) (dC (.int 0)) aM) aF))) m_all_reached))
 (av (uW 4 (dC (.dic [] [])))
 (av (nv (aa (ae 0) (dC (.int 0)) aM) (bW 5)
 (av (rR 4 (IF (aa (ae 5) (ae 3) wF) (au (ai (aa (aa (ae 3) (ae 5) cc) (dC (.int 0)) aM) (ai (aa (ae 2) (dC (.int 1)) aM) aF)) m_ratio) (dC (.non))) (ae 5))
 aq))
 (av (dw (aa (aa (ae 0) (dC (.int 3)) aM) (ae 3) eL)
 (av (bz (au (ai (dC (.non)) (ai (dC (.non)) (ai (ae 4) aF))) eQ))
 aq)
 aq)
 (av (bz (au (ai (aa (aa (ae 3) (aa (ae 0) (dC (.int 3)) aM) cc) (dC (.int 1)) aM) (ai (aa (ae 4) (aa (ae 0) (dC (.int 3)) aM) cc) (ai (ae 4) aF))) eQ))
 aq))))))
def m_shortest:ac->aj D:=b9 6 kh
def nc:am :=
 (av (mO (au (ai (ae 0) (ai (ae 1) aF)) m_look_at_taking))
 (av (bz (au (ai (ae 0) (ai (ae 1) aF)) m_shortest))
 aq))
def m_least_way:ac->aj D:=b9 2 nc
abbrev m_is_less:ac->aj D:=Com.m_is_less
abbrev m_plus:ac->aj D:=Com.m_plus
end K17
local macro_rules|`(tactic|open_line with[$xs,*])=>`(tactic|simp only[sG,pK,kY,kX,lA,pJ,kW,pO,lj,lO,iY,vU,qc,p9,pR,lr,qj,lq,pP,ll,qd,pA,pQ,lp,v8,v7,qi,v5,pW,lP,i6,iZ,qk,lR,lQ,vQ,pU,pT,pV,lu,p8,lL,lK,pz,kM,C2,kU,pI,kT,kS,kR,nQ,pM,lh,kZ,vP,pS,vR,vM,pH,pG,pF,qe,lN,i7,vV,qh,qg,qf,p7,ql,pX,vT,vS,dO,lC,mD,jY,List.map_cons,List.map_nil,List.length_cons,List.length_nil,List.replicate_succ,List.replicate_zero,List.nil_append,List.cons_append,List.getElem?_cons_zero,List.getElem?_cons_succ,List.set_cons_zero,List.set_cons_succ,Nat.sub_zero,Nat.reduceSub,Nat.reduceAdd,Nat.add_zero,Nat.zero_add,Bool.not_true,Bool.not_false,pD,pZ,jB,eK,pY,kN,vN,pL,vL,pC,jA,jz,lJ,lI,lH,lG,lF,lE,decide_true,decide_false,Nat.reduceLeDiff,Nat.reduceBEq,Int.reduceBEq,beq_self_eq_true,DL.dOne,DL.mYes,dJ,da,dF,d9,dH,dE,dD,dG,dI,dB,cS,c9,fK,eU,fJ,fI,eT,fL,vZ,vY,vX,vW,Int.reduceLT,Int.reduceLE,Int.reduceSub,Int.reduceAdd,Int.reduceMul,Int.reduceNeg,lD,iX,Int.reduceToNat,Bool.and_self,nR,lM,nP,kQ,nO,kP,nN,kO,nS,sH,gf,pE,zt,zu,uo,mz,C7,zD,zC,zL,zI,we,C6,zB,C9,zG,zF,v9,Gy,Df,De,KG,GC,Gz,GA,KC,KD,GB,Gx,zK,Gw,C5,KH,GF,GD,Dd,zN,wj,wg,KI,GG,zP,wm,Dc,zH,Dh,zJ,uu,Di,zR,zQ,C4,zA,zy,qp,Dg,zM,zO,C8,zE,$[$xs:term],*])
local macro_rules|`(tactic|open_line with[$xs,*] seeing $h)=>`(tactic|simp only[sG,pK,kY,kX,lA,pJ,kW,pO,lj,lO,iY,vU,qc,p9,pR,lr,qj,lq,pP,ll,qd,pA,pQ,lp,v8,v7,qi,v5,pW,lP,i6,iZ,qk,lR,lQ,vQ,pU,pT,pV,lu,p8,lL,lK,pz,kM,C2,kU,pI,kT,kS,kR,nQ,pM,lh,kZ,vP,pS,vR,vM,pH,pG,pF,qe,lN,i7,vV,qh,qg,qf,p7,ql,pX,vT,vS,dO,lC,mD,jY,List.map_cons,List.map_nil,List.length_cons,List.length_nil,List.replicate_succ,List.replicate_zero,List.nil_append,List.cons_append,List.getElem?_cons_zero,List.getElem?_cons_succ,List.set_cons_zero,List.set_cons_succ,Nat.sub_zero,Nat.reduceSub,Nat.reduceAdd,Nat.add_zero,Nat.zero_add,Bool.not_true,Bool.not_false,pD,pZ,jB,eK,pY,kN,vN,pL,vL,pC,jA,jz,lJ,lI,lH,lG,lF,lE,decide_true,decide_false,Nat.reduceLeDiff,Nat.reduceBEq,Int.reduceBEq,beq_self_eq_true,DL.dOne,DL.mYes,dJ,da,dF,d9,dH,dE,dD,dG,dI,dB,cS,c9,fK,eU,fJ,fI,eT,fL,vZ,vY,vX,vW,Int.reduceLT,Int.reduceLE,Int.reduceSub,Int.reduceAdd,Int.reduceMul,Int.reduceNeg,lD,iX,Int.reduceToNat,Bool.and_self,nR,lM,nP,kQ,nO,kP,nN,kO,nS,sH,gf,pE,zt,zu,uo,mz,C7,zD,zC,zL,zI,we,C6,zB,C9,zG,zF,v9,Gy,Df,De,KG,GC,Gz,GA,KC,KD,GB,Gx,zK,Gw,C5,KH,GF,GD,Dd,zN,wj,wg,KI,GG,zP,wm,Dc,zH,Dh,zJ,uu,Di,zR,zQ,C4,zA,zy,qp,Dg,zM,zO,C8,zE,$[$xs:term],*] at $(⟨h⟩):ident)
namespace Bor
open PySem L2 DL Com
def St(st:ac):Prop:=∃(c s:Int) (b:Bool),st=[.int c,.int s,.bl b]/\0<=s/\s<2147483647
def p6:rE (.int 10) (.int 6)=.ok (.int 1000000):=aG rfl
def next(s:Int):Int:=(s*39373+17).fmod 2147483647
def y8(s:Int):0<=next s/\next s<2147483647:=eB (by decide)
def Kl(m s:Int):Int:=m*2147483587+(s*s).fmod 2147483587
def Ep{k:Int}(h0:0<=s)(h1:s<2147483647)(hm:0<=m/\m<1000000000000000000000000000) :
  (bx (vt 0 a (mV 0 a (aa (aa (aa (aa (ae 0) (dC (.int 1)) aM) (dC (.int 39373)) bJ) (dC (.int 17)) cn) (dC (.int 2147483647)) cX)) (mP (dC (.int 1))))
 (bx (d8 3 (mV 0 a (aa (aa (ae 3) (dC (.int 2147483587)) bJ) (aa (aa (aa (ae 0) (dC (.int 1)) aM) (aa (ae 0) (dC (.int 1)) aM) bJ) (dC (.int 2147483587)) cX) cn)))
 bZ)) [.pt a,.sh (.int n),.no,.sh (.int m),.sh (.int k)] [.int c,.int s,.bl b]=.ok (.nx [.pt a,.sh (.int n),.no,.sh (.int (Kl m (next s))),.sh (.int k)] [.int c,.int (next s),.bl b]):=by
 have o1:dy s 39373=true:=fG (by omega) (by decide);have g:=y8 s;have o2:dy (next s) (next s)=true:=fG (by omega) (by omega);have o3:dy m 2147483587=true:=cF (Nat.lt_trans (show m.natAbs<1000000000000000000000000000 by omega) (by rw[mL];decide +kernel)) (Nat.lt_trans (show(2147483587:Int).natAbs<2147483588 by decide) (by rw[mL];decide +kernel));have e:(s*39373+17).fmod 2147483647=next s:=rfl;have hp:∀(ρ:Ev) (d:D),ku ρ d (.int 1,[.int c,.int s,.bl b])=.ok (.nx ρ [.int c,d,.bl b]):=λ_ _=>rfl;open_line with[bO o1,e,bO o2,bO o3,hp,Kl]
def bX(a:Addr)(n0:0<n)(n1:n<=1000000000000000000)(h:St st):∃(d:Int) (st':ac),aL a st [.int n]=.ok (.int d,st')/\0<=d/\d<n/\St st':=by
 obtain⟨c,s,b,rfl,s0,s1⟩:=h;have hn0:(n==0)=false:=beq_eq_false_iff_ne.mpr (by omega);have hd:eC c n=true:=Du (by omega) (Nat.lt_of_le_of_lt (show n.natAbs<=1000000000000000000 by omega) (by rw[Ah];decide +kernel));cases b with
 |true=>
  have f:=eB (a:=c) (b:=n) n0;have p0:∀(ρ:Ev) (d:D),ku ρ d (.int 0,[.int c,.int s,.bl true])=.ok (.nx ρ [d,.int s,.bl true]):=λ_ _=>rfl;have p2:∀(ρ:Ev) (d:D),ku ρ d (.int 2,[.int (c.fdiv n),.int s,.bl true])=.ok (.nx ρ [.int (c.fdiv n),.int s,d]):=λ_ _=>rfl;refine⟨c.fmod n,[.int (c.fdiv n),.int s,.bl (decide (c.fdiv n > 0))],?_,f.1,f.2,_,_,_,rfl,s0,s1⟩;open_line with[aL,jf,hn0,mC hd,p0,p2]
 |false=>
  have key:∃t:Nat,t<=3/\∀x2 x3 x4:Sl,(iJ (aa (dC (.int 1)) (aa (dC (.int 2)) (au (ai (aa (ae 1) (aa (dC (.int 10)) (dC (.int 6)) rE) GN) aF) (m1 ka)) bJ) cn)) [.pt a,.sh (.int n),x2,x3,x4]=.ok (intsFrom 0 t):=by
   by_cases hb:n > 1000000
   .refine⟨3,by decide,λx2 x3 x4=>?_⟩
    have o:dy 2 1=true:=fG (by decide) (by decide);have:(aa (dC (.int 1)) (aa (dC (.int 2)) (au (ai (aa (ae 1) (aa (dC (.int 10)) (dC (.int 6)) rE) GN) aF) (m1 ka)) bJ) cn) [.pt a,.sh (.int n),x2,x3,x4]=.ok (.int 3):=by
     open_line with[p6,decide_eq_true hb,bO o]
    unfold iJ;rw[this];rfl
   .refine⟨1,by decide,λx2 x3 x4=>?_⟩
    have o:dy 2 0=true:=fG (by decide) (by decide);have:(aa (dC (.int 1)) (aa (dC (.int 2)) (au (ai (aa (ae 1) (aa (dC (.int 10)) (dC (.int 6)) rE) GN) aF) (m1 ka)) bJ) cn) [.pt a,.sh (.int n),x2,x3,x4]=.ok (.int 1):=by
     open_line with[p6,decide_eq_false hb,bO o]
    unfold iJ;rw[this];rfl
  obtain⟨t,ht,hsrc⟩:=key;have hlen:(intsFrom 0 t).length=t:=by unfold DL.intsFrom;simp
  obtain⟨ρ2,st2,hl,m,s',x4,rfl,rfl,k0,k1,m0,_⟩:=pw (tg:=bW 4) (body:=(bx (vt 0 a (mV 0 a (aa (aa (aa (aa (ae 0) (dC (.int 1)) aM) (dC (.int 39373)) bJ) (dC (.int 17)) cn) (dC (.int 2147483647)) cX)) (mP (dC (.int 1))))
 (bx (d8 3 (mV 0 a (aa (aa (ae 3) (dC (.int 2147483587)) bJ) (aa (aa (aa (ae 0) (dC (.int 1)) aM) (aa (ae 0) (dC (.int 1)) aM) bJ) (dC (.int 2147483587)) cX) cn)))
 bZ)))
   (λj ρ st=>∃(m s:Int) (x4:Sl),ρ=[.pt a,.sh (.int n),.no,.sh (.int m),x4]/\st=[.int c,.int s,.bl false]/\0<=s/\s<2147483647/\0<=m/\m<(2147483587:Int) ^ j)
   (intsFrom 0 t) (by
    rintro j d ρ st hj ⟨m,s,x4,rfl,rfl,s0,s1,m0,m1⟩;have hjt:j<t:=by have:=(List.getElem?_eq_some_iff.mp hj).1;omega
    have hd:d=.int (j:Int):=by
     unfold DL.intsFrom at hj;rw[List.getElem?_map,List.getElem?_range hjt]at hj;simp at hj;exact hj.symm
    subst hd;have hm:m<1000000000000000000000000000:=by
     have hj3:j=0∨j=1∨j=2:=by omega
     rcases hj3 with rfl|rfl|rfl<;>omega
    have g:=y8 s;have r:=eB (a:=next s*next s) (b:=2147483587) (by decide);refine⟨_,_,_,rfl,.inl (Ep (k:=(j:Int)) s0 s1 ⟨m0,hm⟩),Kl m (next s),next s,_,rfl,rfl,g.1,g.2,?_,?_⟩
    .unfold Kl
     have:0<=m*2147483587:=Int.mul_nonneg m0 (by decide);omega
    .unfold Kl
     rw[Int.pow_succ];omega) 0 [.pt a,.sh (.int n),.no,.sh (.int 0),.no] [.int c,.int s,.bl false] (Nat.zero_le _) ⟨0,s,_,rfl,rfl,s0,s1,by decide,by decide⟩
  rw[List.drop_zero]at hl;have f:=eB (a:=m.fdiv 64) (b:=n) n0;have hd64:eC m 64=true:=Du (by decide) (by rw[Ah];decide +kernel);refine⟨(m.fdiv 64).fmod n,[.int c,.int s',.bl false],?_,f.1,f.2,c,s',false,rfl,k0,k1⟩;open_line with[aL,jf,hsrc,hl,mC hd64,hn0]
def DQ(ns:List Int)(k:Nat)(hk:k<=1000)(hl:ns.length<=63):∃st,bY [.lst (ns.map D.int),.int k]=.ok (.lst st)/\St st:=by
 have hlen:dm (.lst (ns.map D.int))=.ok (.int ns.length):=by
  rw[dO,List.length_map]
 have o1:dy 104729 (k:Int)=true:=fG (by decide) (by omega);have o2:dy (104729*(k:Int)) (k:Int)=true:=fG (by omega) (by omega)
 by_cases h:k<ns.length
 .have hix:aM (.lst (ns.map D.int)) (.int (k:Int))=.ok (.int ns[k]):=my (by rw[List.getElem?_map,List.getElem?_eq_getElem h];rfl)
  have f:=eB (a:=(ns[k].fmod 2147483587+104729*(k:Int)*(k:Int)+7)) (b:=2147483587) (by decide);refine⟨[.int ns[k],.int ((ns[k].fmod 2147483587+104729*(k:Int)*(k:Int)+7).fmod 2147483587),.bl (decide (ns[k]≥1000000000000000000))],?_,_,_,_,rfl,f.1,by omega⟩;unfold bY Az iu;open_line with[hlen,hix,mz,bO o1,bO o2,decide_eq_true (show(k:Int)<(ns.length:Int) by omega),rQ,Hs,uV,HW]
 .have f:=eB (a:=((0:Int).fmod 2147483587+104729*(k:Int)*(k:Int)+7)) (b:=2147483587) (by decide)
  refine⟨[.int 0,.int (((0:Int).fmod 2147483587+104729*(k:Int)*(k:Int)+7).fmod 2147483587),.bl false],?_,_,_,_,rfl,f.1,by omega⟩;unfold bY Az iu;open_line with[hlen,mz,bO o1,bO o2,decide_eq_false (show ¬(k:Int)<(ns.length:Int) by omega),rQ,Hs,uV,HW]
def M1:rE (.int 10) (.int 12)=.ok (.int 1000000000000):=aG rfl
structure Lm (x:fw):Prop where
 lo:Low x
 p0:0<=x.1
 p1:x.1<=1000000000000
 q1:x.2<=60
def FX{c q:Int}(h0:0<=c)(h1:c<=1000000000000)(hq:0<q)(hq2:q<=60):Lm (e9 c q):=by
 have a1:=uf (a:=c) (b:=q);have a2:=ue (a:=c) (b:=q);have hl:=ig (a:=c) hq;have:=hl.q1;exact⟨hl,jZ h0 hq,by omega,by omega⟩
def qT(a:Addr)(hl:l=0∨l=1)(h:St st):∃(x:fw) (st':ac),cx a st [.int l]=.ok (fr x,st')/\gp x/\0<=x.1/\(l=1->0<x.1)/\Lm x/\St st':=by
 have hN:(1000000000000000000000:Int)<(yl:Int):=by decide
 obtain⟨w,st1,t1,w0,w1,S1⟩:=bX a (n:=6) (by decide) (by decide) h;obtain⟨t,m,ht,hm,i1,i2⟩:∃t m:Int,(0<t/\t<=1000000000000)/\(0<m/\m<=12)/\aM (.lst [.int 3,.int 6,.int 20,.int 12,.int 90,.int 1000000000000]) (.int w)=.ok (.int t)/\aM (.lst [.int 1,.int 1,.int 1,.int 4,.int 12,.int 12]) (.int w)=.ok (.int m):=by
  have:w=0∨w=1∨w=2∨w=3∨w=4∨w=5:=by omega
  rcases this with rfl|rfl|rfl|rfl|rfl|rfl
  .exact⟨3,1,by decide,by decide,rfl,rfl⟩
  .exact⟨6,1,by decide,by decide,rfl,rfl⟩
  .exact⟨20,1,by decide,by decide,rfl,rfl⟩
  .exact⟨12,4,by decide,by decide,rfl,rfl⟩
  .exact⟨90,12,by decide,by decide,rfl,rfl⟩
  .exact⟨1000000000000,12,by decide,by decide,rfl,rfl⟩
 obtain⟨u,st2,t2,u0,u1,S2⟩:=bX a (n:=t) ht.1 (by omega) S1;obtain⟨v,st3,t3,v0,v1,S3⟩:=bX a (n:=m) hm.1 (by omega) S2;obtain⟨q,hq,i3⟩:∃q:Int,(0<q/\q<=60)/\aM (.lst [.int 1,.int 2,.int 3,.int 4,.int 5,.int 6,.int 10,.int 12,.int 15,.int 20,.int 30,.int 60]) (.int v)=.ok (.int q):=by
  have:v=0∨v=1∨v=2∨v=3∨v=4∨v=5∨v=6∨v=7∨v=8∨v=9∨v=10∨v=11:=by omega
  rcases this with rfl|rfl|rfl|rfl|rfl|rfl|rfl|rfl|rfl|rfl|rfl|rfl
  .exact⟨1,by decide,rfl⟩
  .exact⟨2,by decide,rfl⟩
  .exact⟨3,by decide,rfl⟩
  .exact⟨4,by decide,rfl⟩
  .exact⟨5,by decide,rfl⟩
  .exact⟨6,by decide,rfl⟩
  .exact⟨10,by decide,rfl⟩
  .exact⟨12,by decide,rfl⟩
  .exact⟨15,by decide,rfl⟩
  .exact⟨20,by decide,rfl⟩
  .exact⟨30,by decide,rfl⟩
  .exact⟨60,by decide,rfl⟩
 have hlo:=Cod.low_ok (a:=l+u) (b:=q) (by omega) (Kq (by omega) (by omega)) (Kq (by omega) (by omega));refine⟨e9 (l+u) q,st3,?_,Kr (by omega) (by omega) (by omega),jZ (by omega) (by omega),λe=>Fi (by omega) (by omega),FX (by omega) (by omega) (by omega) (by omega),S3⟩;open_line with[cx,jU,t1,t2,t3,i1,i2,i3,M1,hlo]
def xy{k n:Int}(hn:2<=n):k.fmod n≠(k+1).fmod n:=by
 rw[Int.fmod_eq_emod_of_nonneg _ (by omega),Int.fmod_eq_emod_of_nonneg _ (by omega)];intro e;have:=Int.emod_eq_emod_iff_emod_sub_eq_zero.mp e.symm;rw[show k+1-k=1 by omega,Int.emod_eq_of_lt (by decide) (by omega)]at this;cases this
def mK(t:uJ):Prop:=Lm t.l/\∀x,t.o=some x->Lm x
def Et(a:Addr){k:Nat}(h2:2<=zs.length)(h8:zs.length<=8)(nd:zs.Nodup)(h:St st):∃(t:uJ) (st':ac),dQ a st [.lst (zs.map D.str),.int k]=.ok (bK t,st')/\nk zs t/\mK t/\St st':=by
 have hlen:dm (.lst (zs.map D.str))=.ok (.int zs.length):=by rw[dO,List.length_map]
 have hn0:((zs.length:Int)==0)=false:=beq_eq_false_iff_ne.mpr (by omega);obtain⟨d,st1,t1,d0,d1,S1⟩:=bX a (n:=(zs.length:Int)) (by omega) (by omega) h;obtain⟨e,st2,t2,e0,e1,S2⟩:=bX a (n:=(zs.length:Int)-1) (by omega) (by omega) S1;obtain⟨f,st3,t3,f0,f1,S3⟩:=bX a (n:=2) (by decide) (by decide) S2;obtain⟨g,st4,t4,g0,g1,S4⟩:=bX a (n:=2) (by decide) (by decide) S3;obtain⟨x,st5,t5,fx,lx,_,ax,S5⟩:=qT a (l:=0) (.inl rfl) S4;obtain⟨y,st6,t6,fy,_,ly,ay,S6⟩:=qT a (l:=1) (.inr rfl) S5;obtain⟨v,st7,t7,v0,v1,S7⟩:=bX a (n:=4) (by decide) (by decide) S6;obtain⟨wd,hw,jw⟩:=Ef g0 g1;obtain⟨p,q,hp,hq,hpq,hplace⟩:∃p q:Int,(0<=p/\p<(zs.length:Int))/\(0<=q/\q<(zs.length:Int))/\p≠q/\(((f==0)=true/\p=(k:Int).fmod (zs.length:Int)/\q=((k:Int)+1).fmod (zs.length:Int))∨((f==0)=false/\p=d/\q=(d+1+e).fmod (zs.length:Int))):=by
  cases h10:(f==0) with
  |true=>exact⟨_,_,eB (by omega),eB (by omega),xy (by omega),.inl ⟨rfl,rfl,rfl⟩⟩
  |false=>
   obtain⟨hr,hne⟩:=tq (n:=(zs.length:Int)) (d:=d) (e:=e) (by omega) d0 d1 e0 e1;exact⟨_,_,⟨d0,d1⟩,hr,Ne.symm hne,.inr ⟨rfl,rfl,rfl⟩⟩
 obtain⟨z1,k1,j1⟩:=tL (zs:=zs) hp.1 hp.2;obtain⟨z2,k2,j2⟩:=tL (zs:=zs) hq.1 hq.2;have hz12:z1≠z2:=oX nd k1 k2 (by omega);have hP:G9 a [.pt a,.sh (.lst (zs.map D.str)),.sh (.int k),.sh (.int (zs.length:Int)),.sh (.int d),.sh (.int ((d+1+e).fmod (zs.length:Int))),.no,.no,.no] st2=.ok (.nx [.pt a,.sh (.lst (zs.map D.str)),.sh (.int k),.sh (.int (zs.length:Int)),.sh (.int p),.sh (.int q),.no,.no,.no] st3):=by
  rcases hplace with⟨h10,rfl,rfl⟩|⟨h10,rfl,rfl⟩<;>open_line with[G9,t3,h10,hn0]
 obtain⟨o,ho,hW⟩:∃o:Option fw,(o=none∨o=some y)/\∀e1 e2 e3 e4 e5 e6 e7:Sl,Eu a [.pt a,e1,e2,e3,e4,e5,e6,e7,.sh (fr y)] st6=.ok (.nx [.pt a,e1,e2,e3,e4,e5,e6,e7,.sh (aV o)] st7):=by
  cases h4:(v==0) with
  |true=>exact⟨none,.inl rfl,λe1 e2 e3 e4 e5 e6 e7=>by open_line with[Eu,t7,h4,aV]⟩
  |false=>exact⟨some y,.inr rfl,λe1 e2 e3 e4 e5 e6 e7=>by open_line with[Eu,t7,h4,aV]⟩
 refine⟨⟨z1,z2,wd,x,o⟩,st7,?_,⟨List.mem_of_getElem? k1,List.mem_of_getElem? k2,hz12,hw,fx,lx,λ_ hv=>?_⟩,⟨ax,λ_ hv=>?_⟩,S7⟩
 .open_line with[dQ,qR,hlen,t1,t2,hP,t4,t5,t6,hW,rD,hn0,jw,j1,j2,bK]
 .rcases ho with rfl|rfl<;>cases hv
  exact⟨fy,ly rfl⟩
 .rcases ho with rfl|rfl<;>cases hv
  exact ay
theorem zi:∀{es:ac}{P:Int->Prop},(∀e∈es,∃l,e=D.int l/\P l)->∃ls:List Int,es=ls.map D.int/\∀l∈ls,P l
 |[],P,_=>⟨[],rfl,λl h=>by simp at h⟩
 |e::es,P,h=>by
  obtain⟨l,rfl,hl⟩:=h e (by simp);obtain⟨ls,rfl,hs⟩:=zi (es:=es) (P:=P) λe he=>h e (List.mem_cons_of_mem _ he);exact⟨l::ls,rfl,λx hx=>by
   rcases List.mem_cons.mp hx with rfl|hx
   .exact hl
   .exact hs x hx⟩
def xG(a:Addr)(h:St st):∃(ls:List Int) (st':ac),qv [.no,.pt a] (bW 0) (bT 1 a (bp (mP (dC (.int 26))) cH) aL) (DL.intsFrom 0 8,st)=.ok (.lst (ls.map D.int),st')/\ls.length=8/\(∀l∈ls,0<=l/\l<26)/\St st':=by
 obtain⟨es,st',h1,h2,h3,h4⟩:=sT (b:=[.no,.pt a]) (tg:=bW 0) (fm:=bT 1 a (bp (mP (dC (.int 26))) cH) aL) St (λe=>∃l,e=D.int l/\0<=l/\l<26) (DL.intsFrom 0 8) st h (by
  intro d st _ h;obtain⟨x,st',t1,x0,x1,S1⟩:=bX a (n:=26) (by decide) (by decide) h;refine⟨_,.int x,st',rfl,?_,⟨x,rfl,x0,x1⟩,S1⟩;open_line with[t1])
 obtain⟨ls,rfl,hls⟩:=zi h3;refine⟨ls,st',?_,by simpa[DL.intsFrom] using h2,hls,h4⟩;unfold qv;rw[if_pos (show(DL.intsFrom 0 8).length<=line by decide),h1];rfl
def wL(l:Int):Nat:=97+l.toNat
def BL{ls:List Int}(hf:f ρ=.ok (.lst (ls.map D.int)))(hg:g ρ=.ok (.int (m:Int)))(hm:m<=ls.length)(hl:ls.length<=1000):nD f fu (eP g) ρ=.ok (.lst ((ls.take m).map D.int)):=by
 unfold nD;rw[hf];simp only[aj.bind,fu,eP,hg];exact congrArg (λz=>aj.ok (D.lst z)) (DD hm)
def ED{ls:List Int}(hl:ls.length<=100)(hb:∀l∈ls,0<=l/\l<26):i9 1 [] (bW 0) mYes (aa (dC (.str "abcdefghijklmnopqrstuvwxyz")) (ae 0) aM) ρ (ls.map D.int)=.ok (.lst ((ls.map wL).map λc=>D.str ⟨#[c]⟩)):=by
 rw[wJ (F:=λd=>match d with|.int l=>.str ⟨#[wL l]⟩|d=>d) (by rw[List.length_map];omega)]
 .congr 2
  rw[List.map_map,List.map_map];rfl
 .intro d hd
  obtain⟨l,hl',rfl⟩:=List.mem_map.mp hd;obtain⟨b0,b1⟩:=hb l hl';refine⟨[.sh (.int l)],rfl,rfl,?_⟩;open_line with[IU b0 b1]
  rfl
def EC{ls:List Int}(hl:ls.length<=100):kJ "" [.lst ((ls.map wL).map λc=>D.str ⟨#[c]⟩)]=.ok (.str (Cod.S (ls.map wL))):=xH (cs:=ls.map wL) (by rw[List.length_map];omega)
def nA(ls:List Int)(lg at_:Nat)(tu sp:Int)(ne:Bool)(k:Nat):List Int:=if ne=true then ls.take (1+((tu+(k:Int)).fmod 8).toNat) else(ls.take lg).set at_ ((tu+sp*(k:Int)).fmod 26)
def nm(ls:List Int)(lg at_:Nat)(tu sp:Int)(ne:Bool)(k:Nat):bi:=(nA ls lg at_ tu sp ne k).map wL
section
variable {ls:List Int}{lg at_:Nat}{tu sp:Int}{ne:Bool}(h8:ls.length=8) (hb:∀l∈ls,0<=l/\l<26) (g1:1<=lg) (g8:lg<=8) (ha:at_<lg)
include hb in
theorem zc{k:Nat}:∀l∈nA ls lg at_ tu sp ne k,0<=l/\l<26:=by
 intro l hl;unfold nA at hl;cases ne with
 |true=>rw[if_pos rfl]at hl;exact hb l (List.mem_of_mem_take hl)
 |false=>
  rw[if_neg (by decide)]at hl;rcases List.mem_or_eq_of_mem_set hl with hl|rfl
  .exact hb l (List.mem_of_mem_take hl)
  .exact eB (by decide)
include h8 g8 in
theorem kI{k:Nat}:(nA ls lg at_ tu sp ne k).length=if ne=true then 1+((tu+(k:Int)).fmod 8).toNat else lg:=by
 unfold nA;have:=eB (a:=tu+(k:Int)) (b:=8) (by decide);cases ne with|true=>rw[if_pos rfl,if_pos rfl,List.length_take,h8];omega|false=>rw[if_neg (by decide),if_neg (by decide),List.length_set,List.length_take,h8];omega
include h8 hb g1 g8 in
theorem Kg{k:Nat}:Cod.IsNm (nm ls lg at_ tu sp ne k):=by
 have hl:=kI (tu:=tu) (sp:=sp) (ne:=ne) (at_:=at_) h8 g8 (k:=k);have:=eB (a:=tu+(k:Int)) (b:=8) (by decide);refine⟨?_,?_,λx hx=>?_⟩
 .unfold nm;rw[List.length_map,hl];split<;>omega
 .unfold nm;rw[List.length_map,hl];split<;>omega
 .unfold nm at hx
  obtain⟨l,hl,rfl⟩:=List.mem_map.mp hx;have:=zc hb l hl;exact IV _ (by omega)
include h8 g8 ha in
theorem CD{i j:Nat}(hij:i<j)(hj:j<7)(hs:sp=1∨sp=3∨sp=5∨sp=7∨sp=9∨sp=11):nm ls lg at_ tu sp ne i≠nm ls lg at_ tu sp ne j:=by
 intro e;cases ne with
 |true=>
  have hl:=congrArg List.length e;unfold nm at hl;rw[List.length_map,List.length_map,kI h8 g8,kI h8 g8,if_pos rfl,if_pos rfl]at hl;have f1:=eB (a:=tu+(i:Int)) (b:=8) (by decide);have f2:=eB (a:=tu+(j:Int)) (b:=8) (by decide);have he:(tu+(i:Int)).fmod 8=(tu+(j:Int)).fmod 8:=by omega
  rw[Int.fmod_eq_emod_of_nonneg _ (by decide),Int.fmod_eq_emod_of_nonneg _ (by decide)]at he;omega
 |false=>
  have h1:(nm ls lg at_ tu sp false i)[at_]?=(nm ls lg at_ tu sp false j)[at_]?:=by rw[e]
  unfold nm nA at h1;rw[if_neg (by decide),if_neg (by decide),List.getElem?_map,List.getElem?_map,List.getElem?_set_self (by rw[List.length_take,h8];omega),List.getElem?_set_self (by rw[List.length_take,h8];omega)]at h1;simp only[Option.map_some,Option.some.injEq,wL]at h1;have f1:=eB (a:=tu+sp*(i:Int)) (b:=26) (by decide);have f2:=eB (a:=tu+sp*(j:Int)) (b:=26) (by decide);have he:(tu+sp*(i:Int)).fmod 26=(tu+sp*(j:Int)).fmod 26:=by omega
  rw[Int.fmod_eq_emod_of_nonneg _ (by decide),Int.fmod_eq_emod_of_nonneg _ (by decide)]at he;rcases hs with rfl|rfl|rfl|rfl|rfl|rfl<;>omega
include h8 g8 ha in
theorem AL(hs:sp=1∨sp=3∨sp=5∨sp=7∨sp=9∨sp=11):∀n:Nat,n<=7->((List.range n).map (nm ls lg at_ tu sp ne)).Nodup:=by
 intro n hn;rw[List.nodup_iff_pairwise_ne,List.pairwise_map];have:(List.range n).Pairwise (· < ·):=List.pairwise_lt_range;refine List.Pairwise.imp_of_mem (λ{i j} hi hj hij=>?_) this;rw[List.mem_range]at hj;exact CD h8 g8 ha hij (by omega) hs
end
def iQ(ls:List Int)(lg at_:Nat)(tu sp:Int)(ne:Bool)(k:Nat):List (bi):=(List.range k).map (nm ls lg at_ tu sp ne)
def xx{k:Nat}:Cod.nmsD (iQ ls lg at_ tu sp ne (k+1))=Cod.nmsD (iQ ls lg at_ tu sp ne k)++[.str (Cod.S (nm ls lg at_ tu sp ne k))]:=by
 unfold iQ Cod.nmsD;rw[List.range_succ,List.map_append,List.map_append];rfl
def CC{lg at_ n:Nat}(h8:ls.length=8)(hb:∀l∈ls,0<=l/\l<26)(g1:1<=lg)(g8:lg<=8)(ha:at_<lg)(t0:0<=tu/\tu<26)(s0:0<=sp/\sp<=11)(hn:n<=7) :
  ∃x9 x10,b3 (bW 9) (av (kq 10 (nD (ae 2) fu (eP (ae 3))))
 (av (BR 10 (aa (aa (ae 5) (aa (ae 6) (ae 9) bJ) cn) (dC (.int 26)) cX) (ae 4))
 (av (dw (ae 7)
 (av (kq 10 (nD (ae 2) fu (eP (aa (dC (.int 1)) (aa (aa (ae 5) (ae 9) cn) (dC (.int 8)) cX) cn))))
 aq)
 aq)
 (av (BS 10 (dZ 8 (sQ (dC (.str "")) (ai (eD 1 [] (tN (ae 10)) (bW 0) mYes (aa (dC (.str "abcdefghijklmnopqrstuvwxyz")) (ae 0) aM)) aF))))
 aq)))) (DL.intsFrom 0 n) [.pt a,.sh (.int (n:Int)),.sh (.lst (ls.map D.int)),.sh (.int (lg:Int)),.sh (.int (at_:Int)),.sh (.int tu),.sh (.int sp),.sh (.bl ne),.ow (.lst []),.no,.no] =
   .ok (.nx [.pt a,.sh (.int (n:Int)),.sh (.lst (ls.map D.int)),.sh (.int (lg:Int)),.sh (.int (at_:Int)),.sh (.int tu),.sh (.int sp),.sh (.bl ne),.ow (.lst (Cod.nmsD (iQ ls lg at_ tu sp ne n))),x9,x10]):=by
 obtain⟨ρ',hl,x9,x10,rfl⟩:=uk (i:=9) (n:=n)
  (ρ:=[.pt a,.sh (.int (n:Int)),.sh (.lst (ls.map D.int)),.sh (.int (lg:Int)),.sh (.int (at_:Int)),.sh (.int tu),.sh (.int sp),.sh (.bl ne),.ow (.lst []),.no,.no])
  (body:=(av (kq 10 (nD (ae 2) fu (eP (ae 3))))
 (av (BR 10 (aa (aa (ae 5) (aa (ae 6) (ae 9) bJ) cn) (dC (.int 26)) cX) (ae 4))
 (av (dw (ae 7)
 (av (kq 10 (nD (ae 2) fu (eP (aa (dC (.int 1)) (aa (aa (ae 5) (ae 9) cn) (dC (.int 8)) cX) cn))))
 aq)
 aq)
 (av (BS 10 (dZ 8 (sQ (dC (.str "")) (ai (eD 1 [] (tN (ae 10)) (bW 0) mYes (aa (dC (.str "abcdefghijklmnopqrstuvwxyz")) (ae 0) aM)) aF))))
 aq)))))
  (λk ρ=>∃x9 x10,ρ=[.pt a,.sh (.int (n:Int)),.sh (.lst (ls.map D.int)),.sh (.int (lg:Int)),.sh (.int (at_:Int)),.sh (.int tu),.sh (.int sp),.sh (.bl ne),.ow (.lst (Cod.nmsD (iQ ls lg at_ tu sp ne k))),x9,x10]) (by
   rintro k hk ρ ⟨x9,x10,rfl⟩;have hlen:=kI (tu:=tu) (sp:=sp) (ne:=ne) (at_:=at_) h8 g8 (k:=k);have f8:=eB (a:=tu+(k:Int)) (b:=8) (by decide);have om:dy sp (k:Int)=true:=fG (by omega) (by omega);have hap:decide ((Cod.nmsD (iQ ls lg at_ tu sp ne k)).length<=999)=true:=decide_eq_true (by unfold Cod.nmsD iQ;simp;omega);have hs1:∀x8 x10,nD (ae 2) fu (eP (ae 3)) [.pt a,.sh (.int (n:Int)),.sh (.lst (ls.map D.int)),.sh (.int (lg:Int)),.sh (.int (at_:Int)),.sh (.int tu),.sh (.int sp),.sh (.bl ne),x8,.sh (.int (k:Int)),x10]=.ok (.lst ((ls.take lg).map D.int)):=λ_ _=>BL rfl rfl (by omega) (by omega);have hix:wW ((ls.take lg).map D.int).length (at_:Int)=some at_:=by
    rw[List.length_map,List.length_take,h8];unfold wW;rw[if_pos (by omega),if_pos (by omega)];simp
   have hset:((ls.take lg).map D.int).set at_ (.int ((tu+sp*(k:Int)).fmod 26))=((ls.take lg).set at_ ((tu+sp*(k:Int)).fmod 26)).map D.int:=(List.map_set ..).symm;have hll:(nA ls lg at_ tu sp ne k).length<=100:=by rw[hlen];split<;>omega
   have hc:=λρ=>ED (ρ:=ρ) hll (zc hb);have hj:kJ "" [.lst (((nA ls lg at_ tu sp ne k).map wL).map λc=>D.str ⟨#[c]⟩)]=.ok (.str (Cod.S (nm ls lg at_ tu sp ne k))):=EC hll;refine⟨[.pt a,.sh (.int (n:Int)),.sh (.lst (ls.map D.int)),.sh (.int (lg:Int)),.sh (.int (at_:Int)),.sh (.int tu),.sh (.int sp),.sh (.bl ne),.ow (.lst (Cod.nmsD (iQ ls lg at_ tu sp ne (k+1)))),.sh (.int (k:Int)),.sh (.lst ((nA ls lg at_ tu sp ne k).map D.int))],?_,_,_,rfl⟩;rw[xx];cases ne with
   |true=>
    have e1:nA ls lg at_ tu sp true k=ls.take (1+((tu+(k:Int)).fmod 8).toNat):=if_pos rfl;have hs2:∀x8 x10,nD (ae 2) fu (eP (aa (dC (.int 1)) (aa (aa (ae 5) (ae 9) cn) (dC (.int 8)) cX) cn)) [.pt a,.sh (.int (n:Int)),.sh (.lst (ls.map D.int)),.sh (.int (lg:Int)),.sh (.int (at_:Int)),.sh (.int tu),.sh (.int sp),.sh (.bl true),x8,.sh (.int (k:Int)),x10]=.ok (.lst ((nA ls lg at_ tu sp true k).map D.int)):=λx8 x10=>by
     rw[e1];refine BL rfl ?_ (by omega) (by omega);open_line with[]
     congr 2
     omega
    open_line with[hs1,bO om,vO hix,hset,hs2,hc,hj,eK hap]
   |false=>
    have e1:(ls.take lg).set at_ ((tu+sp*(k:Int)).fmod 26)=nA ls lg at_ tu sp false k:=(if_neg (by decide)).symm;rw[e1]at hset;open_line with[hs1,bO om,vO hix,hset,hc,hj,eK hap]) ⟨_,_,rfl⟩
 exact⟨x9,x10,hl⟩
def CF(a:Addr){n:Nat}(hn:n<=7)(h:St st):∃(css:List (bi)) (st':ac),dg a st [.int (n:Int)]=.ok (.lst (Cod.nmsD css),st')/\css.length=n/\css.Nodup/\(∀cs∈css,Cod.IsNm cs)/\St st':=by
 obtain⟨ls,st1,t1,h8,hb,S1⟩:=xG a h;obtain⟨d,st2,t2,d0,d1,S2⟩:=bX a (n:=8) (by decide) (by decide) S1;obtain⟨at_,st3,t3,a0,a1,S3⟩:=bX a (n:=1+d) (by omega) (by omega) S2;obtain⟨tu,st4,t4,u0,u1,S4⟩:=bX a (n:=26) (by decide) (by decide) S3;obtain⟨e,st5,t5,e0,e1,S5⟩:=bX a (n:=6) (by decide) (by decide) S4;obtain⟨f,st6,t6,f0,f1,S6⟩:=bX a (n:=3) (by decide) (by decide) S5;obtain⟨sp,hs,i1⟩:∃sp:Int,(sp=1∨sp=3∨sp=5∨sp=7∨sp=9∨sp=11)/\aM (.lst [.int 1,.int 3,.int 5,.int 7,.int 9,.int 11]) (.int e)=.ok (.int sp):=by
  have:e=0∨e=1∨e=2∨e=3∨e=4∨e=5:=by omega
  rcases this with rfl|rfl|rfl|rfl|rfl|rfl
  .exact⟨1,by decide,rfl⟩
  .exact⟨3,by decide,rfl⟩
  .exact⟨5,by decide,rfl⟩
  .exact⟨7,by decide,rfl⟩
  .exact⟨9,by decide,rfl⟩
  .exact⟨11,by decide,rfl⟩
 obtain⟨lg,hlg⟩:=Int.eq_ofNat_of_zero_le (show 0<=1+d by omega);obtain⟨at',rfl⟩:=Int.eq_ofNat_of_zero_le a0;rw[hlg]at t3;obtain⟨x9,x10,hl⟩:=CC (a:=a) (ls:=ls) (lg:=lg) (at_:=at') (n:=n) (tu:=tu) (sp:=sp) (ne:=(f==0)) h8 hb (by omega) (by omega) (by omega) ⟨u0,u1⟩ (by omega) hn;refine⟨iQ ls lg at' tu sp (f==0) n,st6,?_,by unfold iQ;simp,AL h8 (by omega) (by omega) hs n hn,λcs hc=>?_,S6⟩
 .have hsrc:∀ρ,iJ (dC (.int 8)) ρ=.ok (DL.intsFrom 0 8):=λ_=>rfl
  have hbm:∀x1 x2 x3 x4 x5 x6 x7 x8 x9 x10,eE 1 [0] [.pt a,x1,x2,x3,x4,x5,x6,x7,x8,x9,x10]=[.no,.pt a]:=λ_ _ _ _ _ _ _ _ _ _=>rfl;open_line with[dg,l4,hsrc,hbm,t1,t2,hlg,t3,t4,t5,i1,t6,gf,gF (show n<=1000000 by omega),hl]
 .unfold iQ at hc
  obtain⟨k,_,rfl⟩:=List.mem_map.mp hc;exact Kg h8 hb (by omega) (by omega)
def Eh(a:Addr){p q:Nat}(hp:2<=p/\p<=7)(hq:q<=14)(h:St st):∃(w:gQ) (st':ac),c7 a st [.int (p:Int),.int (q:Int)]=.ok (aR w,st')/\cJ w/\(∀t∈w.ts,mK t)/\St st':=by
 obtain⟨m,st1,t1,m0,m1,S1⟩:=bX a (n:=(p:Int)-1) (by omega) (by omega) h;obtain⟨m,rfl⟩:=Int.eq_ofNat_of_zero_le m0;obtain⟨css,st2,t2,hcl,hnd,hall,S2⟩:=CF a (n:=2+m) (by omega) S1;have hnm:Cod.nmsD css=(css.map Cod.S).map D.str:=by unfold Cod.nmsD;rw[List.map_map];rfl
 have hzl:(css.map Cod.S).length=2+m:=by rw[List.length_map,hcl]
 have nd:(css.map Cod.S).Nodup:=by
  rw[List.nodup_iff_pairwise_ne,List.pairwise_map];exact List.Pairwise.imp (λh z=>h (Cod.S_inj z)) (List.nodup_iff_pairwise_ne.mp hnd)
 have nm:ma (css.map Cod.S):=⟨nd,λz hz=>by
  obtain⟨cs,hc,rfl⟩:=List.mem_map.mp hz;exact(hall cs hc).nameB⟩
 rw[hnm]at t2;generalize css.map Cod.S=zs at *;have hlen:dm (.lst (zs.map D.str))=.ok (.int zs.length):=by rw[dO,List.length_map]
 have hn0:((zs.length:Int)==0)=false:=beq_eq_false_iff_ne.mpr (by omega);obtain⟨c,st3,t3,c0,c1,S3⟩:=bX a (n:=(q:Int)+1) (by omega) (by omega) S2;obtain⟨c,rfl⟩:=Int.eq_ofNat_of_zero_le c0;have hlenI:(DL.intsFrom 0 c).length=c:=by unfold DL.intsFrom;simp
 obtain⟨ρ2,st4,hl,ts,x6,rfl,htl,hts,S4⟩:=pw (tg:=bW 6) (body:=(bx (CK 5 (bT 0 a (bp (mP (ae 3)) (bp (mP (ae 6)) cH)) dQ))
 bZ))
  (λj ρ st=>∃(ts:List uJ) (x6:Sl),ρ=[.pt a,.sh (.int (p:Int)),.sh (.int (q:Int)),.sh (.lst (zs.map D.str)),.sh (.int (zs.length:Int)),.ow (.lst (ts.map bK)),x6,.no,.no]/\ts.length=j/\(∀t∈ts,nk zs t/\mK t)/\St st) (DL.intsFrom 0 c) (by
   rintro j d ρ st hj ⟨ts,x6,rfl,rfl,hts,S⟩;have hjt:ts.length<c:=by have:=(List.getElem?_eq_some_iff.mp hj).1;omega
   have hd:d=.int (ts.length:Int):=by
    unfold DL.intsFrom at hj;rw[List.getElem?_map,List.getElem?_range hjt]at hj;simp at hj;exact hj.symm
   subst hd;obtain⟨t,st',tt,tk,ta,S'⟩:=Et a (zs:=zs) (k:=ts.length) (by omega) (by omega) nd S;have hap:decide ((ts.map bK).length<=999)=true:=decide_eq_true (by rw[List.length_map];omega);refine⟨_,[.pt a,.sh (.int (p:Int)),.sh (.int (q:Int)),.sh (.lst (zs.map D.str)),.sh (.int (zs.length:Int)),.ow (.lst ((ts++[t]).map bK)),.sh (.int (ts.length:Int)),.no,.no],st',rfl,.inl ?_,ts++[t],_,rfl,by simp,λu hu=>?_,S'⟩
   .open_line with[tt,uu hap,List.map_append]
   .rw[List.mem_append]at hu
    rcases hu with hu|hu
    .exact hts u hu
    .have:u=t:=by simpa using hu
     subst this;exact⟨tk,ta⟩) 0 [.pt a,.sh (.int (p:Int)),.sh (.int (q:Int)),.sh (.lst (zs.map D.str)),.sh (.int (zs.length:Int)),.ow (.lst []),.no,.no,.no] st3 (Nat.zero_le _) ⟨[],_,rfl,rfl,λt ht=>by simp at ht,S3⟩
 rw[List.drop_zero]at hl;rw[hlenI]at htl;have hsr:ud (.int (c:Int),st3)=.ok (DL.intsFrom 0 c,st3):=qp (by omega);have h2m:(2:Int)+(m:Int)=((2+m:Nat):Int):=by omega
 rw[←h2m]at t2;obtain⟨g,st5,t5,g0,g1,S5⟩:=bX a (n:=2) (by decide) (by decide) S4;obtain⟨f,l,st6,hf,hl2,hfl,S6,hP⟩:∃(f l:Int) (st6:ac),(0<=f/\f<(zs.length:Int))/\(0<=l/\l<(zs.length:Int))/\f≠l/\St st6/\∀e1 e2 e3 e5 e6:Sl,Ei a [.pt a,e1,e2,e3,.sh (.int (zs.length:Int)),e5,e6,.sh (.int 0),.sh (.int ((zs.length:Int)-1))] st4=.ok (.nx [.pt a,e1,e2,e3,.sh (.int (zs.length:Int)),e5,e6,.sh (.int f),.sh (.int l)] st6):=by
  cases hg:(g==0) with
  |true=>
   obtain⟨d,st6,t6,d0,d1,S6⟩:=bX a (n:=(zs.length:Int)) (by omega) (by omega) S5;obtain⟨e,st7,t7,e0,e1,S7⟩:=bX a (n:=(zs.length:Int)-1) (by omega) (by omega) S6;obtain⟨hr,hne⟩:=tq (n:=(zs.length:Int)) (d:=d) (e:=e) (by omega) d0 d1 e0 e1;exact⟨d,(d+1+e).fmod (zs.length:Int),st7,⟨d0,d1⟩,hr,Ne.symm hne,S7,λe1 e2 e3 e5 e6=>by open_line with[Ei,rD,t5,hg,t6,t7,hn0]⟩
  |false=>exact⟨0,(zs.length:Int)-1,st5,⟨by decide,by omega⟩,⟨by omega,by omega⟩,by omega,S5,λe1 e2 e3 e5 e6=>by open_line with[Ei,t5,hg]⟩
 obtain⟨z1,k1,j1⟩:=tL (zs:=zs) hf.1 hf.2;obtain⟨z2,k2,j2⟩:=tL (zs:=zs) hl2.1 hl2.2;have hz12:z1≠z2:=oX nd k1 k2 (by omega);refine⟨⟨zs,ts,z1,z2⟩,st6,?_,⟨by show 2<=zs.length;omega,by show zs.length<=7;omega,nm,by show ts.length<=14;omega,λt ht=>(hts t ht).1,List.mem_of_getElem? k1,List.mem_of_getElem? k2,hz12⟩,λt ht=>(hts t ht).2,S6⟩;open_line with[c7,qQ,rD,t1,t2,hlen,t3,hsr,hl,hP,j1,j2,aR]
def taking_ok(a:Addr)(W:cJ w)(hr:0<r/\r<=1000)(h:St st):∃(ks:bi) (st':ac),cw a st [aR w,.int r]=.ok (aT ks,st')/\tH w ks/\St st':=by
 obtain⟨ps,ts,fi,la⟩:=w;have t14:ts.length<=14:=W.t14;have i1:aM (aR ⟨ps,ts,fi,la⟩) (.int 1)=.ok (.lst (ts.map bK)):=rfl;have hlen:dm (.lst (ts.map bK))=.ok (.int ts.length):=by rw[dO,List.length_map]
 have hlenI:(DL.intsFrom 0 ts.length).length=ts.length:=by unfold DL.intsFrom;simp
 have hsrc:∀x3 x4,iJ (au (ai (aa (ae 1) (dC (.int 1)) aM) aF) (m1 dm)) [.pt a,.sh (aR ⟨ps,ts,fi,la⟩),.sh (.int r),x3,x4]=.ok (DL.intsFrom 0 ts.length):=λx3 x4=>by
  rw[Cod.ev_srcR1];open_line with[i1,hlen]
  exact Cod.srcR1_nat (by omega)
 obtain⟨ρ2,st4,hl,ks,x4,rfl,hlt,hup,hwo,S4⟩:=pw (tg:=bW 4) (body:=(bx (CJ (CL (mB (bT 0 a (bp (mP (ae 2)) cH) aL) (mP (dC (.int 0))) kc) (mT (aa (aa (aa (aa (ae 1) (dC (.int 1)) aM) (ae 4) aM) (dC (.int 4)) aM) (dC (.non)) cU)))
 (bx (dA (dZ 3 (ae 4)))
 bZ)
 bZ)
 bZ))
  (λj ρ st=>∃(ks:bi) (x4:Sl),ρ=[.pt a,.sh (aR ⟨ps,ts,fi,la⟩),.sh (.int r),.ow (.lst (ks.map λ(k:Nat)=>D.int (k:Int))),x4]/\(∀k∈ks,k<j)/\ks.Pairwise (· < ·)/\(∀k∈ks,∃t x,ts[k]?=some t/\t.o=some x)/\ks.length<=j/\St st) (DL.intsFrom 0 ts.length) (by
   rintro j d ρ st hj ⟨ks,x4,rfl,hlt,hup,hwo,hkl,S⟩;have hjt:j<ts.length:=by have:=(List.getElem?_eq_some_iff.mp hj).1;omega
   have hd:d=.int (j:Int):=by
    unfold DL.intsFrom at hj;rw[List.getElem?_map,List.getElem?_range hjt]at hj;simp at hj;exact hj.symm
   subst hd;obtain⟨v,st',t1,v0,v1,S'⟩:=bX a (n:=r) hr.1 (by omega) S;have hix:aM (.lst (ts.map bK)) (.int (j:Int))=.ok (bK ts[j]):=my (by rw[List.getElem?_map,List.getElem?_eq_getElem hjt];rfl);have i4:aM (bK ts[j]) (.int 4)=.ok (aV ts[j].o):=rfl;have hap:decide ((ks.map λ(k:Nat)=>D.int (k:Int)).length<=999)=true:=decide_eq_true (by rw[List.length_map];omega);cases hv:(v==0) with
   |false=>
    refine⟨_,[.pt a,.sh (aR ⟨ps,ts,fi,la⟩),.sh (.int r),.ow (.lst (ks.map λ(k:Nat)=>D.int (k:Int))),.sh (.int (j:Int))],st',rfl,.inl ?_,ks,_,rfl,λk hk=>by have:=hlt k hk;omega,hup,hwo,by omega,S'⟩;open_line with[t1,hv]
   |true=>
    cases ho:ts[j].o with
    |none=>
     rw[ho]at i4;have i5:cU (aV none) .non=.ok (.bl false):=rfl;refine⟨_,[.pt a,.sh (aR ⟨ps,ts,fi,la⟩),.sh (.int r),.ow (.lst (ks.map λ(k:Nat)=>D.int (k:Int))),.sh (.int (j:Int))],st',rfl,.inl ?_,ks,_,rfl,λk hk=>by have:=hlt k hk;omega,hup,hwo,by omega,S'⟩;open_line with[t1,hv,i1,hix,i4,i5]
    |some x=>
     rw[ho]at i4;have i5:cU (aV (some x)) .non=.ok (.bl true):=rfl;refine⟨_,[.pt a,.sh (aR ⟨ps,ts,fi,la⟩),.sh (.int r),.ow (.lst ((ks++[j]).map λ(k:Nat)=>D.int (k:Int))),.sh (.int (j:Int))],st',rfl,.inl ?_,ks++[j],_,rfl,λk hk=>?_,?_,λk hk=>?_,by simp;omega,S'⟩
     .open_line with[t1,hv,i1,hix,i4,i5,eK hap,List.map_append]
     .rw[List.mem_append]at hk
      rcases hk with hk|hk
      .have:=hlt k hk;omega
      .have:k=j:=by simpa using hk
       omega
     .rw[List.pairwise_append]
      refine⟨hup,by simp,λx hx y hy=>?_⟩;have:y=j:=by simpa using hy
      have:=hlt x hx;omega
     .rw[List.mem_append]at hk
      rcases hk with hk|hk
      .exact hwo k hk
      .have:k=j:=by simpa using hk
       subst this;exact⟨ts[k],x,List.getElem?_eq_getElem hjt,ho⟩) 0 [.pt a,.sh (aR ⟨ps,ts,fi,la⟩),.sh (.int r),.ow (.lst []),.no] st (Nat.zero_le _) ⟨[],_,rfl,λk hk=>by simp at hk,by simp,λk hk=>by simp at hk,by simp,h⟩
 rw[List.drop_zero]at hl;refine⟨ks,st4,?_,⟨hup,hwo⟩,S4.2⟩;open_line with[cw,jS,hsrc,hl]
 rfl
end Bor
namespace DL
open PySem L2
section
variable {α β:Type}
def Rf(a b:aj α):Prop:=a=.stuck∨a=b
def cL{f g:α->aj β}(h:Rf a b)(k:∀x,Rf (f x) (g x)):Rf (a.bind f) (b.bind g):=by
 rcases h with rfl|rfl
 .exact .inl rfl
 .cases a with
  |ok x=>exact k x
  |exn x=>exact .inr rfl
  |stuck=>exact .inl rfl
structure jK (f g:Ev->aj α):Prop where
 o:∀ρ,Rf (f ρ) (g ρ)
end
structure Lg (f g:ac->aj D):Prop where
 o:∀ds,Rf (f ds) (g ds)
def Lg.ok(h:Lg f g)(e:f ds=.ok d):g ds=.ok d:=by
 rcases h.o ds with q|q
 .rw[q]at e;cases e
 .rw[←q];exact e
def rfm_refl:Lg f f:=⟨λ_=>.inr rfl⟩
def rf_refl{f:Ev->aj α}:jK f f:=⟨λ_=>.inr rfl⟩
section
variable {s s' t t':am}{c c' f f':al}{fa fa':Ev->aj (ac)}{m m':ac->aj D}
def rf_stuck:jK cV s:=⟨λ_=>.inl rfl⟩
def rf_seq(h1:jK s s')(h2:jK t t'):jK (av s t) (av s' t'):=⟨λρ=>cL (h1.o ρ) λr=>by
 cases r with
 |nx ρ'=>exact h2.o ρ'
 |_=>exact .inr rfl⟩
def rf_if(hc:jK c c')(h1:jK s s')(h2:jK t t'):jK (dw c s t) (dw c' s' t'):=⟨λρ=>cL (hc.o _) λr=>by
 cases r with
 |bl b=>cases b with
  |true=>exact h1.o ρ
  |false=>exact h2.o ρ
 |_=>exact .inr rfl⟩
theorem nH(h:jK s s'):∀(ds:ac) (ρ:Ev),Rf (b3 tg s ds ρ) (b3 tg s' ds ρ)
 |[],ρ=>.inr rfl
 |d::r,ρ=>by
  unfold b3;refine cL (.inr rfl) λρ1=>cL (h.o ρ1) λx=>?_;cases x with|nx ρ2|ct ρ2=>exact nH h r ρ2|bk ρ2|rt d=>exact .inr rfl
def rf_for(hf:jK f f')(h:jK s s'):jK (nv f tg s) (nv f' tg s'):=⟨λρ=>cL (hf.o ρ) λd=>by
 cases d with
 |lst ds=>exact nH h ds ρ
 |_=>exact .inr rfl⟩
def rf_forI(h:jK s s'):jK (iL src tg s) (iL src tg s'):=⟨λρ=>cL (.inr rfl) λds=>nH h ds ρ⟩
def rf_drop(h:jK f f'):jK (mO f) (mO f'):=⟨λρ=>cL (h.o _) λ_=>.inr rfl⟩
def rf_ret(h:jK f f'):jK (bz f) (bz f'):=⟨λρ=>cL (h.o _) λ_=>.inr rfl⟩
def rf_set(h:jK f f'):jK (bE i f) (bE i f'):=⟨λρ=>cL (h.o _) λ_=>.inr rfl⟩
def rf_b1(h:jK f f'):jK (b7 f op) (b7 f' op):=⟨λρ=>cL (h.o _) λ_=>.inr rfl⟩
def rf_not(h:jK f f'):jK (cb f) (cb f'):=rf_b1 h
def rf_b2(h:jK f f')(h2:jK c c'):jK (aa f c op) (aa f' c' op):=⟨λρ=>cL (h.o _) λ_=>cL (h2.o _) λ_=>.inr rfl⟩
def rf_bA(h:jK fa fa')(hm:Lg m m'):jK (au fa m) (au fa' m'):=⟨λρ=>cL (h.o _) λds=>hm.o ds⟩
def rf_cons(h:jK f f')(h2:jK fa fa'):jK (ai f fa) (ai f' fa'):=⟨λρ=>cL (h.o _) λ_=>cL (h2.o _) λ_=>.inr rfl⟩
end
end DL
local macro_rules|`(tactic|open_line with[rf_go])=>`(tactic|repeat (first|with_reducible exact DL.rf_refl|with_reducible exact DL.rf_stuck|with_reducible assumption|with_reducible exact DL.rfm_refl|with_reducible refine DL.rf_seq ?_ ?_|with_reducible refine DL.rf_if ?_ ?_ ?_|with_reducible refine DL.rf_for ?_ ?_|with_reducible refine DL.rf_forI ?_|with_reducible refine DL.rf_drop ?_|with_reducible refine DL.rf_ret ?_|with_reducible refine DL.rf_set ?_|with_reducible refine DL.rf_not ?_|with_reducible refine DL.rf_bA ?_ ?_|with_reducible refine DL.rf_cons ?_ ?_|with_reducible refine DL.rf_b1 ?_|with_reducible refine DL.rf_b2 ?_ ?_))
namespace Wex
open PySem L2 DL Com
def m_ratio:ac->aj D:=b9 3 lZ
noncomputable def b_plus:am :=
 (av (bz (au (ai (aa (aa (aa (ae 0) (dC (.int 0)) aM) (aa (ae 1) (dC (.int 1)) aM) bJ) (aa (aa (ae 1) (dC (.int 0)) aM) (aa (ae 0) (dC (.int 1)) aM) bJ) cn) (ai (aa (aa (ae 0) (dC (.int 1)) aM) (aa (ae 1) (dC (.int 1)) aM) bJ) aF)) m_ratio))
 aq)
def m_plus:ac->aj D:=b9 2 b_plus
def plainD:D->Bool
 |.non=>true
 |.bl _=>true
 |.int _=>true
 |.str _=>true
 |.tup _=>true
 |.lst _=>true
 |_=>false
end Wex
namespace K11
open PySem L2 DL Com
def there(t:uJ)(z:Str):Option Str:=if t.a=z then some t.b else if t.b=z/\t.w="both" then some t.a else none
def oS:Option Str->D
 |some z=>.str z
 |none=>.non
def du:kc (.str x) (.str y)=.ok (.bl (decide (x=y))):=by
 have h:kc (.str x) (.str y)=.ok (.bl (x==y)):=rfl;rw[h]
 by_cases e:x=y
 .rw[decide_eq_true e,e,beq_self_eq_true]
 .rw[decide_eq_false e,beq_eq_false_iff_ne.mpr e]
def there_ok:bw [bK t,.str z]=.ok (oS (there t z)):=by
 obtain⟨a,b,w,l,o⟩:=t;rw[show bK ⟨a,b,w,l,o⟩=.tup [.str a,.str b,.str w,fr l,aV o] from rfl];unfold there
 by_cases h1:a=z
 .rw[if_pos h1]
  open_line with[bw,eh,du,decide_eq_true h1,oS]
 .rw[if_neg h1]
  by_cases h2:b=z
  .by_cases h3:w="both"
   .rw[if_pos ⟨h2,h3⟩]
    open_line with[bw,eh,du,decide_eq_false h1,decide_eq_true h2,decide_eq_true h3,oS]
   .rw[if_neg (λh=>h3 h.2)]
    open_line with[bw,eh,du,decide_eq_false h1,decide_eq_true h2,decide_eq_false h3,oS]
  .rw[if_neg (λh=>h2 h.1)]
   open_line with[bw,eh,du,decide_eq_false h1,decide_eq_false h2,oS]
def ways(t:uJ):List (Str×Str):=if t.w="one" then[(t.a,t.b)] else[(t.a,t.b),(t.b,t.a)]
def pr(p:Str×Str):D:=.tup [.str p.1,.str p.2]
def steps_ok:m_steps_along [bK t]=.ok (.lst ((ways t).map pr)):=by
 obtain⟨a,b,w,l,o⟩:=t;rw[show bK ⟨a,b,w,l,o⟩=.tup [.str a,.str b,.str w,fr l,aV o] from rfl];unfold ways
 by_cases h:w="one"
 .rw[if_pos h]
  open_line with[m_steps_along,gu,du,decide_eq_true h,pr]
 .rw[if_neg h]
  open_line with[m_steps_along,gu,du,decide_eq_false h,pr]
def Av{ks:bi}:(ks.map λ(k:Nat)=>D.int (k:Int)).all (bj m)=true:=List.all_eq_true.mpr λd hd=>by
 obtain⟨z,_,rfl⟩:=List.mem_map.mp hd;cases m<;>rfl
theorem Ab{n:Nat}:∀{ks:bi},((ks.map λ(k:Nat)=>D.int (k:Int)).any λd=>cq d (.int (n:Int)))=decide (n∈ks)
 |[]=>rfl
 |k::ks=>by
  rw[List.map_cons,List.any_cons,Ab];have e:cq (.int (k:Int)) (.int (n:Int))=((k:Int)==(n:Int)):=by rw[cq]
  rw[e]
  by_cases h:n=k
  .subst h;simp
  .have h1:((k:Int)==(n:Int))=false:=beq_eq_false_iff_ne.mpr (by omega)
   rw[h1,Bool.false_or];have:n∈k::ks↔n∈ks:=by simp[h]
   exact decide_eq_decide.mpr this.symm
def notIn_nums{ks:bi}{n:Nat}:cO (.int (n:Int)) (.lst (ks.map λ(k:Nat)=>D.int (k:Int)))=.ok (.bl (!(decide (n∈ks)))):=by
 have e:D5 (.int (n:Int)) (.lst (ks.map λ(k:Nat)=>D.int (k:Int)))=some (decide (n∈ks)):=(if_pos ⟨rfl,Av⟩).trans (congrArg some Ab);unfold cO;rw[e]
noncomputable def xK(w:gQ) (ks:bi) (seen:List Str) (here:Str) (d:D):Option Str :=
 if here=w.la then none else match d with
 |.int n=>if 0<=n/\n<(w.ts.length:Int)/\n.toNat∉ks then match w.ts[n.toNat]? with
   |some t=>match there t here with
    |some y=>if y∈seen then none else some y
    |none=>none
   |none=>none
  else none
 |_=>none
def Je(d:D):Prop:=Wex.plainD d=true∨d=.dic [] []
def Fm:aM (.lst ((pre++[here]).map D.str)) (.int (-1))=.ok (.str here):=by
 rw[List.map_append];exact Fs
def AZ:aP [aR w,.int n]=.ok (.bl (decide (0<=n)&&decide (n<(w.ts.length:Int)))):=by
 have i1:aM (aR w) (.int 1)=.ok (.lst (w.ts.map bK)):=rfl;cases h:decide ((0:Int)<=n) with
 |false=>open_line with[aP,bG,i1,List.length_map,h,Bool.false_and]
 |true=>open_line with[aP,bG,i1,List.length_map,h,Bool.true_and]
def AY(hd:Je d)(hi:¬∃n,d=.int n):aP [aR w,d]=.ok (.bl false):=by
 rcases hd with hd|rfl
 .cases d with
  |int n=>exact absurd ⟨n,rfl⟩ hi
  |non=>open_line with[aP,bG]
  |bl b=>open_line with[aP,bG]
  |str b=>open_line with[aP,bG]
  |tup b=>open_line with[aP,bG]
  |lst b=>open_line with[aP,bG]
  |_=>cases hd
 .open_line with[aP,bG]
noncomputable abbrev yt:am:=(av (bE 6 (aa (ae 2) (ae 5) aM))
 (av (bE 7 (dC (.non)))
 (av (dw (eg (aa (ae 3) (aa (ae 0) (dC (.int 3)) aM) iG) (eg (au (ai (ae 0) (ai (ae 6) aF)) aP) (aa (ae 6) (ae 1) cO)))
 (av (bE 7 (au (ai (aa (aa (ae 0) (dC (.int 1)) aM) (ae 6) aM) (ai (ae 3) aF)) bw))
 aq)
 aq)
 (av (dw (gh (aa (ae 7) (dC (.non)) eV) (aa (ae 7) (ae 4) Br))
 (av (bz (au (ai (dC (.str "at")) (ai (ae 5) aF)) eQ))
 aq)
 aq)
 (av (bE 3 (ae 7))
 (av (dZ 4 (ae 3))
 aq))))))
def ne_str:iG (.str x) (.str y)=.ok (.bl (!(decide (x=y)))):=by
 have h:iG (.str x) (.str y)=.ok (.bl (!(x==y))):=rfl;rw[h]
 by_cases e:x=y
 .rw[decide_eq_true e,e,beq_self_eq_true]
 .rw[decide_eq_false e,beq_eq_false_iff_ne.mpr e]
def Em(w:gQ)(ks:bi)(th:ac)(here:Str)(seen:List Str)(x5 x6 x7:Sl):Ev:=[.sh (aR w),.sh (.lst (ks.map λ(k:Nat)=>D.int (k:Int))),.sh (.lst th),.sh (.str here),.ow (.lst (seen.map D.str)),x5,x6,x7]
theorem G1{w:gQ}{ks:bi}{th:ac}{here:Str}{pre:List Str}{i:Nat}{d:D}{x6 x7:Sl}(hd:Je d)(hi:th[i]?=some d)(hl:pre.length<=900) :
  yt (Em w ks th here (pre++[here]) (.sh (.int (i:Int))) x6 x7)=match xK w ks (pre++[here]) here d with
   |none=>.ok (.rt (.tup [.str "at",.int (i:Int)]))
   |some y=>.ok (.nx (Em w ks th y (pre++[here]++[y]) (.sh (.int (i:Int))) (.sh d) (.sh (.str y)))):=by
 have i3:aM (aR w) (.int 3)=.ok (.str w.la):=rfl;have i1:aM (aR w) (.int 1)=.ok (.lst (w.ts.map bK)):=rfl;have hix:aM (.lst th) (.int (i:Int))=.ok d:=my hi;have hap:decide (((pre++[here]).map D.str).length<=999)=true:=decide_eq_true (by simp;omega);unfold xK Em
 by_cases h0:here=w.la
 .rw[if_pos h0]
  open_line with[hix,i3,ne_str,decide_eq_true h0]
 rw[if_neg h0]
 by_cases hn:∃n,d=.int n
 .obtain⟨n,rfl⟩:=hn
  have e1:=AZ (w:=w) (n:=n)
  by_cases h1:0<=n/\n<(w.ts.length:Int)
  .obtain⟨k,rfl⟩:=Int.eq_ofNat_of_zero_le h1.1
   rw[decide_eq_true h1.1,decide_eq_true h1.2]at e1;have hkt:((k:Int)).toNat=k:=by omega
   by_cases h2:k∈ks
   .simp only[hkt]
    rw[if_neg (λz=>z.2.2 h2)];open_line with[hix,i3,ne_str,decide_eq_false h0,e1,notIn_nums,decide_eq_true h2]
   .simp only[hkt]
    rw[if_pos ⟨h1.1,h1.2,h2⟩];have hk:k<w.ts.length:=by omega
    have ht:w.ts[k]?=some w.ts[k]:=List.getElem?_eq_getElem hk;have hti:=oj ht;rw[ht];simp only;cases hth:there w.ts[k] here with
    |none=>
     have e2:=there_ok (t:=w.ts[k]) (z:=here);rw[hth]at e2;simp only[oS]at e2;open_line with[hix,i3,ne_str,decide_eq_false h0,e1,notIn_nums,decide_eq_false h2,i1,hti,e2]
    |some y=>
     have e2:=there_ok (t:=w.ts[k]) (z:=here);rw[hth]at e2;simp only[oS]at e2
     by_cases h3:y∈pre++[here]
     .simp only[if_pos h3]
      open_line with[hix,i3,ne_str,decide_eq_false h0,e1,notIn_nums,decide_eq_false h2,i1,hti,e2,nL,decide_eq_true h3]
     .simp only[if_neg h3]
      have hma:(pre++[here]++[y]).map D.str=(pre++[here]).map D.str++[.str y]:=by rw[List.map_append];rfl
      rw[hma];open_line with[hix,i3,ne_str,decide_eq_false h0,e1,notIn_nums,decide_eq_false h2,i1,hti,e2,nL,decide_eq_false h3,eK hap]
  .have hf:(decide (0<=n)&&decide (n<(w.ts.length:Int)))=false:=by
    rw[Bool.and_eq_false_iff]
    by_cases h2:0<=n
    .exact .inr (decide_eq_false λz=>h1 ⟨h2,z⟩)
    .exact .inl (decide_eq_false h2)
   rw[hf]at e1;simp only;rw[if_neg (λz=>h1 ⟨z.1,z.2.1⟩)];open_line with[hix,i3,ne_str,decide_eq_false h0,e1]
 .have e1:=AY (w:=w) hd hn
  have key:yt [.sh (aR w),.sh (.lst (ks.map λ(k:Nat)=>D.int (k:Int))),.sh (.lst th),.sh (.str here),.ow (.lst ((pre++[here]).map D.str)),.sh (.int (i:Int)),x6,x7]=.ok (.rt (.tup [.str "at",.int (i:Int)])):=by
   open_line with[hix,i3,ne_str,decide_eq_false h0,e1]
  rw[key];cases d with|int n=>exact absurd ⟨n,rfl⟩ hn| _=>rfl
def og(w:gQ)(ks:bi):List Str->Str->Nat->ac->Nat ⊕ List Str
 |pre,here,_,[]=>.inr (pre++[here])
 |pre,here,i,d::r=>match xK w ks (pre++[here]) here d with
  |none=>.inl i
  |some y=>og w ks (pre++[here]) y (i+1) r
theorem G0{w:gQ}{ks:bi}{th:ac}(he:∀d∈th,Je d)(hl:th.length<=100):∀(m i:Nat) (pre:List Str) (here:Str) (x5 x6 x7:Sl),i+m=th.length->pre.length=i ->
  match og w ks pre here i (th.drop i) with
  |.inl j=>b3 (bW 5) yt ((DL.intsFrom 0 th.length).drop i) (Em w ks th here (pre++[here]) x5 x6 x7)=.ok (.rt (.tup [.str "at",.int (j:Int)]))
  |.inr seen=>∃pre' here' x5' x6' x7',seen=pre'++[here']/\b3 (bW 5) yt ((DL.intsFrom 0 th.length).drop i) (Em w ks th here (pre++[here]) x5 x6 x7)=.ok (.nx (Em w ks th here' seen x5' x6' x7')):=by
 intro m
 induction m with
 |zero=>
  intro i pre here x5 x6 x7 him _;have:i=th.length:=by omega
  subst this;rw[List.drop_length,vG];exact⟨pre,here,x5,x6,x7,rfl,rfl⟩
 |succ m ih=>
  intro i pre here x5 x6 x7 him hpl;have hi:i<th.length:=by omega
  rw[List.drop_eq_getElem_cons hi,sA hi];have hb:=G1 (w:=w) (ks:=ks) (th:=th) (here:=here) (pre:=pre) (i:=i) (d:=th[i]) (x6:=x6) (x7:=x7) (he _ (List.getElem_mem hi)) (List.getElem?_eq_getElem hi) (by omega);have hg:bW 5 (Em w ks th here (pre++[here]) x5 x6 x7) (.int (i:Int))=.ok (Em w ks th here (pre++[here]) (.sh (.int (i:Int))) x6 x7):=rfl;unfold og b3;rw[hg];cases e:xK w ks (pre++[here]) here th[i] with
  |none=>
   rw[e]at hb;simp only[aj.bind,hb]
  |some y=>
   rw[e]at hb;simp only[aj.bind,hb];exact ih (i+1) (pre++[here]) y _ _ _ (by omega) (by simp;omega)
def qo(w:gQ)(n:Nat):Nat ⊕ List Str->Option Nat
 |.inl j=>some j
 |.inr seen=>if seen.getLast?=some w.la then none else some n
def Dl:Option Nat->List Str->D
 |some j,_=>.tup [.str "at",.int (j:Int)]
 |none,seen=>.tup [.str "way",.lst (seen.map D.str)]
def wrong_list(he:∀d∈th,Je d)(hl:th.length<=100):∃seen,cj [aR w,aT ks,.lst th]=.ok (Dl (qo w th.length (og w ks [] w.fi 0 th)) seen):=by
 have i2:aM (aR w) (.int 2)=.ok (.str w.fi):=rfl;have i3:aM (aR w) (.int 3)=.ok (.str w.la):=rfl;have hlen:dm (.lst th)=.ok (.int th.length):=dO;have h:=G0 (w:=w) (ks:=ks) he hl th.length 0 [] w.fi .no .no .no (by omega) rfl;rw[List.drop_zero,List.drop_zero]at h;unfold Em at h;simp only[List.nil_append,List.map_cons,List.map_nil]at h;cases e:og w ks [] w.fi 0 th with
 |inl j=>
  rw[e]at h;simp only at h;refine⟨[],?_⟩;simp only[qo,Dl];open_line with[cj,fA,aT,i2,hlen,gf,gF (show th.length<=1000000 by omega),h]
 |inr seen=>
  rw[e]at h;simp only at h;obtain⟨pre',here',x5',x6',x7',rfl,h⟩:=h;refine⟨pre'++[here'],?_⟩;simp only[qo,List.getLast?_append,List.getLast?_singleton,Option.some_or,Option.some.injEq]
  by_cases hc:here'=w.la
  .rw[if_pos hc]
   simp only[Dl];open_line with[cj,fA,aT,i2,hlen,gf,gF (show th.length<=1000000 by omega),h,i3,ne_str,decide_eq_true hc]
  .rw[if_neg hc]
   simp only[Dl];open_line with[cj,fA,aT,i2,hlen,gf,gF (show th.length<=1000000 by omega),h,i3,ne_str,decide_eq_false hc]
end K11
namespace K11
open PySem L2 DL Com Bor
abbrev bR(ks:bi):ac:=ks.map λ(k:Nat)=>D.int (k:Int)
end K11
namespace DL
open PySem PySem.Spec PyProof.Rows L2
def Rp(d:D)(n k:Nat):Prop:=∃p,eG d=some p/\p.showable=true/\p.depth<=k/\p.shown.length<=n
def gj(ds:ac)(n k:Nat):Prop:=∃ps,toPys ds=some ps/\ps.length=ds.length/\PyData.showableAll ps=true/\PyData.depthAll ps<=k/\((PyData.shownAll ps).map (λx=>x.length)).sum<=n
theorem gU:∀(ps:List PyData),(PyData.shownAll ps).length=ps.length
 |[]=>by rw[PyData.shownAll];rfl
 |p::ps=>by rw[PyData.shownAll,List.length_cons,gU ps,List.length_cons]
def Rp.up{n k n' k':Nat}(h:Rp d n k)(hn:n<=n')(hk:k<=k'):Rp d n' k':=by
 obtain⟨p,h1,h2,h3,h4⟩:=h;exact⟨p,h1,h2,Nat.le_trans h3 hk,Nat.le_trans h4 hn⟩
def gj.nil{k:Nat}:gj [] 0 k:=⟨[],rfl,rfl,rfl,by rw[PyData.depthAll];omega,by rw[PyData.shownAll];exact Nat.le_refl _⟩
def gj.cons{a n k:Nat}(h:Rp d a k)(t:gj ds n k):gj (d::ds) (a+n) k:=by
 obtain⟨p,h1,h2,h3,h4⟩:=h;obtain⟨ps,t1,t2,t3,t4,t5⟩:=t;refine⟨p::ps,by rw[toPys,h1,t1],by rw[List.length_cons,t2,List.length_cons],by rw[PyData.showableAll,h2,t3];rfl,?_,?_⟩
 .rw[PyData.depthAll];omega
 .rw[PyData.shownAll,List.map_cons,List.sum_cons];omega
def gj.all{a k:Nat}:∀{ds:ac},(∀d∈ds,Rp d a k)->gj ds (a*ds.length) k:=by
 intro ds
 induction ds with
 |nil=>intro _;exact gj.nil
 |cons d ds ih=>
  intro h;have:=gj.cons (h d (List.mem_cons_self ..)) (ih λx hx=>h x (List.mem_cons_of_mem _ hx));rw[List.length_cons,Nat.mul_add,Nat.mul_one,Nat.add_comm];exact this
def Rp.lst{n k:Nat}(h:gj ds n k):Rp (.lst ds) (n+2*ds.length+3) (k+1):=by
 obtain⟨ps,t1,t2,t3,t4,t5⟩:=h;refine⟨.list ps,by rw[eG,t1];rfl,by rw[PyData.showable];exact t3,by rw[PyData.depth];omega,?_⟩;rw[PyData.shown];have:=listText_len_le (PyData.shownAll ps);rw[gU]at this;omega
def Rp.tup{n k:Nat}(h:gj ds n k):Rp (.tup ds) (n+2*ds.length+3) (k+1):=by
 obtain⟨ps,t1,t2,t3,t4,t5⟩:=h;refine⟨.tuple ps,by rw[eG,t1];rfl,by rw[PyData.showable];exact t3,by rw[PyData.depth];omega,?_⟩;rw[PyData.shown];have:=tupleText_len_le (PyData.shownAll ps);rw[gU]at this;omega
def Rp.non:Rp .non 4 0:=⟨.none,by rw[eG],by rw[PyData.showable],by rw[PyData.depth];omega,by rw[PyData.shown,PySem.ofString_length];decide⟩
def Rp.int(h:i.natAbs<2 ^ 200):Rp (.int i) 201 0:=by
 refine⟨.int i,by rw[eG],?_,by rw[PyData.depth]<;>simp,?_⟩
 .rw[PyData.showable]
  refine decide_eq_true ?_
  by_cases h0:i.natAbs=0
  .rw[h0];decide
  .exact Nat.lt_trans ((Nat.log2_lt h0).mpr h) (by decide)
 .rw[PyData.shown,PySem.ofString_length]
  cases i with
  |ofNat m=>
   have:=nat_repr_length_le (n:=m) (k:=200) (by decide) h;show(Nat.repr m).length<=201;omega
  |negSucc m=>
   have:=nat_repr_length_le (n:=m+1) (k:=200) (by decide) h;show("-"++Nat.repr (m+1)).length<=201;rw[String.length_append];have h1 : "-".length=1:=rfl;omega
def Rp.str(hl:z.length<=n)(h:∀c∈z.cps.toList,c<16 ^ 8):Rp (.str z) (10*n+2) 0:=by
 refine⟨.str z,by rw[eG],by rw[PyData.showable],by rw[PyData.depth]<;>simp,?_⟩;rw[PyData.shown];have:=StrLaws.reprText_len z h;omega
def Rp.repr{n k:Nat}(h:Rp (.lst ds) n k)(hn:n<=sizeLine)(hk:k<=100):∃z,ef (.lst ds)=.ok (.str z):=by
 obtain⟨p,h1,h2,h3,h4⟩:=h;refine⟨p.shown,?_⟩;unfold ef;rw[h1];show(if _ then _ else _)=_;have hs:jL p=true:=by
  unfold jL;rw[h2,decide_eq_true (Nat.le_trans h3 hk),decide_eq_true (Nat.le_trans h4 hn)];rfl
 rw[if_pos ⟨rfl,hs⟩]
end DL
namespace Bor
open PySem L2 DL Com
theorem sC{α β γ:Type}:∀(l:List α) (b:β×γ),List.foldl (λb _=>(b.1,b.2)) b l=b
 |[],_=>rfl
 |_::l,b=>sC l b
def uI:∀c∈IW.cps.toList,c<16 ^ 8:=by decide +kernel
def IT(h:mX c=true):c<16 ^ 8:=by
 refine Nat.lt_of_not_le λhc=>?_;have hs:∀i,Builtin.Str.subAt IW ⟨#[c]⟩ i=false:=by
  intro i;unfold Builtin.Str.subAt;rw[beq_eq_false_iff_ne];intro e;have:c∈(IW.cps.extract i (i+(⟨#[c]⟩:Str).length)):=by rw[e];simp
  have h2:c∈IW.cps:=by
   obtain⟨j,hj,e⟩:=Array.mem_iff_getElem.mp this;rw[Array.getElem_extract]at e;rw[←e];exact Array.getElem_mem _
  have:=uI c (Array.mem_toList_iff.mpr h2);omega
 have:Builtin.Str.occurrences IW ⟨#[c]⟩ 0 IW.length 1=[]:=by
  unfold Builtin.Str.occurrences;simp[hs,sC]
 unfold mX Kb at h;rw[this]at h;cases h
def jo(h:nameB z=true):Rp (.str z) 82 0:=by
 unfold nameB at h;simp only[Bool.and_eq_true,decide_eq_true_eq,List.all_eq_true]at h;refine Rp.str (n:=8) h.2.1 λc hc=>?_;exact IT (h.2.2 c hc)
def BZ(h:gp x):Rp (fr x) 409 1:=by
 have hN:yl<=2 ^ 200:=by decide
 have h1:=h.pN;have h2:=h.qN;exact(Rp.tup (gj.cons (Rp.int (Nat.lt_of_lt_of_le h1 hN)) (gj.cons (Rp.int (Nat.lt_of_lt_of_le h2 hN)) gj.nil))).up (by simp) (Nat.le_refl _)
def HA(h:nk zs t)(hz:∀z∈zs,nameB z=true):Rp (bK t) 1100 2:=by
 have ha:=(jo (hz _ h.a)).up (k':=1) (Nat.le_refl _) (by decide);have hb:=(jo (hz _ h.b)).up (k':=1) (Nat.le_refl _) (by decide);have hw:Rp (.str t.w) 82 1:=by
  rcases h.w with e|e<;>rw[e]
  .exact(Rp.str (n:=8) (by decide) (by decide)).up (by decide) (by decide)
  .exact(Rp.str (n:=8) (by decide) (by decide)).up (by decide) (by decide)
 have hl:=BZ h.l;have ho:Rp (aV t.o) 409 1:=by
  cases e:t.o with|none=>exact Rp.non.up (by decide) (by decide)|some x=>exact BZ (h.o x e).1
 exact(Rp.tup (gj.cons ha (gj.cons hb (gj.cons hw (gj.cons hl (gj.cons ho gj.nil)))))).up (by simp) (Nat.le_refl _)
def BY{ds:List Str}(hl:ds.length<=n)(h:∀z∈ds,nameB z=true):Rp (.lst (ds.map D.str)) (84*n+3) 1:=by
 have:=Rp.lst (gj.all (a:=82) (k:=0) (ds:=ds.map D.str) λd hd=>by
  obtain⟨z,hz,rfl⟩:=List.mem_map.mp hd;exact jo (h z hz))
 rw[List.length_map]at this;exact this.up (by omega) (Nat.le_refl _)
def Hz(W:cJ w):Rp (aR w) 20000 4:=by
 have h1:=(BY W.n7 W.nm.nm).up (k':=3) (Nat.le_refl _) (by decide);have h2:Rp (.lst (w.ts.map bK)) 15700 3:=by
  have:=Rp.lst (gj.all (a:=1100) (k:=2) (ds:=w.ts.map bK) λd hd=>by
   obtain⟨t,ht,rfl⟩:=List.mem_map.mp hd;exact HA (W.ts t ht) W.nm.nm)
  rw[List.length_map]at this;have t14:=W.t14;exact this.up (by omega) (Nat.le_refl _)
 have h3:=(jo (W.nm.nm _ W.fi)).up (k':=3) (Nat.le_refl _) (by decide);have h4:=(jo (W.nm.nm _ W.la)).up (k':=3) (Nat.le_refl _) (by decide);exact(Rp.tup (gj.cons h1 (gj.cons h2 (gj.cons h3 (gj.cons h4 gj.nil))))).up (by simp) (Nat.le_refl _)
def yz(hl:ks.length<=n)(h:∀k∈ks,k<2 ^ 200):Rp (aT ks) (203*n+3) 1:=by
 have:=Rp.lst (gj.all (a:=201) (k:=0) (ds:=ks.map λ(k:Nat)=>D.int (k:Int)) λd hd=>by
  obtain⟨k,hk,rfl⟩:=List.mem_map.mp hd;exact Rp.int (by simpa using h k hk))
 rw[List.length_map]at this;exact this.up (by omega) (Nat.le_refl _)
def HB(W:cJ w)(T:tH w ks):Rp (aT ks) 3000 1:=by
 have t14:=W.t14;have hl:=G2 T.up T.lt;exact(yz (n:=14) (by omega) λk hk=>Nat.lt_of_lt_of_le (T.lt k hk) (Nat.le_trans t14 (by decide))).up (by decide) (Nat.le_refl _)
end Bor
namespace K12
open PySem L2 DL Com Bor K11
def lenAt(w:gQ)(k:Nat):fw:=((w.ts[k]?).map uJ.l).getD (0,1)
def lenAt_of{k:Nat}(h:w.ts[k]?=some t):lenAt w k=t.l:=by unfold lenAt;rw[h];rfl
end K12
namespace K51
open PySem L2 DL Com Bor
structure El (x:fw):Prop where
 lo:Low x
 p0:0<=x.1
 p1:x.1<1152921504606846976
 q1:x.2<1152921504606846976
def p2_lt{a:Int}(h:a.natAbs<2 ^ m)(hm:m<=n):a.natAbs<2 ^ n:=Nat.lt_of_lt_of_le h (Nat.pow_le_pow_right (by decide) hm)
def ic{a b:Int}(h:a.natAbs<2 ^ m)(h':b.natAbs<2 ^ n):(a*b).natAbs<2 ^ (m+n):=by
 rw[Int.natAbs_mul,Nat.pow_add];exact Nat.mul_lt_mul'' h h'
def IQ{a b:Int}(h:a.natAbs<2 ^ m)(h':b.natAbs<2 ^ m):(a+b).natAbs<2 ^ (m+1):=by
 have:=Int.natAbs_add_le a b;rw[Nat.pow_succ];omega
def mt(x y:fw):fw:=e9 (x.1*y.1) (x.2*y.2)
def pl(x y:fw):fw:=e9 (un x y).1 (un x y).2
def i0(u:fw):aM (fr u) (.int 0)=.ok (.int u.1):=rfl
def i1(u:fw):aM (fr u) (.int 1)=.ok (.int u.2):=rfl
structure Bd (x:fw) (n:Nat):Prop where
 q0:0<x.2
 a:x.1.natAbs<2 ^ n
 b:x.2.natAbs<2 ^ n
def Bd.up(h:Bd x m)(hm:m<=n):Bd x n:=⟨h.q0,p2_lt h.a hm,p2_lt h.b hm⟩
def Bd.c13(h:Bd x n)(hn:n<=6000):x.1.natAbs<oa/\x.2.natAbs<oa:=by
 have:2 ^ n<=oa:=by rw[mM];exact Nat.pow_le_pow_right (by decide) (Nat.le_trans hn (by decide))
 exact⟨Nat.lt_of_lt_of_le h.a this,Nat.lt_of_lt_of_le h.b this⟩
def Bd.c60(h:Bd x n)(hn:n<=6000):x.1.natAbs<wX/\x.2.natAbs<wX:=⟨Nat.lt_of_lt_of_le (h.c13 hn).1 n9,Nat.lt_of_lt_of_le (h.c13 hn).2 n9⟩
def low_bd(hb:0<b)(h1:a.natAbs<2 ^ n)(h2:b.natAbs<2 ^ n):Bd (e9 a b) n:=⟨by have:=(ig (a:=a) hb).q1;omega,Nat.lt_of_le_of_lt uf h1,Nat.lt_of_le_of_lt ue h2⟩
def Kk(hx:Bd x m)(hy:Bd y n):Bd (mt x y) (m+n):=low_bd (Int.mul_pos hx.q0 hy.q0) (ic hx.a hy.a) (ic hx.b hy.b)
def un_bd(hx:Bd x m)(hy:Bd y n):Bd (un x y) (m+n+1):=by
 refine⟨Int.mul_pos hx.q0 hy.q0,?_,p2_lt (ic hx.b hy.b) (by omega)⟩;have h1:=ic hx.a hy.b;have h2:=ic hy.a hx.b;rw[Nat.add_comm n m]at h2;exact IQ h1 h2
def rV(hx:Bd x m)(hy:Bd y n):Bd (pl x y) (m+n+1):=low_bd (un_bd hx hy).q0 (un_bd hx hy).a (un_bd hx hy).b
def AQ(hx:Bd x m)(hy:Bd y n)(h:m+n<=6000):fz [fr x,fr y]=.ok (fr (mt x y)):=by
 have b1:=hx.c60 (by omega);have b2:=hy.c60 (by omega);have hp:Bd (x.1*y.1,x.2*y.2) (m+n):=⟨Int.mul_pos hx.q0 hy.q0,ic hx.a hy.a,ic hx.b hy.b⟩
 have hc:=hp.c13 h;have m1:=bO (cF b1.1 b2.1);have m2:=bO (cF b1.2 b2.2);have hlo:br [.int (x.1*y.1),.int (x.2*y.2)]=.ok (fr (mt x y)):=Cod.low_ok hp.q0 hc.1 hc.2;open_line with[fz,l3,i0,i1,m1,m2,hlo]
def BE(hx:Bd x m)(hy:Bd y n)(h:m+n<=6000):m_times [fr x,fr y]=.ok (fr (mt x y)):=by
 have b1:=hx.c60 (by omega);have b2:=hy.c60 (by omega);have hp:Bd (x.1*y.1,x.2*y.2) (m+n):=⟨Int.mul_pos hx.q0 hy.q0,ic hx.a hy.a,ic hx.b hy.b⟩
 have hc:=hp.c13 h;have m1:=bO (cF b1.1 b2.1);have m2:=bO (cF b1.2 b2.2);have hlo:m_ratio [.int (x.1*y.1),.int (x.2*y.2)]=.ok (fr (mt x y)):=kr hp.q0 hc.1 hc.2;open_line with[m_times,zZ,i0,i1,m1,m2,hlo]
def iS(hx:Bd x m)(hy:Bd y n)(h:m+n<=5900):bS [fr x,fr y]=.ok (fr (pl x y)):=by
 have b1:=hx.c60 (by omega);have b2:=hy.c60 (by omega);have hp:=un_bd hx hy;have hc:=hp.c13 (by omega);have m1:=bO (cF b1.1 b2.2);have m2:=bO (cF b2.1 b1.2);have m3:=bO (cF b1.2 b2.2);have hlo:br [.int (x.1*y.2+y.1*x.2),.int (x.2*y.2)]=.ok (fr (pl x y)):=Cod.low_ok hp.q0 hc.1 hc.2;open_line with[K12.bS,K12.nh,i0,i1,m1,m2,m3,hlo]
def EO(hx:Bd x m)(hy:Bd y n)(h:m+n<=5900):m_plus [fr x,fr y]=.ok (fr (pl x y)):=by
 have b1:=hx.c60 (by omega);have b2:=hy.c60 (by omega);have hp:=un_bd hx hy;have hc:=hp.c13 (by omega);have m1:=bO (cF b1.1 b2.2);have m2:=bO (cF b2.1 b1.2);have m3:=bO (cF b1.2 b2.2);have hlo:m_ratio [.int (x.1*y.2+y.1*x.2),.int (x.2*y.2)]=.ok (fr (pl x y)):=kr hp.q0 hc.1 hc.2;open_line with[Com.m_plus,Com.b_plus,i0,i1,m1,m2,m3,hlo]
def o5(hx:Bd x m)(hy:Bd y n)(hm:m<=6000)(hn:n<=6000):c8 [fr x,fr y]=.ok (.bl (flt x y)):=by
 have b1:=hx.c60 hm;have b2:=hy.c60 hn;have m1:=bO (cF b1.1 b2.2);have m2:=bO (cF b2.1 b1.2);open_line with[c8,ni,i0,i1,m1,m2]
 rfl
def Fj(hx:Bd x m)(hy:Bd y n)(hm:m<=6000)(hn:n<=6000):m_is_less [fr x,fr y]=.ok (.bl (flt x y)) :=
 vD (hx.c60 hm).1 (hx.c60 hm).2 (hy.c60 hn).1 (hy.c60 hn).2
def low_same(h:Low x):e9 x.1 x.2=x:=by
 have:=h.g1;unfold e9;rw[this];simp
def llen_two{p q:Int}(hp:0<=p)(hq:0<q)(h1:p.natAbs<oa)(h2:q.natAbs<oa):bM [.tup [.int p,.int q]]=.ok (.bl (cq (fr (e9 p q)) (.tup [.int p,.int q]))):=by
 have hlo:br [.int p,.int q]=.ok (fr (e9 p q)):=Cod.low_ok hq h1 h2;have he:kc (fr (e9 p q)) (.tup [.int p,.int q])=.ok (.bl (cq (fr (e9 p q)) (.tup [.int p,.int q]))):=by
  unfold kc;rw[if_pos ⟨EF _,rfl⟩]
 have hf:∀A,b3 (bW 1) (av (dw (gh (cb (b7 (ae 1) (c4 "int"))) (b7 (ae 1) (c4 "bool")))
 (av (bz (dC (.bl false)))
 aq)
 aq)
 aq) [.int p,.int q] [.sh A,.no]=.ok (.nx [.sh A,.sh (.int q)]):=λA=>by
  rw[dN (ρ1:=[.sh A,.sh (.int p)]) (ρ2:=[.sh A,.sh (.int p)]) rfl (by open_line with[]),dN (ρ1:=[.sh A,.sh (.int q)]) (ρ2:=[.sh A,.sh (.int q)]) rfl (by open_line with[])];rfl
 open_line with[bM,gO,hf,decide_eq_true (show p≥0 from hp),decide_eq_true (show q > 0 from hq),hlo,he]
theorem sS{α:Type}(g:α->D)(pk:α->Option D):∀(L:List α),(∀a∈L,∃ρ1,tg B (g a)=.ok ρ1/\((pk a=none/\tt ρ1=.ok (.bl false))∨(∃d,pk a=some d/\tt ρ1=.ok (.bl true)/\fe ρ1=.ok d)))->bP B tg tt fe (L.map g)=.ok (L.filterMap pk)
 |[],_=>rfl
 |a::L,h=>by
  obtain⟨ρ1,h1,h2⟩:=h a List.mem_cons_self;have ih:=sS g pk L λd hd=>h d (List.mem_cons_of_mem _ hd);rw[List.map_cons];unfold bP;rw[h1,Bj];rcases h2 with⟨e,h2⟩|⟨d,e,h2,h3⟩
  .rw[h2,Bj]
   show bP B tg tt fe (L.map g)=_;rw[ih,List.filterMap_cons_none e]
  .rw[h2,Bj]
   show(fe ρ1).bind _=_;rw[h3,Bj,ih,Bj,List.filterMap_cons_some e]
def comp_pick{α:Type}(g:α->D)(pk:α->Option D){L:List α}(hl:L.length<=1000000)(h:∀a∈L,∃ρ1,tg (cI n fr' ρ) (g a)=.ok ρ1/\((pk a=none/\tt ρ1=.ok (.bl false))∨(∃d,pk a=some d/\tt ρ1=.ok (.bl true)/\fe ρ1=.ok d))):i9 n fr' tg tt fe ρ (L.map g)=.ok (.lst (L.filterMap pk)):=by
 unfold i9;rw[if_pos (show(L.map g).length<=line from by rw[List.length_map];exact hl),sS g pk L h]
end K51
namespace Pth
open PySem L2 DL Com Bor K17
open K11 (bR ways pr du)
structure yh where
 n:Nat
 a:Str
 b:Str
def jI(s:yh):D:=.tup [.int (s.n:Int),.str s.a,.str s.b]
def fV(ks:bi)(n:Nat)(t:uJ):List yh:=if n∈ks then[] else(ways t).map λp=>⟨n,p.1,p.2⟩
def dS(ks:bi):Nat->List uJ->List yh
 |_,[]=>[]
 |n,t::ts=>fV ks n t++dS ks (n+1) ts
def b8(w:gQ)(ks:bi):List yh:=dS ks 0 w.ts
def yq(t:uJ):(ways t).length<=2:=by unfold ways;split<;>simp
def xg:(fV ks n t).length<=2:=by
 unfold fV;split
 .simp
 .rw[List.length_map];exact yq t
theorem jN:∀(n:Nat) (ts:List uJ),s∈dS ks n ts↔∃t,n<=s.n/\ts[s.n-n]?=some t/\s.n∉ks/\(s.a,s.b)∈ways t
 |n,[]=>by simp[dS]
 |n,t::ts=>by
  rw[dS,List.mem_append,jN (n+1) ts];constructor
  .rintro(h|⟨u,h1,h2,h3,h4⟩)
   .unfold fV at h
    by_cases hk:n∈ks
    .rw[if_pos hk]at h;cases h
    .rw[if_neg hk]at h
     obtain⟨p,hp,rfl⟩:=List.mem_map.mp h;exact⟨t,Nat.le_refl _,by simp,hk,hp⟩
   .refine⟨u,by omega,?_,h3,h4⟩
    rw[show s.n-n=(s.n-(n+1))+1 by omega,List.getElem?_cons_succ];exact h2
  .rintro⟨u,h1,h2,h3,h4⟩
   by_cases hn:s.n=n
   .left
    rw[hn,Nat.sub_self,List.getElem?_cons_zero]at h2;cases h2;unfold fV;rw[if_neg (by rw[←hn];exact h3)];exact List.mem_map.mpr ⟨(s.a,s.b),h4,by rw[←hn]⟩
   .right
    refine⟨u,by omega,?_,h3,h4⟩;rw[show s.n-n=(s.n-(n+1))+1 by omega,List.getElem?_cons_succ]at h2;exact h2
def jv:s∈b8 w ks↔∃t,w.ts[s.n]?=some t/\s.n∉ks/\(s.a,s.b)∈ways t:=by
 unfold b8;rw[jN];simp
abbrev MC:am:=(av (dZ 2 (au (ai (ae 3) (ai (ae 5) (ai (ae 6) aF))) eQ))
 aq)
abbrev J8:am:=(av (dw (aa (ae 3) (ae 1) cO)
 (av (nv (au (ai (ae 4) aF) m_steps_along) (iW [5,6])
 MC)
 aq)
 aq)
 aq)
def Ay(w:gQ)(ks:bi)(ss:List yh)(x3 x4 x5 x6:Sl):Ev:=[.sh (aR w),.sh (aT ks),.ow (.lst (ss.map jI)),x3,x4,x5,x6]
theorem zk{n:Nat}:∀(ps:List (Str×Str)) (ss:List yh) (x5 x6:Sl),ss.length+ps.length<=900->∃y5 y6,b3 (iW [5,6]) MC (ps.map pr) (Ay w ks ss (.sh (.int (n:Int))) (.sh x4) x5 x6)=.ok (.nx (Ay w ks (ss++ps.map λp=>⟨n,p.1,p.2⟩) (.sh (.int (n:Int))) (.sh x4) y5 y6))
 |[],ss,x5,x6,_=>⟨x5,x6,by simp only[List.map_nil,List.append_nil];rfl⟩
 |p::ps,ss,x5,x6,h=>by
  rw[List.length_cons]at h;obtain⟨y5,y6,e⟩:=zk (w:=w) (ks:=ks) (n:=n) (x4:=x4) ps (ss++[⟨n,p.1,p.2⟩]) (.sh (.str p.1)) (.sh (.str p.2)) (by rw[List.length_append,List.length_singleton];omega);refine⟨y5,y6,?_⟩;have hap:decide ((ss.map jI).length<=999)=true:=decide_eq_true (by rw[List.length_map];omega);rw[List.map_cons,dN (ρ1:=Ay w ks ss (.sh (.int (n:Int))) (.sh x4) (.sh (.str p.1)) (.sh (.str p.2))) (ρ2:=Ay w ks (ss++[⟨n,p.1,p.2⟩]) (.sh (.int (n:Int))) (.sh x4) (.sh (.str p.1)) (.sh (.str p.2))) rfl]
  .rw[e,List.map_cons,List.append_assoc];rfl
  .unfold Ay
   have:(ss++[(⟨n,p.1,p.2⟩:yh)]).map jI=ss.map jI++[.tup [.int (n:Int),.str p.1,.str p.2]]:=by rw[List.map_append];rfl
   simp only[this];open_line with[eK hap]
theorem va(t14:w.ts.length<=14):∀(ts:List uJ) (n:Nat) (ss:List yh) (x3 x4 x5 x6:Sl),ss.length+2*ts.length<=100->∃y3 y4 y5 y6,b3 (iW [3,4]) J8 (numbered n (ts.map bK)) (Ay w ks ss x3 x4 x5 x6)=.ok (.nx (Ay w ks (ss++dS ks n ts) y3 y4 y5 y6))
 |[],n,ss,x3,x4,x5,x6,_=>⟨x3,x4,x5,x6,by rw[dS,List.append_nil];rfl⟩
 |t::ts,n,ss,x3,x4,x5,x6,h=>by
  rw[List.length_cons]at h;have hni:=K11.notIn_nums (ks:=ks) (n:=n);have h2:=yq t;have key:∃y5 y6,J8 (Ay w ks ss (.sh (.int (n:Int))) (.sh (bK t)) x5 x6)=.ok (.nx (Ay w ks (ss++fV ks n t) (.sh (.int (n:Int))) (.sh (bK t)) y5 y6)):=by
   unfold fV
   by_cases hk:n∈ks
   .rw[if_pos hk,List.append_nil]
    rw[decide_eq_true hk]at hni;refine⟨x5,x6,?_⟩;unfold Ay aT;open_line with[hni]
   .rw[if_neg hk]
    rw[decide_eq_false hk]at hni;obtain⟨y5,y6,e⟩:=zk (w:=w) (ks:=ks) (n:=n) (x4:=bK t) (ways t) ss x5 x6 (by omega);refine⟨y5,y6,?_⟩;unfold Ay aT at e ⊢;open_line with[hni,K11.steps_ok,e]
  obtain⟨y5,y6,e1⟩:=key;have hle:=xg (ks:=ks) (n:=n) (t:=t);obtain⟨z3,z4,z5,z6,e2⟩:=va (ks:=ks) t14 ts (n+1) (ss++fV ks n t) (.sh (.int (n:Int))) (.sh (bK t)) y5 y6 (by rw[List.length_append];omega);refine⟨z3,z4,z5,z6,?_⟩;rw[List.map_cons,DL.numbered,dN (ρ1:=Ay w ks ss (.sh (.int (n:Int))) (.sh (bK t)) x5 x6) rfl e1,e2,dS,List.append_assoc]
def steps_ok(W:cJ w):m_steps_left [aR w,aT ks]=.ok (.lst ((b8 w ks).map jI)):=by
 have t14:=W.t14;obtain⟨y3,y4,y5,y6,e⟩:=va (w:=w) (ks:=ks) t14 w.ts 0 [] .no .no .no .no (by simp;omega);rw[List.nil_append]at e;have hi:aM (aR w) (.int 1)=.ok (.lst (w.ts.map bK)):=rfl;unfold Ay at e;simp only[List.map_nil]at e;open_line with[K51.m_steps_left,K51.b_steps_left,hi,e]
 rfl
open K11 (bR ways pr du)
structure iH where
 p:Str
 z:Int
 y:bi
def ij(e:iH):D:=.tup [.int e.z,.lst (bR e.y)]
def fD(F:List iH):D:=.dic (F.map (·.p)) (F.map ij)
def get(F:List iH)(k:Str):Option iH:=F.find? λe=>decide (e.p=k)
theorem ki{k:Str}:∀{F:List iH},nj (F.map (·.p)) (F.map ij) k=(get F k).map ij
 |[]=>rfl
 |e::F=>by
  rw[List.map_cons,List.map_cons,nj];unfold get
  by_cases h:e.p=k
  .rw[if_pos h,List.find?_cons_of_pos (by exact decide_eq_true h)];rfl
  .rw[if_neg h,List.find?_cons_of_neg (by simpa using h),ki];rfl
def cR{k:Str}(h:get F k=some e):e∈F/\e.p=k:=⟨List.mem_of_find?_eq_some h,by simpa using List.find?_some h⟩
def ph{k:Str}:get F k=none↔∀e∈F,e.p≠k:=by
 unfold get;rw[List.find?_eq_none];simp
def xM(nd:(F.map (·.p)).Nodup)(he:e∈F):get F e.p=some e:=by
 induction F with
 |nil=>cases he
 |cons d F ih=>
  rw[List.map_cons,List.nodup_cons]at nd;unfold get;rcases List.mem_cons.mp he with rfl|he
  .rw[List.find?_cons_of_pos (by simp)]
  .have:d.p≠e.p:=λz=>nd.1 (z▸List.mem_map.mpr ⟨e,he,rfl⟩)
   rw[List.find?_cons_of_neg (by simpa using this)];exact ih nd.2 he
def eF(zs:List Int)(n:Nat):Int:=(zs[n]?).getD 0
noncomputable def iP(zs:List Int) (F:List iH) (c:Option iH) (s:yh):Option iH:=match get F s.a,get F s.b with
 |some e,none=>match c with
  |none=>some ⟨s.b,e.z+eF zs s.n,e.y++[s.n]⟩
  |some d=>if e.z+eF zs s.n<d.z then some ⟨s.b,e.z+eF zs s.n,e.y++[s.n]⟩ else c
 |_,_=>c
def cD:Option iH->D
 |none=>.non
 |some e=>.tup [.str e.p,.int e.z,.lst (bR e.y)]
noncomputable abbrev nB:am :=
 (av (dw (eg (aa (ae 5) (ae 2) wF) (aa (ae 6) (ae 2) eL))
 (av (bE 7 (aa (aa (aa (ae 2) (ae 5) cc) (dC (.int 0)) aM) (aa (ae 1) (ae 4) aM) cn))
 (av (dw (gh (aa (ae 3) (dC (.non)) eV) (aa (ae 7) (aa (ae 3) (dC (.int 1)) aM) GK))
 (av (bE 3 (au (ai (ae 6) (ai (ae 7) (ai (aa (aa (aa (ae 2) (ae 5) cc) (dC (.int 1)) aM) (au (ai (ae 4) aF) eR) cn) aF))) eQ))
 aq)
 aq)
 aq))
 aq)
 aq)
section
variable {S:D}{zs:List Int}{F:List iH}
def Ib(hF:∀e∈F,e.y.length<=900)(hs:s.n<zs.length) :
  ∃y7,nB [.sh S,.sh (.lst (zs.map D.int)),.sh (fD F),.sh (cD c),.sh (.int (s.n:Int)),.sh (.str s.a),.sh (.str s.b),x7]=.ok (.nx [.sh S,.sh (.lst (zs.map D.int)),.sh (fD F),.sh (cD (iP zs F c s)),.sh (.int (s.n:Int)),.sh (.str s.a),.sh (.str s.b),y7]):=by
 have g1:∀k,wF (.str k) (fD F)=.ok (.bl (get F k).isSome):=λk=>by
  show aj.ok (D.bl (nj (F.map (·.p)) (F.map ij) k).isSome)=_;rw[ki,Option.isSome_map]
 have g2:∀k,eL (.str k) (fD F)=.ok (.bl (!(get F k).isSome)):=λk=>by
  show aj.ok (D.bl (!(nj (F.map (·.p)) (F.map ij) k).isSome))=_;rw[ki,Option.isSome_map]
 have h1:=g1 s.a;have h2:=g2 s.b;unfold iP;cases ea:get F s.a with
 |none=>
  rw[ea]at h1;simp only[Option.isSome_none]at h1;refine⟨x7,?_⟩;open_line with[h1]
 |some e=>
  rw[ea]at h1;simp only[Option.isSome_some]at h1;cases eb:get F s.b with
  |some e'=>
   rw[eb]at h2;simp only[Option.isSome_some,Bool.not_true]at h2;refine⟨x7,?_⟩;open_line with[h1,h2]
  |none=>
   rw[eb]at h2;simp only[Option.isSome_none,Bool.not_false]at h2;have h3:cc (fD F) (.str s.a)=.ok (ij e):=by
    show(match nj (F.map (·.p)) (F.map ij) s.a with|some d=>aj.ok d|none=>.stuck)=_;rw[ki,ea];rfl
   have h4:aM (ij e) (.int 0)=.ok (.int e.z):=rfl;have h5:aM (ij e) (.int 1)=.ok (.lst (bR e.y)):=rfl;have h6:aM (.lst (zs.map D.int)) (.int (s.n:Int))=.ok (.int (eF zs s.n)):=my (by
    unfold eF;rw[List.getElem?_map,List.getElem?_eq_getElem hs];rfl)
   have h7:cn (.lst (bR e.y)) (.lst [.int (s.n:Int)])=.ok (.lst (bR (e.y++[s.n]))):=by
    rw[jB (decide_eq_true (by
     have:=hF e (cR ea).1;unfold bR;simp;omega))]
    unfold bR;rw[List.map_append];rfl
   cases c with
   |none=>
    refine⟨.sh (.int (e.z+eF zs s.n)),?_⟩;simp only[cD];open_line with[h1,h2,h3,h4,h5,h6,h7]
   |some d=>
    refine⟨.sh (.int (e.z+eF zs s.n)),?_⟩;simp only
    by_cases hlt:e.z+eF zs s.n<d.z
    .rw[if_pos hlt]
     simp only[cD];open_line with[h1,h2,h3,h4,h5,h6,h7,decide_eq_true hlt]
    .rw[if_neg hlt]
     simp only[cD];open_line with[h1,h2,h3,h4,h5,h6,h7,decide_eq_false hlt]
theorem ub(hF:∀e∈F,e.y.length<=900):∀(ss:List yh) (c:Option iH) (x4 x5 x6 x7:Sl),(∀s∈ss,s.n<zs.length)->∃y4 y5 y6 y7,b3 (iW [4,5,6]) nB (ss.map jI) [.sh S,.sh (.lst (zs.map D.int)),.sh (fD F),.sh (cD c),x4,x5,x6,x7]=.ok (.nx [.sh S,.sh (.lst (zs.map D.int)),.sh (fD F),.sh (cD (ss.foldl (iP zs F) c)),y4,y5,y6,y7])
 |[],c,x4,x5,x6,x7,_=>⟨x4,x5,x6,x7,rfl⟩
 |s::ss,c,x4,x5,x6,x7,h=>by
  obtain⟨y7,e1⟩:=Ib (S:=S) hF (h s List.mem_cons_self) (c:=c) (x7:=x7);obtain⟨z4,z5,z6,z7,e2⟩:=ub hF ss (iP zs F c s) (.sh (.int (s.n:Int))) (.sh (.str s.a)) (.sh (.str s.b)) y7 λu hu=>h u (List.mem_cons_of_mem _ hu);exact⟨z4,z5,z6,z7,by rw[List.map_cons,dN (ρ1:=[.sh S,.sh (.lst (zs.map D.int)),.sh (fD F),.sh (cD c),.sh (.int (s.n:Int)),.sh (.str s.a),.sh (.str s.b),x7]) rfl e1,e2,List.foldl_cons]⟩
end
def xA(ss:List yh)(zs:List Int)(F:List iH):Option iH:=ss.foldl (iP zs F) none
def E9(hF:∀e∈F,e.y.length<=900)(hs:∀s∈ss,s.n<zs.length):m_nearest_step [.lst (ss.map jI),.lst (zs.map D.int),fD F]=.ok (cD (xA ss zs F)):=by
 obtain⟨y4,y5,y6,y7,e⟩:=ub (S:=.lst (ss.map jI)) hF ss none .no .no .no .no hs;have e:b3 (iW [4,5,6]) nB (ss.map jI) [.sh (.lst (ss.map jI)),.sh (.lst (zs.map D.int)),.sh (fD F),.sh .non,.no,.no,.no,.no]=_:=e;open_line with[m_nearest_step,jd,e]
 rfl
def qY(F:List iH)(s:yh)(e:iH):Prop:=e∈F/\e.p=s.a/\∀d∈F,d.p≠s.b
theorem jr(nd:(F.map (·.p)).Nodup):∀(ss:List yh) (c:Option iH),
  (∀d,ss.foldl (iP zs F) c=some d->(c=some d∨∃s∈ss,∃e,qY F s e/\d=⟨s.b,e.z+eF zs s.n,e.y++[s.n]⟩)/\(∀d',c=some d'->d.z<=d'.z)/\∀s∈ss,∀e,qY F s e->d.z<=e.z+eF zs s.n) /\
  (ss.foldl (iP zs F) c=none->c=none/\∀s∈ss,∀e,¬qY F s e)
 |[],c=>⟨λd h=>⟨.inl h,λd' h'=>by rw[List.foldl_nil]at h;rw[h]at h';cases h';exact Int.le_refl _,λs hs=>(nomatch hs)⟩,λh=>⟨h,λs hs=>(nomatch hs)⟩⟩
 |s::ss,c=>by
  obtain⟨i1,i2⟩:=jr (zs:=zs) nd ss (iP zs F c s);rw[List.foldl_cons];have hc:∀e,qY F s e->get F s.a=some e/\get F s.b=none:=λe ⟨h1,h2,h3⟩=>⟨by rw[←h2];exact xM nd h1,ph.mpr h3⟩
  have hst:(iP zs F c s=c/\((∀e,¬qY F s e)∨∃e d,qY F s e/\c=some d/\d.z<=e.z+eF zs s.n))∨∃e,qY F s e/\iP zs F c s=some ⟨s.b,e.z+eF zs s.n,e.y++[s.n]⟩/\∀d,c=some d->e.z+eF zs s.n<=d.z:=by
   unfold iP;cases ea:get F s.a with
   |none=>exact .inl ⟨rfl,.inl λe h=>by rw[(hc e h).1]at ea;cases ea⟩
   |some e=>
    cases eb:get F s.b with
    |some e'=>exact .inl ⟨rfl,.inl λe h=>by rw[(hc e h).2]at eb;cases eb⟩
    |none=>
     have hC:qY F s e:=⟨(cR ea).1,(cR ea).2,ph.mp eb⟩
     cases c with
     |none=>exact .inr ⟨e,hC,rfl,λd h=>by cases h⟩
     |some d=>
      simp only
      by_cases hlt:e.z+eF zs s.n<d.z
      .rw[if_pos hlt]
       exact .inr ⟨e,hC,rfl,λd' h=>by cases h;omega⟩
      .rw[if_neg hlt]
       exact .inl ⟨rfl,.inr ⟨e,d,hC,rfl,by omega⟩⟩
  have one:∀e e',qY F s e->qY F s e'->e=e':=λe e' h h'=>by
   have h1:=(hc e h).1;rw[(hc e' h').1]at h1;cases h1;rfl
  refine⟨λd h=>?_,λh=>?_⟩
  .obtain⟨j1,j2,j3⟩:=i1 d h
   rcases hst with⟨e1,e2⟩|⟨e,hC,e1,e2⟩
   .rw[e1]at j1 j2
    refine⟨?_,j2,λs' hs' e' hC'=>?_⟩
    .rcases j1 with j1|⟨s',hs',j1⟩
     .exact .inl j1
     .exact .inr ⟨s',List.mem_cons_of_mem _ hs',j1⟩
    .rcases List.mem_cons.mp hs' with rfl|hs'
     .rcases e2 with e2|⟨e,d0,hC,h1,h2⟩
      .exact absurd hC' (e2 e')
      .rw[one e' e hC' hC]
       have:=j2 d0 h1;omega
     .exact j3 s' hs' e' hC'
   .rw[e1]at j1 j2
    have k:=j2 _ rfl;refine⟨?_,λd' h'=>Int.le_trans k (e2 d' h'),λs' hs' e' hC'=>?_⟩
    .rcases j1 with j1|⟨s',hs',j1⟩
     .cases j1
      exact .inr ⟨s,List.mem_cons_self,e,hC,rfl⟩
     .exact .inr ⟨s',List.mem_cons_of_mem _ hs',j1⟩
    .rcases List.mem_cons.mp hs' with rfl|hs'
     .rw[one e' e hC' hC];exact k
     .exact j3 s' hs' e' hC'
  .obtain⟨j1,j2⟩:=i2 h
   rcases hst with⟨e1,e2⟩|⟨e,hC,e1,e2⟩
   .rw[e1]at j1
    refine⟨j1,λs' hs' e' hC'=>?_⟩;rcases List.mem_cons.mp hs' with rfl|hs'
    .rcases e2 with e2|⟨e,d0,hC,h1,h2⟩
     .exact e2 e' hC'
     .rw[j1]at h1;cases h1
    .exact j2 s' hs' e' hC'
   .rw[e1]at j1;cases j1
open K11 (bR ways pr du)
def F5(w:gQ)(ks:bi)(n:Nat)(a b:Str):Prop:=∃t,w.ts[n]?=some t/\n∉ks/\(a,b)∈ways t
inductive ye (w:gQ) (ks:bi) (a:Str):bi->Str->Prop where
 |nil:ye w ks a [] a
 |snoc {p:bi}{b c:Str}{n:Nat}:ye w ks a p b->F5 w ks n b c->ye w ks a (p++[n]) c
def gR(zs:List Int)(p:bi):Int:=(p.map (eF zs)).sum
def Ai:gR zs (p++[n])=gR zs p+eF zs n:=by
 unfold gR;rw[List.map_append,List.sum_append];simp
def yr(T:nk zs t)(h:(a,b)∈ways t):a∈zs/\b∈zs/\(a=t.a∨a=t.b)/\(b=t.a∨b=t.b):=by
 have ta:=T.a;have tb:=T.b;unfold ways at h;split at h
 .have:(a,b)=(t.a,t.b):=by simpa using h
  cases this;exact⟨ta,tb,.inl rfl,.inr rfl⟩
 .rcases List.mem_cons.mp h with e|h
  .cases e;exact⟨ta,tb,.inl rfl,.inr rfl⟩
  .have:(a,b)=(t.b,t.a):=by simpa using h
   cases this;exact⟨tb,ta,.inr rfl,.inl rfl⟩
structure qU (w:gQ) (ks:bi) (zs:List Int) (F:List iH) (m:Int):Prop where
 nd:(F.map (·.p)).Nodup
 pl:∀e∈F,e.p∈w.ps
 fi:∃e∈F,e.p=w.fi/\e.z=0/\e.y=[]
 wy:∀e∈F,ye w ks w.fi e.y e.p/\e.z=gR zs e.y/\e.y.Nodup/\e.y.length<F.length
 en:∀e∈F,∀n∈e.y,∀t,w.ts[n]?=some t->(∃d∈F,d.p=t.a)/\∃d∈F,d.p=t.b
 mo:∀e∈F,0<=e.z/\e.z<=m
 cl:∀s∈b8 w ks,∀e∈F,e.p=s.a->∀d∈F,d.p=s.b->d.z<=e.z+eF zs s.n
 op:∀s∈b8 w ks,∀e,qY F s e->m<=e.z+eF zs s.n
def tK(h:∀z∈zs,0<=z)(n:Nat):0<=eF zs n:=by
 unfold eF;cases e:zs[n]? with|none=>exact Int.le_refl _|some z=>exact h z (List.mem_of_getElem? e)
def qU.start(W:cJ w)(hz:∀z∈zs,0<=z):qU w ks zs [⟨w.fi,0,[]⟩] 0:=by
 have one:∀{e:iH},e∈[(⟨w.fi,0,[]⟩:iH)]->e=⟨w.fi,0,[]⟩:=λh=>by simpa using h
 refine⟨by simp,λe he=>?_,⟨_,List.mem_singleton.mpr rfl,rfl,rfl,rfl⟩,λe he=>?_,λe he n hn=>?_,λe he=>?_,λs hs e he ea d hd eb=>?_,λs hs e ⟨he,_⟩=>?_⟩
 .rw[one he];exact W.fi
 .rw[one he];exact⟨.nil,rfl,List.nodup_nil,by simp⟩
 .rw[one he]at hn;cases hn
 .rw[one he];exact⟨Int.le_refl _,Int.le_refl _⟩
 .rw[one he,one hd]
  have:=tK hz s.n;simp;exact this
 .rw[one he]
  have:=tK hz s.n;simp;exact this
def qU.step(W:cJ w)(hz:∀z∈zs,0<=z)(R:qU w ks zs F m)(h:xA (b8 w ks) zs F=some d):qU w ks zs (F++[d]) d.z/\∀e∈F,e.p≠d.p:=by
 obtain⟨j1,_,j3⟩:=(jr (zs:=zs) R.nd (b8 w ks) none).1 d h;rcases j1 with j1|⟨s,hs,e,hC,rfl⟩
 .cases j1
 obtain⟨hcm,hca,hcb⟩:=hC;obtain⟨t,ht1,ht2,ht3⟩:=jv.mp hs;have T:=W.ts t (List.mem_of_getElem? ht1);obtain⟨wa,wb,wc,wd⟩:=yr T ht3;have hm:m<=e.z+eF zs s.n:=R.op s hs e ⟨hcm,hca,hcb⟩;have hnn:=tK hz;have mem:∀{x:iH},x∈F++[(⟨s.b,e.z+eF zs s.n,e.y++[s.n]⟩:iH)]->x∈F∨x=⟨s.b,e.z+eF zs s.n,e.y++[s.n]⟩:=λhx=>by
  rcases List.mem_append.mp hx with hx|hx
  .exact .inl hx
  .exact .inr (by simpa using hx)
 have old:∀{x:iH},x∈F->x∈F++[(⟨s.b,e.z+eF zs s.n,e.y++[s.n]⟩:iH)]:=λhx=>List.mem_append_left _ hx;have new:(⟨s.b,e.z+eF zs s.n,e.y++[s.n]⟩:iH)∈F++[(⟨s.b,e.z+eF zs s.n,e.y++[s.n]⟩:iH)]:=List.mem_append_right _ (List.mem_singleton.mpr rfl);obtain⟨k1,k2,k3,k4⟩:=R.wy e hcm;refine⟨⟨?_,λx hx=>?_,?_,λx hx=>?_,λx hx n hn u hu=>?_,λx hx=>?_,λs' hs' x hx xa y hy yb=>?_,λs' hs' x ⟨hx,xa,xb⟩=>?_⟩,hcb⟩
 .rw[List.map_append]
  refine List.nodup_append.mpr ⟨R.nd,by simp,λa ha b hb=>?_⟩;obtain⟨x,hx,rfl⟩:=List.mem_map.mp ha;have:b=s.b:=by simpa using hb
  rw[this];exact hcb x hx
 .rcases mem hx with hx|rfl
  .exact R.pl x hx
  .exact wb
 .obtain⟨x,hx,h1⟩:=R.fi
  exact⟨x,old hx,h1⟩
 .rcases mem hx with hx|rfl
  .obtain⟨h1,h2,h3,h4⟩:=R.wy x hx
   exact⟨h1,h2,h3,by rw[List.length_append];omega⟩
  .refine⟨.snoc k1 ⟨t,ht1,ht2,by rw[hca];exact ht3⟩,by rw[Ai,k2],?_,by simp;omega⟩
   refine List.nodup_append.mpr ⟨k3,by simp,λa ha b hb=>?_⟩;have hbn:b=s.n:=by simpa using hb
   subst hbn;intro z;subst z;obtain⟨⟨d1,hd1,e1⟩,d2,hd2,e2⟩:=R.en e hcm _ ha t ht1;rcases wd with z|z
   .exact hcb d1 hd1 (by rw[e1,z])
   .exact hcb d2 hd2 (by rw[e2,z])
 .rcases mem hx with hx|rfl
  .obtain⟨⟨d1,hd1,e1⟩,d2,hd2,e2⟩:=R.en x hx n hn u hu
   exact⟨⟨d1,old hd1,e1⟩,d2,old hd2,e2⟩
  .rcases List.mem_append.mp hn with hn|hn
   .obtain⟨⟨d1,hd1,e1⟩,d2,hd2,e2⟩:=R.en e hcm n hn u hu
    exact⟨⟨d1,old hd1,e1⟩,d2,old hd2,e2⟩
   .have:n=s.n:=by simpa using hn
    subst this;rw[ht1]at hu;cases hu;have ne:=T.ne;unfold ways at ht3;have hab:(s.a=t.a/\s.b=t.b)∨(s.a=t.b/\s.b=t.a):=by
     split at ht3
     .have:(s.a,s.b)=(t.a,t.b):=by simpa using ht3
      injection this with z1 z2;exact .inl ⟨z1,z2⟩
     .rcases List.mem_cons.mp ht3 with z|z
      .injection z with z1 z2;exact .inl ⟨z1,z2⟩
      .have:(s.a,s.b)=(t.b,t.a):=by simpa using z
       injection this with z1 z2;exact .inr ⟨z1,z2⟩
    rcases hab with⟨z1,z2⟩|⟨z1,z2⟩
    .exact⟨⟨e,old hcm,by rw[hca,z1]⟩,_,new,z2⟩
    .exact⟨⟨_,new,z2⟩,e,old hcm,by rw[hca,z1]⟩
 .have he:=R.mo e hcm
  have:=hnn s.n;rcases mem hx with hx|rfl
  .have:=R.mo x hx
   exact⟨this.1,by show x.z<=e.z+eF zs s.n;omega⟩
  .exact⟨by show 0<=e.z+eF zs s.n;omega,Int.le_refl _⟩
 .have n':=hnn s'.n
  rcases mem hx with hx|rfl
  .rcases mem hy with hy|rfl
   .exact R.cl s' hs' x hx xa y hy yb
   .exact j3 s' hs' x ⟨hx,xa,λd hd=>by rw[←yb];exact hcb d hd⟩
  .rcases mem hy with hy|rfl
   .have:=(R.mo y hy).2
    show y.z<=e.z+eF zs s.n+eF zs s'.n;omega
   .show e.z+eF zs s.n<=e.z+eF zs s.n+eF zs s'.n
    omega
 .have n':=hnn s'.n
  rcases mem hx with hx|rfl
  .exact j3 s' hs' x ⟨hx,xa,λd hd=>xb d (old hd)⟩
  .show e.z+eF zs s.n<=e.z+eF zs s.n+eF zs s'.n
   omega
def yi(w:gQ)(ks:bi)(F:List iH):Prop:=∀s∈b8 w ks,∀e∈F,e.p=s.a->∃d∈F,d.p=s.b
def qU.len(W:cJ w)(R:qU w ks zs F m):F.length<=7:=by
 have:=Cod.nodup_le R.nd (λz hz=>by
  obtain⟨e,he,rfl⟩:=List.mem_map.mp hz;exact R.pl e he)
 rw[List.length_map]at this;have:=W.n7;omega
def qU.shut(R:qU w ks zs F m)(h:xA (b8 w ks) zs F=none):yi w ks F:=λs hs e he ea=>by
 have hn:=((jr (zs:=zs) R.nd (b8 w ks) none).2 h).2 s hs e;cases hg:get F s.b with|none=>exact absurd ⟨he,ea,ph.mp hg⟩ hn|some d=>exact⟨d,(cR hg).1,(cR hg).2⟩
abbrev rT:al:=aa (ae 5) (dC (.non)) cU
abbrev rB:am :=
 (av (rR 4 (au (ai (aa (ae 5) (dC (.int 1)) aM) (ai (aa (ae 5) (dC (.int 2)) aM) aF)) eQ) (aa (ae 5) (dC (.int 0)) aM))
 (av (uU 5 (au (ai (ae 3) (ai (ae 2) (ai (ae 4) aF))) m_nearest_step))
 aq))
section
variable {ρ:Ev}{i:Nat}{f k:al}{ks:List Str}{ds:ac}{d:D}
def xS:uW i f ρ=(f ρ).bind (Cu i ρ):=aG rfl
def uy:Cu i ρ (.dic ks ds)=.ok (.nx (ρ.set i (.ow (.dic ks ds)))):=aG rfl
def Gj(i:Nat)(f k:al)(ρ:Ev)(s:Option Sl):aj Fl:=match s with
 |some (.ow (.dic ks ds))=>(f ρ).bind λd=>(k ρ).bind (kz i ρ ks ds d)
 |_=>.stuck
def xR:rR i f k ρ=Gj i f k ρ ρ[i]?:=aG rfl
def Gi(i:Nat)(k:al)(ρ:Ev)(ks:List Str)(ds:ac)(d:D):aj Fl:=(k ρ).bind (kz i ρ ks ds d)
def ux:Gj i f k ρ (some (.ow (.dic ks ds)))=(f ρ).bind (Gi i k ρ ks ds):=aG rfl
def uw:Gi i k ρ ks ds d=(k ρ).bind (kz i ρ ks ds d):=aG rfl
def uv(h:decide (ks.length<=900)=true):kz i ρ ks ds d (.str x)=.ok (.nx (ρ.set i (.ow (u3 ks ds x d)))):=if_pos (Nat.lt_of_le_of_lt (of_decide_eq_true h) (by decide))
def Dj:uU i f ρ=(f (fX ρ)).bind (yy i ρ):=aG rfl
def zS(h1:nd d=true)(h2:rX ρ=true):yy i ρ d=.ok (.nx (ρ.set i (.sh d))):=if_pos ⟨h1,h2⟩
def Fz:zX a b ρ=aa a b Dv ρ:=aG rfl
def Dk:Dv (.str x) d=.ok (.dic [x] [d]):=aG rfl
end
theorem vo:∀(p:bi),nds (bR p)=true
 |[]=>rfl
 |n::p=>by
  show(nd (.int (n:Int))&&nds (bR p))=true;rw[vo p];rfl
def Ki(c:Option iH):nd (cD c)=true:=by
 cases c with
 |none=>rfl
 |some e=>
  show(nd (.str e.p)&&(nd (.int e.z)&&(nd (.lst (bR e.y))&&true)))=true;have:nd (.lst (bR e.y))=true:=by rw[nd];exact vo e.y
  rw[this];rfl
def EK(h:∀e∈F,e.p≠d.p):u3 (F.map (·.p)) (F.map ij) d.p (ij d)=fD (F++[d]):=by
 unfold u3 fD;rw[if_neg (λz=>by
  obtain⟨e,he,e1⟩:=List.mem_map.mp z;exact h e he e1),List.map_append,List.map_append]
 rfl
section
variable {w:gQ}(W:cJ w) {ks:bi}{zs:List Int}(hl:zs.length=w.ts.length) (hz:∀z∈zs,0<=z)
include W hl hz
theorem B5(R:qU w ks zs F m):m_nearest_step [.lst ((b8 w ks).map jI),.lst (zs.map D.int),fD F]=.ok (cD (xA (b8 w ks) zs F)) :=
 E9 (λe he=>by have:=(R.wy e he).2.2.2;have:=R.len W;omega) λs hs=>by
  obtain⟨t,ht,_⟩:=jv.mp hs;rw[hl];exact(List.getElem?_eq_some_iff.mp ht).1
end
open K11 (bR ways pr du)
def lB(w:gQ):Int:=FV (w.ts.map (·.l))
def lz(w:gQ):List Int:=w.ts.map λt=>t.l.1*(lB w / t.l.2)
def xi(xs:List fw):fF (xs.map some)=xs:=by
 unfold fF;rw[List.filterMap_map];simp
section
variable {w:gQ}(W:cJ w)
include W
theorem iA:0<lB w/\(lB w).natAbs<=2 ^ 2800/\∀t∈w.ts,t.l.2∣lB w:=by
 have h:=DK (xs:=w.ts.map (·.l)) (λx hx=>by
  obtain⟨t,ht,rfl⟩:=List.mem_map.mp hx;exact(W.ts t ht).l) 1 0 ⟨by decide,by decide⟩
 obtain⟨⟨h1,h2⟩,_,h3⟩:=h;refine⟨h1,?_,λt ht=>h3 _ (List.mem_map.mpr ⟨t,ht,rfl⟩)⟩;refine Nat.le_trans h2 (Nat.pow_le_pow_right (by decide) ?_);rw[List.length_map];have:=W.t14;omega
theorem Ie:(lz w).length=w.ts.length:=by unfold lz;rw[List.length_map]
theorem Gn:∀z∈lz w,0<=z:=λz hz=>by
 obtain⟨t,ht,rfl⟩:=List.mem_map.mp hz;have T:=W.ts t ht;have:=T.l.q1;exact Int.mul_nonneg T.l0 (Int.ediv_nonneg (by have:=(iA W).1;omega) (by omega))
theorem Ko(n:Nat):(eF (lz w) n).natAbs<2 ^ 3000:=by
 unfold eF lz;rw[List.getElem?_map];cases e:w.ts[n]? with
 |none=>show(0:Int).natAbs<_;exact Nat.pow_pos (by decide)
 |some t=>
  have T:=W.ts t (List.mem_of_getElem? e);show(t.l.1*(lB w / t.l.2)).natAbs<_;rw[Int.natAbs_mul,show(3000:Nat)=200+2800 from rfl,Nat.pow_add];have h1:t.l.1.natAbs<2 ^ 200:=Nat.lt_of_lt_of_le T.l.pN (by decide);have h2:(lB w / t.l.2).natAbs<=2 ^ 2800:=Nat.le_trans (Int.natAbs_ediv_le_natAbs _ _) (iA W).2.1;exact Nat.lt_of_lt_of_le (Nat.mul_lt_mul_of_lt_of_le h1 h2 (Nat.pow_pos (by decide))) (Nat.le_refl _)
theorem Ax:m_scaled_lengths [aR w]=.ok (.tup [.lst ((lz w).map D.int),.int (lB w)]):=by
 have t14:=W.t14;have hi:aM (aR w) (.int 1)=.ok (.lst (w.ts.map bK)):=rfl;have hc:∀A,i9 1 [] (bW 0) mYes (aa (ae 0) (dC (.int 3)) aM) A (w.ts.map bK)=.ok (.lst (((w.ts.map (·.l)).map some).map aV)):=λA=>by
  rw[K51.comp_pick bK (λt=>some (aV (some t.l))) (by omega)]
  .rw[List.map_map,List.map_map,←List.filterMap_eq_map];rfl
  .intro t ht
   have:aM (bK t) (.int 3)=.ok (aV (some t.l)):=rfl;refine⟨[.sh (bK t)],rfl,.inr ⟨_,rfl,rfl,?_⟩⟩;open_line with[this]
 have hs:=BQ (os:=(w.ts.map (·.l)).map some) (by rw[List.length_map,List.length_map];omega) (λx hx=>by
  obtain⟨y,hy,e⟩:=List.mem_map.mp hx;cases e;obtain⟨t,ht,rfl⟩:=List.mem_map.mp hy;exact(W.ts t ht).l)
 rw[xi]at hs;open_line with[m_scaled_lengths,gK,hi,hc,hs]
 show aj.ok (D.tup [.lst _,.int (lB w)])=_;unfold lz;rw[List.map_map,List.map_map,List.map_map];rfl
theorem D7(hp:p.length<=7):(gR (lz w) p).natAbs<2 ^ 3003:=by
 have key:∀(p:bi),(gR (lz w) p).natAbs<=p.length*2 ^ 3000:=by
  intro p
  induction p with
  |nil=>show(0:Int).natAbs<=_;simp
  |cons n p ih=>
   have:gR (lz w) (n::p)=eF (lz w) n+gR (lz w) p:=by unfold gR;rw[List.map_cons,List.sum_cons]
   rw[this,List.length_cons,Nat.add_mul,Nat.one_mul];have h1:=Int.natAbs_add_le (eF (lz w) n) (gR (lz w) p);have h2:=Ko W n;omega
 have h:=key p;have h8:p.length*2 ^ 3000<=7*2 ^ 3000:=Nat.mul_le_mul_right _ hp;have h9:7*2 ^ 3000<2 ^ 3003:=by
  rw[show(3003:Nat)=3+3000 from rfl,Nat.pow_add];exact Nat.mul_lt_mul_of_pos_right (by decide) (Nat.pow_pos (by decide))
 omega
end
open K11 (bR ways pr du)
def pf(w:gQ)(F:List iH)(p:Str):Option fw:=(get F p).map λe=>e9 e.z (lB w)
def D3(w:gQ)(F:List iH):D:=.dic w.ps (w.ps.map λp=>aV (pf w F p))
def fU(w:gQ)(F:List iH):D:=match get F w.la with
 |none=>.tup [.non,.non,D3 w F]
 |some e=>.tup [.lst (bR e.y),fr (e9 e.z (lB w)),D3 w F]
theorem uG{k:Str}:∀{ps:List Str},nj ps (ps.map g) k=if k∈ps then some (g k) else none
 |[]=>rfl
 |p::ps=>by
  rw[List.map_cons,nj]
  by_cases h:p=k
  .subst h;simp
  .rw[if_neg h,uG]
   have:k≠p:=λz=>h z.symm;simp[this]
def Cg(h:p∈w.ps):cc (D3 w F) (.str p)=.ok (aV (pf w F p)):=by
 show(match nj w.ps (w.ps.map λp=>aV (pf w F p)) p with|some d=>aj.ok d|none=>.stuck)=_;rw[uG,if_pos h]
def LY(k:Str):wF (.str k) (fD F)=.ok (.bl (get F k).isSome):=by
 show aj.ok (D.bl (nj (F.map (·.p)) (F.map ij) k).isSome)=_;rw[ki,Option.isSome_map]
def Fw(k:Str):eL (.str k) (fD F)=.ok (.bl (!(get F k).isSome)):=by
 show aj.ok (D.bl (!(nj (F.map (·.p)) (F.map ij) k).isSome))=_;rw[ki,Option.isSome_map]
def Gu{k:Str}(h:get F k=some e):cc (fD F) (.str k)=.ok (ij e):=by
 show(match nj (F.map (·.p)) (F.map ij) k with|some d=>aj.ok d|none=>.stuck)=_;rw[ki,h];rfl
abbrev pB:am :=
 (av (rR 4 (IF (aa (ae 5) (ae 3) wF) (au (ai (aa (aa (ae 3) (ae 5) cc) (dC (.int 0)) aM) (ai (aa (ae 2) (dC (.int 1)) aM) aF)) K17.m_ratio) (dC (.non))) (ae 5))
 aq)
section
variable {w:gQ}(W:cJ w) {ks:bi}{F:List iH}{m:Int}(R:qU w ks (lz w) F m)
include W R
theorem C3(he:e∈F):e.z.natAbs<2 ^ 3003:=by
 obtain⟨_,h2,_,h4⟩:=R.wy e he;have:=R.len W;rw[h2];exact D7 W (by omega)
theorem Cf(h:get F p=some e):K17.m_ratio [.int e.z,.int (lB w)]=.ok (fr (e9 e.z (lB w))):=by
 have b13:∀n,n<=6000->2 ^ n<=oa:=λn hn=>by rw[mM];exact Nat.pow_le_pow_right (by decide) (Nat.le_trans hn (by decide))
 obtain⟨h1,h2,_⟩:=iA W;refine kr h1 (Nat.lt_of_lt_of_le (C3 W R (cR h).1) (b13 3003 (by decide))) (Nat.lt_of_le_of_lt h2 (Nat.lt_of_lt_of_le (Nat.pow_lt_pow_right (by decide) (show 2800<2801 by decide)) (b13 2801 (by decide))))
theorem Ct{A:D}:∀(rest done:List Str) (x5:Sl),(done++rest).Nodup->(done++rest).length<=7->∃y5,b3 (bW 5) pB (rest.map D.str) [.sh (aR w),.sh A,.sh (.tup [.lst ((lz w).map D.int),.int (lB w)]),.sh (fD F),.ow (.dic done (done.map λp=>aV (pf w F p))),x5] =
  .ok (.nx [.sh (aR w),.sh A,.sh (.tup [.lst ((lz w).map D.int),.int (lB w)]),.sh (fD F),.ow (.dic (done++rest) ((done++rest).map λp=>aV (pf w F p))),y5])
 |[],done,x5,_,_=>⟨x5,by rw[List.append_nil];rfl⟩
 |p::rest,done,x5,nd,hl=>by
  have e0:done++p::rest=(done++[p])++rest:=by rw[List.append_assoc];rfl
  rw[e0]at nd hl ⊢;obtain⟨y5,e⟩:=Ct (A:=A) rest (done++[p]) (.sh (.str p)) nd hl;refine⟨y5,?_⟩;have hp:p∉done:=λz=>by
   have:=(List.nodup_append.mp nd).1;have:=(List.nodup_append.mp this).2.2 p z p (List.mem_singleton.mpr rfl);exact this rfl
  rw[List.map_cons,dN (ρ1:=[.sh (aR w),.sh A,.sh (.tup [.lst ((lz w).map D.int),.int (lB w)]),.sh (fD F),.ow (.dic done (done.map λp=>aV (pf w F p))),.sh (.str p)]) (ρ2:=[.sh (aR w),.sh A,.sh (.tup [.lst ((lz w).map D.int),.int (lB w)]),.sh (fD F),.ow (.dic (done++[p]) ((done++[p]).map λp=>aV (pf w F p))),.sh (.str p)]) rfl,e];have h9:decide (done.length<=900)=true:=decide_eq_true (by rw[List.length_append,List.length_append]at hl;omega);have hput:∀d,u3 done (done.map λp=>aV (pf w F p)) p d=.dic (done++[p]) ((done.map λp=>aV (pf w F p))++[d]):=λd=>by unfold u3;rw[if_neg hp]
  have hin:=LY (F:=F) p;have hw0:aV none=.non:=rfl;have hw1:∀x,aV (some x)=fr x:=λ_=>rfl;have hv:(done++[p]).map (λp=>aV (pf w F p))=(done.map λp=>aV (pf w F p))++[aV (pf w F p)]:=by rw[List.map_append];rfl
  rw[hv];cases hg:get F p with
  |none=>
   rw[hg]at hin;simp only[Option.isSome_none]at hin;have hpf:pf w F p=none:=by unfold pf;rw[hg];rfl
   rw[hpf];open_line with[xR,ux,uw,uv h9,hin,hput,hw0]
  |some e'=>
   rw[hg]at hin;simp only[Option.isSome_some]at hin;have hpf:pf w F p=some (e9 e'.z (lB w)):=by unfold pf;rw[hg];rfl
   rw[hpf];have h4:aM (ij e') (.int 0)=.ok (.int e'.z):=rfl;open_line with[xR,ux,uw,uv h9,hin,hput,Gu hg,h4,Cf W R hg,hw1]
end
open K11 (bR ways pr du)
open K51 (Bd pl)
def val(x:fw):Rat:=(x.1:Rat) / (x.2:Rat)
def cE{a:Int}(h:0<a):(0:Rat)<(a:Rat):=by
 have:=Rat.intCast_lt_intCast.mpr h;simpa using this
def Dt{a b c d:Rat}(hb:0<b)(hd:0<d):a / b<c / d↔a*d<c*b:=by
 have h1:a / b<c / d↔(a / b)*(b*d)<(c / d)*(b*d):=(Rat.mul_lt_mul_right (Rat.mul_pos hb hd)).symm;rw[h1];have e1:a / b*(b*d)=a*d:=by grind
 have e2:c / d*(b*d)=c*b:=by grind
 rw[e1,e2]
def Fv(hx:0<x.2)(hy:0<y.2):flt x y=decide (val x<val y):=by
 unfold flt val
 congr 1
 rw[Dt (cE hx) (cE hy),←Rat.intCast_mul,←Rat.intCast_mul,Rat.intCast_lt_intCast]
def yu(hb:0<b):val (e9 a b)=(a:Rat) / (b:Rat):=by
 have h:=Fh (a:=a) (b:=b);have hq:0<(e9 a b).2:=by have:=(ig (a:=a) hb).q1;omega
 unfold val;have p1:=cE hq;have p2:=cE hb;have e:((e9 a b).1:Rat)*(b:Rat)=(a:Rat)*((e9 a b).2:Rat):=by rw[←Rat.intCast_mul,←Rat.intCast_mul,h]
 grind
def BB(hx:0<x.2)(hy:0<y.2):val (pl x y)=val x+val y:=by
 have:pl x y=e9 (x.1*y.2+y.1*x.2) (x.2*y.2):=rfl;rw[this,yu (Int.mul_pos hx hy)];unfold val;have p1:=cE hx;have p2:=cE hy;rw[Rat.intCast_add,Rat.intCast_mul,Rat.intCast_mul,Rat.intCast_mul]
 grind
structure GU (x:fw):Prop where
 lo:Low x
 p0:0<=x.1
 b:Bd x 3010
def GU.q(h:GU x):0<x.2:=h.b.q0
def C0(h:gp x):Bd x 200:=⟨by have:=h.q1;omega,Nat.lt_of_lt_of_le h.pN (by decide),Nat.lt_of_lt_of_le h.qN (by decide)⟩
def qD(w:gQ)(q:Str->Option fw):D:=.dic w.ps (w.ps.map λp=>aV (q p))
def yE{q:Str->Option fw}(h:p∈w.ps):cc (qD w q) (.str p)=.ok (aV (q p)):=by
 show(match nj w.ps (w.ps.map λp=>aV (q p)) p with|some d=>aj.ok d|none=>.stuck)=_;rw[uG,if_pos h]
def Md(w:gQ)(q:Str->Option fw)(s:yh):Prop:=∀x,q s.a=some x->∀t,w.ts[s.n]?=some t->∃y,q s.b=some y/\val y<=val x+val t.l
open K11 (bR ways pr du)
open K51 (Bd pl)
def o7(w:gQ)(p:bi):Rat:=(p.map λn=>val (K12.lenAt w n)).sum
def AU:o7 w (p++[n])=o7 w p+val (K12.lenAt w n):=by
 unfold o7;rw[List.map_append,List.sum_append];simp[Rat.add_zero]
def km(g:ye w ks a p b):∀n∈p,n<w.ts.length/\n∉ks:=by
 induction g with
 |nil=>intro n hn;cases hn
 |@snoc p b c n _ g ih=>
  intro m hm;rcases List.mem_append.mp hm with hm|hm
  .exact ih m hm
  .have:m=n:=by simpa using hm
   subst this;obtain⟨t,h1,h2,_⟩:=g;exact⟨(List.getElem?_eq_some_iff.mp h1).1,h2⟩
section
variable {w:gQ}(W:cJ w)
include W
theorem yp(hn:n<w.ts.length):val (K12.lenAt w n)=(eF (lz w) n:Rat) / (lB w:Rat):=by
 have ht:=List.getElem?_eq_getElem hn;have T:=W.ts w.ts[n] (List.getElem_mem hn);rw[K12.lenAt_of ht];have hz:eF (lz w) n=w.ts[n].l.1*(lB w / w.ts[n].l.2):=by
  unfold eF lz;rw[List.getElem?_map,ht];rfl
 obtain⟨h1,_,h3⟩:=iA W;have hq:=T.l.q1;have hd:=Int.ediv_mul_cancel (h3 _ (List.getElem_mem hn));have e:eF (lz w) n*w.ts[n].l.2=w.ts[n].l.1*lB w:=by rw[hz,Int.mul_assoc,hd]
 have p1:=cE h1;have p2:=cE (show 0<w.ts[n].l.2 by omega);have e':(eF (lz w) n:Rat)*(w.ts[n].l.2:Rat)=(w.ts[n].l.1:Rat)*(lB w:Rat):=by rw[←Rat.intCast_mul,←Rat.intCast_mul,e]
 unfold val
 grind
theorem uM:∀{p:bi},(∀n∈p,n<w.ts.length)->(gR (lz w) p:Rat) / (lB w:Rat)=o7 w p
 |[],_=>by
  show((0:Int):Rat) / _=0;have p1:=cE (iA W).1;rw[show((0:Int):Rat)=0 from rfl]
  grind
 |n::p,h=>by
  have ih:=uM (p:=p) λm hm=>h m (List.mem_cons_of_mem _ hm);have h1:=yp W (h n List.mem_cons_self);have e1:gR (lz w) (n::p)=eF (lz w) n+gR (lz w) p:=by unfold gR;rw[List.map_cons,List.sum_cons]
  have e2:o7 w (n::p)=val (K12.lenAt w n)+o7 w p:=by unfold o7;rw[List.map_cons,List.sum_cons]
  have p1:=cE (iA W).1;rw[e1,e2,h1,←ih,Rat.intCast_add]
  grind
variable {ks:bi}{F:List iH}{m:Int}(R:qU w ks (lz w) F m)
include R
theorem Fy(he:e∈F):GU (e9 e.z (lB w)):=by
 obtain⟨h1,h2,_⟩:=iA W;refine⟨ig h1,jZ (R.mo e he).1 h1,K51.low_bd h1 (K51.p2_lt (C3 W R he) (by decide)) (K51.p2_lt (n:=3010) (m:=2801) ?_ (by decide))⟩;exact Nat.lt_of_le_of_lt h2 (Nat.pow_lt_pow_right (by decide) (by decide))
theorem ur(he:e∈F):val (e9 e.z (lB w))=(e.z:Rat) / (lB w:Rat)/\val (e9 e.z (lB w))=o7 w e.y:=by
 have h:=yu (a:=e.z) (iA W).1;obtain⟨h1,h2,_⟩:=R.wy e he;refine⟨h,?_⟩;rw[h,h2];exact uM W λn hn=>(km h1 n hn).1
theorem HM:∀p∈w.ps,∀x,pf w F p=some x->GU x:=λp _ x h=>by
 unfold pf at h;cases e:get F p with|none=>rw[e]at h;cases h|some d=>rw[e]at h;cases h;exact Fy W R (cR e).1
theorem J2:pf w F w.fi=some (0,1):=by
 obtain⟨e,he,h1,h2,_⟩:=R.fi;have:=xM R.nd he;rw[h1]at this;unfold pf;rw[this];show some (e9 e.z (lB w))=_;rw[h2];have hB:=(iA W).1;unfold e9;rw[show Int.gcd 0 (lB w)=(lB w).natAbs from Int.gcd_zero_left _];have:((lB w).natAbs:Int)=lB w:=by omega
 rw[this,Int.ediv_self (by omega)];simp
theorem HN(S:yi w ks F)(hs:s∈b8 w ks):Md w (pf w F) s:=λx hx t ht=>by
 unfold pf at hx;cases ea:get F s.a with
 |none=>rw[ea]at hx;cases hx
 |some e=>
  rw[ea]at hx;cases hx;obtain⟨he,hea⟩:=cR ea;obtain⟨d,hd,hdb⟩:=S s hs e he hea;have hg:=xM R.nd hd;rw[hdb]at hg;refine⟨e9 d.z (lB w),by unfold pf;rw[hg];rfl,?_⟩;have hcl:=R.cl s hs e he hea d hd hdb;have hn:=(List.getElem?_eq_some_iff.mp ht).1;have hl:=yp W hn;rw[K12.lenAt_of ht]at hl;have p1:=cE (iA W).1;show val (e9 d.z (lB w))<=val (e9 e.z (lB w))+val t.l;rw[(ur W R hd).1,(ur W R he).1,hl];have hc:(d.z:Rat)<=(e.z:Rat)+(eF (lz w) s.n:Rat):=by
   rw[←Rat.intCast_add];exact Rat.intCast_le_intCast.mpr hcl
  refine Rat.not_lt.mp λz=>?_;have z':((e.z:Rat)+(eF (lz w) s.n:Rat)) / (lB w:Rat)<(d.z:Rat) / (lB w:Rat):=by
   have:((e.z:Rat)+(eF (lz w) s.n:Rat)) / (lB w:Rat)=(e.z:Rat) / (lB w:Rat)+(eF (lz w) s.n:Rat) / (lB w:Rat):=by grind
   rw[this];exact z
  rw[Dt p1 p1]at z';have:=(Rat.mul_lt_mul_right p1).mp z';exact absurd this (Rat.not_lt.mpr hc)
end
end Pth
namespace Vlu
open PySem L2 DL Com Bor Pth
open K11 (bR ways pr du)
open K51 (Bd pl)
abbrev m_ratio:ac->aj D:=Com.m_ratio
noncomputable def z8:am :=
 (av (bz (au (ai (aa (aa (aa (ae 0) (dC (.int 0)) aM) (aa (ae 1) (dC (.int 1)) aM) bJ) (aa (aa (ae 1) (dC (.int 0)) aM) (aa (ae 0) (dC (.int 1)) aM) bJ) rD) (ai (aa (aa (ae 0) (dC (.int 1)) aM) (aa (ae 1) (dC (.int 1)) aM) bJ) aF)) m_ratio))
 aq)
def m_minus:ac->aj D:=b9 2 z8
theorem GQ:∀{xs:List fw},(∀x∈xs,1<=x.2/\x.2<=60)->∀b:Int,0<b->0<xs.foldl eW b/\xs.foldl eW b<=b*60 ^ xs.length
 |[],_,b,hb=>⟨hb,by simp⟩
 |x::xs,hx,b,hb=>by
  obtain⟨q1,q2⟩:=hx x List.mem_cons_self;have hg:0<(Int.gcd b x.2:Int):=pq (by omega);have hd:(Int.gcd b x.2:Int)∣b:=Int.gcd_dvd_left ..;have hq:0<b / (Int.gcd b x.2:Int):=Int.ediv_pos_of_pos_of_dvd hb (by omega) hd;have hle:b / (Int.gcd b x.2:Int)<=b:=Int.ediv_le_self _ (by omega);have h1:0<eW b x:=Int.mul_pos hq (by omega);have h2:eW b x<=b*60:=Int.mul_le_mul hle q2 (by omega) (by omega);obtain⟨k1,k2⟩:=GQ (λy hy=>hx y (List.mem_cons_of_mem _ hy)) (eW b x) h1;refine⟨k1,Int.le_trans k2 ?_⟩;rw[List.length_cons,Int.pow_succ,Int.mul_comm ((60:Int) ^ xs.length) 60,←Int.mul_assoc];exact Int.mul_le_mul_of_nonneg_right h2 (Int.le_of_lt (Int.pow_pos (by decide)))
section
variable {w:gQ}(W:cJ w) (hw:∀t∈w.ts,mK t)
include W hw
theorem Ks:0<lB w/\lB w<=60 ^ 14:=by
 obtain⟨h1,h2⟩:=GQ (xs:=w.ts.map (·.l)) (λx hx=>by
  obtain⟨t,ht,rfl⟩:=List.mem_map.mp hx;exact⟨(W.ts t ht).l.q1,(hw t ht).1.q1⟩) 1 (by decide)
 refine⟨h1,Int.le_trans h2 ?_⟩;rw[List.length_map,Int.one_mul];have:=W.t14
 exact_mod_cast Nat.pow_le_pow_right (n:=60) (by decide) this
theorem LO(n:Nat):0<=eF (lz w) n/\eF (lz w) n<=1000000000000*60 ^ 14:=by
 refine⟨tK (Gn W) n,?_⟩;unfold eF lz;rw[List.getElem?_map];cases e:w.ts[n]? with
 |none=>show(0:Int)<=_;decide
 |some t=>
  have T:=W.ts t (List.mem_of_getElem? e);have A:=(hw t (List.mem_of_getElem? e)).1;have hB:=Ks W hw;show t.l.1*(lB w / t.l.2)<=_;have h2:lB w / t.l.2<=60 ^ 14:=Int.le_trans (Int.ediv_le_self _ (by omega)) hB.2;exact Int.mul_le_mul A.p1 h2 (Int.ediv_nonneg (by omega) (by have:=T.l.q1;omega)) (by decide)
theorem Bu:∀(p:bi),0<=gR (lz w) p/\gR (lz w) p<=p.length*(1000000000000*60 ^ 14)
 |[]=>⟨Int.le_refl _,by show(0:Int)<=_;simp⟩
 |n::p=>by
  have e:gR (lz w) (n::p)=eF (lz w) n+gR (lz w) p:=by unfold gR;rw[List.map_cons,List.sum_cons]
  have h1:=LO W hw n;have h2:=Bu p;rw[e,List.length_cons];refine⟨by omega,?_⟩
  push_cast
  rw[Int.add_mul,Int.one_mul];omega
variable {ks:bi}{F:List iH}{m:Int}(R:qU w ks (lz w) F m)
include R
theorem Gv(he:e∈F):e.z.natAbs<2 ^ 130/\(lB w).natAbs<2 ^ 130:=by
 obtain⟨_,h2,_,h4⟩:=R.wy e he;have hl:=R.len W;have hB:=Ks W hw;obtain⟨z0,z1⟩:=Bu W hw e.y;rw[←h2]at z0 z1;have h7:(e.y.length:Int)*(1000000000000*60 ^ 14)<=7*(1000000000000*60 ^ 14):=Int.mul_le_mul_of_nonneg_right (by omega) (by decide);have c1:(7:Int)*(1000000000000*60 ^ 14)<2 ^ 130:=by decide
 have c2:(60:Int) ^ 14<2 ^ 130:=by decide
 constructor
 .have:e.z<2 ^ 130:=by omega
  omega
 .have:lB w<2 ^ 130:=by omega
  omega
theorem ent_small(he:e∈F):Bd (e9 e.z (lB w)) 130 :=
 K51.low_bd (iA W).1 (Gv W hw R he).1 (Gv W hw R he).2
end
def mi(x y:fw):fw:=e9 (x.1*y.2-y.1*x.2) (x.2*y.2)
def CG(hx:Bd x m)(hy:Bd y n)(h:m+n<=5900):m_minus [fr x,fr y]=.ok (fr (mi x y)):=by
 have b1:=hx.c60 (by omega);have b2:=hy.c60 (by omega);have hy':Bd (-y.1,y.2) n:=⟨hy.q0,by show(-y.1).natAbs<_;rw[Int.natAbs_neg];exact hy.a,hy.b⟩
 have hp:=K51.un_bd hx hy';have hc:=hp.c13 (by omega);have m1:=bO (cF b1.1 b2.2);have m2:=bO (cF b2.1 b1.2);have m3:=bO (cF b1.2 b2.2);have e:x.1*y.2 + -y.1*x.2=x.1*y.2-y.1*x.2:=by rw[Int.neg_mul];omega
 have hlo:m_ratio [.int (x.1*y.2-y.1*x.2),.int (x.2*y.2)]=.ok (fr (mi x y)):=by
  have h1:=hc.1;have h2:=hc.2;unfold un at h1 h2;simp only[e]at h1;exact kr hp.q0 h1 h2
 have i0:∀z:fw,aM (fr z) (.int 0)=.ok (.int z.1):=λ_=>rfl;have i1:∀z:fw,aM (fr z) (.int 1)=.ok (.int z.2):=λ_=>rfl;open_line with[m_minus,z8,i0,i1,m1,m2,m3,rD,hlo]
end Vlu
namespace K21
open PySem L2 DL
abbrev m_ratio:ac->aj D:=Com.m_ratio
abbrev m_minus:ac->aj D:=Vlu.m_minus
abbrev m_is_less:ac->aj D:=Com.m_is_less
end K21
namespace K14
open PySem L2 DL
abbrev bY:ac->aj D:=Bor.bY
abbrev m_is_name:ac->aj D:=Com.m_is_name
abbrev m_look_at_places:ac->aj D:=Com.m_look_at_places
abbrev m_is_whole:ac->aj D:=Com.m_is_whole
abbrev m_common_divisor:ac->aj D:=Com.m_common_divisor
abbrev m_is_ratio:ac->aj D:=Com.m_is_ratio
abbrev m_is_length:ac->aj D:=Com.m_is_length
abbrev m_is_worth:ac->aj D:=Com.m_is_worth
abbrev m_is_tie:ac->aj D:=Com.m_is_tie
abbrev m_look_at_ties:ac->aj D:=Com.m_look_at_ties
abbrev m_is_place:ac->aj D:=Com.m_is_place
abbrev m_look_at_web:ac->aj D:=Com.m_look_at_web
abbrev m_is_tie_number:ac->aj D:=Com.m_is_tie_number
abbrev m_look_at_taking:ac->aj D:=Com.m_look_at_taking
abbrev m_shared_bottom:ac->aj D:=Com.m_shared_bottom
abbrev m_as_whole:ac->aj D:=Com.m_as_whole
abbrev m_on_one_scale:ac->aj D:=Com.m_on_one_scale
abbrev m_scaled_lengths:ac->aj D:=K17.m_scaled_lengths
abbrev m_steps_along:ac->aj D:=K11.m_steps_along
abbrev m_steps_left:ac->aj D:=K51.m_steps_left
abbrev m_nearest_step:ac->aj D:=K17.m_nearest_step
abbrev m_all_reached:ac->aj D:=K17.m_all_reached
abbrev m_ratio:ac->aj D:=Com.m_ratio
abbrev m_shortest:ac->aj D:=K17.m_shortest
abbrev m_least_way:ac->aj D:=K17.m_least_way
abbrev br:ac->aj D:=Cod.br
abbrev bM:ac->aj D:=K51.bM
abbrev bw:ac->aj D:=K11.bw
abbrev c8:ac->aj D:=K51.c8
abbrev bS:ac->aj D:=K12.bS
noncomputable def jg:am :=
 (av (dw (aa (aa (ae 0) (ae 1) cc) (dC (.non)) eV)
 (av (bz (dC (.bl true)))
 aq)
 aq)
 (av (bz (eg (aa (aa (ae 0) (ae 2) cc) (dC (.non)) cU) (cb (au (ai (au (ai (aa (ae 0) (ae 1) cc) (ai (ae 3) aF)) bS) (ai (aa (ae 0) (ae 2) cc) aF)) c8))))
 aq))
def dX:ac->aj D:=b9 4 jg
noncomputable def jT:am :=
 (av (dw (gh (cb (b7 (ae 2) (c4 "dict"))) (aa (au (ai (ae 2) aF) (m1 zW)) (au (ai (aa (ae 0) (dC (.int 0)) aM) aF) (m1 dm)) iG))
 (av (bz (dC (.bl false)))
 aq)
 aq)
 (av (nv (aa (ae 0) (dC (.int 0)) aM) (bW 3)
 (av (dw (gh (aa (ae 3) (ae 2) eL) (eg (aa (aa (ae 2) (ae 3) cc) (dC (.non)) cU) (cb (au (ai (aa (ae 2) (ae 3) cc) aF) bM))))
 (av (bz (dC (.bl false)))
 aq)
 aq)
 aq))
 (av (dw (gh (aa (aa (ae 2) (aa (ae 0) (dC (.int 2)) aM) cc) (dC (.non)) eV) (aa (aa (aa (ae 2) (aa (ae 0) (dC (.int 2)) aM) cc) (dC (.int 0)) aM) (dC (.int 0)) iG))
 (av (bz (dC (.bl false)))
 aq)
 aq)
 (av (rS (au (ai (aa (ae 0) (dC (.int 1)) aM) aF) (m1 dm)) (bW 4)
 (av (iL (Aq (Ba (aa (aa (ae 0) (dC (.int 1)) aM) (ae 4) aM) fu (eP (dC (.int 2))))) (bW 5)
 (av (bE 6 (au (ai (aa (aa (ae 0) (dC (.int 1)) aM) (ae 4) aM) (ai (ae 5) aF)) bw))
 (av (dw (eg (aa (ae 4) (ae 1) cO) (aa (ae 6) (dC (.non)) cU))
 (av (dw (cb (au (ai (ae 2) (ai (ae 5) (ai (ae 6) (ai (aa (aa (aa (ae 0) (dC (.int 1)) aM) (ae 4) aM) (dC (.int 3)) aM) aF)))) dX))
 (av (bz (dC (.bl false)))
 aq)
 aq)
 aq)
 aq)
 aq)))
 aq))
 (av (bz (dC (.bl true)))
 aq)))))
def dz:ac->aj D:=b9 7 jT
abbrev aP:ac->aj D:=K11.aP
abbrev cj:ac->aj D:=K11.cj
noncomputable def ir:am :=
 (av (dw (gh (cb (b7 (ae 2) (c4 "tuple"))) (gh (aa (au (ai (ae 2) aF) (m1 dm)) (dC (.int 3)) iG) (cb (au (ai (ae 0) (ai (ae 1) (ai (aa (ae 2) (dC (.int 2)) aM) aF))) dz))))
 (av (bz (dC (.bl false)))
 aq)
 aq)
 (av (Hu [3,4,5] (ae 2))
 (av (dw (gh (aa (ae 3) (dC (.non)) eV) (aa (ae 4) (dC (.non)) eV))
 (av (bz (eg (aa (ae 3) (dC (.non)) eV) (eg (aa (ae 4) (dC (.non)) eV) (aa (aa (ae 5) (aa (ae 0) (dC (.int 3)) aM) cc) (dC (.non)) eV))))
 aq)
 aq)
 (av (dw (gh (aa (aa (au (ai (ae 0) (ai (ae 1) (ai (ae 3) aF))) cj) (dC (.int 0)) aM) (dC (.str "way")) iG) (cb (b7 (ae 4) (c4 "tuple"))))
 (av (bz (dC (.bl false)))
 aq)
 aq)
 (av (bE 6 (au (ai (dC (.int 0)) (ai (dC (.int 1)) aF)) eQ))
 (av (nv (ae 3) (bW 7)
 (av (bE 6 (au (ai (ae 6) (ai (aa (aa (aa (ae 0) (dC (.int 1)) aM) (ae 7) aM) (dC (.int 3)) aM) aF)) bS))
 aq))
 (av (bz (eg (aa (ae 4) (ae 6) kc) (aa (aa (ae 5) (aa (ae 0) (dC (.int 3)) aM) cc) (ae 6) kc)))
 aq)))))))
def ck:ac->aj D:=b9 8 ir
abbrev aL:Addr->ac->ac->aj (D×ac):=Bor.aL
abbrev dg:Addr->ac->ac->aj (D×ac):=Bor.dg
abbrev cx:Addr->ac->ac->aj (D×ac):=Bor.cx
abbrev dQ:Addr->ac->ac->aj (D×ac):=Bor.dQ
abbrev c7:Addr->ac->ac->aj (D×ac):=Bor.c7
abbrev cw:Addr->ac->ac->aj (D×ac):=Bor.cw
noncomputable def GR:am :=
 (av (rS (au (ai (dC (.int 1)) (ai (au (ai (au (ai (ae 0) aF) (m1 dm)) (ai (dC (.int 8)) aF)) (m2 FN)) aF)) (m2 IE)) (bW 1)
 (jX 2 (au (ai (ae 0) (ai (ae 1) aF)) bY) λa=>(bx (d8 3 (bT 2 a (bp (mP (dC (.int 7))) (bp (mP (dC (.int 14))) cH)) c7))
 (bx (d8 4 (bT 2 a (bp (mP (ae 3)) (bp (mB (mP (dC (.int 2))) (bT 2 a (bp (mP (dC (.int 6))) cH) aL) cn) cH)) cw))
 (bx (dA (bE 5 (au (ai (au (ai (ae 3) (ai (ae 4) aF)) eR) aF) (m1 ef))))
 (oZ 6 [3,4] (au (ai (ae 3) (ai (ae 4) aF)) m_least_way)
 (tIf 6 (cb (au (ai (ae 3) (ai (ae 4) (ai (ae 6) aF))) ck))
 (bx (gE (dC (.bl false)))
 bZ)
 (oq 6 7 (au (ai (ae 6) aF) (m1 ef))
 (Ap 6 (aa (aa (ae 6) (dC (.int 0)) aM) (dC (.non)) cU)
 (Ao (aa (ae 3) (dC (.int 2)) aM)
 (bx (CJ (mT (gh (aa (au (ai (au (ai (ae 3) (ai (ae 4) aF)) m_least_way) aF) (m1 ef)) (ae 7) iG) (aa (au (ai (au (ai (ae 3) (ai (ae 4) aF)) eR) aF) (m1 ef)) (ae 5) iG)))
 (bx (gE (dC (.bl false)))
 bZ)
 bZ)
 bZ)))))))))))
 (av (bz (dC (.bl true)))
 aq))
noncomputable def m_law:ac->aj D:=b9 8 GR
def top(i:Nat):Stmt:=PySem.Challenge.pw_farthestcut_k14_least_ways_told.main.body.getD i (.Pass ⟨0,0,0,0⟩)
noncomputable def rows:List Rw:=[
 ⟨"_law_begun",top 54,["_law_script","_law_k","_law_cell"],2⟩,
 ⟨"is_name",top 12,["thing"],1⟩,
 ⟨"look_at_places",top 34,["places","number","place"],1⟩,
 ⟨"is_whole",top 10,["thing"],1⟩,
 ⟨"common_divisor",top 1,["one","other","larger","smaller","rest"],2⟩,
 ⟨"is_ratio",top 11,["thing"],1⟩,
 ⟨"is_length",top 30,["thing"],1⟩,
 ⟨"is_worth",top 31,["thing"],1⟩,
 ⟨"is_tie",top 29,["thing"],1⟩,
 ⟨"look_at_ties",top 35,["ties","places","number","tie"],2⟩,
 ⟨"is_place",top 36,["thing","places"],2⟩,
 ⟨"look_at_web",top 33,["thing"],1⟩,
 ⟨"is_tie_number",top 32,["web","thing"],2⟩,
 ⟨"look_at_taking",top 50,["web","thing","ahead","number"],2⟩,
 ⟨"shared_bottom",top 42,["some","bottom","one"],1⟩,
 ⟨"as_whole",top 43,["one","bottom"],2⟩,
 ⟨"on_one_scale",top 41,["some","bottom"],1⟩,
 ⟨"scaled_lengths",top 46,["web"],1⟩,
 ⟨"steps_along",top 38,["tie","there"],1⟩,
 ⟨"steps_left",top 39,["web","taken","steps","number","tie","here","there"],2⟩,
 ⟨"nearest_step",top 48,["steps","sizes","found","nearest","number","here","there","size"],3⟩,
 ⟨"all_reached",top 47,["web","taken","sizes","steps","found","nearest"],3⟩,
 ⟨"ratio",top 14,["top","bottom","divisor"],2⟩,
 ⟨"shortest",top 45,["web","taken","scaled","found","prices","place"],2⟩,
 ⟨"least_way",top 52,["web","taking"],2⟩,
 ⟨"_law_low",top 56,["_law_top","_law_bottom","_law_one","_law_other"],2⟩,
 ⟨"_law_is_length",top 67,["_law_thing","_law_one"],1⟩,
 ⟨"_law_there",top 64,["_law_tie_here","_law_here"],2⟩,
 ⟨"_law_less",top 63,["_law_one","_law_other"],2⟩,
 ⟨"_law_plus",top 62,["_law_one","_law_other"],2⟩,
 ⟨"_law_kept",top 68,["_law_thing","_law_here","_law_there_here","_law_length"],4⟩,
 ⟨"_law_let_by",top 69,["_law_web_here","_law_gone","_law_thing","_law_name","_law_k","_law_here","_law_there_here"],3⟩,
 ⟨"_law_is_number",top 65,["_law_web_here","_law_one"],2⟩,
 ⟨"_law_wrong",top 66,["_law_web_here","_law_gone","_law_thing","_law_here","_law_seen","_law_k","_law_one","_law_there_here"],3⟩,
 ⟨"_law_right",top 70,["_law_web_here","_law_gone","_law_told","_law_way","_law_length","_law_some","_law_total","_law_number"],3⟩,
 ⟨"_law_take",top 55,["_law_state","_law_many","_law_digit","_law_made","_law_turn"],2⟩,
 ⟨"_law_names",top 58,["_law_state","_law_many","_law_letters","_law_long","_law_at","_law_turn","_law_step","_law_nested","_law_found","_law_k","_law_one"],2⟩,
 ⟨"_law_amount",top 57,["_law_state","_law_least","_law_way","_law_top","_law_many","_law_bottoms"],2⟩,
 ⟨"_law_tie",top 59,["_law_state","_law_names_here","_law_k","_law_many","_law_one","_law_other","_law_word","_law_length","_law_worth"],3⟩,
 ⟨"_law_web",top 60,["_law_state","_law_most","_law_more","_law_names_here","_law_many","_law_ties","_law_k","_law_first","_law_last"],3⟩,
 ⟨"_law_taking",top 61,["_law_state","_law_web_here","_law_rare","_law_found","_law_k"],3⟩,
 ⟨"law",top 71,["_law_script","_law_k","_law_state","_law_web_here","_law_gone","_law_kept_here","_law_told","_law_held"],1⟩]
def sc:L8 rows:=by decide +kernel
theorem nd(i:Nat)(h:rows[i]?=some r:=by rfl):r.N.Nodup:=(sc r (List.mem_of_getElem? h)).nd
def bn:∀r∈rows,Js r:=by
 unfold rows
 repeat refine List.forall_mem_cons.mpr ⟨by first|exact Na|exact M9|exact M8|exact M7|exact bd5,?_⟩
 exact λ_ h=>nomatch h
set_option genInjectivity false in
set_option genSizeOfSpec false in
structure Adr where
 A:Nat->Addr
 Q:Nat->FuncData
set_option genInjectivity false in
set_option genSizeOfSpec false in
structure Txt (K:W.Frag) (mg:Str->Option Value) (t:Adr):Prop where
 g:TG rows K mg t.A t.Q
 n_abs:mg "abs"=none
 n_all:mg "all"=none
 n_bool:mg "bool"=none
 n_dict:mg "dict"=none
 n_enumerate:mg "enumerate"=none
 n_int:mg "int"=none
 n_isinstance:mg "isinstance"=none
 n_len:mg "len"=none
 n_list:mg "list"=none
 n_max:mg "max"=none
 n_min:mg "min"=none
 n_range:mg "range"=none
 n_repr:mg "repr"=none
 n_str:mg "str"=none
 n_tuple:mg "tuple"=none
 fj:uK K mg "FEWEST_PLACES" (.int 2)
 lY:uK K mg "FIRST" (.int 2)
 kg:uK K mg "LAST" (.int 3)
 lX:uK K mg "LENGTH" (.int 3)
 mJ:uK K mg "LETTERS" (.str "abcdefghijklmnopqrstuvwxyz")
 fS:uK K mg "LONGEST_NAME" (.int 8)
 gs:uK K mg "MOST_PLACES" (.int 7)
 jb:uK K mg "MOST_TIES" (.int 14)
 qI:uK K mg "ONE" (.int 0)
 ip:uK K mg "OTHER" (.int 1)
 fR:uK K mg "PLACES" (.int 0)
 ke:uK K mg "TIES" (.int 1)
 qH:uK K mg "WORD" (.int 2)
 uE:uK K mg "WORDS" (.tup [(.str "one"),(.str "both")])
 n8:uK K mg "WORTH" (.int 4)
 nl:K0 K
section
variable {P:Program}{w:World}{K:W.Frag}{mg:Str->Option Value}{base:Heap}{t:Adr}
def oW(T:Txt K mg t):fB P w K mg base CX0 1 (t.A 0) (t.Q 0) ["_law_script","_law_k"] (JI K 2 bY) "_law_begun" (top 54) :=
 oF T.g sc (i:=0) rfl λ_ _ _ _ _ _ _ _=>(
 (sJ (bg (i:=2) (nd 0) rfl (Or.inl rfl) ak)
 (sJ (bI (aU rW (cM λ_ _ _ _=>rb _) (dv 1) (ba bN cP rfl T.n_len PyProof.Rows.Boot.«len» (af (dv 0) aA)) nm)
 (ag (bg (i:=2) (nd 0) rfl (Or.inl rfl) (ar (dv 0) (dv 1)))
 ao)
 ao)
 (A6 (mH (af (dv 2) (af (fg (dR (dR (fg (dv 2) ak) (ee (ee ak (dv 1)) (dv 1))) ak) ak) (af (cG yV (cM λ_ _ _ _=>rb _) (dv 2) (xT ak ak) nm) aA))))))))
def g7(T:Txt K mg t):fB P w K mg base CX0 1 (t.A 1) (t.Q 1) ["thing"] (spD K 1 m_is_name) "is_name" (top 12) :=
 oD T.g sc (i:=1) rfl λ_ _ _ _ H _ _ hr=>(
 (ag (bI (DW.dt (cu (bL (bC (bF o9 rfl T.n_isinstance rfl T.n_str PyProof.Rows.Boot.«str» (dv 0)))) (aY (bL (wt oO oO (dU λ_ _ _ _=>rb _) (dU λ_ _ _ _=>rb _) dW dW ak (ba bN cP rfl T.n_len PyProof.Rows.Boot.«len» (af (dv 0) aA)) (bh T.fS rfl))))))
 (ag (aQ dY)
 ao)
 ao)
 (ag (aQ (ba (DJ rfl) IL rfl T.n_all PyProof.Rows.Boot.«all» (af (wC (DC ["sign"] 1 [] rfl (IC (dv 0)) (gA (by decide)) (λs H C fp pn=>⟨λHe H0e=>(b5 (i:=0) (show List.Nodup (["sign"]:List Str) from by decide) rfl (Or.inl rfl)),nY,(cG (yU hr.units) yY (dv 0) (bh T.mJ rfl) rfl)⟩) ⟨rfl,rfl⟩ rfl rfl rfl rfl)) aA)))
 ao)))
def kC(T:Txt K mg t):fB P w K mg base CX0 2 (t.A 2) (t.Q 2) ["places"] (spD K 1 m_look_at_places) "look_at_places" (top 34) :=
 oD T.g sc (i:=2) rfl λ_ _ _ _ _ _ _ hr=>(
 (ag (bI (DW.dt (cu (bL (bC (bF fZ rfl T.n_isinstance rfl T.n_list PyProof.Rows.Boot.«list» (dv 0)))) (aY (bL (wt oO oO (dU λ_ _ _ _=>rb _) (dU λ_ _ _ _=>rb _) dW dW (bh T.fj rfl) (ba bN cP rfl T.n_len PyProof.Rows.Boot.«len» (af (dv 0) aA)) (bh T.gs rfl))))))
 (ag cT
 ao)
 ao)
 (ag (lT PassesOwn.never rfl (uA rfl T.n_enumerate (dv 0)) (qu rfl (cv (i:=1) (nd 2) rfl (Or.inl rfl) (cv (i:=2) (nd 2) rfl (Or.inl rfl) jD))) gz
 (ag (bI (DW.dt (cu (bL (bC (rC (g7 T) hr (af (dv 2) aA)))) (aY (aU (yU hr.units) yY (dv 2) (sO (dv 0) nW (nV (dv 1))) rfl))))
 (ag cT
 ao)
 ao)
 ao))
 ao)))
def eO(T:Txt K mg t):fB P w K mg base CX0 1 (t.A 3) (t.Q 3) ["thing"] (spD K 1 m_is_whole) "is_whole" (top 10) :=
 oD T.g sc (i:=3) rfl λ_ _ _ _ _ _ _ _=>(
 (ag (aQ (eI (bF j0 rfl T.n_isinstance rfl T.n_int PyProof.Rows.Boot.«int» (dv 0)) (ff (Dy (bF iU rfl T.n_isinstance rfl T.n_bool PyProof.Rows.Boot.«bool» (dv 0))))))
 ao))
def d7(T:Txt K mg t):fB P w K mg base CX0 1 (t.A 4) (t.Q 4) ["one","other"] (spD K 2 m_common_divisor) "common_divisor" (top 1) :=
 oD T.g sc (i:=4) rfl λ_ _ _ _ _ _ _ hr=>(
 (ag (bg (i:=2) (nd 4) rfl (Or.inl rfl) (ba qG xY rfl T.n_abs PyProof.Rows.Boot.«abs» (af (dv 0) aA)))
 (ag (bg (i:=3) (nd 4) rfl (Or.inl rfl) (ba qG xY rfl T.n_abs PyProof.Rows.Boot.«abs» (af (dv 1) aA)))
 (ag (qr _ PassesOwn.never (aU (d6 hr.units) fY (dv 3) ak nm)
 (ag (bg (i:=4) (nd 4) rfl (Or.inl rfl) (fg (dv 2) (dv 3)))
 (ag (bg (i:=2) (nd 4) rfl (Or.inl rfl) (dv 3))
 (ag (bg (i:=3) (nd 4) rfl (Or.inl rfl) (dv 4))
 ao))))
 (ag (aQ (dv 2))
 ao)))))
def mS(T:Txt K mg t):fB P w K mg base CX0 2 (t.A 5) (t.Q 5) ["thing"] (spD K 1 m_is_ratio) "is_ratio" (top 11) :=
 oD T.g sc (i:=5) rfl λ_ _ _ _ _ _ _ hr=>(
 (ag (bI (DW.dt (cu (bL (bC (bF dk rfl T.n_isinstance rfl T.n_tuple PyProof.Rows.Boot.«tuple» (dv 0)))) (aY (aU (d6 hr.units) fY (ba bN cP rfl T.n_len PyProof.Rows.Boot.«len» (af (dv 0) aA)) ak nm))))
 (ag (aQ dY)
 ao)
 ao)
 (ag (bI (DW.dt (cu (bL (bC (rC (eO T) hr (af (ar (dv 0) ak) aA)))) (aY (bL (bC (rC (eO T) hr (af (ar (dv 0) ak) aA)))))))
 (ag (aQ dY)
 ao)
 ao)
 (ag (aQ (eI (cG yV (cM λ_ _ _ _=>rb _) (ar (dv 0) ak) ak nm) (ff (cG (dr hr.units) fq (rC (d7 T) hr (af (ar (dv 0) ak) (af (ar (dv 0) ak) aA))) ak nm))))
 ao))))
def tZ(T:Txt K mg t):fB P w K mg base CX0 3 (t.A 6) (t.Q 6) ["thing"] (spD K 1 m_is_length) "is_length" (top 30) :=
 oD T.g sc (i:=6) rfl λ_ _ _ _ _ _ _ hr=>(
 (ag (aQ (eI (rC (mS T) hr (af (dv 0) aA)) (ff (cG yV (cM λ_ _ _ _=>rb _) (ar (dv 0) ak) ak nm))))
 ao))
def ve(T:Txt K mg t):fB P w K mg base CX0 3 (t.A 7) (t.Q 7) ["thing"] (spD K 1 m_is_worth) "is_worth" (top 31) :=
 oD T.g sc (i:=7) rfl λ_ _ _ _ _ _ _ hr=>(
 (ag (aQ (KP (cG eY eZ (dv 0) bU nm) (ff (eI (rC (mS T) hr (af (dv 0) aA)) (ff (cG vb (cM λ_ _ _ _=>rb _) (ar (dv 0) ak) ak nm))))))
 ao))
def AJ(T:Txt K mg t):fB P w K mg base CX0 4 (t.A 8) (t.Q 8) ["thing"] (spD K 1 m_is_tie) "is_tie" (top 29) :=
 oD T.g sc (i:=8) rfl λ_ _ _ _ _ _ _ hr=>(
 (ag (bI (DW.dt (cu (bL (bC (bF dk rfl T.n_isinstance rfl T.n_tuple PyProof.Rows.Boot.«tuple» (dv 0)))) (aY (aU (d6 hr.units) fY (ba bN cP rfl T.n_len PyProof.Rows.Boot.«len» (af (dv 0) aA)) ak nm))))
 (ag (aQ dY)
 ao)
 ao)
 (ag (bI (DW.dt (cu (bL (bC (rC (g7 T) hr (af (ar (dv 0) (bh T.qI rfl)) aA)))) (cu (bL (bC (rC (g7 T) hr (af (ar (dv 0) (bh T.ip rfl)) aA)))) (aY (aU (dr hr.units) fq (ar (dv 0) (bh T.qI rfl)) (ar (dv 0) (bh T.ip rfl)) nm)))))
 (ag (aQ dY)
 ao)
 ao)
 (ag (bI (DW.dt (cu (bL (bC (bF o9 rfl T.n_isinstance rfl T.n_str PyProof.Rows.Boot.«str» (ar (dv 0) (bh T.qH rfl))))) (aY (aU (gC hr.units) gD (ar (dv 0) (bh T.qH rfl)) (bh T.uE rfl) rfl))))
 (ag (aQ dY)
 ao)
 ao)
 (ag (aQ (eI (rC (tZ T) hr (af (ar (dv 0) (bh T.lX rfl)) aA)) (ff (rC (ve T) hr (af (ar (dv 0) (bh T.n8 rfl)) aA)))))
 ao)))))
def nz(T:Txt K mg t):fB P w K mg base CX0 5 (t.A 9) (t.Q 9) ["ties","places"] (spD K 2 m_look_at_ties) "look_at_ties" (top 35) :=
 oD T.g sc (i:=9) rfl λ_ _ _ _ _ _ _ hr=>(
 (ag (bI (DW.dt (cu (bL (bC (bF fZ rfl T.n_isinstance rfl T.n_list PyProof.Rows.Boot.«list» (dv 0)))) (aY (aU vb (cM λ_ _ _ _=>rb _) (ba bN cP rfl T.n_len PyProof.Rows.Boot.«len» (af (dv 0) aA)) (bh T.jb rfl) nm))))
 (ag cT
 ao)
 ao)
 (ag (lT PassesOwn.never rfl (uA rfl T.n_enumerate (dv 0)) (qu rfl (cv (i:=2) (nd 9) rfl (Or.inl rfl) (cv (i:=3) (nd 9) rfl (Or.inl rfl) jD))) gz
 (ag (bI (DW.dt (cu (bL (bC (rC (AJ T) hr (af (dv 3) aA)))) (cu (aU (gC hr.units) gD (ar (dv 3) (bh T.qI rfl)) (dv 1) rfl) (aY (aU (gC hr.units) gD (ar (dv 3) (bh T.ip rfl)) (dv 1) rfl)))))
 (ag cT
 ao)
 ao)
 ao))
 ao)))
def mU(T:Txt K mg t):fB P w K mg base CX0 2 (t.A 10) (t.Q 10) ["thing","places"] (spD K 2 m_is_place) "is_place" (top 36) :=
 oD T.g sc (i:=10) rfl λ_ _ _ _ _ _ _ hr=>(
 (ag (aQ (eI (rC (g7 T) hr (af (dv 0) aA)) (ff (cG (yU hr.units) yY (dv 0) (dv 1) rfl))))
 ao))
def oR(T:Txt K mg t):fB P w K mg base CX0 6 (t.A 11) (t.Q 11) ["thing"] (spD K 1 m_look_at_web) "look_at_web" (top 33) :=
 oD T.g sc (i:=11) rfl λ_ _ _ _ _ _ _ hr=>(
 (ag (bI (DW.dt (cu (bL (bC (bF dk rfl T.n_isinstance rfl T.n_tuple PyProof.Rows.Boot.«tuple» (dv 0)))) (aY (aU (d6 hr.units) fY (ba bN cP rfl T.n_len PyProof.Rows.Boot.«len» (af (dv 0) aA)) ak nm))))
 (ag cT
 ao)
 ao)
 (ag (nU (rC (kC T) hr (af (ar (dv 0) (bh T.fR rfl)) aA)))
 (ag (nU (rC (nz T) hr (af (ar (dv 0) (bh T.ke rfl)) (af (ar (dv 0) (bh T.fR rfl)) aA))))
 (ag (bI (bL (bC (rC (mU T) hr (af (ar (dv 0) (bh T.lY rfl)) (af (ar (dv 0) (bh T.fR rfl)) aA)))))
 (ag cT
 ao)
 ao)
 (ag (bI (DW.dt (cu (bL (bC (rC (mU T) hr (af (ar (dv 0) (bh T.kg rfl)) (af (ar (dv 0) (bh T.fR rfl)) aA))))) (aY (aU (dr hr.units) fq (ar (dv 0) (bh T.kg rfl)) (ar (dv 0) (bh T.lY rfl)) nm))))
 (ag cT
 ao)
 ao)
 ao))))))
def mw(T:Txt K mg t):fB P w K mg base CX0 2 (t.A 12) (t.Q 12) ["web","thing"] (spD K 2 m_is_tie_number) "is_tie_number" (top 32) :=
 oD T.g sc (i:=12) rfl λ_ _ _ _ _ _ _ hr=>(
 (ag (aQ (eI (rC (eO T) hr (af (dv 1) aA)) (ff (wD oO rW (dU λ_ _ _ _=>rb _) (dU λ_ _ _ _=>rb _) dW dW ak (dv 1) (ba bN cP rfl T.n_len PyProof.Rows.Boot.«len» (af (ar (dv 0) (bh T.ke rfl)) aA))))))
 ao))
def kB(T:Txt K mg t):fB P w K mg base CX0 7 (t.A 13) (t.Q 13) ["web","thing"] (spD K 2 m_look_at_taking) "look_at_taking" (top 50) :=
 oD T.g sc (i:=13) rfl λ_ _ _ _ _ _ _ hr=>(
 (ag (nU (rC (oR T) hr (af (dv 0) aA)))
 (ag (bI (bL (bC (bF fZ rfl T.n_isinstance rfl T.n_list PyProof.Rows.Boot.«list» (dv 1))))
 (ag cT
 ao)
 ao)
 (ag (bg (i:=2) (nd 13) rfl (Or.inl rfl) (Dz ak))
 (ag (j9 PassesOwn.never rfl (dv 1) (b5 (i:=3) (nd 13) rfl (Or.inl rfl)) b4
 (ag (bI (DW.dt (cu (bL (bC (rC (mw T) hr (af (dv 0) (af (dv 3) aA))))) (aY (aU oO (cM λ_ _ _ _=>rb _) (dv 3) (dv 2) nm))))
 (ag cT
 ao)
 ao)
 (ag (bI (aU eY eZ (ar (ar (ar (dv 0) (bh T.ke rfl)) (dv 3)) (bh T.n8 rfl)) bU nm)
 (ag cT
 ao)
 ao)
 (ag (bg (i:=2) (nd 13) rfl (Or.inl rfl) (dv 3))
 ao))))
 ao)))))
def mv(T:Txt K mg t):fB P w K mg base CX0 2 (t.A 14) (t.Q 14) ["some"] (spD K 1 m_shared_bottom) "shared_bottom" (top 42) :=
 oD T.g sc (i:=14) rfl λ_ _ _ _ _ _ _ hr=>(
 (ag (bg (i:=1) (nd 14) rfl (Or.inl rfl) ak)
 (ag (j9 PassesOwn.never rfl (dv 0) (b5 (i:=2) (nd 14) rfl (Or.inl rfl)) b4
 (ag (bg (i:=1) (nd 14) rfl (Or.inl rfl) (ee (i8 (dv 1) (rC (d7 T) hr (af (dv 1) (af (ar (dv 2) ak) aA)))) (ar (dv 2) ak)))
 ao))
 (ag (aQ (dv 1))
 ao))))
def vg(T:Txt K mg t):fB P w K mg base CX0 1 (t.A 15) (t.Q 15) ["one","bottom"] (spD K 2 m_as_whole) "as_whole" (top 43) :=
 oD T.g sc (i:=15) rfl λ_ _ _ _ _ _ _ _=>(
 (ag (aQ (ee (ar (dv 0) ak) (i8 (dv 1) (ar (dv 0) ak))))
 ao))
def ny(T:Txt K mg t):fB P w K mg base CX0 3 (t.A 16) (t.Q 16) ["some"] (spD K 1 m_on_one_scale) "on_one_scale" (top 41) :=
 oD T.g sc (i:=16) rfl λ_ _ _ _ H _ _ hr=>(
 (ag (bg (i:=1) (nd 16) rfl (Or.inr rfl) (rC (mv T) hr (af (wC (DC ["one"] 1 [] rfl (nZ (dv 0)) (gA (by decide)) (λs H C fp pn=>⟨λHe H0e=>(b5 (i:=0) (show List.Nodup (["one"]:List Str) from by decide) rfl (Or.inl rfl)),(FE (aU g6 g9 (dv 0) bU nm)),(dv 0)⟩) ⟨rfl,rfl⟩ rfl rfl rfl rfl)) aA)))
 (ag (aQ (cW (af (wC (DC ["one","bottom"] 1 [1] rfl (nZ (dv 0)) (gA (by decide)) (λs H C fp pn=>⟨λHe H0e=>(b5 (i:=0) (show List.Nodup (["one","bottom"]:List Str) from by decide) rfl (Or.inl rfl)),nY,(wB (aU eY eZ (dv 0) bU nm) bU (rC (vg T) hr (af (dv 0) (af (dv 1) aA))))⟩) ⟨rfl,rfl⟩ rfl rfl rfl rfl)) (af (dv 1) aA))))
 ao)))
def kA(T:Txt K mg t):fB P w K mg base CX0 4 (t.A 17) (t.Q 17) ["web"] (spD K 1 m_scaled_lengths) "scaled_lengths" (top 46) :=
 oD T.g sc (i:=17) rfl λ_ _ _ _ H _ _ hr=>(
 (ag (aQ (rC (ny T) hr (af (wC (DC ["tie"] 1 [] rfl (nZ (ar (dv 0) (bh T.ke rfl))) (gA (by decide)) (λs H C fp pn=>⟨λHe H0e=>(b5 (i:=0) (show List.Nodup (["tie"]:List Str) from by decide) rfl (Or.inl rfl)),nY,(ar (dv 0) (bh T.lX rfl))⟩) ⟨rfl,rfl⟩ rfl rfl rfl rfl)) aA)))
 ao))
def oQ(T:Txt K mg t):fB P w K mg base CX0 1 (t.A 18) (t.Q 18) ["tie"] (spD K 1 m_steps_along) "steps_along" (top 38) :=
 oD T.g sc (i:=18) rfl λ_ _ _ _ _ _ _ hr=>(
 (ag (bg (i:=1) (nd 18) rfl (Or.inl rfl) (cW (af (ar (dv 0) (bh T.qI rfl)) (af (ar (dv 0) (bh T.ip rfl)) aA))))
 (ag (bI (aU (dr hr.units) fq (ar (dv 0) (bh T.qH rfl)) fN nm)
 (ag (aQ (fO (af (dv 1) aA)))
 ao)
 ao)
 (ag (aQ (fO (af (dv 1) (af (cW (af (ar (dv 0) (bh T.ip rfl)) (af (ar (dv 0) (bh T.qI rfl)) aA))) aA))))
 ao))))
def rn(T:Txt K mg t):fB P w K mg base CX0 2 (t.A 19) (t.Q 19) ["web","taken"] (spD K 2 m_steps_left) "steps_left" (top 39) :=
 oD T.g sc (i:=19) rfl λ_ _ _ _ _ _ _ hr=>(
 (ag (j8 (i:=2) (nd 19) rfl (Or.inl rfl) (mH aA))
 (ag (lT PassesOwn.never rfl (uA rfl T.n_enumerate (ar (dv 0) (bh T.ke rfl))) (qu rfl (cv (i:=3) (nd 19) rfl (Or.inl rfl) (cv (i:=4) (nd 19) rfl (Or.inl rfl) jD))) gz
 (ag (bI (aU (gC hr.units) gD (dv 3) (dv 1) rfl)
 (ag (j9 PassesOwn.never rfl (rC (oQ T) hr (af (dv 4) aA)) (qu rfl (cv (i:=5) (nd 19) rfl (Or.inl rfl) (cv (i:=6) (nd 19) rfl (Or.inl rfl) jD))) gz
 (ag (jC (i:=2) rfl (Or.inl rfl) (cW (af (dv 3) (af (dv 5) (af (dv 6) aA)))))
 ao))
 ao)
 ao)
 ao))
 (ag (aQ (dv 2))
 ao))))
def iz(T:Txt K mg t):fB P w K mg base CX0 1 (t.A 20) (t.Q 20) ["steps","sizes","found"] (spD K 3 m_nearest_step) "nearest_step" (top 48) :=
 oD T.g sc (i:=20) rfl λ_ _ _ _ _ _ _ hr=>(
 (ag (bg (i:=3) (nd 20) rfl (Or.inl rfl) bU)
 (ag (j9 PassesOwn.never rfl (dv 0) (qu rfl (cv (i:=4) (nd 20) rfl (Or.inl rfl) (cv (i:=5) (nd 20) rfl (Or.inl rfl) (cv (i:=6) (nd 20) rfl (Or.inl rfl) jD)))) gz
 (ag (bI (DW.dt (mE (aU (Cv (oi hr.units)) Cz (dv 5) (dv 2) rfl) (fM (aU (mr (oi hr.units)) mx (dv 6) (dv 2) rfl))))
 (ag (bg (i:=7) (nd 20) rfl (Or.inl rfl) (dR (ar (cN (oi hr.units) (dv 2) (dv 5)) ak) (ar (dv 1) (dv 4))))
 (ag (bI (DW.dt (cu (aU eY eZ (dv 3) bU nm) (aY (aU rW (cM λ_ _ _ _=>rb _) (dv 7) (ar (dv 3) ak) nm))))
 (ag (bg (i:=3) (nd 20) rfl (Or.inl rfl) (cW (af (dv 6) (af (dv 7) (af (dR (ar (cN (oi hr.units) (dv 2) (dv 5)) ak) (fO (af (dv 4) aA))) aA)))))
 ao)
 ao)
 ao))
 ao)
 ao))
 (ag (aQ (dv 3))
 ao))))
def oT(T:Txt K mg t):fB P w K mg base CX0 3 (t.A 21) (t.Q 21) ["web","taken","sizes"] (spD K 3 m_all_reached) "all_reached" (top 47) :=
 oD T.g sc (i:=21) rfl λ_ _ _ _ _ _ _ hr=>(
 (ag (bg (i:=3) (nd 21) rfl (Or.inl rfl) (rC (rn T) hr (af (dv 0) (af (dv 1) aA))))
 (ag (zV (i:=4) (nd 21) rfl (Or.inl rfl) (A7 (ar (dv 0) (bh T.lY rfl)) (cW (af ak (af (fO aA) aA)))))
 (ag (zT (i:=5) (nd 21) rfl (Or.inl rfl) (rC (iz T) hr (af (dv 3) (af (dv 2) (af (dv 4) aA)))))
 (ag (qr _ PassesOwn.never (aU g6 g9 (dv 5) bU nm)
 (ag (zU (i:=4) (oi hr.units) rfl (Or.inl rfl) (cW (af (ar (dv 5) ak) (af (ar (dv 5) ak) aA))) (ar (dv 5) ak))
 (ag (zT (i:=5) (nd 21) rfl (Or.inl rfl) (rC (iz T) hr (af (dv 3) (af (dv 2) (af (dv 4) aA)))))
 ao)))
 (ag (aQ (dv 4))
 ao))))))
def Cy(T:Txt K mg t):fB P w K mg base CX0 2 (t.A 22) (t.Q 22) ["top","bottom"] (spD K 2 m_ratio) "ratio" (top 14) :=
 oD T.g sc (i:=22) rfl λ_ _ _ _ _ _ _ hr=>(
 (ag (bI (DW.dt (cu (bL (bC (rC (eO T) hr (af (dv 0) aA)))) (aY (bL (bC (rC (eO T) hr (af (dv 1) aA)))))))
 (ag cT
 ao)
 ao)
 (ag (bI (aU (dr hr.units) fq (dv 1) ak nm)
 (ag cT
 ao)
 ao)
 (ag (bg (i:=2) (nd 22) rfl (Or.inl rfl) (rC (d7 T) hr (af (dv 0) (af (dv 1) aA))))
 (ag (bI (aU rW (cM λ_ _ _ _=>rb _) (dv 1) ak nm)
 (ag (bg (i:=2) (nd 22) rfl (Or.inl rfl) (Dz (dv 2)))
 ao)
 ao)
 (ag (aQ (cW (af (i8 (dv 0) (dv 2)) (af (i8 (dv 1) (dv 2)) aA))))
 ao))))))
def vd(T:Txt K mg t):fB P w K mg base CX0 5 (t.A 23) (t.Q 23) ["web","taken"] (spD K 2 m_shortest) "shortest" (top 45) :=
 oD T.g sc (i:=23) rfl λ_ _ _ _ _ _ _ hr=>(
 (ag (bg (i:=2) (nd 23) rfl (Or.inl rfl) (rC (kA T) hr (af (dv 0) aA)))
 (ag (bg (i:=3) (nd 23) rfl (Or.inl rfl) (rC (oT T) hr (af (dv 0) (af (dv 1) (af (ar (dv 2) ak) aA)))))
 (ag (zV (i:=4) (nd 23) rfl (Or.inl rfl) FF)
 (ag (j9 PassesOwn.never rfl (ar (dv 0) (bh T.fR rfl)) (b5 (i:=5) (nd 23) rfl (Or.inl rfl)) b4
 (ag (zU (i:=4) (oi hr.units) rfl (Or.inl rfl) (wB (aU (Cv (oi hr.units)) Cz (dv 5) (dv 3) rfl) (rC (Cy T) hr (af (ar (cN (oi hr.units) (dv 3) (dv 5)) ak) (af (ar (dv 2) ak) aA))) bU) (dv 5))
 ao))
 (ag (bI (aU (mr (oi hr.units)) mx (ar (dv 0) (bh T.kg rfl)) (dv 3) rfl)
 (ag (aQ (cW (af bU (af bU (af (dv 4) aA)))))
 ao)
 ao)
 (ag (aQ (cW (af (ar (cN (oi hr.units) (dv 3) (ar (dv 0) (bh T.kg rfl))) ak) (af (cN (oi hr.units) (dv 4) (ar (dv 0) (bh T.kg rfl))) (af (dv 4) aA)))))
 ao)))))))
def kD(T:Txt K mg t):fB P w K mg base CX0 8 (t.A 24) (t.Q 24) ["web","taking"] (spD K 2 m_least_way) "least_way" (top 52) :=
 oD T.g sc (i:=24) rfl λ_ _ _ _ _ _ _ hr=>(
 (ag (nU (rC (kB T) hr (af (dv 0) (af (dv 1) aA))))
 (ag (aQ (rC (vd T) hr (af (dv 0) (af (dv 1) aA))))
 ao)))
def iN(T:Txt K mg t):fB P w K mg base CX0 1 (t.A 25) (t.Q 25) ["_law_top","_law_bottom"] (spD K 2 br) "_law_low" (top 56) :=
 oD T.g sc (i:=25) rfl λ_ _ _ _ _ _ _ hr=>(
 (ag (bg (i:=2) (nd 25) rfl (Or.inl rfl) (ba qG xY rfl T.n_abs PyProof.Rows.Boot.«abs» (af (dv 0) aA)))
 (ag (bg (i:=3) (nd 25) rfl (Or.inl rfl) (dv 1))
 (ag (qr _ PassesOwn.never (aU (d6 hr.units) fY (dv 3) ak nm)
 (ag (Iy (i:=2) (j:=3) rfl (nd 25) rfl rfl (by decide) rfl rfl (af (dv 3) (af (fg (dv 2) (dv 3)) aA)) rfl)
 ao))
 (ag (aQ (cW (af (i8 (dv 0) (dv 2)) (af (i8 (dv 1) (dv 2)) aA))))
 ao)))))
def kG(T:Txt K mg t):fB P w K mg base CX0 2 (t.A 26) (t.Q 26) ["_law_thing"] (spD K 1 bM) "_law_is_length" (top 67) :=
 oD T.g sc (i:=26) rfl λ_ _ _ _ _ _ _ hr=>(
 (ag (bI (DW.dt (cu (bL (bC (bF dk rfl T.n_isinstance rfl T.n_tuple PyProof.Rows.Boot.«tuple» (dv 0)))) (aY (aU (d6 hr.units) fY (ba bN cP rfl T.n_len PyProof.Rows.Boot.«len» (af (dv 0) aA)) ak nm))))
 (ag (aQ dY)
 ao)
 ao)
 (ag (lT PassesOwn.never rfl (Dw (dv 0)) (b5 (i:=1) (nd 26) rfl (Or.inl rfl)) b4
 (ag (bI (DW.dt (cu (bL (bC (bF j0 rfl T.n_isinstance rfl T.n_int PyProof.Rows.Boot.«int» (dv 1)))) (aY (bC (bF iU rfl T.n_isinstance rfl T.n_bool PyProof.Rows.Boot.«bool» (dv 1))))))
 (ag (aQ dY)
 ao)
 ao)
 ao))
 (ag (aQ (eI (cG yV (cM λ_ _ _ _=>rb _) (ar (dv 0) ak) ak nm) (eI (cG vb (cM λ_ _ _ _=>rb _) (ar (dv 0) ak) ak nm) (ff (cG (dr hr.units) fq (rC (iN T) hr (af (ar (dv 0) ak) (af (ar (dv 0) ak) aA))) (dv 0) nm)))))
 ao))))
def jM(T:Txt K mg t):fB P w K mg base CX0 1 (t.A 27) (t.Q 27) ["_law_tie_here","_law_here"] (spD K 2 bw) "_law_there" (top 64) :=
 oD T.g sc (i:=27) rfl λ_ _ _ _ _ _ _ hr=>(
 (ag (bI (aU (dr hr.units) fq (ar (dv 0) ak) (dv 1) nm)
 (ag (aQ (ar (dv 0) ak))
 ao)
 ao)
 (ag (bI (DW.dt (mE (aU (dr hr.units) fq (ar (dv 0) ak) (dv 1) nm) (fM (aU (dr hr.units) fq (ar (dv 0) ak) fN nm))))
 (ag (aQ (ar (dv 0) ak))
 ao)
 ao)
 (ag (aQ bU)
 ao))))
def t8(T:Txt K mg t):fB P w K mg base CX0 1 (t.A 28) (t.Q 28) ["_law_one","_law_other"] (spD K 2 c8) "_law_less" (top 63) :=
 oD T.g sc (i:=28) rfl λ_ _ _ _ _ _ _ _=>(
 (ag (aQ (cG rW (cM λ_ _ _ _=>rb _) (ee (ar (dv 0) ak) (ar (dv 1) ak)) (ee (ar (dv 1) ak) (ar (dv 0) ak)) nm))
 ao))
def kE(T:Txt K mg t):fB P w K mg base CX0 2 (t.A 29) (t.Q 29) ["_law_one","_law_other"] (spD K 2 bS) "_law_plus" (top 62) :=
 oD T.g sc (i:=29) rfl λ_ _ _ _ _ _ _ hr=>(
 (ag (aQ (rC (iN T) hr (af (dR (ee (ar (dv 0) ak) (ar (dv 1) ak)) (ee (ar (dv 1) ak) (ar (dv 0) ak))) (af (ee (ar (dv 0) ak) (ar (dv 1) ak)) aA))))
 ao))
def t9(T:Txt K mg t):fB P w K mg base CX0 3 (t.A 30) (t.Q 30) ["_law_thing","_law_here","_law_there_here","_law_length"] (spD K 4 dX) "_law_kept" (top 68) :=
 oD T.g sc (i:=30) rfl λ_ _ _ _ _ _ _ hr=>(
 (ag (bI (aU eY eZ (cN (oi hr.units) (dv 0) (dv 1)) bU nm)
 (ag (aQ dY)
 ao)
 ao)
 (ag (aQ (eI (cG g6 g9 (cN (oi hr.units) (dv 0) (dv 2)) bU nm) (ff (Dy (rC (t8 T) hr (af (rC (kE T) hr (af (cN (oi hr.units) (dv 0) (dv 1)) (af (dv 3) aA))) (af (cN (oi hr.units) (dv 0) (dv 2)) aA)))))))
 ao)))
def oV(T:Txt K mg t):fB P w K mg base CX0 4 (t.A 31) (t.Q 31) ["_law_web_here","_law_gone","_law_thing"] (spD K 3 dz) "_law_let_by" (top 69) :=
 oD T.g sc (i:=31) rfl λ_ _ _ _ _ _ _ hr=>(
 (ag (bI (DW.dt (cu (bL (bC (bF vB rfl T.n_isinstance rfl T.n_dict PyProof.Rows.Boot.«dict» (dv 2)))) (aY (aU (d6 hr.units) fY (ba Bg FU rfl T.n_len PyProof.Rows.Boot.«len» (af (dv 2) aA)) (ba bN cP rfl T.n_len PyProof.Rows.Boot.«len» (af (ar (dv 0) ak) aA)) nm))))
 (ag (aQ dY)
 ao)
 ao)
 (ag (j9 PassesOwn.never rfl (ar (dv 0) ak) (b5 (i:=3) (nd 31) rfl (Or.inl rfl)) b4
 (ag (bI (DW.dt (cu (aU (mr (oi hr.units)) mx (dv 3) (dv 2) rfl) (aY (DW.dt (mE (aU g6 g9 (cN (oi hr.units) (dv 2) (dv 3)) bU nm) (fM (bL (bC (rC (kG T) hr (af (cN (oi hr.units) (dv 2) (dv 3)) aA))))))))))
 (ag (aQ dY)
 ao)
 ao)
 ao))
 (ag (bI (DW.dt (cu (aU eY eZ (cN (oi hr.units) (dv 2) (ar (dv 0) ak)) bU nm) (aY (aU (d6 hr.units) fY (ar (cN (oi hr.units) (dv 2) (ar (dv 0) ak)) ak) ak nm))))
 (ag (aQ dY)
 ao)
 ao)
 (ag (nT PassesOwn.never rfl rfl T.n_range (ba bN cP rfl T.n_len PyProof.Rows.Boot.«len» (af (ar (dv 0) ak) aA)) (b5 (i:=4) (nd 31) rfl (Or.inl rfl)) b4
 (ag (lT PassesOwn.never rfl (Dw (sO (ar (ar (dv 0) ak) (dv 4)) nW (nV ak))) (b5 (i:=5) (nd 31) rfl (Or.inl rfl)) b4
 (ag (bg (i:=6) (nd 31) rfl (Or.inl rfl) (rC (jM T) hr (af (ar (ar (dv 0) ak) (dv 4)) (af (dv 5) aA))))
 (ag (bI (DW.dt (mE (aU (gC hr.units) gD (dv 4) (dv 1) rfl) (fM (aU g6 g9 (dv 6) bU nm))))
 (ag (bI (bL (bC (rC (t9 T) hr (af (dv 2) (af (dv 5) (af (dv 6) (af (ar (ar (ar (dv 0) ak) (dv 4)) ak) aA)))))))
 (ag (aQ dY)
 ao)
 ao)
 ao)
 ao)
 ao)))
 ao))
 (ag (aQ dY)
 ao))))))
def kF(T:Txt K mg t):fB P w K mg base CX0 1 (t.A 32) (t.Q 32) ["_law_web_here","_law_one"] (spD K 2 aP) "_law_is_number" (top 65) :=
 oD T.g sc (i:=32) rfl λ_ _ _ _ _ _ _ _=>(
 (ag (bI (DW.dt (cu (bL (bC (bF j0 rfl T.n_isinstance rfl T.n_int PyProof.Rows.Boot.«int» (dv 1)))) (aY (bC (bF iU rfl T.n_isinstance rfl T.n_bool PyProof.Rows.Boot.«bool» (dv 1))))))
 (ag (aQ dY)
 ao)
 ao)
 (ag (aQ (wD oO rW (dU λ_ _ _ _=>rb _) (dU λ_ _ _ _=>rb _) dW dW ak (dv 1) (ba bN cP rfl T.n_len PyProof.Rows.Boot.«len» (af (ar (dv 0) ak) aA))))
 ao)))
def rq(T:Txt K mg t):fB P w K mg base CX0 2 (t.A 33) (t.Q 33) ["_law_web_here","_law_gone","_law_thing"] (spD K 3 cj) "_law_wrong" (top 66) :=
 oD T.g sc (i:=33) rfl λ_ _ _ _ _ _ _ hr=>(
 (ag (bI (bL (bC (bF fZ rfl T.n_isinstance rfl T.n_list PyProof.Rows.Boot.«list» (dv 2))))
 (ag (aQ (cW (af fN (af bU aA))))
 ao)
 ao)
 (ag (bg (i:=3) (nd 33) rfl (Or.inl rfl) (ar (dv 0) ak))
 (ag (j8 (i:=4) (nd 33) rfl (Or.inl rfl) (mH (af (dv 3) aA)))
 (ag (nT PassesOwn.never rfl rfl T.n_range (ba bN cP rfl T.n_len PyProof.Rows.Boot.«len» (af (dv 2) aA)) (b5 (i:=5) (nd 33) rfl (Or.inl rfl)) b4
 (ag (bg (i:=6) (nd 33) rfl (Or.inl rfl) (ar (dv 2) (dv 5)))
 (ag (bg (i:=7) (nd 33) rfl (Or.inl rfl) bU)
 (ag (bI (DW.dt (mE (aU (d6 hr.units) fY (dv 3) (ar (dv 0) ak) nm) (mE (bC (rC (kF T) hr (af (dv 0) (af (dv 6) aA)))) (fM (aU (gC hr.units) gD (dv 6) (dv 1) rfl)))))
 (ag (bg (i:=7) (nd 33) rfl (Or.inl rfl) (rC (jM T) hr (af (ar (ar (dv 0) ak) (dv 6)) (af (dv 3) aA))))
 ao)
 ao)
 (ag (bI (DW.dt (cu (aU eY eZ (dv 7) bU nm) (aY (aU (yU hr.units) yY (dv 7) (dv 4) rfl))))
 (ag (aQ (cW (af fN (af (dv 5) aA))))
 ao)
 ao)
 (ag (bg (i:=3) (nd 33) rfl (Or.inl rfl) (dv 7))
 (ag (jC (i:=4) rfl (Or.inl rfl) (dv 3))
 ao)))))))
 (ag (bI (aU (d6 hr.units) fY (dv 3) (ar (dv 0) ak) nm)
 (ag (aQ (cW (af fN (af (ba bN cP rfl T.n_len PyProof.Rows.Boot.«len» (af (dv 2) aA)) aA))))
 ao)
 ao)
 (ag (aQ (cW (af fN (af (dv 4) aA))))
 ao)))))))
def rz(T:Txt K mg t):fB P w K mg base CX0 5 (t.A 34) (t.Q 34) ["_law_web_here","_law_gone","_law_told"] (spD K 3 ck) "_law_right" (top 70) :=
 oD T.g sc (i:=34) rfl λ_ _ _ _ _ _ _ hr=>(
 (ag (bI (DW.dt (cu (bL (bC (bF dk rfl T.n_isinstance rfl T.n_tuple PyProof.Rows.Boot.«tuple» (dv 2)))) (cu (aU (d6 hr.units) fY (ba bN cP rfl T.n_len PyProof.Rows.Boot.«len» (af (dv 2) aA)) ak nm) (aY (bL (bC (rC (oV T) hr (af (dv 0) (af (dv 1) (af (ar (dv 2) ak) aA))))))))))
 (ag (aQ dY)
 ao)
 ao)
 (ag (Iv rfl (dv 2) (cv (i:=3) (nd 34) rfl (Or.inl rfl) (cv (i:=4) (nd 34) rfl (Or.inl rfl) (cv (i:=5) (nd 34) rfl (Or.inl rfl) jD))))
 (ag (bI (DW.dt (cu (aU eY eZ (dv 3) bU nm) (aY (aU eY eZ (dv 4) bU nm))))
 (ag (aQ (eI (cG eY eZ (dv 3) bU nm) (eI (cG eY eZ (dv 4) bU nm) (ff (cG eY eZ (cN (oi hr.units) (dv 5) (ar (dv 0) ak)) bU nm)))))
 ao)
 ao)
 (ag (bI (DW.dt (cu (aU (d6 hr.units) fY (ar (rC (rq T) hr (af (dv 0) (af (dv 1) (af (dv 3) aA)))) ak) fN nm) (aY (bL (bC (bF dk rfl T.n_isinstance rfl T.n_tuple PyProof.Rows.Boot.«tuple» (dv 4)))))))
 (ag (aQ dY)
 ao)
 ao)
 (ag (bg (i:=6) (nd 34) rfl (Or.inl rfl) (cW (af ak (af ak aA))))
 (ag (j9 PassesOwn.never rfl (dv 3) (b5 (i:=7) (nd 34) rfl (Or.inl rfl)) b4
 (ag (bg (i:=6) (nd 34) rfl (Or.inl rfl) (rC (kE T) hr (af (dv 6) (af (ar (ar (ar (dv 0) ak) (dv 7)) ak) aA))))
 ao))
 (ag (aQ (eI (cG (dr hr.units) fq (dv 4) (dv 6) nm) (ff (cG (dr hr.units) fq (cN (oi hr.units) (dv 5) (ar (dv 0) ak)) (dv 6) nm))))
 ao))))))))
def aS(T:Txt K mg t):fB P w K mg base CX0 1 (t.A 35) (t.Q 35) ["_law_state","_law_many"] (D1 K 1 aL) "_law_take" (top 55) :=
 oM T.g sc (i:=35) rfl rfl λ_ _ _ _ _ _ _ _ _ _=>(
 (aH (rO (Dn (i:=0) (E:=E0) (bC (ar (dv 0) ak)))
 (aH (cK (i:=2) (nd 35) rfl (Or.inl rfl) (lU (i:=0) (E:=E0) (fg (ar (dv 0) ak) (dv 1))))
 (aH (xj (i:=0) rfl (Or.inl rfl) (lU (i:=0) (E:=E0) (i8 (ar (dv 0) ak) (dv 1))) (aN (E:=E0) ak))
 (aH (xj (i:=0) rfl (Or.inl rfl) (lU (i:=0) (E:=E0) (cG vb (cM λ_ _ _ _=>rb _) (ar (dv 0) ak) ak nm)) (aN (E:=E0) ak))
 (aH (fW (E:=E0) (dv 2))
 bQ))))
 bQ)
 (aH (cA (E:=E0) λvs=>(bg (i:=3) (nd 35) rfl (Or.inl rfl) ak))
 (aH (tO (E:=E0) PassesOwn.never rfl (uc (E:=E0) (mG rfl T.n_range (dR ak (ee ak (DB Bh IK rfl T.n_int PyProof.Rows.Boot.«int» (af (cG vb (cM λ_ _ _ _=>rb _) (dv 1) (xT ak ak) nm) aA)))))) (λvs=>(b5 (i:=4) (nd 35) rfl (Or.inl rfl))) b4
 (aH (xj (i:=0) rfl (Or.inl rfl) (lU (i:=0) (E:=E0) (fg (dR (ee (ar (dv 0) ak) ak) ak) ak)) (aN (E:=E0) ak))
 (aH (cK (i:=3) (nd 35) rfl (Or.inl rfl) (lU (i:=0) (E:=E0) (dR (ee (dv 3) ak) (fg (ee (ar (dv 0) ak) (ar (dv 0) ak)) ak))))
 bQ)))
 (aH (fW (E:=E0) (fg (i8 (dv 3) ak) (dv 1)))
 bQ)))))
def rA(T:Txt K mg t):fB P w K mg base CX0 2 (t.A 36) (t.Q 36) ["_law_state","_law_many"] (D1 K 1 dg) "_law_names" (top 58) :=
 oM T.g sc (i:=36) rfl rfl λ_ _ _ _ H He _ _ _ hr=>(
 (aH (EE (i:=2) (nd 36) rfl rfl (LN (E:=E0) ["_law_k","_law_state"] 1 [0] rfl (uc (E:=E0) (mG rfl T.n_range ak)) (gA (by decide)) (λs H C fp pn=>⟨λHe H0e=>(b5 (i:=0) (show List.Nodup (["_law_k","_law_state"]:List Str) from by decide) rfl (Or.inl rfl)),λHe H0e=>(rM 1 (aS T) hr (aW (aN (E:=E0) ak) bB))⟩) ⟨rfl,rfl⟩ rfl rfl rfl rfl) xW)
 (aH (cK (i:=3) (nd 36) rfl (Or.inl rfl) (mF (aN (E:=E0) ak) (rM 0 (aS T) hr (aW (aN (E:=E0) ak) bB))))
 (aH (cK (i:=4) (nd 36) rfl (Or.inl rfl) (rM 0 (aS T) hr (aW (aN (E:=E0) (dv 3)) bB)))
 (aH (cK (i:=5) (nd 36) rfl (Or.inl rfl) (rM 0 (aS T) hr (aW (aN (E:=E0) ak) bB)))
 (aH (cK (i:=6) (nd 36) rfl (Or.inl rfl) (uz (aN (E:=E0) (fO (af ak (af ak (af ak (af ak (af ak (af ak aA)))))))) (rM 0 (aS T) hr (aW (aN (E:=E0) ak) bB))))
 (aH (cK (i:=7) (nd 36) rfl (Or.inl rfl) (IA (E:=E0) (dr hr.units) fq (rM 0 (aS T) hr (aW (aN (E:=E0) ak) bB)) (aN (E:=E0) ak) nm))
 (aH (cA (E:=E0) λvs=>(j8 (i:=8) (nd 36) rfl (Or.inl rfl) (mH aA)))
 (aH (cA (E:=E0) λvs=>(nT PassesOwn.never rfl rfl T.n_range (dv 1) (b5 (i:=9) (nd 36) rfl (Or.inl rfl)) b4
 (ag (j8 (i:=10) (nd 36) rfl (Or.inl rfl) (wA (dv 2) nW (nV (dv 3))))
 (ag (Iw (i:=10) rfl (Or.inl rfl) (fg (dR (dv 5) (ee (dv 6) (dv 9))) ak) (dv 4))
 (ag (bI (bC (dv 7))
 (ag (j8 (i:=10) (nd 36) rfl (Or.inl rfl) (wA (dv 2) nW (nV (dR ak (fg (dR (dv 5) (dv 9)) ak)))))
 ao)
 ao)
 (ag (Iz 10 (jC (i:=8) rfl (Or.inl rfl) (FH fN (af (wC (DC ["_law_letter"] 1 [] rfl (nZ (dv 10)) (gA (by decide)) (λs H C fp pn=>⟨λHe H0e=>(b5 (i:=0) (show List.Nodup (["_law_letter"]:List Str) from by decide) rfl (Or.inl rfl)),nY,(ar fN (dv 0))⟩) ⟨rfl,rfl⟩ rfl rfl rfl rfl)) aA))))
 ao))))))
 (aH (fW (E:=E0) (dv 8))
 bQ))))))))))
def iO(T:Txt K mg t):fB P w K mg base CX0 2 (t.A 37) (t.Q 37) ["_law_state","_law_least"] (D1 K 1 cx) "_law_amount" (top 57) :=
 oM T.g sc (i:=37) rfl rfl λ_ _ _ _ _ _ _ _ _ hr=>(
 (aH (cK (i:=2) (nd 37) rfl (Or.inl rfl) (rM 0 (aS T) hr (aW (aN (E:=E0) ak) bB)))
 (aH (cK (i:=3) (nd 37) rfl (Or.inl rfl) (mF (aN (E:=E0) (dv 1)) (rM 0 (aS T) hr (aW (aN (E:=E0) (ar (fO (af ak (af ak (af ak (af ak (af ak (af (xT ak ak) aA))))))) (dv 2))) bB))))
 (aH (cA (E:=E0) λvs=>(bg (i:=4) (nd 37) rfl (Or.inl rfl) (ar (fO (af ak (af ak (af ak (af ak (af ak (af ak aA))))))) (dv 2))))
 (aH (cA (E:=E0) λvs=>(bg (i:=5) (nd 37) rfl (Or.inl rfl) (fO (af ak (af ak (af ak (af ak (af ak (af ak (af ak (af ak (af ak (af ak (af ak (af ak aA)))))))))))))))
 (aH (Hj (M0 (iN T) hr (aW (aN (E:=E0) (dv 3)) (aW (uz (aN (E:=E0) (dv 5)) (rM 0 (aS T) hr (aW (aN (E:=E0) (dv 4)) bB))) bB))))
 bQ))))))
def vi(T:Txt K mg t):fB P w K mg base CX0 3 (t.A 38) (t.Q 38) ["_law_state","_law_names_here","_law_k"] (D1 K 2 dQ) "_law_tie" (top 59) :=
 oM T.g sc (i:=38) rfl rfl λ_ _ _ _ _ _ _ _ _ hr=>(
 (aH (cA (E:=E0) λvs=>(bg (i:=3) (nd 38) rfl (Or.inl rfl) (ba bN cP rfl T.n_len PyProof.Rows.Boot.«len» (af (dv 1) aA))))
 (aH (cK (i:=4) (nd 38) rfl (Or.inl rfl) (rM 0 (aS T) hr (aW (aN (E:=E0) (dv 3)) bB)))
 (aH (cK (i:=5) (nd 38) rfl (Or.inl rfl) (Dp (mF (aN (E:=E0) (dR (dv 4) ak)) (rM 0 (aS T) hr (aW (aN (E:=E0) (uB (dv 3) ak)) bB))) (aN (E:=E0) (dv 3))))
 (aH (rO (nX (E:=E0) (dr hr.units) fq (rM 0 (aS T) hr (aW (aN (E:=E0) ak) bB)) (aN (E:=E0) ak) nm)
 (aH (cA (E:=E0) λvs=>(bg (i:=4) (nd 38) rfl (Or.inl rfl) (fg (dv 2) (dv 3))))
 (aH (cA (E:=E0) λvs=>(bg (i:=5) (nd 38) rfl (Or.inl rfl) (fg (dR (dv 2) ak) (dv 3))))
 bQ))
 bQ)
 (aH (cK (i:=6) (nd 38) rfl (Or.inl rfl) (uz (aN (E:=E0) (fO (af fN (af fN aA)))) (rM 0 (aS T) hr (aW (aN (E:=E0) ak) bB))))
 (aH (cK (i:=7) (nd 38) rfl (Or.inl rfl) (rM 0 (iO T) hr (aW (aN (E:=E0) ak) bB)))
 (aH (cK (i:=8) (nd 38) rfl (Or.inl rfl) (rM 0 (iO T) hr (aW (aN (E:=E0) ak) bB)))
 (aH (rO (nX (E:=E0) (dr hr.units) fq (rM 0 (aS T) hr (aW (aN (E:=E0) ak) bB)) (aN (E:=E0) ak) nm)
 (aH (cA (E:=E0) λvs=>(bg (i:=8) (nd 38) rfl (Or.inl rfl) bU))
 bQ)
 bQ)
 (aH (fW (E:=E0) (cW (af (ar (dv 1) (dv 4)) (af (ar (dv 1) (dv 5)) (af (dv 6) (af (dv 7) (af (dv 8) aA)))))))
 bQ))))))))))
def vh(T:Txt K mg t):fB P w K mg base CX0 4 (t.A 39) (t.Q 39) ["_law_state","_law_most","_law_more"] (D1 K 2 c7) "_law_web" (top 60) :=
 oM T.g sc (i:=39) rfl rfl λ_ _ _ _ _ _ _ _ _ hr=>(
 (aH (cK (i:=3) (nd 39) rfl (Or.inl rfl) (rM 0 (rA T) hr (aW (mF (aN (E:=E0) ak) (rM 0 (aS T) hr (aW (aN (E:=E0) (uB (dv 1) ak)) bB))) bB)))
 (aH (cA (E:=E0) λvs=>(bg (i:=4) (nd 39) rfl (Or.inl rfl) (ba bN cP rfl T.n_len PyProof.Rows.Boot.«len» (af (dv 3) aA))))
 (aH (cA (E:=E0) λvs=>(j8 (i:=5) (nd 39) rfl (Or.inl rfl) (mH aA)))
 (aH (tO (E:=E0) PassesOwn.never rfl (AM rfl T.n_range (rM 0 (aS T) hr (aW (aN (E:=E0) (dR (dv 2) ak)) bB))) (λvs=>(b5 (i:=6) (nd 39) rfl (Or.inl rfl))) b4
 (aH (As (i:=5) rfl (Or.inl rfl) (rM 0 (vi T) hr (aW (aN (E:=E0) (dv 3)) (aW (aN (E:=E0) (dv 6)) bB))))
 bQ))
 (aH (cA (E:=E0) λvs=>(bg (i:=7) (nd 39) rfl (Or.inl rfl) ak))
 (aH (cA (E:=E0) λvs=>(bg (i:=8) (nd 39) rfl (Or.inl rfl) (uB (dv 4) ak)))
 (aH (rO (nX (E:=E0) (dr hr.units) fq (rM 0 (aS T) hr (aW (aN (E:=E0) ak) bB)) (aN (E:=E0) ak) nm)
 (aH (cK (i:=7) (nd 39) rfl (Or.inl rfl) (rM 0 (aS T) hr (aW (aN (E:=E0) (dv 4)) bB)))
 (aH (cK (i:=8) (nd 39) rfl (Or.inl rfl) (Dp (mF (aN (E:=E0) (dR (dv 7) ak)) (rM 0 (aS T) hr (aW (aN (E:=E0) (uB (dv 4) ak)) bB))) (aN (E:=E0) (dv 4))))
 bQ))
 bQ)
 (aH (fW (E:=E0) (cW (af (dv 3) (af (dv 5) (af (ar (dv 3) (dv 7)) (af (ar (dv 3) (dv 8)) aA))))))
 bQ)))))))))
def oU(T:Txt K mg t):fB P w K mg base CX0 2 (t.A 40) (t.Q 40) ["_law_state","_law_web_here","_law_rare"] (D1 K 2 cw) "_law_taking" (top 61) :=
 oM T.g sc (i:=40) rfl rfl λ_ _ _ _ _ _ _ _ _ hr=>(
 (aH (cA (E:=E0) λvs=>(j8 (i:=3) (nd 40) rfl (Or.inl rfl) (mH aA)))
 (aH (tO (E:=E0) PassesOwn.never rfl (uc (E:=E0) (mG rfl T.n_range (ba bN cP rfl T.n_len PyProof.Rows.Boot.«len» (af (ar (dv 1) ak) aA)))) (λvs=>(b5 (i:=4) (nd 40) rfl (Or.inl rfl))) b4
 (aH (rO (Jr.dt (FC (nX (E:=E0) (dr hr.units) fq (rM 0 (aS T) hr (aW (aN (E:=E0) (dv 2)) bB)) (aN (E:=E0) ak) nm) (FA (wu (E:=E0) (aU g6 g9 (ar (ar (ar (dv 1) ak) (dv 4)) ak) bU nm)))))
 (aH (cA (E:=E0) λvs=>(jC (i:=3) rfl (Or.inl rfl) (dv 4)))
 bQ)
 bQ)
 bQ))
 (aH (fW (E:=E0) (dv 3))
 bQ))))
def ok_law(T:Txt K mg t):fB P w K mg base CX0 9 (t.A 41) (t.Q 41) ["_law_script"] (spD K 1 m_law) "law" (top 71) :=
 oD T.g sc (i:=41) rfl λ_ _ _ _ _ _ _ hr=>(
 (ag (nT PassesOwn.never rfl rfl T.n_range (ba (Bf rfl) IJ rfl T.n_max PyProof.Rows.Boot.«max» (af ak (af (ba (Be rfl) II rfl T.n_min PyProof.Rows.Boot.«min» (af (ba bN cP rfl T.n_len PyProof.Rows.Boot.«len» (af (dv 0) aA)) (af ak aA))) aA))) (b5 (i:=1) (nd 41) rfl (Or.inl rfl)) b4
 (A5 (i:=2) (nd 41) rfl (Or.inl rfl) (rF (oW T) hr (af (dv 0) (af (dv 1) aA))) λa=>(aH (cK (i:=3) (nd 41) rfl (Or.inl rfl) (rM 2 (vh T) hr (aW (aN (E:=E0) ak) (aW (aN (E:=E0) ak) bB))))
 (aH (cK (i:=4) (nd 41) rfl (Or.inl rfl) (rM 2 (oU T) hr (aW (aN (E:=E0) (dv 3)) (aW (mF (aN (E:=E0) ak) (rM 2 (aS T) hr (aW (aN (E:=E0) ak) bB))) bB))))
 (aH (cA (E:=E0) λvs=>(bg (i:=5) (nd 41) rfl (Or.inl rfl) (ba (jF hr) n6 rfl T.n_repr PyProof.Rows.Boot.«repr» (af (fO (af (dv 3) (af (dv 4) aA))) aA))))
 (BK (E:=E0) [3,4] (nd 41) rfl (Or.inl rfl) T.nl (λ_ h=>h) (rC (kD T) hr (af (dv 3) (af (dv 4) aA)))
 (Jw (E:=E0) (bL (bC (rC (rz T) hr (af (dv 3) (af (dv 4) (af (dv 6) aA))))))
 (aH (fW (E:=E0) dY)
 bQ)
 (Hc (E:=E0) (i:=7) (nd 41) rfl (Or.inl rfl) (ba (jF hr) n6 rfl T.n_repr PyProof.Rows.Boot.«repr» (af (dv 6) aA))
 (Hd (E:=E0) rfl rfl (Or.inl rfl) (aU g6 g9 (ar (dv 6) ak) bU nm)
 (G8 (E:=E0) rfl (oi hr.units) rfl (Or.inl rfl) (ar (dv 3) ak)
 (aH (rO (wu (E:=E0) (DW.dt (cu (aU (d6 hr.units) fY (ba (jF hr) n6 rfl T.n_repr PyProof.Rows.Boot.«repr» (af (rC (kD T) hr (af (dv 3) (af (dv 4) aA))) aA)) (dv 7) nm) (aY (aU (d6 hr.units) fY (ba (jF hr) n6 rfl T.n_repr PyProof.Rows.Boot.«repr» (af (fO (af (dv 3) (af (dv 4) aA))) aA)) (dv 5) nm)))))
 (aH (fW (E:=E0) dY)
 bQ)
 bQ)
 bQ)))))))))))
 (ag (aQ dY)
 ao)))
end
def txt_mk{h:Heap}(X:K.In h)(G:h.Ns mainGlobals mg)(qs:QAs K rows [a0,a1,a2,a3,a4,a5,a6,a7,a8,a9,a10,a11,a12,a13,a14,a15,a16,a17,a18,a19,a20,a21,a22,a23,a24,a25,a26,a27,a28,a29,a30,a31,a32,a33,a34,a35,a36,a37,a38,a39,a40,a41])
  (z_abs:W.nsIn K mainGlobals "abs"=some none)
  (z_all:W.nsIn K mainGlobals "all"=some none)
  (z_bool:W.nsIn K mainGlobals "bool"=some none)
  (z_dict:W.nsIn K mainGlobals "dict"=some none)
  (z_enumerate:W.nsIn K mainGlobals "enumerate"=some none)
  (z_int:W.nsIn K mainGlobals "int"=some none)
  (z_isinstance:W.nsIn K mainGlobals "isinstance"=some none)
  (yp:W.nsIn K mainGlobals "len"=some none)
  (z_list:W.nsIn K mainGlobals "list"=some none)
  (z_max:W.nsIn K mainGlobals "max"=some none)
  (z_min:W.nsIn K mainGlobals "min"=some none)
  (z_range:W.nsIn K mainGlobals "range"=some none)
  (z_repr:W.nsIn K mainGlobals "repr"=some none)
  (z_str:W.nsIn K mainGlobals "str"=some none)
  (z_tuple:W.nsIn K mainGlobals "tuple"=some none)
  (nr:W.nsIn K mainGlobals "FEWEST_PLACES"=some (some (.int 2 Bp)))
  (Eb:W.nsIn K mainGlobals "FIRST"=some (some (.int 2 K9)))
  (GX:W.nsIn K mainGlobals "LAST"=some (some (.int 3 Lp)))
  (Bw:W.nsIn K mainGlobals "LENGTH"=some (some (.int 3 Jy)))
  (Aj:W.nsIn K mainGlobals "LETTERS"=some (some (.str "abcdefghijklmnopqrstuvwxyz" Ji)))
  (oe:W.nsIn K mainGlobals "LONGEST_NAME"=some (some (.int 8 BG)))
  (rf:W.nsIn K mainGlobals "MOST_PLACES"=some (some (.int 7 D0)))
  (uN:W.nsIn K mainGlobals "MOST_TIES"=some (some (.int 14 F9)))
  (Jt:W.nsIn K mainGlobals "ONE"=some (some (.int 0 Mj)))
  (Ea:W.nsIn K mainGlobals "OTHER"=some (some (.int 1 K8)))
  (Bv:W.nsIn K mainGlobals "PLACES"=some (some (.int 0 Jx)))
  (GW:W.nsIn K mainGlobals "TIES"=some (some (.int 1 Lo)))
  (GV:W.nsIn K mainGlobals "WORD"=some (some (.int 2 Ln)))
  (D9:W.nsIn K mainGlobals "WORDS"=some (some (.ref EI)))(Ee:K.lookup EI=some E7)(Ek:∃od its n sl vs,E7=⟨.type "tuple",od,.seq its n,sl⟩/\bD vs its.toList/\its.size<=sizeLine/\∀H,Reps K H [.str "one",.str "both"] vs)
  (D8:W.nsIn K mainGlobals "WORTH"=some (some (.int 4 K7)))
  (nl:Ia K=true) :
  ∃t:Adr,Txt K mg t/\t.A 41=a41/\∃kV doc pm an cdv ct,t.Q 41=W.fnOf "law" "law" (defArgs (top 71)) (defBody (top 71)) (defScope (top 71)) .none kV doc pm an cdv ct:=by
 obtain⟨Q,hQ⟩:=F8 X G bn qs;have D_law:=(hQ 41 _ rfl).2;refine⟨⟨λi=>[a0,a1,a2,a3,a4,a5,a6,a7,a8,a9,a10,a11,a12,a13,a14,a15,a16,a17,a18,a19,a20,a21,a22,a23,a24,a25,a26,a27,a28,a29,a30,a31,a32,a33,a34,a35,a36,a37,a38,a39,a40,a41].getD i 0,Q⟩,⟨λi r h=>(hQ i r h).1,W.mg_none_of X G z_abs,W.mg_none_of X G z_all,W.mg_none_of X G z_bool,W.mg_none_of X G z_dict,W.mg_none_of X G z_enumerate,W.mg_none_of X G z_int,W.mg_none_of X G z_isinstance,W.mg_none_of X G yp,W.mg_none_of X G z_list,W.mg_none_of X G z_max,W.mg_none_of X G z_min,W.mg_none_of X G z_range,W.mg_none_of X G z_repr,W.mg_none_of X G z_str,W.mg_none_of X G z_tuple,?fj,?lY,?kg,?lX,?mJ,?fS,?gs,?jb,?qI,?ip,?fR,?ke,?qH,?uE,?n8,y0 nl⟩,rfl,D_law⟩
 case fj=>exact dh (W.mg_of X G nr)
 case lY=>exact dh (W.mg_of X G Eb)
 case kg=>exact dh (W.mg_of X G GX)
 case lX=>exact dh (W.mg_of X G Bw)
 case mJ=>exact Fo (W.mg_of X G Aj)
 case fS=>exact dh (W.mg_of X G oe)
 case gs=>exact dh (W.mg_of X G rf)
 case jb=>exact dh (W.mg_of X G uN)
 case qI=>exact dh (W.mg_of X G Jt)
 case ip=>exact dh (W.mg_of X G Ea)
 case fR=>exact dh (W.mg_of X G Bv)
 case ke=>exact dh (W.mg_of X G GW)
 case qH=>exact dh (W.mg_of X G GV)
 case uE=>
  obtain⟨od,its,n,sl,vs,rfl,h1,h2,h3⟩:=Ek;exact Fn (W.mg_of X G D9) Ee h1 h2 h3
 case n8=>exact dh (W.mg_of X G D8)
def txt_wr{R:Adr->Prop}(h:∃t:Adr,Txt K mg t/\t.A 41=a/\R t):∃t:Adr,Txt K mg t/\mg "law"=some (.ref (t.A 41))/\R t:=h.elim λt ⟨T,_,r⟩=>⟨t,T,(T.g 41 _ rfl).g,r⟩
end K14
namespace K15
open PySem L2 DL
abbrev m_ratio:ac->aj D:=Com.m_ratio
abbrev m_is_less:ac->aj D:=Com.m_is_less
abbrev m_plus:ac->aj D:=Com.m_plus
end K15
namespace Vlx
open PySem L2 DL Com Bor Pth Vlu
open K51 (Bd pl)
def eq_fr:kc (fr x) (fr y)=.ok (.bl (decide (x=y))):=by
 obtain⟨a,b⟩:=x;obtain⟨c,d⟩:=y;have h:kc (fr (a,b)) (fr (c,d))=.ok (.bl ((a==c)&&((b==d)&&true))):=by
  unfold kc;rw[if_pos ⟨rfl,rfl⟩];show aj.ok (D.bl (cq (.tup [.int a,.int b]) (.tup [.int c,.int d])))=_;rw[cq,eqDs,eqDs,eqDs,cq,cq]
 rw[h]
 by_cases e:(a,b)=(c,d)
 .cases e;simp
 .rw[decide_eq_false e]
  have:((a==c)&&((b==d)&&true))=false:=by
   rw[Bool.and_true,Bool.and_eq_false_iff]
   by_cases h1:a=c
   .right;exact beq_eq_false_iff_ne.mpr λh2=>e (by rw[h1,h2])
   .left;exact beq_eq_false_iff_ne.mpr h1
  rw[this]
end Vlx
namespace K15
open PySem L2 DL Com Bor Pth
open K11 (bR ways pr there oS)
def there_ways(T:nk zs t):there t a=some b↔(a,b)∈ways t:=by
 have ne:=T.ne;unfold there ways;rcases T.w with e|e
 .rw[if_pos e]
  constructor
  .intro h
   split at h
   .next h1=>cases h;subst h1;exact List.mem_singleton.mpr rfl
   .split at h
    .next h2=>rw[e]at h2;exact absurd h2.2 (by decide)
    .cases h
  .intro h
   have:=List.mem_singleton.mp h;cases this;rw[if_pos rfl]
 .have e1:t.w≠"one":=by rw[e];decide
  rw[if_neg e1];constructor
  .intro h
   split at h
   .next h1=>cases h;subst h1;exact List.mem_cons_self
   .split at h
    .next h2=>cases h;rw[←h2.1];exact List.mem_cons_of_mem _ (List.mem_singleton.mpr rfl)
    .cases h
  .intro h
   rcases List.mem_cons.mp h with h|h
   .cases h;rw[if_pos rfl]
   .have:=List.mem_singleton.mp h
    cases this;rw[if_neg ne,if_pos ⟨rfl,e⟩]
structure Jh where
 y:bi
 s:List Str
 z:Str
def Jh.seen(e:Jh):List Str:=e.s++[e.z]
structure K5 (w:gQ) (ks:bi) (e:Jh):Prop where
 wk:ye w ks w.fi e.y e.z
 nd:e.seen.Nodup
 pl:∀p∈e.seen,p∈w.ps
 ln:e.y.length=e.s.length
inductive Ext (w:gQ) (ks:bi):Jh->bi->Prop where
 |here {e:Jh}:e.z=w.la->Ext w ks e e.y
 |step {e:Jh}{n:Nat}{b:Str}{p:bi}:e.z≠w.la->F5 w ks n e.z b->b∉e.seen->Ext w ks ⟨e.y++[n],e.seen,b⟩ p->Ext w ks e p
open K11 (bR ways pr there oS there_ok notIn_nums du Fm)
def nums_len:(bR p).length=p.length:=by unfold bR;rw[List.length_map]
end K15
namespace K54
open PySem L2 DL
abbrev m_ratio:ac->aj D:=Com.m_ratio
abbrev m_plus:ac->aj D:=Com.m_plus
abbrev m_times:ac->aj D:=K51.m_times
abbrev m_minus:ac->aj D:=Vlu.m_minus
abbrev m_is_less:ac->aj D:=Com.m_is_less
abbrev fz:ac->aj D:=K51.fz
end K54
namespace Way
open PySem L2 DL Com Bor Pth
open K15 (Jh K5 Ext there_ways)
open K11 (bR ways there xK og qo Je)
def Kw(W:cJ w){seen:List Str}(hz:z≠w.la)(g:F5 w ks n z b)(hb:b∉seen):xK w ks seen z (.int (n:Int))=some b:=by
 obtain⟨t,t1,t2,t3⟩:=g;have hn:=(List.getElem?_eq_some_iff.mp t1).1;have T:=W.ts t (List.mem_of_getElem? t1);have ht:=(there_ways T).mpr t3;unfold xK;rw[if_neg hz];have hk:((n:Int)).toNat=n:=by omega
 simp only[hk];rw[if_pos ⟨by omega,by omega,t2⟩,t1];simp only[ht];rw[if_neg hb]
def C1(W:cJ w)(h:Ext w ks e y):∃r,y=e.y++r/\∀j,∃s,og w ks e.s e.z j (bR r)=.inr (s++[w.la]):=by
 induction h with
 |here hz=>exact⟨[],by simp,λj=>⟨_,by rw[show bR []=[] from rfl];unfold og;rw[hz]⟩⟩
 |@step e n b p hz g hb h ih=>
  obtain⟨r,e1,e2⟩:=ih;refine⟨n::r,by rw[e1];simp,λj=>?_⟩;obtain⟨s,hs⟩:=e2 (j+1);refine⟨s,?_⟩;have hg:=Kw W hz g hb;rw[show bR (n::r)=.int (n:Int)::bR r from rfl];unfold og;rw[show e.s++[e.z]=e.seen from rfl,hg];exact hs
def end_none(W:cJ w)(h:Ext w ks ⟨[],[],w.fi⟩ y):qo w (bR y).length (og w ks [] w.fi 0 (bR y))=none:=by
 obtain⟨r,e1,e2⟩:=C1 W h;obtain⟨s,hs⟩:=e2 0;have:y=r:=by simpa using e1
 subst this;have hs:og w ks [] w.fi 0 (bR y)=.inr (s++[w.la]):=hs;rw[hs];unfold qo;simp
def MZ(p:bi×fw):D:=.tup [.lst (bR p.1),fr p.2]
end Way
namespace Pth
open PySem L2 DL Com Bor K17
open K11 (bR ways pr du)
inductive Sw (w:gQ) (ks:bi):bi->List Str->Str->Prop where
 |nil:Sw w ks [] [] w.fi
 |snoc {y:bi}{s:List Str}{z b:Str}{n:Nat}:Sw w ks y s z->F5 w ks n z b->b∉s++[z]->Sw w ks (y++[n]) (s++[z]) b
def Sw.not(h:Sw w ks y s z):z∉s:=by
 cases h with|nil=>simp|snoc _ _ h=>exact h
def Sw.ext{w:gQ}{ks:bi}{y:bi}{s:List Str}{z:Str}(h:Sw w ks y s z):∀p,w.la∉s->K15.Ext w ks ⟨y,s,z⟩ p->K15.Ext w ks ⟨[],[],w.fi⟩ p:=by
 induction h with
 |nil=>exact λp _ h=>h
 |@snoc y s z b n _ g hb ih=>
  intro p hl h;have h1:w.la∉s:=λz=>hl (List.mem_append_left _ z);have h2:z≠w.la:=λq=>hl (by rw[q];simp);exact ih p h1 (.step (e:=⟨y,s,z⟩) h2 g hb h)
def Sm(w:gQ)(ks:bi)(F:List iH):Prop:=∀e∈F,∃s,Sw w ks e.y s e.p/\∀p∈s,∃d∈F,d.p=p
def Sm.start:Sm w ks [⟨w.fi,0,[]⟩]:=λe he=>by
 have:e=⟨w.fi,0,[]⟩:=by simpa using he
 subst this;exact⟨[],.nil,λ_ h=>nomatch h⟩
def Sm.step(M:Sm w ks F)(R:qU w ks zs F m)(h:xA (b8 w ks) zs F=some d):Sm w ks (F++[d]):=by
 obtain⟨j1,_,_⟩:=(jr (zs:=zs) R.nd (b8 w ks) none).1 d h;rcases j1 with j1|⟨s,hs,e,⟨hcm,hca,hcb⟩,rfl⟩
 .cases j1
 obtain⟨t,ht1,ht2,ht3⟩:=jv.mp hs;intro x hx;rcases List.mem_append.mp hx with hx|hx
 .obtain⟨u,h1,h2⟩:=M x hx
  exact⟨u,h1,λp hp=>let ⟨d,hd,e⟩:=h2 p hp;⟨d,List.mem_append_left _ hd,e⟩⟩
 .have:x=⟨s.b,e.z+eF zs s.n,e.y++[s.n]⟩:=by simpa using hx
  subst this;obtain⟨u,h1,h2⟩:=M e hcm;have old:∀p∈u++[e.p],∃d∈F,d.p=p:=λp hp=>by
   rcases List.mem_append.mp hp with hp|hp
   .exact h2 p hp
   .exact⟨e,hcm,(by simpa using hp:p=e.p).symm⟩
  refine⟨u++[e.p],.snoc h1 ⟨t,ht1,ht2,by rw[hca];exact ht3⟩ λz=>?_,λp hp=>let ⟨d,hd,e⟩:=old p hp;⟨d,List.mem_append_left _ hd,e⟩⟩;obtain⟨d,hd,e1⟩:=old _ z;exact hcb d hd e1
def Sm.ext(M:Sm w ks F)(he:e∈F)(hl:e.p=w.la):K15.Ext w ks ⟨[],[],w.fi⟩ e.y:=by
 obtain⟨s,h1,_⟩:=M e he;exact h1.ext e.y (by rw[←hl];exact h1.not) (.here (e:=⟨e.y,s,e.p⟩) hl)
section
variable {w:gQ}(W:cJ w) {ks:bi}{zs:List Int}(hl:zs.length=w.ts.length) (hz:∀z∈zs,0<=z)
include W hl hz
theorem EG:∀(f:Nat) (F:List iH) (m:Int),qU w ks zs F m->Sm w ks F->8<=F.length+f ->
  ∃G m',qU w ks zs G m'/\(yi w ks G/\Sm w ks G)/\cp rT rB f [.sh (aR w),.sh (aT ks),.sh (.lst (zs.map D.int)),.sh (.lst ((b8 w ks).map jI)),.ow (fD F),.sh (cD (xA (b8 w ks) zs F))]=.ok (.nx [.sh (aR w),.sh (aT ks),.sh (.lst (zs.map D.int)),.sh (.lst ((b8 w ks).map jI)),.ow (fD G),.sh .non]):=by
 intro f
 induction f with
 |zero=>intro F m R _ h;have:=R.len W;omega
 |succ f ih=>
  intro F m R M h;cases hn:xA (b8 w ks) zs F with
  |none=>
   refine⟨F,m,R,⟨R.shut hn,M⟩,?_⟩;exact rK (by unfold fD;open_line with[cD])
  |some d=>
   obtain⟨R',hne⟩:=R.step W hz hn;obtain⟨G,m',h1,h2,h3⟩:=ih (F++[d]) d.z R' (M.step R hn) (by rw[List.length_append,List.length_singleton];omega);refine⟨G,m',h1,h2,?_⟩;rw[←h3];refine uO (by unfold fD;open_line with[cD]) ?_;have hr:=B5 W hl hz R';have hp:=EK hne;have h9:decide ((F.map (·.p)).length<=900)=true:=decide_eq_true (by rw[List.length_map];have:=R.len W;omega);have q1:aM (cD (some d)) (.int 1)=.ok (.int d.z):=rfl;have q2:aM (cD (some d)) (.int 2)=.ok (.lst (bR d.y)):=rfl;have q0:aM (cD (some d)) (.int 0)=.ok (.str d.p):=rfl;have he:D.tup [.int d.z,.lst (bR d.y)]=ij d:=rfl;have hoD:∀c,rX [.sh (aR w),.sh (aT ks),.sh (.lst (zs.map D.int)),.sh (.lst ((b8 w ks).map jI)),.ow (fD (F++[d])),.sh c]=true:=λ_=>rfl;show rB [.sh (aR w),.sh (aT ks),.sh (.lst (zs.map D.int)),.sh (.lst ((b8 w ks).map jI)),.ow (.dic (F.map (·.p)) (F.map ij)),.sh (cD (some d))]=_;open_line with[xR,ux,uw,uv h9,q0,q1,q2,he,hp,Dj,hr,zS (Ki _) (hoD _)]
theorem uY:∃F m,qU w ks zs F m/\(yi w ks F/\Sm w ks F)/\m_all_reached [aR w,aT ks,.lst (zs.map D.int)]=.ok (fD F):=by
 have R0:=qU.start W (ks:=ks) hz;obtain⟨G,m',h1,h2,h3⟩:=EG W hl hz (ks:=ks) 8 [⟨w.fi,0,[]⟩] 0 R0 Sm.start (by simp);refine⟨G,m',h1,h2,?_⟩;have hs:=steps_ok W (ks:=ks);have hn:=B5 W hl hz R0;have i2:aM (aR w) (.int 2)=.ok (.str w.fi):=rfl;have hf:fD [⟨w.fi,0,[]⟩]=.dic [w.fi] [.tup [.int 0,.lst []]]:=rfl;rw[hf]at hn h3;have hoD:rX [.sh (aR w),.sh (aT ks),.sh (.lst (zs.map D.int)),.sh (.lst ((b8 w ks).map jI)),.ow (.dic [w.fi] [.tup [.int 0,.lst []]]),.no]=true:=rfl;have hw:∀(c:al) (s:am) (ρ:Ev),gW (λ_=>8) c s ρ=cp c s 8 ρ:=λ_ _ _=>rfl;unfold fD at h3 ⊢;open_line with[m_all_reached,jR,hs,i2,xS,Fz,Dk,uy,Dj,hn,zS (Ki _) hoD,hw,h3]
end
def tQ(W:cJ w):∃F m,qU w ks (lz w) F m/\(yi w ks F/\Sm w ks F)/\m_shortest [aR w,aT ks]=.ok (fU w F):=by
 obtain⟨F,m,R,S,hr⟩:=uY W (ks:=ks) (Ie W) (Gn W);refine⟨F,m,R,S,?_⟩;have hs:=Ax W;obtain⟨y5,hl⟩:=Ct W R (A:=aT ks) w.ps [] .no (by rw[List.nil_append];exact W.nm.nd) (by rw[List.nil_append];exact W.n7);rw[List.nil_append,List.map_nil]at hl;have i0:aM (aR w) (.int 0)=.ok (.lst (w.ps.map D.str)):=rfl;have i3:aM (aR w) (.int 3)=.ok (.str w.la):=rfl;have hni:=Fw (F:=F) w.la;have hpr:=Cg (w:=w) (F:=F) W.la;unfold fU;cases hg:get F w.la with
 |none=>
  rw[hg]at hni;simp only[Option.isSome_none,Bool.not_false]at hni;open_line with[m_shortest,kh,hs,hr,xS,uy,i0,hl,i3,hni]
  rfl
 |some e=>
  rw[hg]at hni;simp only[Option.isSome_some,Bool.not_true]at hni;have h5:aM (ij e) (.int 1)=.ok (.lst (bR e.y)):=rfl;have hpf:pf w F w.la=some (e9 e.z (lB w)):=by unfold pf;rw[hg];rfl
  rw[hpf]at hpr;unfold D3 at hpr ⊢;open_line with[m_shortest,kh,hs,hr,xS,uy,i0,hl,i3,hni,Gu hg,h5,hpr]
  rfl
def AV(W:cJ w)(T:tH w ks):∃F m,qU w ks (lz w) F m/\(yi w ks F/\Sm w ks F)/\m_least_way [aR w,aT ks]=.ok (fU w F):=by
 obtain⟨F,m,R,S,h⟩:=tQ W (ks:=ks);have ht:K17.m_look_at_taking [aR w,aT ks]=.ok .non:=Com.taking_ok W T;exact⟨F,m,R,S,by open_line with[m_least_way,nc,ht,h]⟩
end Pth
namespace K54
open PySem L2 DL Com Bor Pth
open K51 (Bd El mt pl EO iS BE AQ Fj o5 Kk rV low_bd comp_pick)
open Vlu (mi CG)
open Way (MZ)
open K11 (bR)
open K15 (Ext)
def val_inj(hx:Low x)(hy:Low y)(h:val x=val y):x=y:=by
 refine CM hx hy ?_;have p1:=cE (a:=x.2) (by have:=hx.q1;omega);have p2:=cE (a:=y.2) (by have:=hy.q1;omega);unfold val at h;have e:(x.1:Rat)*(y.2:Rat)=(y.1:Rat)*(x.2:Rat):=by grind
 rw[←Rat.intCast_mul,←Rat.intCast_mul]at e;exact Rat.intCast_inj.mp e
end K54
namespace K51
open PySem L2 DL Com Bor
def yA(h0:0<n)(hn:n<=1919)(h:i.natAbs<2 ^ n):Rp (.int i) (n+1) 0:=by
 refine⟨.int i,by rw[eG],?_,by rw[PyData.depth]<;>simp,?_⟩
 .rw[PyData.showable]
  refine decide_eq_true ?_
  by_cases h0:i.natAbs=0
  .rw[h0];decide
  .exact Nat.lt_of_lt_of_le ((Nat.log2_lt h0).mpr h) (by omega)
 .rw[PyData.shown,PySem.ofString_length]
  cases i with
  |ofNat m=>
   have:=nat_repr_length_le (n:=m) (k:=n) h0 h;show(Nat.repr m).length<=n+1;omega
  |negSucc m=>
   have:=nat_repr_length_le (n:=m+1) (k:=n) h0 h;show("-"++Nat.repr (m+1)).length<=n+1;rw[String.length_append];have h1 : "-".length=1:=rfl;omega
def xn(h:Bd x n)(h0:0<n)(hn:n<=1919):Rp (fr x) (2*n+9) 1 :=
 (Rp.tup (gj.cons (yA h0 hn h.a) (gj.cons (yA h0 hn h.b) gj.nil))).up (by simp;omega) (Nat.le_refl _)
end K51
namespace K14
open PySem L2 DL Com Bor Pth
open K51 (Bd iS o5 rV pl)
open K11 (bR ways there oS)
def Fp{q:Str->Option fw}(ha:a∈w.ps)(hb:b∈w.ps)(hl:gp l)(ho:∀x,q a=some x->GU x)(ho':∀x,q b=some x->GU x)(h:∀x,q a=some x->∃y,q b=some y/\val y<=val x+val l) :
  dX [qD w q,.str a,.str b,fr l]=.ok (.bl true):=by
 have ga:=yE (q:=q) ha;have gb:=yE (q:=q) hb;cases e:q a with
 |none=>
  rw[e]at ga;have hn:eV (aV none) .non=.ok (.bl true):=rfl;open_line with[dX,jg,ga,hn]
 |some x=>
  obtain⟨y,e2,hv⟩:=h x e;have px:=ho x e;have py:=ho' y e2;have bl:=C0 hl;have hp:=iS px.b bl (by decide);have hle:=o5 (rV px.b bl) py.b (by decide) (by decide);have hf:flt (pl x l) y=false:=by
   rw[Fv (rV px.b bl).q0 py.q,BB px.q bl.q0];refine decide_eq_false λz=>?_;exact absurd z (Rat.not_lt.mpr hv)
  rw[hf]at hle;rw[e]at ga;rw[e2]at gb;have hn:eV (fr x) .non=.ok (.bl false):=rfl;have hn':cU (fr y) .non=.ok (.bl true):=rfl;have ga:cc (qD w q) (.str a)=.ok (fr x):=ga;have gb:cc (qD w q) (.str b)=.ok (fr y):=gb;have hp:bS [fr x,fr l]=.ok (fr (pl x l)):=hp;have hle:c8 [fr (pl x l),fr y]=.ok (.bl false):=hle;open_line with[dX,jg,ga,gb,hn,hn',hp,hle]
def CN(h:GU x):bM [fr x]=.ok (.bl true):=by
 have hc:=h.b.c13 (by decide);have:=K51.llen_two h.p0 h.b.q0 hc.1 hc.2;rw[K51.low_same h.lo,show D.tup [.int x.1,.int x.2]=fr x from rfl,xQ]at this;exact this
abbrev nB:am :=
 (av (dw (gh (aa (ae 3) (ae 2) eL) (eg (aa (aa (ae 2) (ae 3) cc) (dC (.non)) cU) (cb (au (ai (aa (ae 2) (ae 3) cc) aF) bM))))
 (av (bz (dC (.bl false)))
 aq)
 aq)
 aq)
noncomputable abbrev hB:am :=
 (av (bE 6 (au (ai (aa (aa (ae 0) (dC (.int 1)) aM) (ae 4) aM) (ai (ae 5) aF)) bw))
 (av (dw (eg (aa (ae 4) (ae 1) cO) (aa (ae 6) (dC (.non)) cU))
 (av (dw (cb (au (ai (ae 2) (ai (ae 5) (ai (ae 6) (ai (aa (aa (aa (ae 0) (dC (.int 1)) aM) (ae 4) aM) (dC (.int 3)) aM) aF)))) dX))
 (av (bz (dC (.bl false)))
 aq)
 aq)
 aq)
 aq)
 aq))
abbrev tB:am :=
 (av (iL (Aq (Ba (aa (aa (ae 0) (dC (.int 1)) aM) (ae 4) aM) fu (eP (dC (.int 2))))) (bW 5)
 hB)
 aq)
section
variable {w:gQ}(W:cJ w) {ks:bi}{q:Str->Option fw}(h:∀p∈w.ps,∀x,q p=some x->GU x)
include W h
theorem ub(x3:Sl):∃y3,b3 (bW 3) nB (w.ps.map D.str) [.sh (aR w),.sh (aT ks),.sh (qD w q),x3,x4,x5,x6]=.ok (.nx [.sh (aR w),.sh (aT ks),.sh (qD w q),y3,x4,x5,x6]):=by
 obtain⟨ρ',e,y3,rfl⟩:=zp (tg:=bW 3) (body:=nB) (λρ=>∃y3,ρ=[.sh (aR w),.sh (aT ks),.sh (qD w q),y3,x4,x5,x6]) (ds:=w.ps.map D.str) (by
  rintro d hd ρ ⟨y3,rfl⟩;obtain⟨p,hp,rfl⟩:=List.mem_map.mp hd;refine⟨_,[.sh (aR w),.sh (aT ks),.sh (qD w q),.sh (.str p),x4,x5,x6],rfl,?_,_,rfl⟩;have hg:=yE (q:=q) hp;have hin:eL (.str p) (qD w q)=.ok (.bl false):=by
   show aj.ok (D.bl (!(nj w.ps (w.ps.map λp=>aV (q p)) p).isSome))=_;rw[uG,if_pos hp];rfl
  show nB [.sh (aR w),.sh (aT ks),.sh (qD w q),.sh (.str p),x4,x5,x6]=_;cases e:q p with
  |none=>
   rw[e]at hg;have hn:cU (aV none) .non=.ok (.bl false):=rfl;open_line with[hin,hg,hn]
  |some x=>
   rw[e]at hg;have hg:cc (qD w q) (.str p)=.ok (fr x):=hg;have hn:cU (fr x) .non=.ok (.bl true):=rfl;open_line with[hin,hg,hn,CN (h p hp x e)]) _ ⟨x3,rfl⟩
 exact⟨y3,e⟩
theorem Gr(hl:∀s∈b8 w ks,Md w q s){n:Nat}(ht:w.ts[n]?=some t) :
  ∃y6,hB [.sh (aR w),.sh (aT ks),.sh (qD w q),x3,.sh (.int (n:Int)),.sh (.str z),x6]=.ok (.nx [.sh (aR w),.sh (aT ks),.sh (qD w q),x3,.sh (.int (n:Int)),.sh (.str z),y6]):=by
 have i1:aM (aR w) (.int 1)=.ok (.lst (w.ts.map bK)):=rfl;have hix:=oj ht;have TT:=W.ts t (List.mem_of_getElem? ht);have hth:bw [bK t,.str z]=.ok (oS (there t z)):=K11.there_ok;have hni:cO (.int (n:Int)) (aT ks)=.ok (.bl (!(decide (n∈ks)))):=K11.notIn_nums;have i3:aM (bK t) (.int 3)=.ok (fr t.l):=rfl;refine⟨.sh (oS (there t z)),?_⟩
 by_cases hk:n∈ks
 .rw[decide_eq_true hk]at hni
  open_line with[i1,hix,hth,hni]
 .rw[decide_eq_false hk]at hni
  cases hz:there t z with
  |none=>
   rw[hz]at hth;have hn:cU (oS none) .non=.ok (.bl false):=rfl;open_line with[i1,hix,hth,hni,hn]
  |some b=>
   rw[hz]at hth;have hn:cU (.str b) .non=.ok (.bl true):=rfl;have hth:bw [bK t,.str z]=.ok (.str b):=hth;have hw:=(K15.there_ways TT).mp hz;obtain⟨wa,wb,_⟩:=yr TT hw;have hs:(⟨n,z,b⟩:yh)∈b8 w ks:=jv.mpr ⟨t,ht,hk,hw⟩;have hk:=Fp (q:=q) wa wb TT.l (h z wa) (h b wb) (λx hx=>hl _ hs x hx t ht);show hB _=.ok (.nx [.sh (aR w),.sh (aT ks),.sh (qD w q),x3,.sh (.int (n:Int)),.sh (.str z),.sh (.str b)]);open_line with[i1,hix,hth,hni,hn,i3,hk]
theorem AS(h0:q w.fi=some (0,1))(hl:∀s∈b8 w ks,Md w q s):dz [aR w,aT ks,qD w q]=.ok (.bl true):=by
 have n7:=W.n7;have t14:=W.t14;have i0:aM (aR w) (.int 0)=.ok (.lst (w.ps.map D.str)):=rfl;have i1:aM (aR w) (.int 1)=.ok (.lst (w.ts.map bK)):=rfl;have i2:aM (aR w) (.int 2)=.ok (.str w.fi):=rfl;have hlP:dm (.lst (w.ps.map D.str))=.ok (.int w.ps.length):=by rw[dO,List.length_map]
 have hlT:dm (.lst (w.ts.map bK))=.ok (.int w.ts.length):=by rw[dO,List.length_map]
 have hlQ:zW (qD w q)=.ok (.int w.ps.length):=rfl;have hd:c4 "dict" (qD w q)=.ok (.bl true):=rfl;have hg:=yE (q:=q) W.fi;rw[h0]at hg;have hg:cc (qD w q) (.str w.fi)=.ok (.tup [.int 0,.int 1]):=hg;have hbn:((w.ps.length:Int) != (w.ps.length:Int))=false:=by simp
 have hnn:eV (.tup [.int 0,.int 1]) .non=.ok (.bl false):=rfl;obtain⟨y3,e3⟩:=ub W (ks:=ks) h .no (x4:=.no) (x5:=.no) (x6:=.no);obtain⟨ρ',e4,y4,y5,y6,rfl⟩:=uk (i:=4) (body:=tB) (λ_ ρ=>∃y4 y5 y6,ρ=[.sh (aR w),.sh (aT ks),.sh (qD w q),y3,y4,y5,y6]) (n:=w.ts.length) (by
  rintro n hn ρ ⟨y4,y5,y6,rfl⟩;have ht:=List.getElem?_eq_getElem hn;have hix:=oj ht;have hsl:BM (bK w.ts[n]) none (some 2)=.ok (.tup [.str w.ts[n].a,.str w.ts[n].b]):=(pE (by rfl)).trans rfl;obtain⟨a6,e1⟩:=Gr W h hl ht (z:=w.ts[n].a) (x3:=y3) (x6:=y6);obtain⟨b6,e2⟩:=Gr W h hl ht (z:=w.ts[n].b) (x3:=y3) (x6:=a6);have hf:b3 (bW 5) hB [.str w.ts[n].a,.str w.ts[n].b] [.sh (aR w),.sh (aT ks),.sh (qD w q),y3,.sh (.int (n:Int)),y5,y6]=.ok (.nx [.sh (aR w),.sh (aT ks),.sh (qD w q),y3,.sh (.int (n:Int)),.sh (.str w.ts[n].b),b6]):=by
   rw[dN (ρ1:=[.sh (aR w),.sh (aT ks),.sh (qD w q),y3,.sh (.int (n:Int)),.sh (.str w.ts[n].a),y6]) rfl e1,dN (ρ1:=[.sh (aR w),.sh (aT ks),.sh (qD w q),y3,.sh (.int (n:Int)),.sh (.str w.ts[n].b),a6]) rfl e2];rfl
  refine⟨[.sh (aR w),.sh (aT ks),.sh (qD w q),y3,.sh (.int (n:Int)),.sh (.str w.ts[n].b),b6],?_,_,_,_,rfl⟩;show tB [.sh (aR w),.sh (aT ks),.sh (qD w q),y3,.sh (.int (n:Int)),y5,y6]=_;open_line with[i1,hix,hsl,hf]) (ρ:=[.sh (aR w),.sh (aT ks),.sh (qD w q),y3,.no,.no,.no]) ⟨_,_,_,rfl⟩
 have hfr:=λs:am=>gF (tg:=bW 4) (s:=s) (ρ:=[.sh (aR w),.sh (aT ks),.sh (qD w q),y3,.no,.no,.no]) (k:=w.ts.length) (by omega);have hne:iG (.int 0) (.int 0)=.ok (.bl false):=rfl;open_line with[dz,jT,hd,i0,hlP,hlQ,hbn,e3,i2,hg,hnn,hne,i1,hlT,hfr,e4]
end
end K14
namespace K17
open PySem L2 DL Com Bor Pth
def rp_tup{n k:Nat}(h:Rp (.tup ds) n k)(hn:n<=sizeLine)(hk:k<=100):∃z,ef (.tup ds)=.ok (.str z):=by
 obtain⟨p,h1,h2,h3,h4⟩:=h;refine⟨p.shown,?_⟩;unfold ef;rw[h1];show(if _ then _ else _)=_;have hs:jL p=true:=by
  unfold jL;rw[h2,decide_eq_true (Nat.le_trans h3 hk),decide_eq_true (Nat.le_trans h4 hn)];rfl
 rw[if_pos ⟨rfl,hs⟩]
end K17
namespace K14
open PySem L2 DL Com Bor Pth
open K51 (Bd iS rV un_bd pl xn)
open K11 (bR Je qo Dl)
abbrev sB:am :=
 (av (bE 6 (au (ai (ae 6) (ai (aa (aa (aa (ae 0) (dC (.int 1)) aM) (ae 7) aM) (dC (.int 3)) aM) aF)) bS))
 aq)
section
variable {w:gQ}(W:cJ w) (hw:∀t∈w.ts,mK t) {ks:bi}{F:List iH}{m:Int}(R:qU w ks (lz w) F m) (S:yi w ks F) (M:Sm w ks F)
include W
theorem Ht(hy:∀n∈y,n<w.ts.length)(h7:y.length<=7):∃(x:fw) (y7:Sl),b3 (bW 7) sB (bR y) [.sh (aR w),.sh d1,.sh d2,.sh d3,.sh d4,.sh d5,.sh (.tup [.int 0,.int 1]),.no]=.ok (.nx [.sh (aR w),.sh d1,.sh d2,.sh d3,.sh d4,.sh d5,.sh (fr x),y7])/\Low x/\val x=o7 w y:=by
 have i1:aM (aR w) (.int 1)=.ok (.lst (w.ts.map bK)):=rfl;obtain⟨ρ',e,x,y7,rfl,lo,b,hv⟩:=nM (tg:=bW 7) (body:=sB) (ds:=bR y) (λk ρ=>∃(x:fw) (y7:Sl),ρ=[.sh (aR w),.sh d1,.sh d2,.sh d3,.sh d4,.sh d5,.sh (fr x),y7]/\Low x/\Bd x (1+201*k)/\val x=o7 w (y.take k)) (by
  rintro k d hd ρ ⟨x,y7,rfl,lo,b,hv⟩;unfold bR at hd;rw[List.getElem?_map]at hd;cases hn:y[k]? with
  |none=>rw[hn]at hd;cases hd
  |some n=>
   rw[hn]at hd;cases hd;have hk:k<y.length:=(List.getElem?_eq_some_iff.mp hn).1;have hnl:=hy n (List.mem_of_getElem? hn);have ht:=List.getElem?_eq_getElem hnl;have hix:=oj ht;have i3:aM (bK w.ts[n]) (.int 3)=.ok (fr w.ts[n].l):=rfl;have bl:=C0 (W.ts _ (List.getElem_mem hnl)).l;have hp:bS [fr x,fr w.ts[n].l]=.ok (fr (pl x w.ts[n].l)):=iS b bl (by omega);refine⟨_,[.sh (aR w),.sh d1,.sh d2,.sh d3,.sh d4,.sh d5,.sh (fr (pl x w.ts[n].l)),.sh (.int (n:Int))],rfl,?_,_,_,rfl,ig (un_bd b bl).q0,(rV b bl).up (by omega),?_⟩
   .show sB [.sh (aR w),.sh d1,.sh d2,.sh d3,.sh d4,.sh d5,.sh (fr x),.sh (.int (n:Int))]=_
    open_line with[i1,hix,i3,hp]
   .rw[BB b.q0 bl.q0,hv,List.take_add_one,hn]
    show _=o7 w (y.take k++[n]);rw[AU,K12.lenAt_of ht]) (ρ:=[.sh (aR w),.sh d1,.sh d2,.sh d3,.sh d4,.sh d5,.sh (fr (0,1)),.no]) ⟨(0,1),_,rfl,⟨by decide,by decide⟩,⟨by decide,by decide,by decide⟩,by
   rw[List.take_zero];show((0:Int):Rat) / ((1:Int):Rat)=0
   grind⟩
 refine⟨x,y7,e,lo,?_⟩;rw[hv,K15.nums_len,List.take_length]
include R S M
theorem B0:ck [aR w,aT ks,fU w F]=.ok (.bl true):=by
 have hlet:dz [aR w,aT ks,D3 w F]=.ok (.bl true):=AS W (q:=pf w F) (HM W R) (J2 W R) λs hs=>HN W R S hs;have i3:aM (aR w) (.int 3)=.ok (.str w.la):=rfl;have hpr:=Cg (w:=w) (F:=F) W.la;unfold fU;cases hg:get F w.la with
 |none=>
  have hpf:pf w F w.la=none:=by unfold pf;rw[hg];rfl
  rw[hpf]at hpr;have hpr:cc (D3 w F) (.str w.la)=.ok .non:=hpr;open_line with[ck,ir,hlet,i3,hpr]
 |some e=>
  obtain⟨he,hp⟩:=cR hg;have hpf:pf w F w.la=some (e9 e.z (lB w)):=by unfold pf;rw[hg];rfl
  rw[hpf]at hpr;have hpr:cc (D3 w F) (.str w.la)=.ok (fr (e9 e.z (lB w))):=hpr;obtain⟨k1,k2,k3,k4⟩:=R.wy e he;have hle:=R.len W;have hel:∀d∈bR e.y,Je d:=λd hd=>by
   obtain⟨n,_,rfl⟩:=List.mem_map.mp hd;exact .inl rfl
  obtain⟨seen,hw⟩:=K11.wrong_list (w:=w) (ks:=ks) hel (by rw[K15.nums_len];omega);rw[Way.end_none W (M.ext he hp)]at hw;have hw:cj [aR w,aT ks,.lst (bR e.y)]=.ok (.tup [.str "way",.lst (seen.map D.str)]):=hw;obtain⟨x,y7,hs,lo,hv⟩:=Ht W (y:=e.y) (λn hn=>(km k1 n hn).1) (by omega) (d1:=aT ks) (d2:=.tup [.lst (bR e.y),fr (e9 e.z (lB w)),D3 w F]) (d3:=.lst (bR e.y)) (d4:=fr (e9 e.z (lB w))) (d5:=D3 w F);have hx:x=e9 e.z (lB w):=K54.val_inj lo (ig (iA W).1) (by rw[hv,(ur W R he).2]);subst hx;have heq:kc (fr (e9 e.z (lB w))) (fr (e9 e.z (lB w)))=.ok (.bl true):=by rw[Vlx.eq_fr,decide_eq_true rfl]
  have hn1:eV (fr (e9 e.z (lB w))) .non=.ok (.bl false):=rfl;have hn2:c4 "tuple" (fr (e9 e.z (lB w)))=.ok (.bl true):=rfl;have hne:iG (.str "way") (.str "way")=.ok (.bl false):=rfl;open_line with[ck,ir,hlet,hw,hn1,hn2,hne,hs,heq,i3,hpr]
end
theorem vz:∀{ks:List Str}{ps:List PyData}{n k:Nat},ks.length=ps.length->(∀z∈ks,nameB z=true)->PyData.showableAll ps=true->PyData.depthAll ps<=k->((PyData.shownAll ps).map (λx=>x.length)).sum<=n ->
  PyData.showableKv ((ks.map PyData.str).zip ps)=true/\PyData.depthKv ((ks.map PyData.str).zip ps)<=k/\(PyData.shownKv ((ks.map PyData.str).zip ps)).length=ps.length/\((PyData.shownKv ((ks.map PyData.str).zip ps)).map (λx=>x.length)).sum<=n+84*ps.length
 |[],[],n,k,_,_,_,_,_=>by
  refine⟨rfl,?_,?_,?_⟩
  .show PyData.depthKv []<=k
   rw[PyData.depthKv];omega
  .show(PyData.shownKv []).length=0
   rw[PyData.shownKv];rfl
  .show((PyData.shownKv []).map _).sum<=_
   rw[PyData.shownKv];simp
 |i::ks,p::ps,n,k,hl,hi,hs,hd,hn=>by
  rw[PyData.showableAll,Bool.and_eq_true]at hs;rw[PyData.depthAll]at hd;rw[PyData.shownAll,List.map_cons,List.sum_cons]at hn;obtain⟨h1,h2,h3,h4⟩:=vz (ks:=ks) (ps:=ps) (n:=n-p.shown.length) (k:=k) (by simpa using hl) (λj hj=>hi j (List.mem_cons_of_mem _ hj)) hs.2 (by omega) (by omega);obtain⟨_,e1,e2,e3,e4⟩:=jo (hi i List.mem_cons_self);rw[eG]at e1;cases e1;rw[List.map_cons,List.zip_cons_cons];refine⟨?_,?_,?_,?_⟩
  .rw[PyData.showableKv,e2,hs.1,h1];rfl
  .rw[PyData.depthKv]
   omega
  .rw[PyData.shownKv,List.length_cons,h3,List.length_cons]
  .rw[PyData.shownKv,List.map_cons,List.sum_cons,strLen_append,strLen_append,List.length_cons]
   have:(": ":Str).length=2:=by rw[PySem.ofString_length];rfl
   omega
def HD{n k:Nat}(hl:ks.length=ds.length)(hi:∀z∈ks,nameB z=true)(h:gj ds n k):Rp (.dic ks ds) (n+86*ds.length+3) (k+1):=by
 obtain⟨ps,t1,t2,t3,t4,t5⟩:=h;obtain⟨h1,h2,h3,h4⟩:=vz (ks:=ks) (ps:=ps) (by omega) hi t3 t4 t5;refine⟨.dict ((ks.map PyData.str).zip ps),by rw[eG,t1];rfl,by rw[PyData.showable];exact h1,by rw[PyData.depth];omega,?_⟩;rw[PyData.shown];have:=dictText_len_le (PyData.shownKv ((ks.map PyData.str).zip ps));omega
def HC(W:cJ w)(hw:∀t∈w.ts,mK t)(R:qU w ks (lz w) F m):∃z,ef (fU w F)=.ok (.str z):=by
 have n7:=W.n7;have hd:Rp (D3 w F) 6000 2:=by
  refine(HD (n:=300*w.ps.length) (k:=1) (by rw[List.length_map]) (λz hz=>W.nm.nm z hz) ?_).up (by rw[List.length_map];omega) (by decide);have:=gj.all (a:=300) (k:=1) (ds:=w.ps.map λp=>aV (pf w F p)) (λd hd=>by
   obtain⟨p,hp,rfl⟩:=List.mem_map.mp hd;cases e:pf w F p with
   |none=>exact Rp.non.up (by decide) (by decide)
   |some x=>
    unfold pf at e;cases hg:get F p with
    |none=>rw[hg]at e;cases e
    |some u=>
     rw[hg]at e;cases e;exact(xn (Vlu.ent_small W hw R (cR hg).1) (by decide) (by decide)).up (by decide) (by decide))
  rw[List.length_map]at this;exact this
 unfold fU;cases hg:get F w.la with
 |none=>exact K17.rp_tup (Rp.tup (gj.cons (Rp.non.up (by decide:4<=10) (by decide:0<=2)) (gj.cons (Rp.non.up (by decide:4<=10) (by decide:0<=2)) (gj.cons hd gj.nil)))) (by show 10+(10+(6000+0))+2*3+3<=sizeLine;decide) (by decide)
 |some e=>
  obtain⟨he,_⟩:=cR hg;obtain⟨k1,_,_,k4⟩:=R.wy e he;have hle:=R.len W;have hn:Rp (.lst (bR e.y)) 2000 2:=(yz (ks:=e.y) (n:=7) (by omega) (λn hn=>by
   have:=(km k1 n hn).1;have:=W.t14;exact Nat.lt_of_lt_of_le (show n<16 by omega) (by decide))).up (by decide) (by decide)
  exact K17.rp_tup (Rp.tup (gj.cons hn (gj.cons ((xn (Vlu.ent_small W hw R he) (by decide) (by decide)).up (by decide:2*130+9<=300) (by decide:1<=2)) (gj.cons hd gj.nil)))) (by show 2000+(300+(6000+0))+2*3+3<=sizeLine;decide) (by decide)
open K11 (bR)
theorem oI:∀(ps:List Str),plainDs (ps.map D.str)=true
 |[]=>rfl
 |p::ps=>by
  show(plainD (.str p)&&plainDs (ps.map D.str))=true;rw[oI ps];rfl
def AD(t:uJ):plainD (bK t)=true:=by
 obtain⟨a,b,w,l,o⟩:=t;cases o<;>rfl
theorem oH:∀(ts:List uJ),plainDs (ts.map bK)=true
 |[]=>rfl
 |t::ts=>by
  show(plainD (bK t)&&plainDs (ts.map bK))=true;rw[oH ts,AD];rfl
theorem oJ:∀(ks:bi),plainDs (bR ks)=true
 |[]=>rfl
 |k::ks=>by
  show(plainD (.int (k:Int))&&plainDs (bR ks))=true;rw[oJ ks];rfl
def AB(w:gQ):plainD (aR w)=true:=by
 show(plainD (.lst (w.ps.map D.str))&&(plainD (.lst (w.ts.map bK))&&(plainD (.str w.fi)&&(plainD (.str w.la)&&true))))=true;rw[show plainD (.lst (w.ps.map D.str))=true from oI _,show plainD (.lst (w.ts.map bK))=true from oH _];rfl
theorem vI:∀(ps:List Str),¬hasIs ns (ps.map D.str)
 |[],h=>by rw[List.map_nil,hasIs]at h;exact h
 |p::ps,h=>by
  rw[List.map_cons,hasIs,fH]at h
  .rcases h with h|h
   .exact h
   .exact vI ps h
  .intro _ z;cases z
  .intro _ z;cases z
def zm:¬fH ns (.tup [.int a,.int b]):=λh=>by
 rw[fH,hasIs,hasIs,hasIs]at h;rcases h with h|h|h
 .rw[fH]at h
  .exact h
  .intro _ z;cases z
  .intro _ z;cases z
 .rw[fH]at h
  .exact h
  .intro _ z;cases z
  .intro _ z;cases z
 .exact h
def j6(h1:∀ds,d≠.tup ds)(h2:∀ds,d≠.lst ds):¬fH ns d:=λh=>by
 rw[fH]at h
 .exact h
 .exact λds z=>h1 ds z
 .exact λds z=>h2 ds z
def Fu(t:uJ):¬fH ns (bK t):=λh=>by
 obtain⟨a,b,w,l,o⟩:=t;have h:fH ns (.tup [.str a,.str b,.str w,fr l,aV o]):=h;rw[fH,hasIs,hasIs,hasIs,hasIs,hasIs,hasIs]at h;rcases h with h|h|h|h|h|h
 .exact j6 (λ_ z=>by cases z) (λ_ z=>by cases z) h
 .exact j6 (λ_ z=>by cases z) (λ_ z=>by cases z) h
 .exact j6 (λ_ z=>by cases z) (λ_ z=>by cases z) h
 .exact zm h
 .cases o with
  |none=>exact j6 (d:=.non) (λ_ z=>by cases z) (λ_ z=>by cases z) h
  |some x=>exact zm h
 .exact h
theorem vH:∀(ts:List uJ),¬hasIs ns (ts.map bK)
 |[],h=>by rw[List.map_nil,hasIs]at h;exact h
 |t::ts,h=>by
  rw[List.map_cons,hasIs]at h;rcases h with h|h
  .exact Fu t h
  .exact vH ts h
theorem vJ:∀(ks:bi),¬hasIs ns (bR ks)
 |[],h=>by rw[show bR []=[] from rfl,hasIs]at h;exact h
 |k::ks,h=>by
  rw[show bR (k::ks)=.int (k:Int)::bR ks from rfl,hasIs]at h;rcases h with h|h
  .exact j6 (λ_ z=>by cases z) (λ_ z=>by cases z) h
  .exact vJ ks h
def Eg(W:cJ w):¬fH (n::ns) (aR w):=λh=>by
 have n2:=W.n2;have h:fH (n::ns) (.tup [.lst (w.ps.map D.str),.lst (w.ts.map bK),.str w.fi,.str w.la]):=h;rw[fH,hasIs,hasIs,hasIs,hasIs,hasIs]at h;rcases h with h|h|h|h|h
 .rw[fH]at h
  rcases h with h|h
  .cases hp:w.ps with
   |nil=>rw[hp]at n2;simp at n2
   |cons p ps=>rw[hp,List.map_cons,List.map_cons]at h;cases h
  .exact vI _ h
 .rw[fH]at h
  rcases h with h|h
  .cases hp:w.ts with
   |nil=>rw[hp]at h;cases h
   |cons t ts=>rw[hp,List.map_cons,List.map_cons]at h;cases h
  .exact vH _ h
 .exact j6 (λ_ z=>by cases z) (λ_ z=>by cases z) h
 .exact j6 (λ_ z=>by cases z) (λ_ z=>by cases z) h
 .exact h
def CA(hn:n∉ks):¬fH (((n::y).map λ(k:Nat)=>(k:Int))) (aT ks):=λh=>by
 have h:fH ((n::y).map λ(k:Nat)=>(k:Int)) (.lst (bR ks)):=h;rw[fH]at h;rcases h with h|h
 .have:D.int (n:Int)∈bR ks:=by rw[h];simp
  obtain⟨k,hk,e⟩:=List.mem_map.mp this;have:(k:Int)=(n:Int):=by injection e
  have:k=n:=by omega
  exact hn (this▸hk)
 .exact vJ _ h
def BA(h:ye w ks a p b)(hp:p=[]):b=a:=by
 cases h with|nil=>rfl|snoc _ _=>simp at hp
def E4(W:cJ w)(R:qU w ks (lz w) F m)(h3:ρ[3]?=some (.sh (aR w)))(h4:ρ[4]?=some (.sh (aT ks)))(hn:rY ρ=true):Ka [3,4] ρ (fU w F):=by
 have n7:=W.n7;have hl:w.ps.length<line:=Nat.lt_of_le_of_lt n7 (by decide);refine⟨λj hj d' e=>?_,hn,?_⟩
 .have:j=3∨j=4:=by simpa using hj
  rcases this with rfl|rfl
  .rw[h3]at e;cases e;exact AB w
  .rw[h4]at e;cases e;exact oJ ks
 .unfold fU
  cases hg:get F w.la with
  |none=>exact hl
  |some e=>
   obtain⟨he,hp⟩:=cR hg;obtain⟨k1,_,_,k4⟩:=R.wy e he;have hle:=R.len W;refine⟨hl,e.y.map λ(k:Nat)=>(k:Int),by unfold bR;rw[List.map_map];rfl,by rw[List.length_map];exact Nat.lt_of_le_of_lt (show e.y.length<=7 by omega) (by decide),λj hj d' ed=>?_⟩;cases hy:e.y with
   |nil=>
    rw[hy]at k1;have:e.p=w.fi:=BA k1 rfl;exact absurd (this.symm.trans hp) W.ne
   |cons n y=>
    have hnk:=(km k1 n (by rw[hy];exact List.mem_cons_self)).2;have:j=3∨j=4:=by simpa using hj
    rcases this with rfl|rfl
    .rw[h3]at ed;cases ed;exact Eg W
    .rw[h4]at ed;cases ed;exact CA hnk
noncomputable abbrev yZ(a:Addr):Ev->ac->aj cy:=(bx (d8 3 (bT 2 a (bp (mP (dC (.int 7))) (bp (mP (dC (.int 14))) cH)) c7))
 (bx (d8 4 (bT 2 a (bp (mP (ae 3)) (bp (mB (mP (dC (.int 2))) (bT 2 a (bp (mP (dC (.int 6))) cH) aL) cn) cH)) cw))
 (bx (dA (bE 5 (au (ai (au (ai (ae 3) (ai (ae 4) aF)) eR) aF) (m1 ef))))
 (oZ 6 [3,4] (au (ai (ae 3) (ai (ae 4) aF)) m_least_way)
 (DL.tIf 6 (cb (au (ai (ae 3) (ai (ae 4) (ai (ae 6) aF))) ck))
 (bx (gE (dC (.bl false)))
 bZ)
 (oq 6 7 (au (ai (ae 6) aF) (m1 ef))
 (Ap 6 (aa (aa (ae 6) (dC (.int 0)) aM) (dC (.non)) cU)
 (Ao (aa (ae 3) (dC (.int 2)) aM)
 (bx (CJ (mT (gh (aa (au (ai (au (ai (ae 3) (ai (ae 4) aF)) m_least_way) aF) (m1 ef)) (ae 7) iG) (aa (au (ai (au (ai (ae 3) (ai (ae 4) aF)) eR) aF) (m1 ef)) (ae 5) iG)))
 (bx (gE (dC (.bl false)))
 bZ)
 bZ)
 bZ)))))))))
def Ew(h1:f (pe js ρ)=.ok d)(h2:Ka js ρ d)(h3:x<ρ.length):oZ x js f g ρ st=g d (ρ.set x .no) st:=by
 unfold oZ;rw[h1];exact if_pos ⟨h2,h3⟩
def Hh(h:f (vx x d ρ)=.ok (.bl false)):DL.tIf x f s g d ρ st=g d ρ st:=by
 unfold DL.tIf;rw[h];rfl
def Ex(h:f (vx x d ρ)=.ok (.str z))(hx:x≠i):oq x i f g d ρ st=g d (ρ.set i (.sh (.str z))) st:=by
 unfold oq;rw[h];show(if _ then _ else _)=_;rw[if_pos hx]
def BD(a:Addr)(S:St st):∃y3 y4 y5 y7 st',yZ a [.sh d0,.sh d1,.pt a,.no,.no,.no,.no,.no] st=.ok (.nx [.sh d0,.sh d1,.pt a,y3,y4,y5,.no,y7] st'):=by
 obtain⟨w,st1,t1,W,hw,S1⟩:=Eh a (p:=7) (q:=14) ⟨by decide,by decide⟩ (by decide) S;obtain⟨r,st2,t2,r0,r1,S2⟩:=bX a (n:=6) (by decide) (by decide) S1;obtain⟨ks,st3,t3,T,S3⟩:=taking_ok a W (r:=2+r) ⟨by omega,by omega⟩ S2;have t1:c7 a st [.int 7,.int 14]=.ok (aR w,st1):=t1;obtain⟨F,m,R,⟨Sh,M⟩,hlw⟩:=AV W T;have hlw:m_least_way [aR w,aT ks]=.ok (fU w F):=hlw;have hri:=B0 W R Sh M;obtain⟨z,hz⟩:∃z,ef (.lst [aR w,aT ks])=.ok (.str z):=Rp.repr (Rp.lst (gj.cons (Hz W) (gj.cons ((HB W T).up (by decide:3000<=3000) (by decide:1<=4)) gj.nil))) (by show 20000+(3000+0)+2*2+3<=sizeLine;decide) (by decide);obtain⟨z',hz'⟩:=HC W hw R;have hk:=E4 W R (ρ:=[.sh d0,.sh d1,.pt a,.sh (aR w),.sh (aT ks),.sh (.str z),.no,.no]) rfl rfl rfl;have i2:aM (aR w) (.int 2)=.ok (.str w.fi):=rfl;have hez:∀z:Str,iG (.str z) (.str z)=.ok (.bl false):=λz=>by rw[K11.ne_str,decide_eq_true rfl];rfl
 have e1:(au (ai (ae 3) (ai (ae 4) aF)) m_least_way) (pe [3,4] [.sh d0,.sh d1,.pt a,.sh (aR w),.sh (aT ks),.sh (.str z),.no,.no])=.ok (fU w F):=by
  show(au (ai (ae 3) (ai (ae 4) aF)) m_least_way) [.no,.no,.no,.sh (aR w),.sh (aT ks),.no,.no,.no]=_;open_line with[hlw]
 have e2:(cb (au (ai (ae 3) (ai (ae 4) (ai (ae 6) aF))) ck)) (vx 6 (fU w F) [.sh d0,.sh d1,.pt a,.sh (aR w),.sh (aT ks),.sh (.str z),.no,.no])=.ok (.bl false):=by
  show(cb (au (ai (ae 3) (ai (ae 4) (ai (ae 6) aF))) ck)) [.sh d0,.sh d1,.pt a,.sh (aR w),.sh (aT ks),.sh (.str z),.sh (fU w F),.no]=_;open_line with[hri]
 have e3:(au (ai (ae 6) aF) (m1 ef)) (vx 6 (fU w F) [.sh d0,.sh d1,.pt a,.sh (aR w),.sh (aT ks),.sh (.str z),.no,.no])=.ok (.str z'):=by
  show(au (ai (ae 6) aF) (m1 ef)) [.sh d0,.sh d1,.pt a,.sh (aR w),.sh (aT ks),.sh (.str z),.sh (fU w F),.no]=_;open_line with[hz']
 have e4:∀r:Ev->ac->aj cy,Ap 6 (aa (aa (ae 6) (dC (.int 0)) aM) (dC (.non)) cU) r (fU w F) [.sh d0,.sh d1,.pt a,.sh (aR w),.sh (aT ks),.sh (.str z),.no,.sh (.str z')] st3=r [.sh d0,.sh d1,.pt a,.sh (aR w),.sh (aT ks),.sh (.str z),.no,.sh (.str z')] st3:=λr=>by
  unfold Ap;rw[if_pos (show rY _=true from rfl)];unfold fU;cases hg:get F w.la with|none|some e=>rfl
 have e5:∀r:Ev->ac->aj cy,Ao (aa (ae 3) (dC (.int 2)) aM) r [.sh d0,.sh d1,.pt a,.sh (aR w),.sh (aT ks),.sh (.str z),.no,.sh (.str z')] st3=r [.sh d0,.sh d1,.pt a,.sh (aR w),.sh (aT ks),.sh (.str z),.no,.sh (.str z')] st3:=λr=>by
  unfold Ao;rw[if_pos (show rY _=true from rfl)];rfl
 refine⟨.sh (aR w),.sh (aT ks),.sh (.str z),.sh (.str z'),st3,?_⟩;have e6:∀(g:D->Ev->ac->aj cy),oZ 6 [3,4] (au (ai (ae 3) (ai (ae 4) aF)) m_least_way) g [.sh d0,.sh d1,.pt a,.sh (aR w),.sh (aT ks),.sh (.str z),.no,.no] st3=g (fU w F) [.sh d0,.sh d1,.pt a,.sh (aR w),.sh (aT ks),.sh (.str z),.no,.no] st3:=λg=>Ew e1 hk (by show 6<8;decide);have e7:∀(s:Ev->ac->aj cy) (g:D->Ev->ac->aj cy),DL.tIf 6 (cb (au (ai (ae 3) (ai (ae 4) (ai (ae 6) aF))) ck)) s g (fU w F) [.sh d0,.sh d1,.pt a,.sh (aR w),.sh (aT ks),.sh (.str z),.no,.no] st3=g (fU w F) [.sh d0,.sh d1,.pt a,.sh (aR w),.sh (aT ks),.sh (.str z),.no,.no] st3:=λs g=>Hh e2;have e8:∀(g:D->Ev->ac->aj cy),oq 6 7 (au (ai (ae 6) aF) (m1 ef)) g (fU w F) [.sh d0,.sh d1,.pt a,.sh (aR w),.sh (aT ks),.sh (.str z),.no,.no] st3=g (fU w F) [.sh d0,.sh d1,.pt a,.sh (aR w),.sh (aT ks),.sh (.str z),.no,.sh (.str z')] st3:=λg=>Ex e3 (by decide);open_line with[t1,t2,t3,hz,e6,e7,e8,e4,e5,hlw,hz',hez]
def CO(ns:List Int)(hn:ns.length<=63):m_law [.lst (ns.map D.int)]=.ok (.bl true):=by
 obtain⟨q,m,hm,h1,hq⟩:∃(q:Int) (m:Nat),m<=8/\FN (.int ns.length) (.int 8)=.ok (.int q)/\(if q > 1 then q else 1)=(m:Int):=by
  have h1:FN (.int ns.length) (.int 8)=.ok (.int (if(8:Int)<ns.length then 8 else ns.length)):=rfl;refine⟨_,(if(if(8:Int)<ns.length then 8 else(ns.length:Int)) > 1 then(if(8:Int)<ns.length then 8 else(ns.length:Int)) else 1).toNat,?_,h1,?_⟩
  .split<;>split<;>omega
  .split<;>split<;>omega
 have hstep:∀k,k<m->∀ρ:Ev,(∃s,ρ=[.sh (.lst (ns.map D.int)),s,.no,.no,.no,.no,.no,.no]) ->
   ∃ρ2,(jX 2 (au (ai (ae 0) (ai (ae 1) aF)) bY) λa=>yZ a) (ρ.set 1 (.sh (.int (k:Int))))=.ok (.nx ρ2)/\∃s,ρ2=[.sh (.lst (ns.map D.int)),s,.no,.no,.no,.no,.no,.no]:=by
  rintro k hk ρ ⟨s,rfl⟩;obtain⟨st,hb,S⟩:=DQ ns k (by omega) hn;refine⟨[.sh (.lst (ns.map D.int)),.sh (.int (k:Int)),.no,.no,.no,.no,.no,.no],?_,_,rfl⟩;have h1:(au (ai (ae 0) (ai (ae 1) aF)) bY) [.sh (.lst (ns.map D.int)),.sh (.int (k:Int)),.no,.no,.no,.no,.no,.no]=.ok (.lst st):=by
   open_line with[hb]
  show jX 2 _ _ [.sh (.lst (ns.map D.int)),.sh (.int (k:Int)),.no,.no,.no,.no,.no,.no]=_;unfold jX;rw[h1,sG];unfold uq;show(if _ then _ else _)=_;rw[if_pos ⟨rfl,(by show 2<8;decide)⟩];refine Ff λa=>?_;obtain⟨d3,d4,y5,y7,st',e⟩:=BD a (d0:=.lst (ns.map D.int)) (d1:=.int (k:Int)) S;show zr 2 (yZ a [.sh (.lst (ns.map D.int)),.sh (.int (k:Int)),.pt a,.no,.no,.no,.no,.no] st)=_;rw[e];rfl
 obtain⟨ρ',hf,s,rfl⟩:=uk (i:=1) (body:=(jX 2 (au (ai (ae 0) (ai (ae 1) aF)) bY) λa=>yZ a)) (λ_ ρ=>∃s,ρ=[.sh (.lst (ns.map D.int)),s,.no,.no,.no,.no,.no,.no]) (n:=m) hstep (ρ:=[.sh (.lst (ns.map D.int)),.no,.no,.no,.no,.no,.no,.no]) ⟨.no,rfl⟩;have hfr:=λs:am=>gF (tg:=bW 1) (s:=s) (ρ:=[.sh (.lst (ns.map D.int)),.no,.no,.no,.no,.no,.no,.no]) (k:=m) (by omega);unfold m_law GR;open_line with[List.length_map,h1,hq,hfr,hf]
end K14
namespace K14
open PySem L2 DL
def sp_law(K:W.Frag)(H:Hp)(a:Addr)(ns:List Int)(hl:ns.length<=63)(hS:eN K H a (ns.map V.int)):spD K 1 m_law [.ref a] H (λv _=>v=.bl true) λ_ _ _=>False:=by
 refine⟨rfl,H,[.lst (ns.map D.int)],aB.refl _,Reps.cons (aE.mpr ⟨a,_,rfl,hS,Reps.ints ns⟩) Reps.nil,?_⟩;rw[CO ns hl];exact λv H' Ha' _ r=>aJ.mp r
end K14
structure PySem.W.Fast:Prop where(tw11089637832575455347 tw10918970288395989603 tw14796988302809564290 tw5118716586770192565 tw15848129105668405356 tw1287269478415419977 tw16474794882997767383 tw15279237512619910530 tw763400135214826446 tw1400534647002831918 tw3525345157173039217 tw6023652268648237492 tw1714380130069712643 tw11441113122916420028 tw11494921771681056494 tw14818966189411431541 tw6873415890206869960 tw7191381963604351828 tw9047183871113387821 tw7246969425984737216 tw6871043465837050617 tw16763829644518145429 tw1031709908036783679 tw16741142354157183954 tw13428215195636120967 tw3645980254203571753 tw13155393826397449771 tw15397441635365005284 tw12454113251366902508 tw8045531431334109389 tw6951415596432852924 tw7005196447252734133 tw11336151645858065070 tw3678412616778555041 tw9469280150238443824 tw11989855710604300362 tw12463757688258943317 tw10187967273348264321 tw15970271794815638302 tw7622464505971019971 tw7483254122576705150 tw940798170946468853 tw4731917471289605151 tw17609984654030607388 tw1795090216666043411 tw3103191580414214690 tw7365121203316119148 tw17304312709177332084 tw4549854441275352170 tw13187598213799868521 tw3242084194349341274 tw3232840043838879983 tw10187715976385565863 tw5358952710621705633 tw4330058006166333558 tw9094693949728437977 tw16589012340585952514 tw4219819097200489886 tw5786460745340676584 tw3488625891123675392 tw7176681856961710313 tw1524944526676496806 tw6560502430712246701 tw15134858501767700079 tw9072242233257303574 tw4609969884605477348 tw15622700584891275764 tw14124208954090444698 tw15390361602716228301 tw8009971464476440082 tw2865313141806840898 tw14319355803662496084 tw8943272602135276078 tw5149619721395812338 tw12079382375304812269 tw14686771499307066632 tw9863933303434505766 tw11021942100162017020 tw16386535819857497547 tw10944369522336419530 tw17705722421847073184 tw14711010347458151937 tw8998619431136228917 tw15158177096691585880 tw9256856322654000119 tw7165860551895149992 tw16917094690102472885 tw5472433613515022578 tw4281056396252157713 tw11475772074363157258 tw7676524735626597806 tw7719590174090828311 tw4208653942934103599 tw3048989117764829513 tw12458679571043245927 tw18363574666143877045 tw11689276546361292830 tw12833960977914968590 tw4873503819569429830 tw5141968869823716796 tw16111741018043403584 tw7238955798274904626 tw15818424899469648666 tw16378142611794805435 tw16002978357903358679:True)
open PySem PySem.W PyProof.Rows
set_option maxRecDepth 100000 in
set_option maxHeartbeats 0 in
theorem PySem.Challenge.cw_farthestcut_k14_least_ways_told_holds : PySem.Challenge.rw_farthestcut_k14_least_ways_told.Holds := by
 w_on;o_law;k_head;(case hw=>w_witness2)
 k_fill
 refine L2.walk_ofK (l:=PySem.Challenge.rw_farthestcut_k14_least_ways_told) (n:=63) (k:=9) (x:="_law_script") (CX:=L2.CX0) (sp:=fun K=>DL.spD K 1 K14.m_law) ?I rfl (by decide) rfl ⟨rfl,by decide,by decide,rfl⟩ (fun w h Y=>W.kIn_of Y) ?F ?S ?C
 case S=>exact fun K H a ns hl _ hS=>K14.sp_law K H a ns hl hS
 case C=>exact fun _ _ _ _ h=>h
 case I=>rfl
 case F =>
  intro w mg fa h KX G hmg;have T:∃ t:K14.Adr,K14.Txt (L2.KOf KX) mg t/\mg "law"=some (.ref (t.A 41))/\∃ kV doc pm an cdv ct,t.Q 41=W.fnOf "law" "law" (L2.defArgs (K14.top 71)) (L2.defBody (K14.top 71)) (L2.defScope (K14.top 71)) .none kV doc pm an cdv ct:=by
   dsimp only[L2.KOf];refine' K14.txt_wr (K14.txt_mk KX G ?QS ?_ ?_ ?_ ?_ ?_ ?_ ?_ ?_ ?_ ?_ ?_ ?_ ?_ ?_ ?_ ?_ ?_ ?_ ?_ ?_ ?_ ?_ ?_ ?_ ?_ ?_ ?_ ?_ ?_ ?_ ?_ ?_ ?_)
   case' QS=>iterate 42 refine DL.QAs.cons ⟨by k_is,by k_is,_,_,_,_,_,_,_,_,_,by k_is,by k_is⟩ ?_
   case QS=>trivial
   all_goals try first |k_is |k_exc |rfl
   exact⟨_,_,_,_,[.str "one",.str "both"],rfl,.cons ⟨_,rfl⟩ (.cons ⟨_,rfl⟩ (.nil)),by decide,fun H=>DL.Reps.cons (DL.Rep.str_iff.mpr rfl) (DL.Reps.cons (DL.Rep.str_iff.mpr rfl) (DL.Reps.nil))⟩
  obtain⟨t,T,e0,kV,doc,pm,an,cdv,ct,ed⟩:=T;have e1:=hmg.symm.trans e0;cases e1;refine⟨t.Q 41,fun s u=>?_,fun base kb nb=>(K14.ok_law T).F⟩;rw[ed];exact .of_eq rfl
