import PyProof.Rows.All
import Wide.All
import OpenK.AllK
import Wide.FinOn
import PyProof.EqAt
import PyProof.EqKinds
import PyProof.NeKinds
import PyProof.TupleCall
import PyProof.StrWalks
import PyProof.EnumMake
import PyProof.WalksEnum
import PyProof.ZipIter
import PyProof.Rows.ZipGen
import PyProof.Rows.SortWalk
import KE.KSortedM
import PyProof.StrLawsIdx
import PyProof.StrLawsNeg
import PyProof.ExcInit
import PyProof.InstStoreFacts
import PyProof.AttrMissHeap
import PyProof.FactsAll.enumerate
import PyProof.FactsAll.dict_1
import KE.KDictOf
import KE.KItemsList
import PyProof.ReprRoads
import PyProof.FitsInt
import PySem.Challenge.RW_farthestcut_k18_values_one_by_one
set_option compiler.extract_closed false
set_option bootstrap.genMatcherCode false
set_option autoImplicit true
set_option Elab.async false
set_option linter.all false
set_option maxRecDepth 100000
set_option maxHeartbeats 4000000
noncomputable section
abbrev bi:=List Nat
namespace L2
open PySem PySem.Spec PyProof.Rows
abbrev eC:=Sum Int Str
def oh:eC->Value->Bool
 |.inl k,v=>Value.isInt k v
 |.inr x,v=>Value.isStrOf x v
def Lo(w:World):eC->Int
 |.inl k=>hashInt k
 |.inr x=>hashStr w x
theorem bY:∀{k:eC}{v:Value},oh k v=true->(∃i t,k=Sum.inl i/\v=Value.int i t)∨(∃x t,k=Sum.inr x/\v=Value.str x t)
 |.inl i,v,h=>by
  obtain⟨t,e⟩:=Value.isInt_shape (k:=i) (v:=v) h;exact .inl ⟨i,t,rfl,e⟩
 |.inr x,v,h=>by
  obtain⟨t,e⟩:=Value.isStrOf_shape (x:=x) (v:=v) h;exact .inr ⟨x,t,rfl,e⟩
def AE(i:Int)(t:Tok):oh (.inl i) (.int i t)=true:=by simp[oh,Value.isInt]
def AD(x:Str)(t:Tok):oh (.inr x) (.str x t)=true:=by simp[oh,Value.isStrOf]
def Hr(a b:Int):decide ((Sum.inl a:eC)=Sum.inl b)=(a==b):=by
 by_cases e:a=b
 .subst e;simp
 .have h:¬(Sum.inl a:eC)=Sum.inl b:=λq=>e (Sum.inl.inj q)
  rw[decide_eq_false h];exact(beq_eq_false_iff_ne.mpr e).symm
def Hn(a b:Str):decide ((Sum.inr a:eC)=Sum.inr b)=decide (a=b):=by
 by_cases e:a=b
 .subst e;simp
 .have h:¬(Sum.inr a:eC)=Sum.inr b:=λq=>e (Sum.inr.inj q)
  rw[decide_eq_false h,decide_eq_false e]
def Hq(a:Int)(b:Str):decide ((Sum.inl a:eC)=Sum.inr b)=false:=decide_eq_false (λq=>nomatch q)
def Ho(a:Str)(b:Int):decide ((Sum.inr a:eC)=Sum.inl b)=false:=decide_eq_false (λq=>nomatch q)
noncomputable def cc(prog:Program) (w:World):PySem.KeyKind prog w eC where
 is:=oh
 hash:=Lo w
 inj:=λv a b ha hb=>by
  rcases bY ha with⟨i,t,rfl,rfl⟩|⟨x,t,rfl,rfl⟩
  .rcases bY hb with⟨j,u,rfl,e⟩|⟨y,u,rfl,e⟩
   .injection e with e1 _;rw[e1]
   .exact nomatch e
  .rcases bY hb with⟨j,u,rfl,e⟩|⟨y,u,rfl,e⟩
   .exact nomatch e
   .injection e with e1 _;rw[e1]
 byValue:=λk v h=>by
  rcases bY h with⟨i,t,rfl,rfl⟩|⟨x,t,rfl,rfl⟩<;>rfl
 pyHash:=λhv h=>by
  rcases bY hv with⟨i,t,rfl,rfl⟩|⟨x,t,rfl,rfl⟩
  .exact wpAny_pyHash_int h
  .exact wpAny_pyHash_str h
 eqBool:=λhu hv h=>by
  rcases bY hu with⟨i,t,rfl,rfl⟩|⟨x,t,rfl,rfl⟩
  .rcases bY hv with⟨j,u,rfl,rfl⟩|⟨y,u,rfl,rfl⟩
   .rw[Hr]at h;exact wpAny_eqBool_int h
   .rw[Hq]at h;exact SeqAt.EqAt.int_str i t y u _ _ _ _ h
  .rcases bY hv with⟨j,u,rfl,rfl⟩|⟨y,u,rfl,rfl⟩
   .rw[Ho]at h;exact SeqAt.EqAt.str_int x t j u _ _ _ _ h
   .rw[Hn]at h;exact wpAny_eqBool_str h
 «strs»:=λk x t v h=>by
  rcases bY h with⟨i,u,rfl,e⟩|⟨y,u,rfl,e⟩
  .exact nomatch e
  .injection e with e1 _
   subst e1;cases v<;>rfl
def vj(prog:Program)(w:World)(i:Int)(t:Tok):(cc prog w).is (.inl i) (.int i t)=true:=AE i t
def vi(prog:Program)(w:World)(x:Str)(t:Tok):(cc prog w).is (.inr x) (.str x t)=true:=AD x t
inductive V where
 |non|bl (b:Bool)|int (i:Int)|str (x:Str)|byt (b:Array UInt8)|flt (b:UInt64)|ref (a:Addr)|ty (n:String)
 deriving DecidableEq
abbrev ad:=List V
noncomputable def bb:V->Value->Prop
 |.non,u=>u=Value.none
 |.bl b,u=>u=Value.bool b
 |.int i,u=>∃t,u=Value.int i t
 |.str x,u=>∃t,u=Value.str x t
 |.byt b,u=>∃t,u=Value.bytes b t
 |.flt b,u=>∃t,u=Value.float b t
 |.ref a,u=>u=Value.ref a
 |.ty n,u=>u=Value.type n
abbrev ba:ad->List Value->Prop:=Paired bb
def ba.length(r:ba xs us):xs.length=us.length:=Paired.length r
theorem ba.get:∀{xs:ad}{us:List Value}{i:Nat}{x:V},ba xs us->xs[i]?=some x->∃u,us[i]?=some u/\bb x u
 |_,_,_,_,.nil,e=>by simp at e
 |_,_,0,_,.cons r _,e=>by simp at e;subst e;exact⟨_,rfl,r⟩
 |_,_,i+1,x,.cons _ t,e=>by
  obtain⟨u,h1,h2⟩:=ba.get (i:=i) (x:=x) t (by simpa using e);exact⟨u,by simpa using h1,h2⟩
theorem ba.set(r:bb x u):∀{xs:ad}{us:List Value}(i:Nat),ba xs us->ba (xs.set i x) (us.set i u)
 |_,_,_,.nil=>.nil
 |_,_,0,.cons _ t=>.cons r t
 |_,_,i+1,.cons q t=>.cons q (ba.set r i t)
theorem ba.append:∀{xs ys:ad}{us ws:List Value},ba xs us->ba ys ws->ba (xs++ys) (us++ws)
 |_,_,_,_,.nil,s=>s
 |_,_,_,_,.cons r t,s=>.cons r (ba.append t s)
theorem ba.take:∀{xs:ad}{us:List Value}(n:Nat),ba xs us->ba (xs.take n) (us.take n)
 |_,_,0,_=>.nil
 |_,_,_+1,.nil=>.nil
 |_,_,n+1,.cons r t=>.cons r (ba.take n t)
theorem ba.drop:∀{xs:ad}{us:List Value}(n:Nat),ba xs us->ba (xs.drop n) (us.drop n)
 |_,_,0,r=>r
 |_,_,_+1,.nil=>.nil
 |_,_,n+1,.cons _ t=>ba.drop n t
def qT:Option V->Option Value->Prop
 |some v,some u=>bb v u
 |none,none=>True
 |_,_=>False
def KV{κ:Type}:List (κ×V)->List (κ×Value)->Prop:=Paired λ(p:κ×V) (q:κ×Value)=>p.1=q.1/\bb p.2 q.2
def kV:eC->V
 |.inl i=>.int i
 |.inr x=>.str x
inductive HO where
 |lst (xs:ad)
 |tup (xs:ad)
 |dK (kvs:List (eC×V))|dT (kvs:List (List eC×V))
 |set (S:Int->Bool) (n:Nat)
 |ins (C dx:Addr) (fs:List (Str×V))
 |own (x:Addr)
 |xd (fs:List (Str×V))
 |met (f x:Addr)
 |rng (lo hi:Int)
 |frz (o:Obj) (u:HO)
 |tbl (ps:Array Value)
 |ext (φ:Heap->Prop)
abbrev Hp:=Addr->Option HO
def upd(H:Hp)(a:Addr)(o:HO):Hp:=λb=>if b=a then some o else H b
def aC:upd H a o a=some o:=by unfold upd;rw[if_pos rfl]
def av(h:b≠a):upd H a o b=H b:=by unfold upd;rw[if_neg h]
def upd_upd:upd (upd H a o) a u=upd H a u:=by
 funext b;unfold upd;split<;>rfl
def JK{H:Hp}(h:H a=some o)(h':H b=some u)(d:o≠u):a≠b:=by
 intro e;subst e;rw[h]at h';exact d (Option.some.inj h')
def bj{H:Hp}(h:H a=some o)(h':H b=none):a≠b:=by
 intro e;subst e;rw[h]at h';cases h'
section
variable (P:Program) (w:World)
noncomputable def cw(H:Hp) (h:Heap) (a:Addr):HO->Prop
 |.lst xs=>xs.length<=sizeLine/\∃(its:List Value) (n:Nat),ba xs its/\h.get? a=some { cls:=.type "list",data:=.seq its.toArray n }
 |.tup xs=>xs.length<=sizeLine/\∃its:List Value,ba xs its/\IsTup h a its.toArray
 |.dK kvs=>kvs.length<=sizeLine/\(a==sysModules)=false/\∃vs,KV kvs vs/\h.DictOf (cc P w) a vs
 |.dT kvs=>kvs.length<=sizeLine/\(a==sysModules)=false/\∃xs:List (List eC×Addr×Value),
   Paired (λ(p:List eC×V) (q:List eC×Addr×Value)=>p.1=q.1/\H q.2.1=some (.tup (p.1.map kV))/\bb p.2 q.2.2) kvs xs /\
   ∃o es ep,h.get? a=some o/\o.ExactDict/\o.data=.dict es ep/\es.toList=xs.map (entryOfKey (tupleKind (cc P w)))/\(xs.map (·.1)).Nodup
 |.set S n=>h.SetOf (intKind P w) a S n
 |.ins C dx fs=>H dx=some (.own a)/\fs.length<=1000/\dx≠a/\h.get? a=some (W.instObj C dx) /\
   ∃mA,h.Ns1 dx mA/\(∀f,qT (fs.lookup f) (mA f))/\PySem.Within mA (fs.map (·.1))
 |.own _=>∃o,h.get? a=some o
 |.xd fs=>∃mA,h.Ns1 a mA/\∀f,qT (fs.lookup f) (mA f)
 |.rng lo hi=>∃t u v,h.get? a=some { cls:=.type "range",data:=.fields #[.int lo t,.int hi u,.int 1 v] }
 |.frz o u=>h.get? a=some o/\cw H h a u
 |.tbl ps=>h.get? a=some { cls:=.none,data:=.fields ps }
 |.met f x=>h.get? a=some (W.methodObj (.ref f) (.ref x))
 |.ext φ=>φ h/\(∃o,h.get? a=some o)/\∀h1 h2:Heap,φ h1->(∀o,h1.get? a=some o->h2.get? a=some o)->φ h2
def jF(H:Hp)(h:Heap):Prop:=∀a o,H a=some o->cw P w H h a o
end
section
variable {P:Program}{w:World}{H H':Hp}{h h':Heap}{a:Addr}{o:HO}
def cw.lt(x:cw P w H h a o):a<h.objs.size:=by
 cases o with|lst xs=>obtain⟨_,_,_,_,e⟩:=x;exact Heap.lt_size e|tup xs=>obtain⟨_,_,_,p⟩:=x;exact p.lt|dK kvs|dT kvs=>obtain⟨_,_,_,_,o,_,_,e,_⟩:=x;exact Heap.lt_size e|set S n=>obtain⟨o,_,_,_,e,_⟩:=x;exact Heap.lt_size e|ins C dx fs=>obtain⟨_,_,_,e,_⟩:=x;exact Heap.lt_size e|own y=>obtain⟨_,e⟩:=x;exact Heap.lt_size e|xd fs=>obtain⟨_,⟨_,_,_,e,_⟩,_⟩:=x;exact Heap.lt_size e|rng lo hi=>obtain⟨_,_,_,e⟩:=x;exact Heap.lt_size e|frz ob u=>obtain⟨e,_⟩:=x;exact Heap.lt_size e|tbl ps|met f y=>exact Heap.lt_size (show h.get? a=some _ from x)|ext φ=>obtain⟨_,⟨_,e⟩,_⟩:=x;exact Heap.lt_size e
theorem iI{α β:Type}{F G:α->β->Prop}:∀{lb:List α}{lc:List β},Paired F lb lc->(∀a b,F a b->G a b)->Paired G lb lc
 |_,_,.nil,_=>.nil
 |_,_,.cons r t,f=>.cons (f _ _ r) (iI t f)
def cw.stay(x:cw P w H h a o)(k:∀b u,(b=a∨H b=some (.own a))->h.get? b=some u->h'.get? b=some u)
  (ho:∀b,H b=some (.own a)->H' b=some (.own a))(ht:∀b xs,H b=some (.tup xs)->H' b=some (.tup xs)):cw P w H' h' a o:=by
 induction o with
 |lst xs=>obtain⟨z,its,n,r,e⟩:=x;exact⟨z,its,n,r,k _ _ (.inl rfl) e⟩|tup xs=>obtain⟨z,its,r,ob,e,c⟩:=x;exact⟨z,its,r,ob,k _ _ (.inl rfl) e,c⟩|dK kvs=>obtain⟨z,y,vs,r,ob,es,ep,e,c⟩:=x;exact⟨z,y,vs,r,ob,es,ep,k _ _ (.inl rfl) e,c⟩
 |dT kvs=>
  obtain⟨z,y,xs,r,ob,es,ep,e,c⟩:=x;exact⟨z,y,xs,iI r λp q z=>⟨z.1,ht _ _ z.2.1,z.2.2⟩,ob,es,ep,k _ _ (.inl rfl) e,c⟩
 |set S n=>obtain⟨ob,es,ep,t,e,c⟩:=x;exact⟨ob,es,ep,t,k _ _ (.inl rfl) e,c⟩
 |ins C dx fs=>
  obtain⟨d,z,ne,e,mA,⟨od,es,ep,e2,c⟩,r⟩:=x;exact⟨ho _ d,z,ne,k _ _ (.inl rfl) e,mA,⟨od,es,ep,k _ _ (.inr d) e2,c⟩,r⟩
 |own y=>obtain⟨ob,e⟩:=x;exact⟨ob,k _ _ (.inl rfl) e⟩|xd fs=>obtain⟨mA,⟨od,es,ep,e,c⟩,r⟩:=x;exact⟨mA,⟨od,es,ep,k _ _ (.inl rfl) e,c⟩,r⟩|rng lo hi=>obtain⟨t,u,v,e⟩:=x;exact⟨t,u,v,k _ _ (.inl rfl) e⟩|frz ob u ih=>obtain⟨e,q⟩:=x;exact⟨k _ _ (.inl rfl) e,ih q⟩
 |tbl ps=>
  have e:h.get? a=some { cls:=.none,data:=.fields ps }:=x;show h'.get? a=some { cls:=.none,data:=.fields ps };exact k a _ (.inl rfl) e
 |met f y=>
  have e:h.get? a=some (W.methodObj (.ref f) (.ref y)):=x;show h'.get? a=some (W.methodObj (.ref f) (.ref y));exact k a _ (.inl rfl) e
 |ext φ=>obtain⟨p,⟨o,e⟩,st⟩:=x;exact⟨st _ _ p λo q=>k _ _ (.inl rfl) q,⟨o,k _ _ (.inl rfl) e⟩,st⟩
def jF.lt(x:jF P w H h)(e:H a=some o):a<h.objs.size:=(x a o e).lt
def jF.fresh(x:jF P w H h)(e:h.objs.size<=a):H a=none:=by
 cases q:H a with|none=>rfl|some u=>exact absurd (Nat.lt_of_lt_of_le (x.lt q) e) (Nat.lt_irrefl _)
def jF.kept(x:jF P w H h)(k:∀b u,h.get? b=some u->h'.get? b=some u):jF P w H h':=λa o e=>
 (x a o e).stay (λb u _ q=>k b u q) (λ_ q=>q) λ_ _ q=>q
def jF.laid(x:jF P w H h)(k:∀b u,h.get? b=some u->h'.get? b=some u)(hp:h.objs.size<=a)(new:cw P w (upd H a o) h' a o):jF P w (upd H a o) h':=λb u e=>by
 have hn:=x.fresh hp
 by_cases hb:b=a
 .subst hb;rw[aC]at e;cases e;exact new
 .rw[av hb]at e
  exact(x b u e).stay (λc v _ q=>k c v q) (λc q=>by rw[av (bj q hn)];exact q) λc xs q=>by rw[av (bj q hn)];exact q
end
def Rd(H:Hp)(a:Addr)(u:HO):Prop:=H a=some u∨∃o,H a=some (.frz o u)
def Rd.ok{h:Heap}(r:Rd H a u)(x:jF P w H h):cw P w H h a u:=by
 rcases r with r|⟨o,r⟩
 .exact x a u r
 .obtain⟨_,q⟩:=x a _ r
  exact q
def Km:Option HO->Prop
 |some (.lst _)=>True
 |some (.dK _)=>True
 |some (.dT _)=>True
 |some (.set _ _)=>True
 |some (.ins _ _ _)=>True
 |some (.ext _)=>True
 |_=>False
section
variable {P:Program}{w:World}{H:Hp}{h h':Heap}{x e:Addr}{o':HO}
def jF.write(ok:jF P w H h)(mu:Km (H x))(he:e=x∨H e=some (.own x))(k:∀b u,b≠e->h.get? b=some u->h'.get? b=some u)(heo:∃u,h'.get? e=some u)
  (new:cw P w (upd H x o') h' x o'):jF P w (upd H x o') h':=λb u q=>by
 have nown:∀c y,H c=some (.own y)->c≠x:=λc y r z=>by subst z;rw[r]at mu;exact mu
 have ntup:∀c xs,H c=some (.tup xs)->c≠x:=λc xs r z=>by subst z;rw[r]at mu;exact mu
 by_cases hb:b=x
 .subst hb;rw[aC]at q;cases q;exact new
 .rw[av hb]at q
  by_cases hbe:b=e
  .have q':H b=some (.own x):=by
    rcases he with z|z
    .exact absurd (hbe.trans z) hb
    .rw[hbe];exact z
   rw[q]at q';cases q';obtain⟨v,hv⟩:=heo;exact⟨v,by rw[hbe];exact hv⟩
  .refine(ok b u q).stay (λc v hc r=>k c v ?_ r) (λc r=>by rw[av (nown c b r)];exact r) λc xs r=>by rw[av (ntup c xs r)];exact r
   rcases hc with rfl|hc
   .exact hbe
   .rintro rfl
    rcases he with z|z
    .exact nown c b hc z
    .rw[hc]at z;cases z;exact hb rfl
end
structure Un (fs ex:List Addr) (H H':Hp) (h h':Heap):Prop where
 keep:∀b o,h.get? b=some o->H b=none->b∉fs->b∉ex->h'.get? b=some o
 slot:∀b o,h.get? b=some o->H b=none->b∈fs->b∉ex->∃sl,h'.get? b=some { o with slots:=sl }
 free:∀b o,h.get? b=some o->H b=none->b∉ex->H' b=none
 there:∀b o,h.get? b=some o->b∉ex->∃o',h'.get? b=some o'
 tups:∀b xs,H b=some (.tup xs)->H' b=some (.tup xs)
 frzs:∀b o u,H b=some (.frz o u)->H' b=some (.frz o u)
 tbls:∀b ps,H b=some (.tbl ps)->∃more,H' b=some (.tbl (ps++more))
section
variable {fs fs' ex ex':List Addr}{H H1 H2:Hp}{h h1 h2 h':Heap}{a x e:Addr}{o:HO}
def Un.any(u:Un fs ex H H1 h h1)(q:h.get? b=some ob)(n:H b=none)(hx:b∉ex):∃sl,h1.get? b=some { ob with slots:=sl }:=by
 by_cases hb:b∈fs
 .exact u.slot b ob q n hb hx
 .exact⟨ob.slots,u.keep b ob q n hb hx⟩
def Un.kept(k:∀b u,h.get? b=some u->h'.get? b=some u):Un fs ex H H h h' :=
 ⟨λb ob q _ _ _=>k b ob q,λb ob q _ _ _=>⟨ob.slots,k b ob q⟩,λ_ _ _ n _=>n,λb ob q _=>⟨ob,k b ob q⟩,λ_ _ q=>q,λ_ _ _ q=>q,λ_ ps q=>⟨#[],by rw[q];simp⟩⟩
def Un.refl:Un fs ex H H h h:=Un.kept λ_ _ q=>q
def Un.laid(k:∀b u,h.get? b=some u->h'.get? b=some u)(hp:h.objs.size<=a)(hn:H a=none):Un fs ex H (upd H a o) h h' where
 keep:=λb u q _ _ _=>k b u q
 slot:=λb u q _ _ _=>⟨u.slots,k b u q⟩
 free:=λb u q n _=>by rw[av (Nat.ne_of_lt (Nat.lt_of_lt_of_le (Heap.lt_size q) hp))];exact n
 there:=λb u q _=>⟨u,k b u q⟩
 tups:=λb xs q=>by rw[av (bj q hn)];exact q
 frzs:=λb u xs q=>by rw[av (bj q hn)];exact q
 tbls:=λb ps q=>⟨#[],by rw[av (bj q hn),q];simp⟩
def Un.write(mu:Km (H x))(he:e=x∨H e=some (.own x))(k:∀b u,b≠e->h.get? b=some u->h'.get? b=some u)(heo:∃u,h'.get? e=some u):Un fs ex H (upd H x o) h h':=by
 have hx:∀b,H b=none->b≠x:=λb n z=>by subst z;rw[n]at mu;exact mu
 have hb:∀b,H b=none->b≠e:=λb n z=>by
  subst z;rcases he with r|r
  .exact hx b n r
  .rw[n]at r;cases r
 have hm:∀b u,H b=some u->¬Km (some u)->b≠x:=λb u q nm z=>by subst z;rw[q]at mu;exact nm mu
 refine⟨λb u q n _ _=>k b u (hb b n) q,λb u q n _ _=>⟨u.slots,k b u (hb b n) q⟩,λb u q n _=>by rw[av (hx b n)];exact n,λb u q _=>?_,
  λb xs q=>by rw[av (hm b _ q λz=>z)];exact q,λb u xs q=>by rw[av (hm b _ q λz=>z)];exact q,λb ps q=>⟨#[],by rw[av (hm b _ q λz=>z),q];simp⟩⟩
 by_cases hbe:b=e
 .subst hbe;exact heo
 .exact⟨u,k b u hbe q⟩
end
def Ks(h:Heap)(H:Hp):List Addr:=(List.range h.objs.size).filter λa=>(H a).isSome
def tQ(h:Heap)(H:Hp):Heap:=W.hideAll h (Ks h H)
def AH(h:Heap)(H:Hp):(tQ h H).objs.size=h.objs.size:=W.hideAll_size _ _
def CC{h:Heap}(e:h.get? b=some o)(n:H b=none):(tQ h H).get? b=some o :=
 W.hideAll_get _ e λhm=>by
  have q:(H b).isSome=true:=(List.mem_filter.mp hm).2;rw[n]at q;simp at q
def EH{h:Heap}(e:(tQ h H).get? b=some o):h.get? b=some o/\H b=none:=by
 have e':h.get? b=some o:=W.of_hideAll (Ks h H) e;refine⟨e',?_⟩;cases q:H b with
 |none=>rfl
 |some x=>
  have hm:b∈Ks h H:=List.mem_filter.mpr ⟨List.mem_range.mpr (Heap.lt_size e'),by simp[q]⟩;have z:(tQ h H).get? b=none:=W.hideAll_none (Ks h H) hm;rw[z]at e;cases e
structure Mod (K:W.Frag) (mg:Str->Option Value) (base:Heap):Prop where
 kin:K.In base
 glob:base.Ns mainGlobals mg
 blt:∃mb,base.Ns builtinsNs mb/\∀x:Str,x≠"__name__"->mb x=bootBuiltins x
 nolimit:base.NoLimit
 sm:∃mm,base.Ns sysModules mm
structure Cx where
 prog:Program
 w:World
 K:W.Frag
 mg:Str->Option Value
 base:Heap
 A:Around
 N:List Str
 sf:Shared
 Ha:Hp
 env:Env
 outer:List Env
 stack:List Env
 ex:List Addr
 fn:Str->Bool
 calm:Bool
 pn:List (Addr×Obj)
 xe:Value->Shared->Prop
def A4(l:List Env):List Addr:=l.filterMap (·.frame)
abbrev Cx.fs(X:Cx):List Addr:=A4 X.outer
def A0(sc:Scope)(x:Str):Prop:=sc.names.lookup x=some .local ∨ sc.names.lookup x=some .cell∨sc.names.lookup x=some .free
def A1(sc:Scope)(x:Str):Prop:=sc.names.lookup x=some .local ∨ sc.names.lookup x=some .cell
def LI(env:Env)(h:Heap)(m:Str->Option Value)(x:Str)(u:Value):Prop :=
 (env.kindOf x=some .local /\ m x=some u)∨((env.kindOf x=some .cell∨env.kindOf x=some .free)/\∃c,env.cells.lookup x=some c/\h.IsCell c (some u))
structure Cx.Ok (X:Cx):Prop where
 mod:Mod X.K X.mg X.base
 kind:X.env.scope.kind=.function
 glob:X.env.globals=mainGlobals
 blt:X.env.builtins=builtinsNs
 above:X.sf.heap.objs.size<=X.env.locals
 inj:∀x y c,X.env.cells.lookup x=some c->X.env.cells.lookup y=some c->x=y
 has:∀x,(X.env.kindOf x=some .cell∨X.env.kindOf x=some .free)->∃c,X.env.cells.lookup x=some c
 cab:∀x c,X.fn x=true->X.env.cells.lookup x=some c->X.sf.heap.objs.size<=c
 hd:X.calm=true->X.A.handled=none
 frames:X.A.frames=some X.stack
 stk:X.stack=X.outer∨(X.stack=X.env::X.outer/\X.env.frame=some X.env.locals)
 exf:∀b∈X.ex,b≠X.env.locals/\∀x c,X.env.cells.lookup x=some c->c≠b
 bs:∀b o,X.base.get? b=some o->X.sf.heap.get? b=some o/\X.Ha b=none
 bsz:X.base.objs.size<=X.sf.heap.objs.size
 noex:∀b o,X.base.get? b=some o->b∉X.ex
 exfs:∀b∈X.ex,b∉X.fs
 funs:X.sf.heap.FunFrames X.base X.outer
 frf:∀b∈X.fs,X.Ha b=none
structure Inv (X:Cx) (pins:List (Addr×Obj)) (σ:List (Option V)) (H:Hp) (s:Shared):Prop where
 ok:X.Ok
 os:s.os=X.sf.os
 bare:AllBare s.gens
 base:Un X.fs X.ex X.Ha H X.sf.heap s.heap
 loc:∃m,s.heap.Ns X.env.locals m/\∀(i:Nat) (x:Str) (v:V),X.N[i]?=some x->σ[i]?=some (some v)->A0 X.env.scope x->∃u,bb v u/\LI X.env s.heap m x u
 cell:∀x c,X.env.cells.lookup x=some c->∃v,s.heap.IsCell c v
 free:H X.env.locals=none
 freeC:∀x c,X.env.cells.lookup x=some c->H c=none
 pin:∀p∈X.pn++pins,s.heap.get? p.1=some p.2/\H p.1=none/\p.1≠X.env.locals/\p.1∉X.fs/\∀v,p.2.data≠.cell v
 hok:jF X.prog X.w H s.heap
 len:σ.length=X.N.length
section
variable {X:Cx}{pins:List (Addr×Obj)}{σ:List (Option V)}{H H':Hp}{s:Shared}{h':Heap}
def Cx.Ok.nofr(ok:X.Ok)(e:X.base.get? b=some o):b∉X.fs:=λhb=>by
 have:=(ok.funs.mem hb).1;rw[e]at this;cases this
def Inv.bs(I:Inv X pins σ H s):∀b o,X.base.get? b=some o->s.heap.get? b=some o/\H b=none:=λb o e=>
 ⟨I.base.keep b o (I.ok.bs b o e).1 (I.ok.bs b o e).2 (I.ok.nofr e) (I.ok.noex b o e),I.base.free b o (I.ok.bs b o e).1 (I.ok.bs b o e).2 (I.ok.noex b o e)⟩
def Inv.bk(I:Inv X pins σ H s):∀b o,X.base.get? b=some o->s.heap.get? b=some o:=λb o e=>(I.bs b o e).1
def Inv.mod(I:Inv X pins σ H s):Mod X.K X.mg X.base:=I.ok.mod
def Inv.kIn(I:Inv X pins σ H s):X.K.In s.heap:=I.ok.mod.kin.keeps I.bk
def Inv.lt(I:Inv X pins σ H s):X.env.locals<s.heap.objs.size:=let ⟨_,hn,_⟩:=I.loc;hn.lt
def Inv.sz(I:Inv X pins σ H s):X.sf.heap.objs.size<=s.heap.objs.size:=Nat.le_trans I.ok.above (Nat.le_of_lt I.lt)
def Inv.nofs(I:Inv X pins σ H s)(h:s.heap.objs.size<=a):a∉X.fs:=λhb=>by
 obtain⟨_,o,ho,_⟩:=I.ok.funs.mem hb;exact absurd (Nat.lt_of_lt_of_le (Heap.lt_size ho) (Nat.le_trans I.sz h)) (Nat.lt_irrefl _)
def Inv.cne(I:Inv X pins σ H s):∀x c,X.env.cells.lookup x=some c->c≠X.env.locals:=λx c e z=>by
 obtain⟨v,o,ho,hd⟩:=I.cell x c e;obtain⟨m,⟨o',es,ep,ho',hd',_⟩,_⟩:=I.loc;rw[z,ho']at ho;cases ho;rw[hd']at hd;cases hd
def Inv.funs(I:Inv X pins σ H s):s.heap.FunFrames X.base X.outer:=by
 have all:∀(l:List Env),(∀b∈A4 l,b∈X.fs)->X.sf.heap.FunFrames X.base l->s.heap.FunFrames X.base l:=by
  intro l
  induction l with
  |nil=>intro _ _;trivial
  |cons env r ih=>
   intro hs hl;obtain⟨hk,⟨L,o,hf,hn,ho,hd⟩,hr⟩:=hl;have hL:L∈X.fs:=hs L (by unfold A4;rw[List.filterMap_cons,hf];exact List.mem_cons_self);obtain⟨sl,e⟩:=I.base.slot L o ho (I.ok.frf L hL) hL λz=>I.ok.exfs L z hL;exact⟨hk,⟨L,_,hf,hn,e,hd⟩,ih (λb hb=>hs b (by unfold A4;rw[List.filterMap_cons,hf];exact List.mem_cons_of_mem _ hb)) hr⟩
 exact all X.outer (λ_ hb=>hb) I.ok.funs
def Inv.stack(I:Inv X pins σ H s):s.heap.FunFrames X.base X.stack:=by
 rcases I.ok.stk with e|⟨e,hf⟩
 .rw[e];exact I.funs
 .rw[e]
  obtain⟨m,hn,_⟩:=I.loc;refine .cons (by rw[I.ok.kind];decide) hf hn ?_ I.funs;exact Heap.get?_none_of_le (Nat.le_trans I.ok.bsz I.ok.above)
def Inv.stkSub(I:Inv X pins σ H s):∀b∈A4 X.stack,b∈X.env.locals::X.fs:=λb hb=>by
 rcases I.ok.stk with e|⟨e,hf⟩
 .rw[e]at hb;exact List.mem_cons_of_mem _ hb
 .rw[e]at hb
  unfold A4 at hb;rw[List.filterMap_cons,hf]at hb;exact hb
def Inv.stkFree(I:Inv X pins σ H s):∀b∈A4 X.stack,H b=none:=λb hb=>by
 rcases List.mem_cons.mp (I.stkSub b hb) with e|hb
 .rw[e];exact I.free
 .obtain⟨_,o,ho,_⟩:=I.ok.funs.mem hb
  exact I.base.free b o ho (I.ok.frf b hb) λz=>I.ok.exfs b z hb
def Inv.step{ch:List Addr}(I:Inv X pins σ H s)
  (hch:∀b∈ch,(b∈X.ex∨X.sf.heap.objs.size<=b)/\b≠X.env.locals/\(∀x c,X.env.cells.lookup x=some c->c≠b)/\∀p∈X.pn++pins,p.1≠b)
  (keep:∀b o,b≠X.env.locals->b∉X.fs->b∉ch->s.heap.get? b=some o->H b=none->h'.get? b=some o)
  (slot:∀b o,b≠X.env.locals->b∈X.fs->b∉ch->s.heap.get? b=some o->H b=none->∃sl,h'.get? b=some { o with slots:=sl })(free:∀b o,b∉ch->s.heap.get? b=some o->H b=none->H' b=none)
  (there:∀b o,b∉ch->s.heap.get? b=some o->∃o',h'.get? b=some o')
  (tups:∀b xs,H b=some (.tup xs)->H' b=some (.tup xs))(frzs:∀b o u,H b=some (.frz o u)->H' b=some (.frz o u))(tbls:∀b ps,H b=some (.tbl ps)->∃more,H' b=some (.tbl (ps++more)))
  (ns:∀m,s.heap.Ns X.env.locals m->h'.Ns X.env.locals m)(hok:jF X.prog X.w H' h')(hg:AllBare g') :
  Inv X pins σ H' { s with heap:=h',gens:=g',drawn:=d',toks:=t' }:=by
 have neL:∀b o,X.sf.heap.get? b=some o->b≠X.env.locals:=λb o e=>Nat.ne_of_lt (Nat.lt_of_lt_of_le (Heap.lt_size e) I.ok.above);have neC:∀b o,X.sf.heap.get? b=some o->b∉X.ex->b∉ch:=λb o e hx hb=>by
  rcases(hch b hb).1 with z|z
  .exact hx z
  .exact absurd (Nat.lt_of_lt_of_le (Heap.lt_size e) z) (Nat.lt_irrefl _)
 have cellK:∀x c,X.env.cells.lookup x=some c->∀v,s.heap.IsCell c v->h'.IsCell c v:=λx c e v z9=>by
  obtain⟨o,ho,hd⟩:=z9;have nch:c∉ch:=λz=>(hch c z).2.2.1 x c e rfl
  by_cases hc:c∈X.fs
  .obtain⟨sl,q⟩:=slot c o (I.cne x c e) hc nch ho (I.freeC x c e)
   exact⟨_,q,hd⟩
  .exact⟨o,keep c o (I.cne x c e) hc nch ho (I.freeC x c e),hd⟩
 refine⟨I.ok,I.os,hg,⟨λb o e n hb hx=>?_,λb o e n hb hx=>?_,λb o e n hx=>?_,λb o e hx=>?_,λb xs e=>tups b xs (I.base.tups b xs e),λb o xs e=>frzs b o xs (I.base.frzs b o xs e),λb ps e=>?_⟩,?_,λx c e=>?_,?_,λx c e=>?_,λp hp=>?_,hok,I.len⟩
 .exact keep b o (neL b o e) hb (neC b o e hx) (I.base.keep b o e n hb hx) (I.base.free b o e n hx)
 .obtain⟨sl,e1⟩:=I.base.slot b o e n hb hx
  obtain⟨sl',e2⟩:=slot b _ (neL b o e) hb (neC b o e hx) e1 (I.base.free b o e n hx);exact⟨sl',e2⟩
 .obtain⟨o',e1⟩:=I.base.there b o e hx
  exact free b o' (neC b o e hx) e1 (I.base.free b o e n hx)
 .obtain⟨o',e1⟩:=I.base.there b o e hx
  exact there b o' (neC b o e hx) e1
 .obtain⟨m1,e1⟩:=I.base.tbls b ps e
  obtain⟨m2,e2⟩:=tbls b _ e1;exact⟨m1++m2,by rw[e2,Array.append_assoc]⟩
 .obtain⟨m,hn,hl⟩:=I.loc
  refine⟨m,ns m hn,λi x v e1 e2 e3=>?_⟩;obtain⟨u,r,l⟩:=hl i x v e1 e2 e3;refine⟨u,r,?_⟩;rcases l with l|⟨k,c,e,z⟩
  .exact .inl l
  .exact .inr ⟨k,c,e,cellK x c e _ z⟩
 .obtain⟨v,z⟩:=I.cell x c e
  exact⟨v,cellK x c e v z⟩
 .obtain⟨m,⟨o,_,_,ho,_⟩,_⟩:=I.loc
  exact free _ o (λz=>(hch _ z).2.1 rfl) ho I.free
 .obtain⟨v,o,ho,hd⟩:=I.cell x c e
  exact free c o (λz=>(hch c z).2.2.1 x c e rfl) ho (I.freeC x c e)
 .obtain⟨e,n,ne,nf,d⟩:=I.pin p hp
  have nch:p.1∉ch:=λz=>(hch p.1 z).2.2.2 p hp rfl;exact⟨keep p.1 p.2 ne nf nch e n,free p.1 p.2 nch e n,ne,nf,d⟩
def Inv.un(I:Inv X pins σ H s)(u:Un X.fs [] H H' s.heap h')(hok:jF X.prog X.w H' h'):Inv X pins σ H' { s with heap:=h',toks:=t' }:=by
 obtain⟨m,⟨o,es,ep,ho,r⟩,_⟩:=id I.loc;obtain⟨sl,hL⟩:=u.any ho I.free (by simp);exact I.step (g':=s.gens) (d':=s.drawn) (ch:=[]) (λ_ z=>nomatch z) (λb o _ hb _ e n=>u.keep b o e n hb (by simp)) (λb o _ hb _ e n=>u.slot b o e n hb (by simp)) (λb o _ e n=>u.free b o e n (by simp)) (λb o _ e=>u.there b o e (by simp)) u.tups u.frzs u.tbls (λm' hm=>by
  obtain⟨o',es',ep',ho',r'⟩:=hm;rw[ho]at ho';cases ho';exact⟨_,es',ep',hL,r'⟩) hok I.bare
def Inv.call(I:Inv X pins σ H s)(u:Un (A4 X.stack) ch H H' s.heap h')(hok:jF X.prog X.w H' h')(hg:AllBare g')
  (hch:∀b∈ch,(b∈X.ex∨X.sf.heap.objs.size<=b)/\b≠X.env.locals/\(∀x c,X.env.cells.lookup x=some c->c≠b)/\∀p∈X.pn++pins,p.1≠b) :
  Inv X pins σ H' { s with heap:=h',gens:=g',drawn:=d',toks:=t' }:=by
 obtain⟨m,⟨o,es,ep,ho,r⟩,_⟩:=id I.loc;obtain⟨sl,hL⟩:=u.any ho I.free λz=>(hch _ z).2.1 rfl;exact I.step (ch:=ch) hch (λb o hL hb hc e n=>u.keep b o e n (λz=>(List.mem_cons.mp (I.stkSub b z)).elim hL hb) hc) (λb o _ _ hc e n=>u.any e n hc) (λb o hc e n=>u.free b o e n hc) (λb o hc e=>u.there b o e hc) u.tups u.frzs u.tbls (λm' hm=>by
  obtain⟨o',es',ep',ho',r'⟩:=hm;rw[ho]at ho';cases ho';exact⟨_,es',ep',hL,r'⟩) hok hg
def Inv.turned(I:Inv X pins σ H s)(k:∀b o,b≠it->s.heap.get? b=some o->h'.get? b=some o)(hn:H it=none)(hL:it≠X.env.locals)
  (h1:it∈X.ex∨X.sf.heap.objs.size<=it)(h2:∀x c,X.env.cells.lookup x=some c->c≠it)(h3:∀p∈X.pn++pins,p.1≠it):Inv X pins σ H { s with heap:=h',toks:=t' }:=by
 have nit:∀b u,H b=some u->b≠it:=λb u e z=>by rw[z,hn]at e;cases e
 refine I.step (g':=s.gens) (d':=s.drawn) (ch:=[it]) (λb hb=>?_) (λb o _ _ hc e _=>k b o (λz=>hc (by simp[z])) e) (λb o _ _ hc e _=>⟨o.slots,k b o (λz=>hc (by simp[z])) e⟩) (λ_ _ _ _ n=>n)
  (λb o hc e=>⟨o,k b o (λz=>hc (by simp[z])) e⟩) (λ_ _ e=>e) (λ_ _ _ e=>e) (λb ps e=>⟨#[],by rw[e];simp⟩) (λm hm=>?_) (λb u e=>?_) I.bare
 .have e:b=it:=by simpa using hb
  subst e;exact⟨h1,hL,h2,h3⟩
 .obtain⟨o,es,ep,ho,r⟩:=hm
  exact⟨o,es,ep,k _ o (Ne.symm hL) ho,r⟩
 .refine(I.hok b u e).stay (λc v hc q=>k c v ?_ q) (λ_ q=>q) λ_ _ q=>q
  rcases hc with z|z
  .rw[z];exact nit b u e
  .exact nit c _ z
def Inv.tok(I:Inv X pins σ H s)(t:Nat):Inv X pins σ H { s with toks:=t }:=I.un (h':=s.heap) (t':=t) Un.refl I.hok
def Inv.kept(I:Inv X pins σ H s)(k:∀b u,s.heap.get? b=some u->h'.get? b=some u):Inv X pins σ H { s with heap:=h',toks:=t' }:=I.un (Un.kept k) (I.hok.kept k)
def Inv.laid(I:Inv X pins σ H s)(k:∀b u,s.heap.get? b=some u->h'.get? b=some u)(hp:s.heap.objs.size<=a)(new:cw X.prog X.w (upd H a o) h' a o) :
  Inv X pins σ (upd H a o) { s with heap:=h',toks:=t' }:=I.un (Un.laid k hp (I.hok.fresh hp)) (I.hok.laid k hp new)
def Inv.write(I:Inv X pins σ H s)(mu:Km (H x))(he:e=x∨H e=some (.own x))(k:∀b u,b≠e->s.heap.get? b=some u->h'.get? b=some u)(heo:∃u,h'.get? e=some u)
  (new:cw X.prog X.w (upd H x o) h' x o):Inv X pins σ (upd H x o) { s with heap:=h',toks:=t' }:=I.un (Un.write mu he k heo) (I.hok.write mu he k heo new)
def Inv.pins_of(I:Inv X pins σ H s)(h:∀p∈pins',s.heap.get? p.1=some p.2/\H p.1=none/\p.1≠X.env.locals/\p.1∉X.fs/\∀v,p.2.data≠.cell v):Inv X pins' σ H s :=
 ⟨I.ok,I.os,I.bare,I.base,I.loc,I.cell,I.free,I.freeC,λp hp=>(List.mem_append.mp hp).elim (λz=>I.pin p (List.mem_append_left _ z)) (h p),I.hok,I.len⟩
def vg{N:List Str}(hN:N.Nodup){i j:Nat}(a:N[i]?=some x)(b:N[j]?=some x):i=j:=by
 obtain⟨h1,e1⟩:=List.getElem?_eq_some_iff.mp a;obtain⟨h2,e2⟩:=List.getElem?_eq_some_iff.mp b;exact(List.getElem_inj hN).mp (e1.trans e2.symm)
def lK(I:Inv X pins σ H s)(hN:X.N.Nodup)(hi:X.N[i]?=some x)(hx:A1 X.env.scope x)(r:bb v u)
  (h:∀s',Inv X pins (σ.set i (some v)) H s'->(∃a,Heap.SameBut a s.heap s'.heap/\(a=X.env.locals∨X.env.cells.lookup x=some a))->Q () s')(hf:X.fn x=true∨X.env.scope.names.lookup x=some .local := by first|exact .inl rfl|exact .inr rfl|assumption):wpAny M A (storeName X.env x u) Q E s:=by
 obtain⟨m,hn,hl⟩:=id I.loc;have hcls:(X.env.scope.kind==.class||(X.env.scope.kind==.module&&X.env.locals != X.env.globals))=false:=by rw[I.ok.kind];rfl
 have hiσ:i<σ.length:=by rw[I.len];exact(List.getElem?_eq_some_iff.mp hi).1
 have cne:=I.cne;have tracked:∀{a:Addr}{h':Heap},(∃o,s.heap.get? a=some o/\H a=none)->Heap.SameBut a s.heap h'->jF X.prog X.w H h':=λ{a h'} ha hs b ob e=>by
  obtain⟨_,_,hfree⟩:=ha;refine(I.hok b ob e).stay (λc w' hc q=>(hs.2 c ?_).trans q) (λ_ q=>q) λ_ _ q=>q;rintro rfl;rcases hc with rfl|hc
  .rw[hfree]at e;cases e
  .rw[hfree]at hc;cases hc
 rcases hx with hk|hk
 .refine wpAny_storeName_local hk hn (λh' hn' hs=>?_) hcls
  obtain⟨oL,_,_,hoL,_⟩:=id hn;refine h _ ⟨I.ok,I.os,I.bare,⟨λb o e n hb hx=>?_,λb o e n hb hx=>?_,I.base.free,λb o e hx=>?_,I.base.tups,I.base.frzs,I.base.tbls⟩,⟨_,hn',λj y v' e1 e2 e3=>?_⟩,λy c e=>?_,I.free,I.freeC,λp hp=>?_,tracked ⟨oL,hoL,I.free⟩ hs,by simpa using I.len⟩ ⟨_,hs,.inl rfl⟩
  .exact(hs.2 b (Nat.ne_of_lt (Nat.lt_of_lt_of_le (Heap.lt_size e) I.ok.above))).trans (I.base.keep b o e n hb hx)
  .obtain⟨sl,e1⟩:=I.base.slot b o e n hb hx
   exact⟨sl,(hs.2 b (Nat.ne_of_lt (Nat.lt_of_lt_of_le (Heap.lt_size e) I.ok.above))).trans e1⟩
  .obtain⟨o',e1⟩:=I.base.there b o e hx
   exact⟨o',(hs.2 b (Nat.ne_of_lt (Nat.lt_of_lt_of_le (Heap.lt_size e) I.ok.above))).trans e1⟩
  .by_cases hj:j=i
   .subst hj
    rw[hi]at e1;cases e1;rw[List.getElem?_set_self hiσ]at e2;cases e2;exact⟨u,r,.inl ⟨hk,by simp⟩⟩
   .rw[List.getElem?_set_ne (Ne.symm hj)]at e2
    obtain⟨u',r',q⟩:=hl j y v' e1 e2 e3;refine⟨u',r',?_⟩;rcases q with⟨k,e⟩|⟨k,c,e,z⟩
    .refine .inl ⟨k,?_⟩
     have:y≠x:=λe=>hj (vg hN e1 (e▸hi));simp[this,e]
    .exact .inr ⟨k,c,e,z.sameBut hs (cne y c e)⟩
  .obtain⟨w',z⟩:=I.cell y c e
   exact⟨w',z.sameBut hs (cne y c e)⟩
  .obtain⟨e,n,ne,nf,d⟩:=I.pin p hp
   exact⟨(hs.2 p.1 ne).trans e,n,ne,nf,d⟩
 .have hfn:X.fn x=true:=by
   rcases hf with z|z
   .exact z
   .rw[z]at hk;cases hk
  obtain⟨c,hc⟩:=I.ok.has x (.inl hk);obtain⟨w',z⟩:=I.cell x c hc;refine wpAny_storeName_cell I.ok.kind hk hc z (λh' hc' hs=>?_);obtain⟨oc,hoc,hocd⟩:=id z;refine h { s with heap:=h' } ⟨I.ok,I.os,I.bare,⟨λb o e n hb hx=>?_,λb o e n hb hx=>?_,I.base.free,λb o e hx=>?_,I.base.tups,I.base.frzs,I.base.tbls⟩,⟨m,hn.sameBut hs (Ne.symm (cne x c hc)),λj y v' e1 e2 e3=>?_⟩,λy c' e=>?_,I.free,I.freeC,λp hp=>?_,tracked ⟨oc,hoc,I.freeC x c hc⟩ hs,by simpa using I.len⟩ ⟨c,hs,.inr hc⟩
  .exact(hs.2 b (Nat.ne_of_lt (Nat.lt_of_lt_of_le (Heap.lt_size e) (I.ok.cab x c hfn hc)))).trans (I.base.keep b o e n hb hx)
  .obtain⟨sl,e1⟩:=I.base.slot b o e n hb hx
   exact⟨sl,(hs.2 b (Nat.ne_of_lt (Nat.lt_of_lt_of_le (Heap.lt_size e) (I.ok.cab x c hfn hc)))).trans e1⟩
  .obtain⟨o',e1⟩:=I.base.there b o e hx
   exact⟨o',(hs.2 b (Nat.ne_of_lt (Nat.lt_of_lt_of_le (Heap.lt_size e) (I.ok.cab x c hfn hc)))).trans e1⟩
  .by_cases hj:j=i
   .subst hj
    rw[hi]at e1;cases e1;rw[List.getElem?_set_self hiσ]at e2;cases e2;exact⟨u,r,.inr ⟨.inl hk,c,hc,hc'⟩⟩
   .rw[List.getElem?_set_ne (Ne.symm hj)]at e2
    obtain⟨u',r',q⟩:=hl j y v' e1 e2 e3;refine⟨u',r',?_⟩;rcases q with q|⟨k,c',e,z'⟩
    .exact .inl q
    .refine .inr ⟨k,c',e,z'.sameBut hs ?_⟩
     rintro rfl;exact hj (vg hN e1 (I.ok.inj _ _ _ e hc▸hi))
  .by_cases hcc:c'=c
   .subst hcc;exact⟨_,hc'⟩
   .obtain⟨w2,z2⟩:=I.cell y c' e
    exact⟨w2,z2.sameBut hs hcc⟩
  .obtain⟨e,n,ne,nf,d⟩:=I.pin p hp
   refine⟨(hs.2 p.1 ?_).trans e,n,ne,nf,d⟩;intro q;rw[q,hoc]at e;have q':oc=p.2:=Option.some.inj e;exact d w' (by rw[←q'];exact hocd)
def jI(I:Inv X pins σ H s)(hN:X.N.Nodup)(hi:X.N[i]?=some x)(hx:A1 X.env.scope x)(r:bb v u)
  (h:∀s',Inv X pins (σ.set i (some v)) H s'->Q () s')(hf:X.fn x=true∨X.env.scope.names.lookup x=some .local := by first|exact .inl rfl|exact .inr rfl|assumption):wpAny M A (storeName X.env x u) Q E s :=
 lK I hN hi hx r (λs' I' _=>h s' I') hf
def Inv.call'(I:Inv X pins σ H s)(ho:s'.os=s.os)(u:Un (A4 X.stack) ch H H' s.heap s'.heap)(hok:jF X.prog X.w H' s'.heap)(hg:AllBare s'.gens)
  (hch:∀b∈ch,(b∈X.ex∨X.sf.heap.objs.size<=b)/\b≠X.env.locals/\(∀x c,X.env.cells.lookup x=some c->c≠b)/\∀p∈X.pn++pins,p.1≠b):Inv X pins σ H' s':=by
 obtain⟨h',g',d',t',o'⟩:=s';have e:o'=s.os:=ho;subst e;exact I.call (g':=g') (t':=t') (d':=d') u hok hg hch
end
abbrev XK:=Value->Option Addr->Hp->Prop
abbrev St:=List (Option V)
abbrev VK:=V->Hp->Prop
abbrev TE:=St->Hp->VK->Prop
abbrev TT:=St->Hp->(Bool->Hp->Prop)->Prop
abbrev TA:=St->Hp->(ad->Hp->Prop)->Prop
structure jG where
 nx:St->Hp->Prop
 rt:VK
 bk:St->Hp->Prop:=λ_ _=>False
 ct:St->Hp->Prop:=λ_ _=>False
abbrev TS:=jG->St->Hp->Prop
def EP(X:Cx)(pins:List (Addr×Obj))(σ:St)(Q:VK)(u:Value)(s':Shared):Prop:=∃v H',Inv X pins σ H' s'/\bb v u/\Q v H'
def TP(X:Cx)(pins:List (Addr×Obj))(σ:St)(Q:Bool->Hp->Prop)(b:Bool)(s':Shared):Prop:=∃H',Inv X pins σ H' s'/\Q b H'
def AP(X:Cx)(pins:List (Addr×Obj))(σ:St)(Q:ad->Hp->Prop)(us:List Value)(s':Shared):Prop:=∃vs H',Inv X pins σ H' s'/\ba vs us/\Q vs H'
noncomputable def SP(X:Cx) (pins:List (Addr×Obj)) (D:jG) (f:Flow) (s':Shared):Prop :=
 match f with
 |.next=>∃σ' H',Inv X pins σ' H' s'/\D.nx σ' H'
 |.brk=>∃σ' H',Inv X pins σ' H' s'/\D.bk σ' H'
 |.cont=>∃σ' H',Inv X pins σ' H' s'/\D.ct σ' H'
 |.ret u=>∃v σ' H',Inv X pins σ' H' s'/\bb v u/\D.rt v H'
def PE(X:Cx)(e:Expr)(t:TE):Prop :=
 ∀(pins:List (Addr×Obj)) (s:Shared) (σ:St) (H:Hp) (Q:VK),Inv X pins σ H s->t σ H Q->wpAny (model X.prog X.w) X.A (eval e X.env) (EP X pins σ Q) X.xe s
def PT(X:Cx)(e:Expr)(t:TT):Prop :=
 ∀(pins:List (Addr×Obj)) (s:Shared) (σ:St) (H:Hp) (Q:Bool->Hp->Prop),Inv X pins σ H s->t σ H Q->wpAny (model X.prog X.w) X.A (isTrue e X.env (eval e X.env)) (TP X pins σ Q) X.xe s
def PW(X:Cx)(e:Expr)(t:TT):Prop :=
 ∀(whole:Sem Value) (pins:List (Addr×Obj)) (s:Shared) (σ:St) (H:Hp) (Q:Bool->Hp->Prop),Inv X pins σ H s->t σ H Q->wpAny (model X.prog X.w) X.A (isTrue e X.env whole) (TP X pins σ Q) X.xe s
def PW.pt(h:PW X e t):PT X e t:=h _
def PA(X:Cx)(es:List Expr)(t:TA):Prop :=
 ∀(pos:Pos) (pins:List (Addr×Obj)) (s:Shared) (σ:St) (H:Hp) (Q:ad->Hp->Prop),Inv X pins σ H s->t σ H Q->wpAny (model X.prog X.w) X.A (spliced (backTo pos (starEach es X.env))) (AP X pins σ Q) X.xe s
def PS(X:Cx)(st:Stmt)(t:TS):Prop :=
 ∀(pins:List (Addr×Obj)) (s:Shared) (σ:St) (H:Hp) (D:jG),Inv X pins σ H s->t D σ H->wpAny (model X.prog X.w) X.A (exec st X.env) (SP X pins D) X.xe s
def ux(X:Cx)(st:List Stmt)(t:TS):Prop :=
 ∀(pins:List (Addr×Obj)) (s:Shared) (σ:St) (H:Hp) (D:jG),Inv X pins σ H s->t D σ H->wpAny (model X.prog X.w) X.A (execs st X.env) (SP X pins D) X.xe s
def cu{Q Q':α->Shared->Prop}(h:wpAny M A t Q E s)(hQ:∀a s,Q a s->Q' a s):wpAny M A t Q' E s:=wpAny_mono h hQ λ_ _ x=>x
section
variable {X:Cx}
def KU(i:Nat):TE:=λσ H Q=>∃v,σ[i]?=some (some v)/\Q v H
def tC(v:V):TE:=λ_ H Q=>Q v H
def fH(hN:X.N[i]?=some x)(hv:A0 X.env.scope x)(hd:(x==("__debug__":Str))=false:=by decide)(hcd:(x==("__classdict__":Str))=false:=by decide):PE X (.Name x pos) (KU i):=by
 intro pins s σ H Q I h;obtain⟨v,e,h⟩:=h;obtain⟨m,hn,hl⟩:=I.loc;obtain⟨u,r,l⟩:=hl i x v hN e hv;have fin:EP X pins σ Q u s:=⟨v,H,I,r,h⟩
 rcases l with⟨hk,hm⟩|⟨hk,c,hc,hcell⟩
 .exact wpAny_Name (wpAny_loadName_local I.ok.kind hk hn hm fin) hd
 .rcases hk with hk|hk
  .exact wpAny_Name (wpAny_loadName_cell I.ok.kind hk hc hcell fin) hd
  .exact wpAny_Name (wpAny_loadName_free I.ok.kind hk hc hcell fin hcd) hd
def tf{i j pos}:PE X (.Constant (.int i) j pos) (tC (.int i)):=λ_ _ _ H _ I h=>wpAny_Constant_int ⟨.int i,H,I.tok _,⟨_,rfl⟩,h⟩
def Jz{b j pos}:PE X (.Constant (.bool b) j pos) (tC (.bl b)):=λ_ _ _ H _ I h=>Constant_bool ⟨.bl b,H,I,rfl,h⟩
def G6{j pos}:PE X (.Constant .none j pos) (tC .non):=λ_ _ _ H _ I h=>Constant_none ⟨.non,H,I,rfl,h⟩
def G3{x j pos}:PE X (.Constant (.str x) j pos) (tC (.str x)):=λ_ _ _ H _ I h=>Calls.Constant_str ⟨.str x,H,I.tok _,⟨_,rfl⟩,h⟩
def Gl(X:Cx)(x:Str):Prop:=X.env.kindOf x=some .globalImplicit
def yW(I:Inv X pins σ H s)(hg:Gl X x)(hm:X.mg x=some u)(h:Q u s)
  (hd:(x==("__debug__":Str))=false:=by decide):wpAny (model X.prog X.w) X.A (eval (.Name x pos) X.env) Q E s :=
 Calls.Name_function_global I.ok.kind hg (Calls.loadGlobal_global (by rw[I.ok.glob];exact I.mod.glob.keeps I.bk) hm h) hd
def jq(I:Inv X pins σ H s)(hg:Gl X x)(hm:X.mg x=none)(hv:bootBuiltins x=some u)(h:Q u s)
  (hn:x≠"__name__":=by decide)(hd:(x==("__debug__":Str))=false:=by decide):wpAny (model X.prog X.w) X.A (eval (.Name x pos) X.env) Q E s:=by
 obtain⟨mb,h1,h2⟩:=I.mod.blt;exact Calls.Name_function_global I.ok.kind hg (Calls.loadGlobal_builtin (by rw[I.ok.glob];exact I.mod.glob.keeps I.bk) hm (by rw[I.ok.blt];exact h1.keeps I.bk) ((h2 x hn).trans hv) h) hd
def Ez(hg:Gl X x)(hm:X.mg x=some u)(r:bb v u)(hd:(x==("__debug__":Str))=false:=by decide):PE X (.Name x pos) (tC v) :=
 λ_ _ _ H _ I h=>yW I hg hm ⟨v,H,I,r,h⟩ hd
def EC(hg:Gl X x)(hm:X.mg x=none)(hv:bootBuiltins x=some u)(r:bb v u)(hn:x≠"__name__":=by decide)(hd:(x==("__debug__":Str))=false:=by decide):PE X (.Name x pos) (tC v) :=
 λ_ _ _ H _ I h=>jq I hg hm hv ⟨v,H,I,r,h⟩ hn hd
variable {a b:Expr}{ta tb:TE}{pos:Pos}
noncomputable def PC(X:Cx) (op:CmpOp) (a b:Expr) (t:TE):Prop :=
 ∀(pins:List (Addr×Obj)) (s:Shared) (σ:St) (H:Hp) (Q:VK),Inv X pins σ H s->t σ H Q ->
  wpAny (model X.prog X.w) X.A (eval a X.env) (λv sg=>wpAny (model X.prog X.w) X.A (eval b X.env) (λu si=>wpAny (model X.prog X.w) X.A (compareOp op v u) (EP X pins σ Q) X.xe si) X.xe sg) X.xe s
def Cf(b:Expr)(h:op≠.In)(h2:op≠.NotIn):behindInMarks op b=false:=by
 have e1:(op==CmpOp.In)=false:=by cases op<;>first|rfl|exact absurd rfl h
 have e2:(op==CmpOp.NotIn)=false:=by cases op<;>first|rfl|exact absurd rfl h2
 cases b<;>simp[behindInMarks,e1,e2]
def tB(t:TE):TT:=λσ H Q=>t σ H λx H1=>∃c,x=.bl c/\Q c H1
def GS(h:PE X e t)(he:∀whole,isTrue e X.env whole=(do let v ←whole;standAt e.pos;holding [v] (truthy v)):=by intro _;rfl):PT X e (tB t):=by
 intro pins s σ H Q I hw;refine isTrue_plain (cu (h pins s σ H _ I hw) λv s1 z9=>?_) (he _);obtain⟨x,H1,I1,r1,q1⟩:=z9;obtain⟨d,rfl,q⟩:=q1;cases r1;exact wpAny_truthy_bool ⟨H1,I1,q⟩
variable {tA tB':TT}{rest:List Expr}
def Lf(t u:TT):TT:=λσ H Q=>t σ H λc H1=>if c=true then u σ H1 Q else Q false H1
def Mo(t u:TT):TT:=λσ H Q=>t σ H λc H1=>if c=true then Q true H1 else u σ H1 Q
def K6(t:TT):TT:=λσ H Q=>t σ H λc H1=>Q (!c) H1
def Em(ha:PT X a tA):PW X (.BoolOp .And [a] pos) tA:=by
 intro wh pins s σ H Q I h;refine isTrue_and (cu (ha pins s σ H Q I h) λc s1 e=>?_);cases c with|true=>exact isTrue_and_nil e|false=>exact e
def GQ(ha:PT X a tA):PW X (.BoolOp .Or [a] pos) tA:=by
 intro wh pins s σ H Q I h;refine isTrue_or (cu (ha pins s σ H Q I h) λc s1 e=>?_);cases c with|false=>exact isTrue_or_nil e|true=>exact e
def GR(ha:PT X a tA)(hb:PW X (.BoolOp .And (b::rest) pos) tB'):PW X (.BoolOp .And (a::b::rest) pos) (Lf tA tB'):=by
 intro wh pins s σ H Q I h;refine isTrue_and (cu (ha pins s σ H _ I h) λc s1 z9=>?_);obtain⟨H1,I1,q1⟩:=z9;cases c with|true=>exact hb wh pins s1 σ H1 Q I1 q1|false=>exact⟨H1,I1,q1⟩
def Js(ha:PT X a tA)(hb:PW X (.BoolOp .Or (b::rest) pos) tB'):PW X (.BoolOp .Or (a::b::rest) pos) (Mo tA tB'):=by
 intro wh pins s σ H Q I h;refine isTrue_or (cu (ha pins s σ H _ I h) λc s1 z9=>?_);obtain⟨H1,I1,q1⟩:=z9;cases c with|true=>exact⟨H1,I1,q1⟩|false=>exact hb wh pins s1 σ H1 Q I1 q1
def GU(ha:PT X a tA):PT X (.UnaryOp .Not a pos) (K6 tA):=by
 intro pins s σ H Q I h;exact isTrue_not (ha pins s σ H (λc H1=>Q (!c) H1) I h)
def IZ(ta tb:TE):TE:=λσ H Q=>ta σ H λx H1=>∃c,x=.bl c/\if c=true then tb σ H1 Q else Q (.bl false) H1
def K5(ta tb:TE):TE:=λσ H Q=>ta σ H λx H1=>∃c,x=.bl c/\if c=true then Q (.bl true) H1 else tb σ H1 Q
def IQ(ta:TE):TE:=λσ H Q=>ta σ H λx H1=>∃c,x=.bl c/\Q (.bl (!c)) H1
def G4{op}(h:PE X a t):PE X (.BoolOp op [a] pos) t:=λpins s σ H Q I hw=>BoolOp_one (h pins s σ H Q I hw)
def G7(ha:PE X a ta)(hb:PE X (.BoolOp .And (b::rest) pos) tb):PE X (.BoolOp .And (a::b::rest) pos) (IZ ta tb):=by
 intro pins s σ H Q I h;refine BoolOp_and (cu (ha pins s σ H _ I h) λv s1 ⟨x,H1,I1,r1,q1⟩=>?_);obtain⟨c,rfl,q1⟩:=q1;cases r1;refine wpAny_truthy_bool ?_;cases c with|true=>exact hb pins s1 σ H1 Q I1 q1|false=>exact⟨.bl false,H1,I1,rfl,q1⟩
def Jy(ha:PE X a ta)(hb:PE X (.BoolOp .Or (b::rest) pos) tb):PE X (.BoolOp .Or (a::b::rest) pos) (K5 ta tb):=by
 intro pins s σ H Q I h;refine BoolOp_or (cu (ha pins s σ H _ I h) λv s1 ⟨x,H1,I1,r1,q1⟩=>?_);obtain⟨c,rfl,q1⟩:=q1;cases r1;refine wpAny_truthy_bool ?_;cases c with|false=>exact hb pins s1 σ H1 Q I1 q1|true=>exact⟨.bl true,H1,I1,rfl,q1⟩
def G5(ha:PE X a ta):PE X (.UnaryOp .Not a pos) (IQ ta):=by
 intro pins s σ H Q I h;refine UnaryOp_ (cu (ha pins s σ H _ I h) λv s1 z9=>?_);obtain⟨x,H1,I1,r1,q1⟩:=z9;obtain⟨c,rfl,q1⟩:=q1;cases r1;exact not_of (wpAny_truthy_bool ⟨.bl (!c),H1,I1,rfl,q1⟩)
def Mt(t:TT)(ta tb:TE):TE:=λσ H Q=>t σ H λc H1=>if c=true then ta σ H1 Q else tb σ H1 Q
def B3(hc:PT X c tA)(ha:PE X a ta)(hb:PE X b tb):PE X (.IfExp c a b pos) (Mt tA ta tb):=by
 intro pins s σ H Q I h;refine wpAny_IfExp (cu (hc pins s σ H _ I h) λd s1 z9=>?_);obtain⟨H1,I1,q1⟩:=z9;cases d with|true=>exact ha pins s1 σ H1 Q I1 q1|false=>exact hb pins s1 σ H1 Q I1 q1
end
def d9(K:W.Frag)(H:Hp)(a:Addr)(xs:ad):Prop :=
 Rd H a (.lst xs) ∨
  ∃(o:Obj) (its:Array Value) (n:Nat),K.lookup a=some o/\o.cls=.type "list"/\o.dict=none/\o.data=.seq its n/\its.size<=sizeLine/\ba xs its.toList
def i4(K:W.Frag)(H:Hp)(a:Addr)(xs:ad):Prop :=
 Rd H a (.tup xs) ∨
  ∃(o:Obj) (its:Array Value) (n:Nat),K.lookup a=some o/\o.cls=.type "tuple"/\o.data=.seq its n/\its.size<=sizeLine/\ba xs its.toList
def LD:Value->Option V
 |.none=>some .non
 |.bool b=>some (.bl b)
 |.int i _=>some (.int i)
 |.str x _=>some (.str x)
 |.bytes b _=>some (.byt b)
 |.float b _=>some (.flt b)
 |.ref a=>some (.ref a)
 |.type n=>some (.ty n)
 |_=>none
def bb.abs(r:bb x u):LD u=some x:=by
 cases x with|non|bl _=>cases r;rfl|int _|str _|byt _|flt _=>obtain⟨t,rfl⟩:=r;rfl|ref _|ty _=>cases r;rfl
def bb.inj(r:bb x u)(q:bb y u):x=y:=Option.some.inj (r.abs.symm.trans q.abs)
theorem ba.inj:∀{xs ys:ad}{us:List Value},ba xs us->ba ys us->xs=ys
 |_,_,_,.nil,.nil=>rfl
 |_,_,_,.cons r t,.cons r' t'=>by rw[r.inj r',ba.inj t t']
section
variable {X:Cx}{pins:List (Addr×Obj)}{σ:St}{H:Hp}{s:Shared}{a:Addr}{xs ys:ad}
def d9.of{K:W.Frag}(h:H a=some (.lst xs)):d9 K H a xs:=.inl (.inl h)
def i4.of{K:W.Frag}(h:H a=some (.tup xs)):i4 K H a xs:=.inl (.inl h)
def Inv.list(I:Inv X pins σ H s)(h:d9 X.K H a xs):∃its:List Value,ba xs its/\PlainL s.heap a its.toArray/\xs.length<=sizeLine:=by
 rcases h with h|⟨o,its,n,hk,hc,hd,hs,hz,r⟩
 .obtain⟨z,its,n,r,e⟩:=h.ok I.hok
  exact⟨its,r,⟨_,n,e,rfl,rfl,rfl⟩,z⟩
 .refine⟨its.toList,r,⟨o,n,I.kIn a o hk,hc,hd,by simpa using hs⟩,?_⟩
  have e:=r.length;simp only[Array.length_toList]at e;omega
def Inv.tuple(I:Inv X pins σ H s)(h:i4 X.K H a xs):∃its:List Value,ba xs its/\IsTup s.heap a its.toArray/\xs.length<=sizeLine:=by
 rcases h with h|⟨o,its,n,hk,hc,hs,hz,r⟩
 .obtain⟨z,its,r,p⟩:=h.ok I.hok
  exact⟨its,r,p,z⟩
 .refine⟨its.toList,r,⟨o,I.kIn a o hk,hc,n,by simpa using hs⟩,?_⟩
  have e:=r.length;simp only[Array.length_toList]at e;omega
def Inv.list_inj(I:Inv X pins σ H s)(h:d9 X.K H a xs)(h':d9 X.K H a ys):xs=ys:=by
 obtain⟨its,r,⟨o,n,e,_,_,d⟩,_⟩:=I.list h;obtain⟨its',r',⟨o',n',e',_,_,d'⟩,_⟩:=I.list h';rw[e]at e';cases e';rw[d]at d';injection d' with d1 _;have:its=its':=by simpa using congrArg Array.toList d1
 subst this;exact r.inj r'
def Inv.tuple_inj(I:Inv X pins σ H s)(h:i4 X.K H a xs)(h':i4 X.K H a ys):xs=ys:=by
 obtain⟨its,r,⟨o,e,_,n,d⟩,_⟩:=I.tuple h;obtain⟨its',r',⟨o',e',_,n',d'⟩,_⟩:=I.tuple h';rw[e]at e';cases e';rw[d]at d';injection d' with d1 _;have:its=its':=by simpa using congrArg Array.toList d1
 subst this;exact r.inj r'
end
abbrev Cx.wish(X:Cx)(E:Value->Shared->Prop):Cx:={ X with xe:=E }
abbrev Cx.nox(X:Cx):Cx:=X.wish λ_ _=>False
def Cx.Ok.wish{X:Cx}(ok:X.Ok)(E:Value->Shared->Prop):(X.wish E).Ok :=
 ⟨ok.mod,ok.kind,ok.glob,ok.blt,ok.above,ok.inj,ok.has,ok.cab,ok.hd,ok.frames,ok.stk,ok.exf,ok.bs,ok.bsz,ok.noex,ok.exfs,ok.funs,ok.frf⟩
def Cx.Ok.unwish{X:Cx}(ok:(X.wish E).Ok):X.Ok :=
 ⟨ok.mod,ok.kind,ok.glob,ok.blt,ok.above,ok.inj,ok.has,ok.cab,ok.hd,ok.frames,ok.stk,ok.exf,ok.bs,ok.bsz,ok.noex,ok.exfs,ok.funs,ok.frf⟩
section
variable {X:Cx}{pins:List (Addr×Obj)}{σ:St}{H:Hp}{s:Shared}{E:Value->Shared->Prop}
def Inv.wish(I:Inv X pins σ H s)(E:Value->Shared->Prop):Inv (X.wish E) pins σ H s:=⟨I.ok.wish E,I.os,I.bare,I.base,I.loc,I.cell,I.free,I.freeC,I.pin,I.hok,I.len⟩
def Inv.unwish(I:Inv (X.wish E) pins σ H s):Inv X pins σ H s:=⟨I.ok.unwish,I.os,I.bare,I.base,I.loc,I.cell,I.free,I.freeC,I.pin,I.hok,I.len⟩
def SP.unwish{D:jG}(h:SP (X.wish E) pins D f s'):SP X pins D f s':=by
 cases f with|next|brk|cont=>obtain⟨σ',H',I,q⟩:=h;exact⟨σ',H',I.unwish,q⟩|ret u=>obtain⟨v,σ',H',I,r,q⟩:=h;exact⟨v,σ',H',I.unwish,r,q⟩
def ux.nox{st:List Stmt}(h:ux X.nox st t):ux X st t:=λpins s σ H D I hw=>
 wpAny_mono (h pins s σ H D (I.wish _) hw) (λ_ _ q=>q.unwish) λ_ _ z=>False.elim z
end
section
variable {X:Cx}{st:Stmt}{rest:List Stmt}{t u:TS}{e:Expr}{te:TE}{pos:Pos}
def IS:TS:=λD σ H=>D.nx σ H
def KY(t u:TS):TS:=λD σ H=>t { D with nx:=u D } σ H
def m6:ux X [] IS:=λ_ _ σ H _ I h=>wpAny_execs_nil ⟨σ,H,I,h⟩
def eU(h1:PS X st t)(h2:ux X rest u):ux X (st::rest) (KY t u):=by
 intro pins s σ H D I h;refine wpAny_execs_cons (cu (h1 pins s σ H { D with nx:=u D } I h) λf s1 q=>?_);cases f with
 |next=>
  obtain⟨σ',H',I',q⟩:=q;exact h2 pins s1 σ' H' D I' q
 |ret v|brk|cont=>exact q
def Inv.quiet(I:Inv X pins σ H s):interactive X.env=false:=by simp[interactive,I.ok.kind]
def IT(te:TE):TS:=λD σ H=>te σ H λ_ H1=>D.nx σ H1
def m7(he:PE X e te)(hs:swapsWith e none pos.line X.env=pure false:=by rfl):PS X (.Expr e pos) (IT te):=by
 intro pins s σ H D I h;exact wpAny_Expr_any (cu (he pins s σ H _ I h) λv s1 ⟨x,H1,I1,r1,q1⟩=>⟨σ,H1,I1,q1⟩) I.quiet hs
def K3(te:TE):TS:=λD σ H=>te σ H D.rt
def nQ(he:PE X e te):PS X (.Return (some e) pos) (K3 te):=by
 intro pins s σ H D I h;exact wpAny_Return_some (cu (he pins s σ H _ I h) λv s1 ⟨x,H1,I1,r1,q1⟩=>⟨x,σ,H1,I1,r1,q1⟩)
def La(c:TT)(t u:TS):TS:=λD σ H=>c σ H λb H1=>if b=true then t D σ H1 else u D σ H1
def FI(hc:PT X c tc)(ha:ux X a t)(hb:ux X b u):PS X (.If c a b pos) (La tc t u):=by
 intro pins s σ H D I h;refine wpAny_If (cu (hc pins s σ H _ I h) λd s1 z9=>?_);obtain⟨H1,I1,q1⟩:=z9;cases d with|true=>exact ha pins s1 σ H1 D I1 q1|false=>exact hb pins s1 σ H1 D I1 q1
def Gs:TS:=λ_ _ _=>False
def BP:PS X st Gs:=λ_ _ _ _ _ _ h=>h.elim
end
abbrev TG:=V->St->Hp->(St->Hp->Prop)->Prop
abbrev IE:=ad->St->Hp->(St->Hp->Prop)->Prop
noncomputable def PG(X:Cx) (target:Expr) (t:TG):Prop :=
 ∀(pins:List (Addr×Obj)) (s:Shared) (σ:St) (H:Hp) (v:V) (u:Value) (Q:St->Hp->Prop),Inv X pins σ H s->bb v u->t v σ H Q ->
  wpAny (model X.prog X.w) X.A (assign target X.env u) (λ_ s'=>∃σ' H',Inv X pins σ' H' s'/\Q σ' H') X.xe s
noncomputable def A5(X:Cx) (ts:List Expr) (t:IE):Prop :=
 ∀(pins:List (Addr×Obj)) (s:Shared) (σ:St) (H:Hp) (vs:ad) (us:List Value) (Q:St->Hp->Prop),Inv X pins σ H s->ba vs us->t vs σ H Q ->
  wpAny (model X.prog X.w) X.A (assignInOrder ((assignEach ts X.env).map (·.2)) us) (λ_ s'=>∃σ' H',Inv X pins σ' H' s'/\Q σ' H') X.xe s
abbrev Ki:=V->V->V->Hp->(Hp->Prop)->Prop
noncomputable def Kk(X:Cx) (t:Ki):Prop :=
 ∀(pins:List (Addr×Obj)) (s:Shared) (σ:St) (H:Hp) (o i v:V) (ov iv u:Value) (Q:Hp->Prop),Inv X pins σ H s->bb o ov->bb i iv->bb v u->t o i v H Q ->
  wpAny (model X.prog X.w) X.A (setItem ov iv u) (λ_ s'=>∃H',Inv X pins σ H' s'/\Q H') X.xe s
section
variable {X:Cx}{pos:Pos}
def zg(i:Nat):TG:=λv σ H Q=>Q (σ.set i (some v)) H
def yC(hN:X.N.Nodup)(hi:X.N[i]?=some x)(hx:A1 X.env.scope x)(hf:X.fn x=true∨X.env.scope.names.lookup x=some .local := by first|exact .inl rfl|exact .inr rfl|assumption):PG X (.Name x pos) (zg i):=by
 intro pins s σ H v u Q I r h;exact wpAny_assign_Name (jI I hN hi hx r (λs' I'=>⟨_,H,I',h⟩) hf)
def Lw:IE:=λvs σ H Q=>vs=[]/\Q σ H
def JZ(t:TG)(u:IE):IE:=λvs σ H Q=>∃v r,vs=v::r/\t v σ H λσ' H'=>u r σ' H' Q
def Ex:A5 X [] Lw:=by
 intro pins s σ H vs us Q I r h;obtain⟨e,h⟩:=h;subst e;cases r;exact assignInOrder_nil ⟨σ,H,I,h⟩
def BX(h1:PG X e t)(h2:A5 X es u)
  (hs:(assignEach (e::es) X.env).map (·.2)=assign e X.env::(assignEach es X.env).map (·.2):=by rfl):A5 X (e::es) (JZ t u):=by
 intro pins s σ H vs us Q I r h;obtain⟨v,vr,e1,h⟩:=h;subst e1;cases r with
 |cons r rr=>
  rw[hs];refine assignInOrder_cons (cu (h1 pins s σ H _ _ _ I r h) λ_ s1 z9=>?_);obtain⟨σ1,H1,I1,q1⟩:=z9;exact h2 pins s1 σ1 H1 _ _ Q I1 rr q1
def Lu(K:W.Frag)(n:Nat)(t:IE):TG:=λv σ H Q=>∃a xs,v=.ref a/\i4 K H a xs/\xs.length=n/\t xs σ H Q
def G1{k:Nat}(hc:X.calm=true)(h:A5 X es t)
  (hn:(assignEach es X.env).length=n:=by rfl)(hst:(assignEach es X.env).findIdx? (·.1)=none:=by rfl):PG X (.Tuple es k pos) (Lu X.K n t):=by
 intro pins s σ H v u Q I r hw;obtain⟨a,xs,e1,hq,hl,hw⟩:=hw;subst e1;cases r;obtain⟨its,rv,ht,hz⟩:=I.tuple hq;refine assign_Tuple_tuple (I.ok.hd hc) ht (by simp[hn,←hl,rv.length]) hst λh' hx=>?_;have I1:Inv X pins σ H { s with heap:=h' }:=I.kept (t':=s.toks) λb o e=>hx b o (Nat.ne_of_lt (Heap.lt_size e)) e;exact h pins _ σ H xs _ Q I1 (by simpa using rv) hw
def Lv(to ti:TE)(t:Ki):TG:=λv σ H Q=>to σ H λo H1=>ti σ H1 λi H2=>t o i v H2 λH3=>Q σ H3
def BY(ho:PE X o to)(hi:PE X i ti)(hs:Kk X t)
  (ha:∀v,assign (.Subscript o i pos) X.env v=(do
   let ov ←holding [v] (eval o X.env)
   let iv ←holding [v,ov] (eval i X.env)
   standAt pos
   holding [v,ov,iv] (setItem ov iv v)
   release [v,ov,iv] []):=by intro _;rfl):PG X (.Subscript o i pos) (Lv to ti t):=by
 intro pins s σ H v u Q I r h;rw[ha];refine wpAny_bind (wpAny_holding (cu (ho pins s σ H _ I h) λov s1 ⟨x,H1,I1,r1,q1⟩=>?_));refine wpAny_bind (wpAny_holding (cu (hi pins s1 σ H1 _ I1 q1) λiv s2 ⟨y,H2,I2,r2,q2⟩=>?_));refine wpAny_bind (wpAny_standAt (wpAny_bind (wpAny_holding (cu (hs pins s2 σ H2 x y v ov iv u _ I2 r1 r2 r q2) λ_ s3 z9=>?_))));obtain⟨H3,I3,q3⟩:=z9;exact wpAny_release ⟨σ,H3,I3,q3⟩
def Ea(te:TE)(g:TG):TS:=λD σ H=>te σ H λx H1=>g x σ H1 D.nx
def BQ(he:PE X e te)(hg:PG X tg g)(hs:swapsWithSole [tg] e pos.line X.env=pure false:=by rfl)(hw:swappedStores [tg] e X.env=pure none:=by rfl)
  (h1:(assignEach [tg] X.env).map (·.2)=[assign tg X.env]:=by rfl):PS X (.Assign [tg] e pos) (Ea te g):=by
 intro pins s σ H D I h;refine wpAny_Assign_stores (cu (he pins s σ H _ I h) λv s1 z9=>?_) hs hw;obtain⟨x,H1,I1,r1,q1⟩:=z9;rw[h1];exact cu (hg pins s1 σ H1 x v _ I1 r1 q1) λ_ s2 q=>q
def lM(hN:X.N.Nodup)(hi:X.N[i]?=some x)(hx:A1 X.env.scope x)(he:PE X e te)(hs:swapsWith e (some (.Name x pos')) pos.line X.env=pure false:=by rfl)(hf:X.fn x=true∨X.env.scope.names.lookup x=some .local := by first|exact .inl rfl|exact .inr rfl|assumption) :
  PS X (.Assign [.Name x pos'] e pos) (Ea te (zg i)):=by
 intro pins s σ H D I h;refine wpAny_Assign_Name (cu (he pins s σ H _ I h) λv s1 z9=>?_) hs;obtain⟨y,H1,I1,r1,q1⟩:=z9;exact jI I1 hN hi hx r1 (λs2 I2=>⟨_,H1,I2,q1⟩) hf
def K4(i j:Nat)(ta:TA):TS:=λD σ H=>ta σ H λvs H1=>∃v w,vs=[v,w]/\D.nx ((σ.set i (some v)).set j (some w)) H1
def GV{px py pt:Pos}{kt k2 pt2}(hc:X.calm=true)(hN:X.N.Nodup)(hi:X.N[i]?=some x)(hj:X.N[j]?=some y)(hij:i≠j)
  (hx:X.env.scope.names.lookup x=some .local)(hy:X.env.scope.names.lookup y=some .local)(ha:PA X [a,b] ta)
  (hw:swappedStores [.Tuple [.Name x px,.Name y py] kt pt] (.Tuple [a,b] k2 pt2) X.env=pure (some [x,y]))
  (hs:swapsWithSole [.Tuple [.Name x px,.Name y py] kt pt] (.Tuple [a,b] k2 pt2) pos.line X.env=pure false:=by rfl) :
  PS X (.Assign [.Tuple [.Name x px,.Name y py] kt pt] (.Tuple [a,b] k2 pt2) pos) (K4 i j ta):=by
 intro pins s σ H D I h;rw[exec_Assign_arm];refine wpAny_bind (wpAny_standAt ?_);rw[hs];refine wpAny_bind (wpAny_pure ?_);rw[if_neg (by decide)];refine wpAny_bind (Tuple_ (cu (ha _ pins s σ H _ I h) λus s1 z9=>?_));obtain⟨vs,H1,I1,r1,q1⟩:=z9;obtain⟨v,w,e1,q1⟩:=q1;subst e1;obtain⟨u1,u2,rfl,rv,rw'⟩:∃u1 u2,us=[u1,u2]/\bb v u1/\bb w u2:=by
  cases r1 with
  |cons p q=>
   cases q with
   |cons p' q'=>
    cases q';exact⟨_,_,rfl,p,p'⟩
 refine wpAny_newObj_type ?_ (by show 2<=sizeLine;decide);have I2:Inv X pins σ H1 { s1 with heap:=s1.heap.push { cls:=.type "tuple",data:=.seq [u1,u2].toArray } }:=I1.kept (t':=s1.toks) λb o e=>Heap.get?_push_of_some _ e;rw[hw];refine wpAny_bind (wpAny_pure ?_);show wpAny (model X.prog X.w) X.A (do rule "assign.swapped-stores";let items ←unpackItems (.ref s1.heap.objs.size) 2 none;assignInOrder [λv=>bindName X.env y v,λv=>bindName X.env x v] items.reverse;pure Flow.next) _ _ _;refine wpAny_bind (wpAny_rule (wpAny_bind (unpackItems_tuple (items:=#[u1,u2]) (I.ok.hd hc) (IsTup.new s1.heap _) λh' hx'=>?_)));have I3:=I2.kept (h':=h') (t':=s1.toks) λb o e=>hx' b o (Nat.ne_of_lt (Heap.lt_size e)) e;show wpAny _ _ (assignInOrder [λv=>bindName X.env y v,λv=>bindName X.env x v] [u2,u1] >>= λ_=>pure Flow.next) _ _ _;refine wpAny_bind (assignInOrder_cons (wpAny_bindName (jI I3 hN hj (.inl hy) rw' (λs2 I4=>?_) (.inr hy))));refine assignInOrder_cons (wpAny_bindName (jI I4 hN hi (.inl hx) rv (λs3 I5=>assignInOrder_nil (wpAny_pure ?_)) (.inr hx)));rw[List.set_comm _ _ (Ne.symm hij)]at I5;exact⟨_,H1,I5,q1⟩
end
section
variable {X:Cx}{pos:Pos}
def Gr(c:TT)(tb:TS):TS:=λD σ H=>∃W:Nat->St->Hp->Prop,(∃m,W m σ H)/\∀m σ H,W m σ H ->
 c σ H λb H1=>if b=true then ∃N:St->Hp->Prop,(∀σ' H',N σ' H'->∃m',m' < m/\W m' σ' H')/\tb { D with nx:=N,ct:=N,bk:=D.nx } σ H1 else D.nx σ H1
def BO(hp:PassesOwn (model X.prog X.w) X.A X.env X.xe)(hc:PT X c tc)(hb:ux X body tb):PS X (.While c body [] pos) (Gr tc tb):=by
 intro pins s σ H D I h;obtain⟨W,⟨m0,w0⟩,turn⟩:=h;refine wpAny_While (codeAny_whileLoop (λn s'=>∃σ' H',Inv X pins σ' H' s'/\W n σ' H') ?_ m0 ⟨σ,H,I,w0⟩);rintro n s1 ⟨σ1,H1,I1,w1⟩;refine wpAny_passesOwn hp (cu (hc pins s1 σ1 H1 _ I1 (turn n σ1 H1 w1)) λb s2 z9=>?_);obtain⟨H2,I2,q2⟩:=z9;cases b with
 |true=>
  obtain⟨N,hN,q2⟩:=q2;rw[if_pos rfl];refine wpAny_passesOwn hp (cu (hb pins s2 σ1 H2 _ I2 q2) λf s3 q3=>?_);cases f with
  |next=>
   obtain⟨σ3,H3,I3,n3⟩:=q3;obtain⟨m',hm,w3⟩:=hN σ3 H3 n3;exact⟨m',hm,σ3,H3,I3,w3⟩
  |cont=>
   obtain⟨σ3,H3,I3,n3⟩:=q3;obtain⟨m',hm,w3⟩:=hN σ3 H3 n3;exact⟨m',hm,σ3,H3,I3,w3⟩
  |brk|ret v=>exact q3
 |false=>
  rw[if_neg Bool.false_ne_true];exact wpAny_execs_nil ⟨σ1,H2,I2,q2⟩
end
structure It where
 go:Nat->Hp->Prop
 yld:Nat->Hp->V->Hp->Prop
 stop:Nat->Hp->Prop
def lF(X:Cx)(pins:List (Addr×Obj))(H:Hp)(b:Addr):Prop :=
 H b=none/\b≠X.env.locals/\b∉X.fs/\(b∈X.ex∨X.sf.heap.objs.size<=b)/\(∀x c,X.env.cells.lookup x=some c->c≠b)/\∀p∈X.pn++pins,p.1≠b
def Inv.fpOk(I:Inv X pins σ H s)(hb:s.heap.objs.size<=b)(hn:H' b=none):lF X pins H' b:=by
 refine⟨hn,Nat.ne_of_gt (Nat.lt_of_lt_of_le I.lt hb),I.nofs hb,.inr (Nat.le_trans I.sz hb),λx c e z=>?_,λp hp z=>?_⟩
 .obtain⟨v,q⟩:=I.cell x c e
  exact absurd (Nat.lt_of_lt_of_le q.lt (by rw[z];exact hb)) (Nat.lt_irrefl _)
 .exact absurd (Nat.lt_of_lt_of_le (Heap.lt_size (I.pin p hp).1) (by rw[z];exact hb)) (Nat.lt_irrefl _)
structure xZ (P:Program) (w:World) (K:W.Frag) (tg:Expr) (J:It) (fp:List Addr) (it:Addr) (tn:Nat->Heap->Prop):Prop where
 mem:it∈fp
 obj:∀i h,tn i h->∀b∈fp,∃o,h.get? b=some o/\∀v,o.data≠.cell v
 keep:∀i h h',tn i h->(∀b∈fp,∀o,h.get? b=some o->h'.get? b=some o)->tn i h'
 item:∀(X:Cx),X.prog=P->X.w=w->X.K=K->X.calm=true->∀(i:Nat) (pins:List (Addr×Obj)) (s:Shared) (σ:St) (H:Hp) (E:Value->Shared->Prop),Inv X pins σ H s->(∀b∈fp,lF X pins H b)->tn i s.heap->J.go i H ->
  wpAny (model P w) X.A (pyNext (.ref it)) (λr s1=>∃u,r=some u /\
   wpAny (model P w) X.A (letOwnedTupleGo tg (.ref it) u) (λ_ s2=>∃x H',Inv X pins σ H' s2/\bb x u/\J.yld i H x H'/\tn (i+1) s2.heap/\∀b∈fp,H' b=none) E s1) E s
 done:∀(X:Cx),X.prog=P->X.w=w->X.K=K->X.calm=true->∀(i:Nat) (pins:List (Addr×Obj)) (s:Shared) (σ:St) (H:Hp) (E:Value->Shared->Prop),Inv X pins σ H s->(∀b∈fp,lF X pins H b)->tn i s.heap->J.stop i H ->
  wpAny (model P w) X.A (pyNext (.ref it)) (λr s1=>r=none/\Inv X pins σ H s1) E s
 self:∀(A:Around) (i:Nat) (s:Shared) (Q:Value->Shared->Prop) (E:Value->Shared->Prop),tn i s.heap->Q (.ref it) s->wpAny (model P w) A (pyIter (.ref it)) Q E s
abbrev TI:=St->Hp->(It->Hp->Prop)->Prop
noncomputable def LG(X:Cx) (pins:List (Addr×Obj)) (σ:St) (tg:Expr) (R:It->Hp->Prop) (itv:Value) (s2:Shared):Prop :=
 ∃(it:Addr) (fp:List Addr) (tn:Nat->Heap->Prop) (J:It) (H':Hp),itv=.ref it/\Inv X pins σ H' s2/\xZ X.prog X.w X.K tg J fp it tn/\tn 0 s2.heap/\(∀b∈fp,lF X pins H' b)/\R J H'
noncomputable def PI(X:Cx) (tg iter:Expr) (wi:TI):Prop :=
 ∀(pins:List (Addr×Obj)) (s:Shared) (σ:St) (H:Hp) (R:It->Hp->Prop),Inv X pins σ H s->wi σ H R ->
  wpAny (model X.prog X.w) X.A (eval iter X.env) (λv s1=>wpAny (model X.prog X.w) X.A (pyIter v) (LG X pins σ tg R) X.xe s1) X.xe s
def vy(ho:s.heap.get? it=some o)(hc:o.cls=.type n)(hd:o.data=.fields vs)
  (hn:["enumerate","zip","dict_itemiterator","dict_reverseitemiterator","odict_iterator","itertools.zip_longest","itertools.pairwise"].contains n=false)(hQ:Q () s):wpAny M A (letOwnedTupleGo tg (.ref it) u) Q E s:=by
 unfold letOwnedTupleGo;cases tg<;>first
  |exact wpAny_pure hQ
  |(cases u<;>first
    |exact wpAny_pure hQ
    |(refine wpAny_bind (wpAny_load ho ?_);rw[hc,hd];show wpAny M A (if(["enumerate","zip","dict_itemiterator","dict_reverseitemiterator","odict_iterator","itertools.zip_longest","itertools.pairwise"].contains n&&vs[0]?==some (rawInt _))=true then _ else _) Q E s;rw[if_neg (by intro h;rw[hn,Bool.false_and]at h;cases h)];exact wpAny_pure hQ))
def Kp(K:W.Frag)(a:Addr):It :=
 ⟨λi H=>∃xs x,d9 K H a xs/\xs[i]?=some x,λi H x H'=>H'=H/\∀xs,d9 K H a xs->xs[i]?=some x,λi H=>∃xs,d9 K H a xs/\xs.length<=i⟩
def Mg(K:W.Frag)(a:Addr):It :=
 ⟨λi H=>∃xs x,i4 K H a xs/\xs[i]?=some x,λi H x H'=>H'=H/\∀xs,i4 K H a xs->xs[i]?=some x,λi H=>∃xs,i4 K H a xs/\xs.length<=i⟩
def Ir(lo:Int)(n:Nat):It:=⟨λi _=>i<n,λi H x H'=>H'=H/\x=.int (lo+i),λi _=>n<=i⟩
def Ac{P:Program}{w:World}{K:W.Frag}{tg:Expr}(a it:Addr):xZ P w K tg (Kp K a) [it] it (λi h=>h.IsListIter it a i) where
 mem:=by simp
 obj:=λi h st b hb=>by
  have e:b=it:=by simpa using hb
  subst e;obtain⟨o,e,c,d⟩:=st;exact⟨o,e,λv z=>by rw[d]at z;cases z⟩
 keep:=λi h h' st k=>st.at λo e=>k it (by simp) o e
 item:=by
  intro X hP hw hK hc i pins s σ H E I hf st hg;subst hP hw hK;obtain⟨xs,x,hq,hx⟩:=hg;obtain⟨its,rv,p,hz⟩:=I.list hq;obtain⟨u,hu,ru⟩:=rv.get hx;obtain⟨f0,f1,f2,f3,f4,f5⟩:=hf it (by simp);refine wpAny_pyNext_list_item st p.isList (x:=u) (by simpa using hu) λh' st' sb=>?_;have I1:Inv X pins σ H { s with heap:=h' }:=I.turned (t':=s.toks) (λb o hb e=>(sb.2 b hb).trans e) f0 f1 f3 f4 f5;obtain⟨o,e,c,d⟩:=id st';exact⟨u,rfl,vy (s:={ s with heap:=h' }) e c d (by decide) ⟨x,H,I1,ru,⟨rfl,λys hy=>by rw[I.list_inj hy hq];exact hx⟩,st',λb hb=>(hf b hb).1⟩⟩
 done:=by
  intro X hP hw hK hc i pins s σ H E I hf st hg;subst hP hw hK;obtain⟨xs,hq,hx⟩:=hg;obtain⟨its,rv,p,hz⟩:=I.list hq;obtain⟨f0,f1,f2,f3,f4,f5⟩:=hf it (by simp);have hl:=rv.length;exact wpAny_pyNext_list_end (I.ok.hd hc) st p.isList (by simp;omega) λh' eb=>⟨rfl,I.turned (t':=s.toks) (λb o hb e=>eb b o hb e) f0 f1 f3 f4 f5⟩
 self:=λ_ _ _ _ _ st h=>wpAny_pyIter_listiter st h
def wM{P:Program}{w:World}{K:W.Frag}{tg:Expr}(a it:Addr):xZ P w K tg (Mg K a) [it] it (λi h=>h.IsTupleIter it a i) where
 mem:=by simp
 obj:=λi h st b hb=>by
  have e:b=it:=by simpa using hb
  subst e;obtain⟨o,e,c,d⟩:=st;exact⟨o,e,λv z=>by rw[d]at z;cases z⟩
 keep:=λi h h' st k=>st.at λo e=>k it (by simp) o e
 item:=by
  intro X hP hw hK hc i pins s σ H E I hf st hg;subst hP hw hK;obtain⟨xs,x,hq,hx⟩:=hg;obtain⟨its,rv,p,hz⟩:=I.tuple hq;obtain⟨u,hu,ru⟩:=rv.get hx;obtain⟨f0,f1,f2,f3,f4,f5⟩:=hf it (by simp);refine wpAny_pyNext_tuple_item st (show s.heap.IsTuple a its.toArray from p) (x:=u) (by simpa using hu) λh' st' sb=>?_;have I1:Inv X pins σ H { s with heap:=h' }:=I.turned (t':=s.toks) (λb o hb e=>(sb.2 b hb).trans e) f0 f1 f3 f4 f5;obtain⟨o,e,c,d⟩:=id st';exact⟨u,rfl,vy (s:={ s with heap:=h' }) e c d (by decide) ⟨x,H,I1,ru,⟨rfl,λys hy=>by rw[I.tuple_inj hy hq];exact hx⟩,st',λb hb=>(hf b hb).1⟩⟩
 done:=by
  intro X hP hw hK hc i pins s σ H E I hf st hg;subst hP hw hK;obtain⟨xs,hq,hx⟩:=hg;obtain⟨its,rv,p,hz⟩:=I.tuple hq;obtain⟨f0,f1,f2,f3,f4,f5⟩:=hf it (by simp);have hl:=rv.length;exact wpAny_pyNext_tuple_end (I.ok.hd hc) st (show s.heap.IsTuple a its.toArray from p) (by simp;omega) λh' eb=>⟨rfl,I.turned (t':=s.toks) (λb o hb e=>eb b o hb e) f0 f1 f3 f4 f5⟩
 self:=λ_ _ _ _ _ st h=>wpAny_pyIter_tupleiter st h
def wN{P:Program}{w:World}{K:W.Frag}{tg:Expr}(it:Addr)(lo:Int)(n:Nat):xZ P w K tg (Ir lo n) [it] it (λi h=>IsRangeIter h it (lo+(i:Nat)*1) ((n:Int)-(i:Nat)) 1) where
 mem:=by simp
 obj:=λi h st b hb=>by
  have e:b=it:=by simpa using hb
  subst e;exact⟨_,st,λv z=>by
   have z':Data.fields _=Data.cell v:=z;cases z'⟩
 keep:=λi h h' st k=>k it (by simp) _ st
 item:=by
  intro X hP hw hK hc i pins s σ H E I hf st hg;subst hP hw hK;obtain⟨f0,f1,f2,f3,f4,f5⟩:=hf it (by simp);have W:=Walks.range (prog:=X.prog) (w:=X.w) (I.ok.hd hc) it lo 1 n;refine W.item i s _ _ hg st λv h' tk hv st' kk=>?_;obtain⟨t,rfl⟩:=hv;have I1:Inv X pins σ H { s with heap:=h',toks:=tk }:=I.turned (λb o hb e=>kk b o (by simpa using hb) e) f0 f1 f3 f4 f5;refine⟨_,rfl,vy (s:={ s with heap:=h',toks:=tk }) (n:="range_iterator") st' rfl rfl (by decide) ⟨.int (lo+i),H,I1,⟨t,?_⟩,⟨rfl,rfl⟩,st',λb hb=>(hf b hb).1⟩⟩;rw[Int.mul_one]
 done:=by
  intro X hP hw hK hc i pins s σ H E I hf st hg;subst hP hw hK;obtain⟨f0,f1,f2,f3,f4,f5⟩:=hf it (by simp);exact wpAny_pyNext_range_end (I.ok.hd hc) st (by have:n<=i:=hg;omega) λh' eb=>⟨rfl,I.turned (t':=s.toks) (λb o hb e=>eb b o hb e) f0 f1 f3 f4 f5⟩
 self:=λ_ _ _ _ _ st h=>wpAny_pyIter_rangeiter st h
section
variable {X:Cx}{tg:Expr}
def JX(K:W.Frag)(tl:TE):TI:=λσ H R=>tl σ H λx H1=>∃a,x=.ref a/\(∃xs,d9 K H1 a xs)/\R (Kp K a) H1
def Lr(K:W.Frag)(tl:TE):TI:=λσ H R=>tl σ H λx H1=>∃a,x=.ref a/\(∃xs,i4 K H1 a xs)/\R (Mg K a) H1
def yB(hl:PE X l tl):PI X tg l (JX X.K tl):=by
 intro pins s σ H R I h;refine cu (hl pins s σ H _ I h) λv s1 ⟨x,H1,I1,r1,q1⟩=>?_;obtain⟨a,e,⟨xs,hq⟩,q⟩:=q1;subst e;cases r1;obtain⟨its,rv,p,hz⟩:=I1.list hq;refine wpAny_pyIter_list p.isList ?_;refine⟨s1.heap.objs.size,[s1.heap.objs.size],_,_,H1,rfl,I1.kept (t':=s1.toks) λb o e=>Heap.get?_push_of_some _ e,Ac a _,⟨_,Heap.get?_push_size _ rfl,rfl,rfl⟩,λb hb=>?_,q⟩;have e:b=s1.heap.objs.size:=by simpa using hb
 subst e;exact I1.fpOk (Nat.le_refl _) (I1.hok.fresh (Nat.le_refl _))
def GZ(hl:PE X l tl):PI X tg l (Lr X.K tl):=by
 intro pins s σ H R I h;refine cu (hl pins s σ H _ I h) λv s1 ⟨x,H1,I1,r1,q1⟩=>?_;obtain⟨a,e,⟨xs,hq⟩,q⟩:=q1;subst e;cases r1;obtain⟨its,rv,p,hz⟩:=I1.tuple hq;refine wpAny_pyIter_tuple (show s1.heap.IsTuple a its.toArray from p) ?_;refine⟨s1.heap.objs.size,[s1.heap.objs.size],_,_,H1,rfl,I1.kept (t':=s1.toks) λb o e=>Heap.get?_push_of_some _ e,wM a _,⟨_,Heap.get?_push_size _ rfl,rfl,rfl⟩,λb hb=>?_,q⟩;have e:b=s1.heap.objs.size:=by simpa using hb
 subst e;exact I1.fpOk (Nat.le_refl _) (I1.hok.fresh (Nat.le_refl _))
def BG{lo hi:Int}(I:Inv X pins σ H s)(h1:-(2 ^ 62)<=lo)(h2:lo<2 ^ 62)(h3:-(2 ^ 62)<=hi)(h4:hi<2 ^ 62)
  (q:R (Ir lo (hi-lo).toNat) H):wpAny (model X.prog X.w) X.A (pyIter (.ref s.heap.objs.size)) (LG X pins σ tg R) E { s with heap:=s.heap.push { cls:=.type "range",data:=.fields #[.int lo t,.int hi u,.int 1 v] },toks:=tk }:=by
 refine wpAny_pyIter_range (IsRange.new ..) (small_one h1 h2 h3 h4) ?_;have I1:Inv X pins σ H { s with heap:=s.heap.push { cls:=.type "range",data:=.fields #[.int lo t,.int hi u,.int 1 v] },toks:=tk }:=I.kept λb o e=>Heap.get?_push_of_some _ e;refine⟨(s.heap.push { cls:=.type "range",data:=.fields #[.int lo t,.int hi u,.int 1 v] }).objs.size,[(s.heap.push { cls:=.type "range",data:=.fields #[.int lo t,.int hi u,.int 1 v] }).objs.size],_,_,H,rfl,
  I1.kept (t':=tk) λb o e=>Heap.get?_push_of_some _ e,wN _ lo (hi-lo).toNat,?_,λb hb=>?_,q⟩
 .have e1:lo+((0:Nat):Int)*1=lo:=by simp
  have e2:(((hi-lo).toNat:Nat):Int)-((0:Nat):Int)=Builtin.Range.rangeSize lo hi 1:=by rw[rangeSize_one];split<;>omega
  show IsRangeIter _ _ (lo+((0:Nat):Int)*1) ((((hi-lo).toNat:Nat):Int)-((0:Nat):Int)) 1;rw[e1,e2];exact Heap.get?_push_size _ rfl
 .have e:b=(s.heap.push { cls:=.type "range",data:=.fields #[.int lo t,.int hi u,.int 1 v] }).objs.size:=by simpa using hb
  subst e;exact I1.fpOk (Nat.le_refl _) (I1.hok.fresh (Nat.le_refl _))
def JW(ta:TA):TI:=λσ H R=>ta σ H λvs H1=>∃j:Int,vs=[.int j]/\-(2 ^ 62)<=j/\j<2 ^ 62/\R (Ir 0 j.toNat) H1
def lN(hg:Gl X "range")(hm:X.mg "range"=none)(ha:PA X [a] ta)(hs:starEach [a] X.env=[(false,eval a X.env)]:=by rfl):PI X tg (.Call (.Name "range" p) [a] [] pos) (JW ta):=by
 intro pins s σ H R I h;refine Call_ (jq I hg hm boot_range (PyProof.Rows.callWith_type1 (cu (ha pos pins s σ H _ I h) λus s1 z9=>?_) hs rfl));obtain⟨vs,H1,I1,r1,q1⟩:=z9;obtain⟨j,e,q1,q2,q⟩:=q1;subst e;cases r1 with
 |cons r rr=>
  cases rr;obtain⟨t,rfl⟩:=r;exact call_range_1 (BG I1 (by omega) (by omega) q1 q2 (by simpa using q))
noncomputable def Lc(wi:TI) (g:TG) (tb:TS):TS:=λD σ H=>wi σ H λJ H1=>∃W:Nat->Nat->St->Hp->Prop,(∃m,W 0 m σ H1)/\∀i m σ H,W i m σ H ->
 (J.stop i H/\D.nx σ H)∨(J.go i H/\∃N:St->Hp->Prop,(∀σ' H',N σ' H'->∃m',m' < m/\W (i+1) m' σ' H')/\∀x H',J.yld i H x H'->g x σ H' λσ2 H2=>tb { D with nx:=N,ct:=N,bk:=D.nx } σ2 H2)
def nT(fp:List Addr)(h:Heap):List (Addr×Obj):=fp.filterMap λb=>(h.get? b).map λo=>(b,o)
def gB{h:Heap}(hb:b∈fp)(e:h.get? b=some o):(b,o)∈nT fp h:=List.mem_filterMap.mpr ⟨b,hb,by rw[e];rfl⟩
def Av{h:Heap}(hp:p∈nT fp h):p.1∈fp/\h.get? p.1=some p.2:=by
 obtain⟨b,hb,e⟩:=List.mem_filterMap.mp hp;cases q:h.get? b with
 |none=>rw[q]at e;cases e
 |some o=>
  rw[q]at e;have e':(b,o)=p:=Option.some.inj e;subst e';exact⟨hb,q⟩
def Inv.pinned(I:Inv X pins σ H s)(hf:∀b∈fp,lF X pins H b)(ho:∀b∈fp,∃o,s.heap.get? b=some o/\∀v,o.data≠.cell v):Inv X (pins++nT fp s.heap) σ H s :=
 I.pins_of λp hp=>(List.mem_append.mp hp).elim (λz=>I.pin p (List.mem_append_right _ z)) λz=>by
  obtain⟨hb,e⟩:=Av z;obtain⟨f0,f1,f2,_⟩:=hf p.1 hb;obtain⟨o,e',d⟩:=ho p.1 hb;rw[e]at e';cases e';exact⟨e,f0,f1,f2,d⟩
def Inv.unpinned{pins pl:List (Addr×Obj)}(I:Inv X (pins++pl) σ H s):Inv X pins σ H s:=I.pins_of λp hp=>I.pin p (List.mem_append_right _ (List.mem_append_left _ hp))
def sX(hp:PassesOwn (model X.prog X.w) X.A X.env X.xe)(hc:X.calm=true)(hi:PI X tg iter wi)(hg:PG X tg g)(hb:ux X body tb)
  (hs:∀x,foldedSetIterable iter X.env x=pure x:=by intro _;rfl):PS X (.For tg iter body [] pos) (Lc wi g tb):=by
 intro pins s σ H D I h;refine wpAny_For (cu (hi pins s σ H _ I h) λv s1 h1=>cu h1 λitv s2 h2=>?_) hs;obtain⟨it,fp,tn,J,H2,e,I2,T,st2,f2,W,⟨m0,w0⟩,turn⟩:=h2;subst e;have stat:∀{H':Hp},(∀b∈fp,H' b=none)->∀b∈fp,lF X pins H' b:=λhn b hb=>⟨hn b hb,(f2 b hb).2⟩
 refine codeAny_forLoop_any (λn s'=>∃i σ' H',Inv X pins σ' H' s'/\tn i s'.heap/\(∀b∈fp,H' b=none)/\W i n σ' H') ?_ m0 ⟨0,σ,H2,I2,st2,λb hb=>(f2 b hb).1,w0⟩;rintro n s3 ⟨i,σ3,H3,I3,st3,fr3,w3⟩;rcases turn i n σ3 H3 w3 with⟨stop,qn⟩|⟨go,N,hN,step⟩
 .refine wpAny_passesOwn hp (cu (T.done X rfl rfl rfl hc i pins s3 σ3 H3 X.xe I3 (stat fr3) st3 stop) λr s4 ⟨hr,I4⟩=>?_)
  subst hr;exact wpAny_execs_nil ⟨σ3,H3,I4,qn⟩
 .refine wpAny_passesOwn hp (cu (T.item X rfl rfl rfl hc i pins s3 σ3 H3 X.xe I3 (stat fr3) st3 go) λr s4 ⟨u,hr,h4⟩=>?_)
  subst hr;refine wpAny_passesOwn hp (cu h4 λ_ s5 ⟨x,H5,I5,r5,y5,st5,fr5⟩=>?_);have I5':=I5.pinned (stat fr5) (T.obj _ _ st5);refine wpAny_passesOwn hp (cu (hg _ s5 σ3 H5 x u _ I5' r5 (step x H5 y5)) λ_ s6 ⟨σ6,H6,I6,q6⟩=>?_);refine wpAny_passesOwn hp (cu (hb _ s6 σ6 H6 _ I6 q6) λf s7 q7=>?_);have again:∀{σ7:St}{H7:Hp},Inv X (pins++nT fp s5.heap) σ7 H7 s7->N σ7 H7->∃m,m<n/\∃i σ' H',Inv X pins σ' H' s7/\tn i s7.heap/\(∀b∈fp,H' b=none)/\W i m σ' H':=λ{σ7 H7} I7 n7=>by
   obtain⟨m',hm,w7⟩:=hN σ7 H7 n7;refine⟨m',hm,i+1,σ7,H7,I7.unpinned,T.keep _ _ _ st5 λb hb o e=>(I7.pin (b,o) (List.mem_append_right _ (List.mem_append_right _ (gB hb e)))).1,λb hb=>?_,w7⟩;obtain⟨o,e,d⟩:=T.obj _ _ st5 b hb;exact(I7.pin (b,o) (List.mem_append_right _ (List.mem_append_right _ (gB hb e)))).2.1
  cases f with|next|cont=>obtain⟨σ7,H7,I7,n7⟩:=q7;exact again I7 n7|brk=>obtain⟨σ7,H7,I7,q7⟩:=q7;exact⟨σ7,H7,I7.unpinned,q7⟩|ret v=>obtain⟨x7,σ7,H7,I7,r7,q7⟩:=q7;exact⟨x7,σ7,H7,I7.unpinned,r7,q7⟩
end
def CH{K:W.Frag}{g:TG}{tb:TS}{D:jG}(Pv:Nat->St->Hp->Prop)(h0:Pv 0 σ H)(hl:∀i σ H,i<=xs.length->Pv i σ H->d9 K H a xs)
  (hs:∀i x σ H,xs[i]?=some x->Pv i σ H->g x σ H λσ2 H2=>tb { D with nx:=Pv (i+1),ct:=Pv (i+1),bk:=D.nx } σ2 H2)(hd:∀σ H,Pv xs.length σ H->D.nx σ H) :
  ∃W:Nat->Nat->St->Hp->Prop,(∃m,W 0 m σ H)/\∀i m σ H,W i m σ H ->
   ((Kp K a).stop i H/\D.nx σ H)∨((Kp K a).go i H/\∃N:St->Hp->Prop,(∀σ' H',N σ' H'->∃m',m' < m/\W (i+1) m' σ' H')/\∀x H',(Kp K a).yld i H x H'->g x σ H' λσ2 H2=>tb { D with nx:=N,ct:=N,bk:=D.nx } σ2 H2):=by
 refine⟨λi m σ H=>m=xs.length-i/\i<=xs.length/\Pv i σ H,⟨xs.length,by simp,Nat.zero_le _,h0⟩,?_⟩;rintro i m σ H ⟨rfl,hi,p⟩;have q:=hl i σ H hi p
 by_cases hlt:i<xs.length
 .refine .inr ⟨⟨xs,xs[i],q,by simp[hlt]⟩,Pv (i+1),λσ' H' p'=>⟨xs.length-(i+1),by omega,rfl,hlt,p'⟩,λx H' y=>?_⟩
  obtain⟨e,y⟩:=y;subst e;exact hs i x σ _ (y xs q) p
 .have e:i=xs.length:=by omega
  subst e;exact .inl ⟨⟨xs,q,Nat.le_refl _⟩,hd σ H p⟩
def AJ{lo:Int}{g:TG}{tb:TS}{D:jG}(Pv:Nat->St->Hp->Prop)(h0:Pv 0 σ H)
  (hs:∀i σ H,i<n->Pv i σ H->g (.int (lo+i)) σ H λσ2 H2=>tb { D with nx:=Pv (i+1),ct:=Pv (i+1),bk:=D.nx } σ2 H2)(hd:∀σ H,Pv n σ H->D.nx σ H) :
  ∃W:Nat->Nat->St->Hp->Prop,(∃m,W 0 m σ H)/\∀i m σ H,W i m σ H ->
   ((Ir lo n).stop i H/\D.nx σ H)∨((Ir lo n).go i H/\∃N:St->Hp->Prop,(∀σ' H',N σ' H'->∃m',m' < m/\W (i+1) m' σ' H')/\∀x H',(Ir lo n).yld i H x H'->g x σ H' λσ2 H2=>tb { D with nx:=N,ct:=N,bk:=D.nx } σ2 H2):=by
 refine⟨λi m σ H=>m=n-i/\i<=n/\Pv i σ H,⟨n,by simp,Nat.zero_le _,h0⟩,?_⟩;rintro i m σ H ⟨rfl,hi,p⟩
 by_cases hlt:i<n
 .refine .inr ⟨hlt,Pv (i+1),λσ' H' p'=>⟨n-(i+1),by omega,rfl,hlt,p'⟩,λx H' y=>?_⟩
  obtain⟨e,y⟩:=y;subst e y;exact hs i σ _ hlt p
 .have e:i=n:=by omega
  subst e;exact .inl ⟨Nat.le_refl _,hd σ H p⟩
abbrev R2:=V->V->Hp->VK->Prop
def dW(X:Cx)(f:Value->Value->Sem Value)(r:R2):Prop :=
 ∀(pins:List (Addr×Obj)) (s:Shared) (σ:St) (H:Hp) (x y:V) (v u:Value) (Q:VK),Inv X pins σ H s->bb x v->bb y u->r x y H Q ->
  wpAny (model X.prog X.w) X.A (f v u) (EP X pins σ Q) X.xe s
def KD(X:Cx)(f:Value->Sem Value)(r:V->Hp->VK->Prop):Prop :=
 ∀(pins:List (Addr×Obj)) (s:Shared) (σ:St) (H:Hp) (x:V) (v:Value) (Q:VK),Inv X pins σ H s->bb x v->r x H Q ->
  wpAny (model X.prog X.w) X.A (f v) (EP X pins σ Q) X.xe s
def iJ(X:Cx)(f:Value)(r:ad->Hp->VK->Prop):Prop :=
 ∀(pins:List (Addr×Obj)) (s:Shared) (σ:St) (H:Hp) (xs:ad) (us:List Value) (Q:VK),Inv X pins σ H s->ba xs us->r xs H Q ->
  wpAny (model X.prog X.w) X.A (call f us) (EP X pins σ Q) X.xe s
def MK(X:Cx)(r:V->Hp->(Bool->Hp->Prop)->Prop):Prop :=
 ∀(pins:List (Addr×Obj)) (s:Shared) (σ:St) (H:Hp) (x:V) (v:Value) (Q:Bool->Hp->Prop),Inv X pins σ H s->bb x v->r x H Q ->
  wpAny (model X.prog X.w) X.A (truthy v) (TP X pins σ Q) X.xe s
def Iy(r:R2)(ta tb:TE):TE:=λσ H Q=>ta σ H λx H1=>tb σ H1 λy H2=>r x y H2 Q
def Mm(r:V->Hp->VK->Prop)(ta:TE):TE:=λσ H Q=>ta σ H λx H1=>r x H1 Q
def rI(C:Int->Int->Prop)(g:Int->Int->V):R2:=λx y H Q=>∃i j,x=.int i/\y=.int j/\C i j/\Q (g i j) H
def Dz(g:Int->Int->V):R2:=λx y H Q=>∃i j,x=.int i/\y=.int j/\Q (g i j) H
def rU(g:Int->V):V->Hp->VK->Prop:=λx H Q=>∃i,x=.int i/\Q (g i) H
section
variable {X:Cx}{a b c:Expr}{ta tb tc:TE}{pos:Pos}
def Ib(ha:PE X a ta)(hb:PE X b tb){R:V->V->Hp->Prop}(I:Inv X pins σ H s)
  (h:ta σ H λx H1=>tb σ H1 λy H2=>R x y H2){f:Value->Value->Sem Value}
  (hf:∀v u s2 x y H2,Inv X pins σ H2 s2->bb x v->bb y u->R x y H2->wpAny (model X.prog X.w) X.A (f v u) Q X.xe s2) :
  wpAny (model X.prog X.w) X.A (eval a X.env) (λv sg=>wpAny (model X.prog X.w) X.A (eval b X.env) (λu si=>wpAny (model X.prog X.w) X.A (f v u) Q X.xe si) X.xe sg) X.xe s:=by
 refine cu (ha pins s σ H _ I h) λv s1 ⟨x,H1,I1,r1,q1⟩=>?_;refine cu (hb pins s1 σ H1 _ I1 q1) λu s2 ⟨y,H2,I2,r2,q2⟩=>?_;exact hf v u s2 x y H2 I2 r1 r2 q2
def B0(ho:dW X (binaryOp op) r)(ha:PE X a ta)(hb:PE X b tb):PE X (.BinOp a op b pos) (Iy r ta tb):=by
 intro pins s σ H Q I h;exact wpAny_BinOp (Ib ha hb I h λv u s2 x y H2 I2 rx ry q=>ho pins s2 σ H2 x y v u Q I2 rx ry q)
def Jx(ho:KD X (unaryOp op) r)(ha:PE X a ta):PE X (.UnaryOp op a pos) (Mm r ta):=by
 intro pins s σ H Q I h;exact UnaryOp_ (cu (ha pins s σ H _ I h) λv s1 ⟨x,H1,I1,r1,q1⟩=>ho pins s1 σ H1 x v Q I1 r1 q1)
def Kx{g:Int->Int->Int}
  (rule:∀(i j:Int) (t u:Tok) (s:Shared) (Q:Value->Shared->Prop) (E:Value->Shared->Prop),C i j->Q (.int (g i j) s.toks) { s with toks:=s.toks+1 }->wpAny (model X.prog X.w) X.A (f (.int i t) (.int j u)) Q E s) :
  dW X f (rI C λi j=>.int (g i j)):=by
 intro pins s σ H x y v u Q I rx ry h;obtain⟨i,j,rfl,rfl,hc,q⟩:=h;obtain⟨t,rfl⟩:=rx;obtain⟨t',rfl⟩:=ry;exact rule i j t t' s _ _ hc ⟨.int (g i j),H,I.tok _,⟨_,rfl⟩,q⟩
def JF{g:Int->Int->Int}
  (rule:∀(i j:Int) (t u:Tok) (s:Shared) (Q:Value->Shared->Prop) (E:Value->Shared->Prop),Q (.int (g i j) s.toks) { s with toks:=s.toks+1 }->wpAny (model X.prog X.w) X.A (f (.int i t) (.int j u)) Q E s) :
  dW X f (Dz λi j=>.int (g i j)):=by
 intro pins s σ H x y v u Q I rx ry h;obtain⟨i,j,rfl,rfl,q⟩:=h;obtain⟨t,rfl⟩:=rx;obtain⟨t',rfl⟩:=ry;exact rule i j t t' s _ _ ⟨.int (g i j),H,I.tok _,⟨_,rfl⟩,q⟩
def EG{g:Int->Int->Bool}
  (rule:∀(i j:Int) (t u:Tok) (s:Shared) (Q:Value->Shared->Prop) (E:Value->Shared->Prop),Q (.bool (g i j)) s->wpAny (model X.prog X.w) X.A (f (.int i t) (.int j u)) Q E s) :
  dW X f (Dz λi j=>.bl (g i j)):=by
 intro pins s σ H x y v u Q I rx ry h;obtain⟨i,j,rfl,rfl,q⟩:=h;obtain⟨t,rfl⟩:=rx;obtain⟨t',rfl⟩:=ry;exact rule i j t t' s _ _ ⟨.bl (g i j),H,I,rfl,q⟩
def LN(i j:Int):Prop:=0<=j/\j<=1000000/\i.natAbs<2 ^ 64
def Kq(i j:Int):Prop:=(-(2 ^ 64)<i/\i<2 ^ 64)∨(-(2 ^ 64)<j/\j<2 ^ 64)
def Kq.ok(h:Kq i j):IntMulOk i j:=by
 rcases h with⟨h1,h2⟩|⟨h1,h2⟩
 .exact .of_left (intBits_le_64 h1 h2)
 .exact .of_right (intBits_le_64 h1 h2)
def Cb:dW X (binaryOp .Add) (Dz λi j=>.int (i+j)):=JF λ_ _ _ _ _ _ _ q=>add_int q
def Hc:dW X (binaryOp .Sub) (Dz λi j=>.int (i-j)):=JF λ_ _ _ _ _ _ _ q=>sub_int q
def yH:dW X (binaryOp .Mod) (rI (λ_ j=>j≠0) λi j=>.int (i.fmod j)):=Kx λ_ _ _ _ _ _ _ hc q=>mod_int' hc q
def Hf:dW X (binaryOp .Pow) (rI LN λi j=>.int (i ^ j.toNat)):=Kx λ_ _ _ _ _ _ _ hc q=>pow_int_small hc.1 hc.2.1 hc.2.2 q
def Ml{g:Int->Int}
  (rule:∀(i:Int) (t:Tok) (s:Shared) (Q:Value->Shared->Prop) (E:Value->Shared->Prop),Q (.int (g i) s.toks) { s with toks:=s.toks+1 }->wpAny (model X.prog X.w) X.A (f (.int i t)) Q E s) :
  KD X f (rU λi=>.int (g i)):=by
 intro pins s σ H x v Q I rx h;obtain⟨i,rfl,q⟩:=h;obtain⟨t,rfl⟩:=rx;exact rule i t s _ _ ⟨.int (g i),H,I.tok _,⟨_,rfl⟩,q⟩
def Gk:KD X (unaryOp .USub) (rU λi=>.int (-i)):=Ml λ_ _ _ _ _ q=>neg_int q
end
section
variable {X:Cx}{a b c:Expr}{ta tb tc:TE}{pos:Pos}
def xH{k k':Bool}(I:Inv X pins σ H s)(q:Q (.bl k) H)(e:k=k'):EP X pins σ Q (.bool k') s:=by
 subst e;exact⟨.bl k,H,I,rfl,q⟩
def uZ:dW X (compareOp .Lt) (Dz λi j=>.bl (decide (i<j))):=EG λ_ _ _ _ _ _ _ q=>lt_int q
def u3:dW X (compareOp .LtE) (Dz λi j=>.bl (decide (i<=j))):=EG λ_ _ _ _ _ _ _ q=>le_int q
def yI:dW X (compareOp .Gt) (Dz λi j=>.bl (decide (j<i))):=EG λ_ _ _ _ _ _ _ q=>gt_int q
def Ca:dW X (compareOp .GtE) (Dz λi j=>.bl (decide (j<=i))):=EG λ_ _ _ _ _ _ _ q=>ge_int q
def As:dW X (compareOp .In) (λx y H Q=>∃i j,x=.str i/\y=.str j/\Q (.bl (!(Builtin.Str.occurrences j i 0 j.length 1).isEmpty)) H):=by
 intro pins s σ H x y v u Q I rx ry h;obtain⟨i,j,rfl,rfl,q⟩:=h;obtain⟨t,rfl⟩:=rx;obtain⟨t',rfl⟩:=ry;exact in_str (xH I q rfl)
def jl:dW X (compareOp .Is) (λx y H Q=>y=.non/\Q (.bl (decide (x=.non))) H):=by
 intro pins s σ H x y v u Q I rx ry h;obtain⟨rfl,q⟩:=h;cases ry;refine is_none_gen (xH I q ?_);cases x<;>first
  |(cases rx;rfl)
  |(obtain⟨t,rfl⟩:=rx;rfl)
def tj:dW X (compareOp .IsNot) (λx y H Q=>y=.non/\Q (.bl (!decide (x=.non))) H):=by
 intro pins s σ H x y v u Q I rx ry h;obtain⟨rfl,q⟩:=h;cases ry;refine isnot_none_gen (xH I q ?_);cases x<;>first
  |(cases rx;rfl)
  |(obtain⟨t,rfl⟩:=rx;rfl)
def dW.or(h:dW X f r)(h':dW X f r'):dW X f (λx y H Q=>r x y H Q∨r' x y H Q):=by
 intro pins s σ H x y v u Q I rx ry q;rcases q with q|q
 .exact h pins s σ H x y v u Q I rx ry q
 .exact h' pins s σ H x y v u Q I rx ry q
def yE(ho:dW X (compareOp op) r)(ha:PE X a ta)(hb:PE X b tb)(hm:behindInMarks op b=false):PE X (.Compare a [op] [b] pos) (Iy r ta tb):=by
 intro pins s σ H Q I h;exact wpAny_Compare1 (Ib ha hb I h λv u s2 x y H2 I2 rx ry q=>ho pins s2 σ H2 x y v u Q I2 rx ry q) hm
def FA(t:TE):TT:=λσ H Q=>t σ H λx H'=>∃k,x=.bl k/\Q k H'
def yy(ho:dW X (compareOp op) r)(ha:PE X a ta)(hb:PE X b tb)(hm:behindInMarks op b=false):PT X (.Compare a [op] [b] pos) (FA (Iy r ta tb)):=by
 intro pins s σ H Q I h;refine wpAny_isTrue_Compare1 (cu (ha pins s σ H _ I h) λv s1 ⟨x,H1,I1,r1,q1⟩=>cu (hb pins s1 σ H1 _ I1 q1) λu s2 ⟨y,H2,I2,r2,q2⟩ =>
  cu (ho pins s2 σ H2 x y v u _ I2 r1 r2 q2) λc s3 ⟨z,H3,I3,r3,k,e,q3⟩=>?_) hm
 subst e;cases r3;exact wpAny_truthy_bool ⟨H3,I3,q3⟩
def wR(r r':R2)(ta tb tc:TE):TE:=λσ H Q=>ta σ H λx H1=>tb σ H1 λy H2=>r x y H2 λz H3=>∃k,z=.bl k /\
 (if k=true then tc σ H3 λw' H4=>r' y w' H4 Q else Q (.bl false) H3)
def B6(ho:dW X (compareOp op) r)(ho':dW X (compareOp op') r')(ha:PE X a ta)(hb:PE X b tb)(hc:PE X c tc)
  (hm:lastMarks [op,op'] [b,c]=false:=by with_unfolding_all rfl):PE X (.Compare a [op,op'] [b,c] pos) (wR r r' ta tb tc):=by
 intro pins s σ H Q I h;refine Compare_chain (cu (ha pins s σ H _ I h) λv s1 ⟨x,H1,I1,r1,q1⟩=>chain_link (cu (hb pins s1 σ H1 _ I1 q1) λu s2 ⟨y,H2,I2,r2,q2⟩ =>
  cu (ho pins s2 σ H2 x y v u _ I2 r1 r2 q2) λd s3 ⟨z,H3,I3,r3,k,e,q3⟩=>?_)) hm
 subst e;cases r3;refine wpAny_truthy_bool ?_;cases k with|false=>exact ite_ff ⟨.bl false,H3,I3,rfl,q3⟩|true=>exact ite_tt (chain_last (cu (hc pins s3 σ H3 _ I3 q3) λw' s4 ⟨z',H4,I4,r4,q4⟩=>ho' pins s4 σ H4 y z' u w' Q I4 r2 r4 q4))
def BN(ho:dW X (compareOp op) r)(ho':dW X (compareOp op') r')(ha:PE X a ta)(hb:PE X b tb)(hc:PE X c tc)
  (hm:lastMarks [op,op'] [b,c]=false:=by with_unfolding_all rfl):PT X (.Compare a [op,op'] [b,c] pos) (FA (wR r r' ta tb tc)):=by
 intro pins s σ H Q I h;refine isTrue_chain (cu (ha pins s σ H _ I h) λv s1 ⟨x,H1,I1,r1,q1⟩=>test_link (cu (hb pins s1 σ H1 _ I1 q1) λu s2 ⟨y,H2,I2,r2,q2⟩ =>
  cu (ho pins s2 σ H2 x y v u _ I2 r1 r2 q2) λd s3 ⟨z,H3,I3,r3,k,e,q3⟩=>?_)) hm
 subst e;cases r3;refine wpAny_truthy_bool ?_;cases k with
 |false=>
  obtain⟨k',e',q'⟩:=q3;cases e';exact ite_ff ⟨H3,I3,q'⟩
 |true=>
  refine ite_tt (test_last (cu (hc pins s3 σ H3 _ I3 q3) λw' s4 ⟨z',H4,I4,r4,q4⟩=>cu (ho' pins s4 σ H4 y z' u w' _ I4 r2 r4 q4) λd' s5 z9=>?_));obtain⟨z2,H5,I5,r5,k2,e2,q5⟩:=z9;subst e2;cases r5;exact wpAny_truthy_bool ⟨H5,I5,q5⟩
noncomputable def MJ(K:W.Frag) (x:V) (H:Hp) (k:Bool):Prop :=
 match x with
 |.non=>k=false
 |.bl b=>k=b
 |.int i=>k=(i != 0)
 |.str y=>y.length<=sizeLine/\k=((y.length:Int) != 0)
 |.byt y=>y.size<=sizeLine/\k=((y.size:Int) != 0)
 |.ref p=>(∃xs,d9 K H p xs/\k=!xs.isEmpty)∨(∃xs,i4 K H p xs/\k=!xs.isEmpty)∨∃kvs,H p=some (.dK kvs)/\k=!kvs.isEmpty
 |_=>False
def Hu{vs:List (κ×Value)}(r:KV kvs vs):(!vs.isEmpty)=!kvs.isEmpty:=by
 cases r<;>rfl
def Ht(r:ba xs its):(!its.toArray.isEmpty)=!xs.isEmpty:=by
 cases r<;>simp
def oe:(sizeLine:Nat)<2 ^ 63:=by rw[sizeLine_eq];decide
def nU:dW X (binaryOp .Add) (λx y H Q=>∃i j,x=.str i/\y=.str j/\i.length+j.length<=sizeLine/\Q (.str (i++j)) H):=by
 intro pins s σ H x y v u Q I rx ry h;obtain⟨i,j,rfl,rfl,hz,q⟩:=h;obtain⟨t,rfl⟩:=rx;obtain⟨t',rfl⟩:=ry;exact add_str (λt' tk=>⟨.str (i++j),H,I.tok _,⟨_,rfl⟩,q⟩) hz
def qX(r:ba [x] us):∃u,us=[u]/\bb x u:=by
 cases r with|cons r1 r2=>cases r2;exact⟨_,rfl,r1⟩
def Fx(r:ba [x,y] us):∃u w',us=[u,w']/\bb x u/\bb y w':=by
 cases r with
 |cons r1 r2=>
  cases r2 with|cons r3 r4=>cases r4;exact⟨_,_,rfl,r1,r3⟩
def qc:iJ X (.builtin "abs") (λxs H Q=>∃i,xs=[.int i]/\Q (.int (if i<0 then -i else i)) H):=by
 intro pins s σ H xs us Q I r h;obtain⟨i,rfl,q⟩:=h;obtain⟨u,rfl,t,rfl⟩:=qX r;exact call_abs_int λu tk=>⟨.int (if i<0 then -i else i),H,I.tok _,⟨_,rfl⟩,q⟩
def AV(hc:X.calm=true):iJ X (.builtin "max") (λxs H Q=>∃i j,xs=[.int i,.int j]/\Q (.int (if j > i then j else i)) H):=by
 intro pins s σ H xs us Q I r h;obtain⟨i,j,rfl,q⟩:=h;obtain⟨u,w',rfl,⟨t,rfl⟩,⟨t',rfl⟩⟩:=Fx r;refine max_two_ints (I.ok.hd hc) λh' tk k=>⟨_,H,I.kept k,?_,q⟩
 by_cases hj:j > i
 .rw[if_pos hj,if_pos hj];exact⟨_,rfl⟩
 .rw[if_neg hj,if_neg hj];exact⟨_,rfl⟩
def AU(hc:X.calm=true):iJ X (.builtin "min") (λxs H Q=>∃i j,xs=[.int i,.int j]/\Q (.int (if j<i then j else i)) H):=by
 intro pins s σ H xs us Q I r h;obtain⟨i,j,rfl,q⟩:=h;obtain⟨u,w',rfl,⟨t,rfl⟩,⟨t',rfl⟩⟩:=Fx r;refine min_two_ints (I.ok.hd hc) λh' tk k=>⟨_,H,I.kept k,?_,q⟩
 by_cases hj:j<i
 .rw[if_pos hj,if_pos hj];exact⟨_,rfl⟩
 .rw[if_neg hj,if_neg hj];exact⟨_,rfl⟩
def sD:iJ X (.type "int") (λxs H Q=>(∃i,xs=[.int i]/\Q (.int i) H)∨∃k,xs=[.bl k]/\Q (.int (if k then 1 else 0)) H):=by
 intro pins s σ H xs us Q I r h;rcases h with⟨i,rfl,q⟩|⟨k,rfl,q⟩
 .obtain⟨u,rfl,t,rfl⟩:=qX r
  exact call_int_int ⟨.int i,H,I,⟨_,rfl⟩,q⟩
 .obtain⟨u,rfl,r1⟩:=qX r
  cases r1;exact call_int_bool ⟨.int (if k then 1 else 0),H,I.tok _,⟨_,rfl⟩,q⟩
def Ko(K:W.Frag)(x:V)(H:Hp)(n:Nat):Prop :=
 match x with
 |.str y=>y.length<=sizeLine/\n=y.length
 |.byt y=>y.size<=sizeLine/\n=y.size
 |.ref p=>(∃xs,d9 K H p xs/\n=xs.length)∨∃xs,i4 K H p xs/\n=xs.length
 |_=>False
def bU:iJ X (.builtin "len") (λxs H Q=>∃x n,xs=[x]/\Ko X.K x H n/\Q (.int n) H):=by
 intro pins s σ H xs us Q I r h;obtain⟨x,n,rfl,e,q⟩:=h;obtain⟨u,rfl,rx⟩:=qX r;have hl:=oe;have hs:sizeLine=16777216:=sizeLine_eq;cases x with
 |str y=>
  obtain⟨t,rfl⟩:=rx;obtain⟨hy,e'⟩:y.length<=sizeLine/\n=y.length:=e;subst e';exact len_str (by omega) ⟨.int _,H,I.tok _,⟨_,rfl⟩,q⟩
 |byt y=>
  obtain⟨t,rfl⟩:=rx;obtain⟨hy,e'⟩:y.size<=sizeLine/\n=y.size:=e;subst e';exact W.len_bytes (by omega) ⟨.int _,H,I.tok _,⟨_,rfl⟩,q⟩
 |ref p=>
  cases rx;have e':(∃xs,d9 X.K H p xs/\n=xs.length)∨∃xs,i4 X.K H p xs/\n=xs.length:=e;rcases e' with⟨xs,hx,e'⟩|⟨xs,hx,e'⟩
  .subst e'
   obtain⟨its,r',pl,hz⟩:=I.list hx;have hlen:=r'.length;exact Calls.call_len_list pl.isList (by simp only[List.size_toArray];omega) ⟨.int xs.length,H,I.tok _,⟨_,by simp only[List.size_toArray];rw[hlen]⟩,q⟩
  .subst e'
   obtain⟨its,r',pl,hz⟩:=I.tuple hx;have hlen:=r'.length;exact len_tuple pl (by simp only[List.size_toArray];omega) ⟨.int xs.length,H,I.tok _,⟨_,by simp only[List.size_toArray];rw[hlen]⟩,q⟩
 |_=>exact(show False from e).elim
end
structure Il (h:Heap) (x dx C:Addr) (mA:Str->Option Value):Prop where
 obj:h.get? x=some (W.instObj C dx)
 ns:h.Ns1 dx mA
 ne:dx≠x
def AB{h:Heap}{mA:Str->Option Value}(n:h.Ns1 dx mA):∃od,h.get? dx=some od/\∀name,W.lookIn name od=some (mA name):=by
 obtain⟨o,es,ep,ho,hd,hk,_,hm⟩:=n;refine⟨o,ho,λname=>?_⟩;have e:=hm name;unfold nsFind findBy at e;rw[←Array.find?_toList]at e;unfold W.lookIn;rw[hd];dsimp only;split
 .rename_i y q
  rw[q]at e;exact congrArg some e
 .rename_i q
  rw[q]at e;have a:es.toList.any (·.refKey)=false:=by
   rw[List.any_eq_false];intro y hy;obtain⟨z,t,hkey⟩:=hk y (Array.mem_toList_iff.mp hy);simp[DictEntry.refKey,hkey]
  have a':¬es.toList.any (·.refKey)=true:=by rw[a];exact Bool.false_ne_true
  rw[if_neg a'];exact congrArg some e
def Il.look{h:Heap}{mA:Str->Option Value}(I:Il h x dx C mA):∃od,W.InstAt h x (W.instObj C dx) C (some od)/\∀name,W.lookIn name od=some (mA name) :=
 let ⟨od,ho,hl⟩:=AB I.ns
 ⟨od,⟨I.obj,rfl,rfl,ho⟩,hl⟩
def lC(r:qT (some v) o):∃u,o=some u/\bb v u:=by
 cases o with|none=>exact(show False from r).elim|some u=>exact⟨u,rfl,r⟩
section
variable {P:Program}{w:World}{H H':Hp}{h h':Heap}{a C dx:Addr}{fs fs':List (Str×V)}
def za(hok:jF P w H h)(e:H a=some (.ins C dx fs)):∃mA,Il h a dx C mA/\(∀f,qT (fs.lookup f) (mA f))/\PySem.Within mA (fs.map (·.1))/\fs.length<=1000/\H dx=some (.own a):=by
 obtain⟨d,z,ne,ob,mA,n,r,q⟩:=(show cw P w H h a (.ins C dx fs) from hok a _ e)
 exact⟨mA,⟨ob,n,ne⟩,r,q,z,d⟩
end
structure KO (K:W.Frag) (C:Addr):Prop where
 pg:W.plainGet K C Str.empty=true
 hd:W.hasDictIn K C=true
 po:W.plainOver K C=true
 sa:W.findIn K (.ref C) "__setattr__"=some (some (.builtin "object.__setattr__"))
def KO.get{K:W.Frag}(c:KO K C)(f:Str):W.plainGet K C f=true:=c.pg
def Ip(K:W.Frag)(C:Addr)(f:Str):Prop:=W.findIn K (.ref C) f=some none
section
variable {X:Cx}{pins:List (Addr×Obj)}{σ:St}{H:Hp}{s:Shared}{A:Around}{E:Value->Shared->Prop}{Q:Value->Shared->Prop}{c:Value}{b:Bool}
inductive mY (K:W.Frag) (H:Hp):V->Value->Prop where
 |non:mY K H .non (.type "NoneType")
 |bl (x:Bool):mY K H (.bl x) (.type "bool")
 |int (i:Int):mY K H (.int i) (.type "int")
 |str (x:Str):mY K H (.str x) (.type "str")
 |flt (x:UInt64):mY K H (.flt x) (.type "float")
 |lst {a:Addr}{xs:ad}(e:H a=some (.lst xs)):mY K H (.ref a) (.type "list")
 |frz {a:Addr}{o:Obj}{xs:ad}(e:H a=some (.frz o (.lst xs))):mY K H (.ref a) (.type "list")
 |tup {a:Addr}{xs:ad}(e:H a=some (.tup xs)):mY K H (.ref a) (.type "tuple")
 |dK {a:Addr}{kvs:List (eC×V)}(e:H a=some (.dK kvs)):mY K H (.ref a) (.type "dict")
 |dT {a:Addr}{kvs:List (List eC×V)}(e:H a=some (.dT kvs)):mY K H (.ref a) (.type "dict")
 |ins {a C dx:Addr}{fs:List (Str×V)}(e:H a=some (.ins C dx fs)) (cl:KO K C) (ha:W.findIn K (.ref C) "__class__"=some (some (.builtin "object.__class__")))
   (hn:W.specialIn K (.builtin "object.__class__") "__get__"=some (some (.builtin "getset_descriptor.__get__"))) (htk:W.takesIn K (.builtin "object.__class__")=some true)
   (hm:W.mroIn K C (.type "object")=some true):mY K H (.ref a) (.ref C)
def iQ(I:Inv X pins σ H s)(rx:bb x u)(ty:mY X.K H x t)(e:W.kitOne X.K t c=some b)(h:∀tk,Q (.bool b) { s with toks:=tk }) :
  wpAny (model X.prog X.w) A (call (.builtin "isinstance") [u,c]) Q E s:=by
 cases ty with
 |non=>cases (show u=Value.none from rx);exact W.kia_one W.kitx_none I.kIn True.intro e (λz=>nomatch z) h|bl y=>cases (show u=Value.bool y from rx);exact W.kia_one W.kitx_bool I.kIn True.intro e (λz=>nomatch z) h|int i=>obtain⟨t,q⟩:=(show ∃t,u=Value.int i t from rx);cases q;exact W.kia_one W.kitx_int I.kIn True.intro e (λz=>nomatch z) h|str y=>obtain⟨t,q⟩:=(show ∃t,u=Value.str y t from rx);cases q;exact W.kia_one W.kitx_str I.kIn True.intro e (λz=>nomatch z) h|flt y=>obtain⟨t,q⟩:=(show ∃t,u=Value.float y t from rx);cases q;exact W.kia_one W.kitx_float I.kIn True.intro e (λz=>nomatch z) h
 |@lst a xs ea=>
  cases (show u=Value.ref a from rx);obtain⟨_,_,n,_,h1⟩:=(show cw X.prog X.w H s.heap a (.lst xs) from I.hok a _ ea)
  exact W.kia_one W.kitx_list I.kIn ⟨_,h1,rfl⟩ e (λz=>nomatch z) h
 |@frz a ob xs ea=>
  cases (show u=Value.ref a from rx);obtain⟨_,_,_,n,_,h1⟩:=(show cw X.prog X.w H s.heap a (.frz ob (.lst xs)) from I.hok a _ ea)
  exact W.kia_one W.kitx_list I.kIn ⟨_,h1,rfl⟩ e (λz=>nomatch z) h
 |@tup a xs ea=>
  cases (show u=Value.ref a from rx);obtain⟨_,_,_,p⟩:=(show cw X.prog X.w H s.heap a (.tup xs) from I.hok a _ ea)
  obtain⟨o,h1,h2,_⟩:=p;exact W.kia_one W.kitx_tuple I.kIn ⟨o,h1,h2⟩ e (λz=>nomatch z) h
 |@dK a kvs ea=>
  cases (show u=Value.ref a from rx);obtain⟨_,_,vs,_,p⟩:=(show cw X.prog X.w H s.heap a (.dK kvs) from I.hok a _ ea)
  obtain⟨o,es,ep,h1,h2,_⟩:=p;exact W.kia_one W.kitx_dict I.kIn ⟨o,h1,h2.1⟩ e (λz=>nomatch z) h
 |@dT a kvs ea=>
  cases (show u=Value.ref a from rx);obtain⟨_,_,xs,_,o,es,ep,h1,h2,_⟩:=(show cw X.prog X.w H s.heap a (.dT kvs) from I.hok a _ ea)
  exact W.kia_one W.kitx_dict I.kIn ⟨o,h1,h2.1⟩ e (λz=>nomatch z) h
 |@ins a C dx fs ea cl ha hn htk hm=>
  cases (show u=Value.ref a from rx);obtain⟨mA,O,_⟩:=za I.hok ea;obtain⟨od,J,_⟩:=O.look;exact W.kia_one (W.kitx_own (cl.get _) cl.hd ha hn htk hm) I.kIn J e (λz=>nomatch z) h
end
structure cB (k:Nat) (A:Around):Prop where
 hd:A.handled=none
 dp:A.depth+3*k+5<recursionLimit
 un:A.units+16*k+200<cLine
 gd:A.guards=some []
def cB.mono{j k:Nat}(r:cB k A)(h:j<=k):cB j A:=⟨r.hd,by have:=r.dp;omega,by have:=r.un;omega,r.gd⟩
def cB.deeper{k:Nat}(r:cB (k+1) A)(env:Env):cB k (A.deeper env) :=
 ⟨r.hd,by have:=r.dp;show A.depth+1+3*k+5<_;omega,by have:=r.un;show A.units+3+16*k+200<_;omega,r.gd⟩
def cB.depth{k:Nat}(r:cB k A):A.depth<recursionLimit:=by have:=r.dp;omega
def cB.units{k:Nat}(r:cB k A):A.units+64<cLine:=by have:=r.un;omega
def K7:TA:=λ_ H Q=>Q [] H
def IW(ta:TE)(tr:TA):TA:=λσ H Q=>ta σ H λx H1=>tr σ H1 λxs H2=>Q (x::xs) H2
section
variable {X:Cx}{e:Expr}{es:List Expr}{te:TE}{t:TA}{pos:Pos}
def eW:PA X [] K7:=λ_ _ _ _ H Q I h=>Calls.spliced_nil ⟨[],H,I,.nil,h⟩
def cx(ha:PE X e te)(hr:PA X es t)(hs:starEach (e::es) X.env=(false,eval e X.env)::starEach es X.env:=by rfl):PA X (e::es) (IW te t):=by
 intro pos pins s σ H Q I h;rw[hs];show wpAny _ _ (spliced ((false,eval e X.env)::backTo pos (starEach es X.env))) _ _ s;refine Calls.spliced_cons (cu (ha pins s σ H _ I h) λu s1 ⟨x,H1,I1,r1,q1⟩=>?_);exact cu (hr pos pins s1 σ H1 _ I1 q1) λus s2 ⟨xs,H2,I2,r2,q2⟩=>⟨x::xs,H2,I2,.cons r1 r2,q2⟩
def KW(t:TA):TE:=λσ H Q=>t σ H λxs H1=>xs.length<=sizeLine/\∀p,H1 p=none->Q (.ref p) (upd H1 p (.tup xs))
def K9(t:TA):TE:=λσ H Q=>t σ H λxs H1=>xs.length<=sizeLine/\∀p,H1 p=none->Q (.ref p) (upd H1 p (.lst xs))
def BZ{x1}(h:PA X es t):PE X (.Tuple es x1 pos) (KW t):=by
 intro pins s σ H Q I hq;refine wpAny_Tuple_spliced (cu (h pos pins s σ H _ I hq) λus s1 ⟨xs,H1,I1,r,z,q⟩=>⟨by rw[←r.length];exact z,?_⟩);have hf:H1 s1.heap.objs.size=none:=I1.hok.fresh (Nat.le_refl _);refine⟨.ref s1.heap.objs.size,upd H1 s1.heap.objs.size (.tup xs),I1.laid (t':=s1.toks) (λb u e=>Heap.get?_push_of_some _ e) (Nat.le_refl _) ?_,rfl,q _ hf⟩;exact⟨z,us,r,⟨_,Heap.get?_push_size _ rfl,rfl,_,rfl⟩⟩
def B1(h:PA X es t):PE X (.List es pos) (K9 t):=by
 intro pins s σ H Q I hq;refine wpAny_List_spliced (cu (h pos pins s σ H _ I hq) λus s1 ⟨xs,H1,I1,r,z,q⟩=>⟨by rw[←r.length];exact z,?_⟩);have hf:H1 s1.heap.objs.size=none:=I1.hok.fresh (Nat.le_refl _);refine⟨.ref s1.heap.objs.size,upd H1 s1.heap.objs.size (.lst xs),I1.laid (t':=s1.toks) (λb u e=>Heap.get?_push_of_some _ e) (Nat.le_refl _) ?_,rfl,q _ hf⟩;exact⟨z,us,0,r,Heap.get?_push_size _ rfl⟩
end
abbrev Sp:=ad->Hp->VK->XK->Prop
abbrev yg:=List Env->Hp->Shared->XK->Value->Shared->Prop
structure Dw (P:Program) (w:World) (K:W.Frag) (mg:Str->Option Value) (base:Heap) (A:Around) (outer:List Env) (s:Shared) (H:Hp):Prop where
 frames:A.frames=some outer
 mod:Mod K mg base
 bs:∀b o,base.get? b=some o->s.heap.get? b=some o/\H b=none
 bsz:base.objs.size<=s.heap.objs.size
 funs:s.heap.FunFrames base outer
 frf:∀b∈A4 outer,H b=none
 hok:jF P w H s.heap
 bare:AllBare s.gens
def CE(outer:List Env)(P:Program)(w:World)(H:Hp)(s:Shared)(Q:VK)(u:Value)(s':Shared):Prop :=
 ∃v H',s'.os=s.os/\AllBare s'.gens/\Un (A4 outer) [] H H' s.heap s'.heap/\jF P w H' s'.heap/\bb v u/\Q v H'
def CR(CX:yg)(outer:List Env)(P:Program)(w:World)(H:Hp)(s:Shared)(Q:VK)(E:XK)(r:Result)(s':Shared):Prop :=
 match r with
 |.ok (.ret u)=>CE outer P w H s Q u s'
 |.ok _=>False
 |.error e=>CX outer H s E e s'
structure fM (P:Program) (w:World) (K:W.Frag) (mg:Str->Option Value) (base:Heap) (CX:yg) (k:Nat) (f:Addr) (fd:FuncData) (ps:List Str) (sp:Sp):Prop where
 len:∀vs H Q E,sp vs H Q E->vs.length=ps.length
 run:∀(A:Around) (outer:List Env) (s:Shared) (H:Hp) (args:Args) (us:List Value) (vs:ad) (Q:VK) (E:XK),cB k A->Dw P w K mg base A outer s H->BindsTo s fd args (ps.zip us)->ba vs us->sp vs H Q E ->
  codeAny (model P w) A (.call (.ref f) args) (CR CX outer P w H s Q E) s
def fM.mono{K:W.Frag}{j k:Nat}{ps:List Str}(F:fM P w K mg base CX j f fd ps sp)(h:j<=k) :
  fM P w K mg base CX k f fd ps sp:=⟨F.len,λA outer s H args us vs Q E hr=>F.run A outer s H args us vs Q E (hr.mono h)⟩
section
variable {X:Cx}{pins:List (Addr×Obj)}{σ:St}{H:Hp}{s s':Shared}
def Inv.env0(I:Inv X pins σ H s):Dw X.prog X.w X.K X.mg X.base X.A X.stack s H :=
 ⟨I.ok.frames,I.ok.mod,I.bs,Nat.le_trans I.ok.bsz I.sz,I.stack,I.stkFree,I.hok,I.bare⟩
def Inv.after(I:Inv X pins σ H s)(h:CE X.stack X.prog X.w H s Q u s'):EP X pins σ Q u s':=by
 obtain⟨v,H',os,bare,un,hok,r,q⟩:=h;obtain⟨hh,g,d,t,os'⟩:=s';obtain rfl:os'=s.os:=os;exact⟨v,H',I.call (h':=hh) (g':=g) (d':=d) (t':=t) (ch:=[]) un hok bare (λb z=>absurd z (by simp)),r,q⟩
end
def IY(sp:Sp)(dvs:ad)(E:XK)(t:TA):TE:=λσ H Q=>t σ H λvs H1=>sp (vs++dvs) H1 Q E
def iL(K:W.Frag)(fd:FuncData)(ps:List Str)(ds:List Value):Prop :=
 ∀(s:Shared) (us:List Value),K.In s.heap->(us++ds).length=ps.length->BindsTo s fd ⟨us,[]⟩ (ps.zip (us++ds))
def iL.all{K:W.Frag}{ps:List Str}(h:∀us:List Value,us.length=ps.length->bindArgs fd ⟨us,[]⟩=pure (ps.zip us)):iL K fd ps []:=λs us _ hl=>by
 rw[List.append_nil]at hl ⊢;exact .of_eq (h us hl)
def ee(CX:yg)(X:Cx)(E:XK):Prop:=∀(pins:List (Addr×Obj)) (σ:St) (H:Hp) (s:Shared) (e:Value) (s':Shared),Inv X pins σ H s->CX X.stack H s E e s'->X.xe e s'
section
variable {X:Cx}{CX:yg}{k:Nat}{f C:Addr}{fd:FuncData}{ps:List Str}{sp:Sp}{dvs:ad}{ds:List Value}{E:XK}{x m:Str}{p pos apos:Pos}{e o:Expr}{es:List Expr}{ta:TE}{t:TA}
def GG(F:fM X.prog X.w X.K X.mg X.base CX k f fd ps sp)(hr:cB k X.A)(hb:iL X.K fd ps ds)(hd:ba dvs ds)(hx:ee CX X E)
  (I:Inv X pins σ H s)(r:ba vs us)(h:sp (vs++dvs) H Q E):wpAny (model X.prog X.w) X.A (call (.ref f) us) (EP X pins σ Q) X.xe s:=by
 have r2:ba (vs++dvs) (us++ds):=r.append hd;have hl:(us++ds).length=ps.length:=by rw[←r2.length];exact F.len _ _ _ _ h
 refine wpAny_call (codeAny_mono (F.run X.A X.stack s H ⟨us,[]⟩ (us++ds) (vs++dvs) Q E hr I.env0 (hb s us I.kIn hl) r2 h) λr s' hq=>?_);cases r with
 |error e=>exact hx pins σ H s e s' I hq
 |ok fl=>
  cases fl with|ret u=>exact I.after hq|next|brk|cont=>exact False.elim hq
def jM(F:fM X.prog X.w X.K X.mg X.base CX k f fd ps sp)(hr:cB k X.A)(hg:Gl X x)(hm:X.mg x=some (.ref f))(hk:W.keepIn X.K (.ref f)=true)(hb:iL X.K fd ps ds)(hd:ba dvs ds)(hx:ee CX X E)
  (ha:PA X (e::es) t)(hdb:(x==("__debug__":Str))=false:=by decide)(he:starEach (e::es) X.env=(false,eval e X.env)::starEach es X.env:=by rfl)(hpl:(backTo pos (starEach es X.env)).any (·.1)=false:=by rfl) :
  PE X (.Call (.Name x p) (e::es) [] pos) (IY sp dvs E t):=by
 intro pins s σ H Q I h;refine wpAny_Call_Name_kw (yW I hg hm ?_ hdb);refine W.callWith_K (h₀:=X.base) I.ok.mod.kin hk (cu (ha pos pins s σ H _ I h) λus s1 z9=>?_) he hpl;obtain⟨vs,H1,I1,r,q⟩:=z9;refine⟨I1.kIn,?_⟩;exact GG F hr hb hd hx I1 r q
end
structure eP (N P:List Str) (sc:Scope):Prop where
 kind:sc.kind=.function
 co:sc.isCoroutine=false
 gen:sc.isGenerator=false
 nd:N.Nodup
 pre:N.take P.length=P
 par:∀x∈P,sc.names.lookup x=some .local ∨ sc.names.lookup x=some .cell
 nofree:∀y∈sc.names,y.2≠.free
theorem sG{kindOf:Str->Option NameKind}:∀{binds:List (Str×Value)}{m:Str->Option Value},(∀v,(x,v)∉binds)->bindL kindOf binds m x=m x
 |[],_,_=>rfl
 |(n,v)::r,m,h=>by
  unfold bindL;rw[sG λw hw=>h w (List.mem_cons_of_mem _ hw)];split
  .have:x≠n:=by rintro rfl;exact h v List.mem_cons_self
   simp[this]
  .rfl
theorem sI{kindOf:Str->Option NameKind}:∀{binds:List (Str×Value)}{m:Str->Option Value},(∀v,(x,v)∉binds)->bindC kindOf binds m x=m x
 |[],_,_=>rfl
 |(n,v)::r,m,h=>by
  unfold bindC;rw[sI λw hw=>h w (List.mem_cons_of_mem _ hw)];split
  .rfl
  .have:x≠n:=by rintro rfl;exact h v List.mem_cons_self
   simp[this]
theorem sH{kindOf:Str->Option NameKind}{x:Str}{v:Value}:∀{P:List Str}{vs:List Value}{i:Nat}{m:Str->Option Value},P.Nodup->P[i]?=some x->vs[i]?=some v->kindOf x=some .local ->
  bindL kindOf (P.zip vs) m x=some v
 |[],_,_,_,_,h,_,_=>by simp at h
 |_::_,[],_,_,_,_,h,_=>by simp at h
 |p::P,w::vs,0,m,nd,h1,h2,hk=>by
  simp at h1 h2;subst h1;subst h2;show bindL kindOf ((p,w)::P.zip vs) m p=_;unfold bindL;rw[sG λv hv=>(List.nodup_cons.mp nd).1 (List.of_mem_zip hv).1,if_pos hk];simp
 |p::P,w::vs,i+1,m,nd,h1,h2,hk=>by
  show bindL kindOf ((p,w)::P.zip vs) m x=_;unfold bindL;exact sH (i:=i) (List.nodup_cons.mp nd).2 (by simpa using h1) (by simpa using h2) hk
theorem sJ{kindOf:Str->Option NameKind}{x:Str}{v:Value}:∀{P:List Str}{vs:List Value}{i:Nat}{m:Str->Option Value},P.Nodup->P[i]?=some x->vs[i]?=some v->kindOf x≠some .local ->
  bindC kindOf (P.zip vs) m x=some v
 |[],_,_,_,_,h,_,_=>by simp at h
 |_::_,[],_,_,_,_,h,_=>by simp at h
 |p::P,w::vs,0,m,nd,h1,h2,hk=>by
  simp at h1 h2;subst h1;subst h2;show bindC kindOf ((p,w)::P.zip vs) m p=_;unfold bindC;rw[sI λv hv=>(List.nodup_cons.mp nd).1 (List.of_mem_zip hv).1,if_neg hk];simp
 |p::P,w::vs,i+1,m,nd,h1,h2,hk=>by
  show bindC kindOf ((p,w)::P.zip vs) m x=_;unfold bindC;exact sJ (i:=i) (List.nodup_cons.mp nd).2 (by simpa using h1) (by simpa using h2) hk
def start(N:List Str)(vs:ad):St:=vs.map some++List.replicate (N.length-vs.length) none
noncomputable def ll(CX:yg) (P:Program) (w:World) (K:W.Frag) (mg:Str->Option Value) (base:Heap) (N:List Str) (qual:Str) (scope:Scope) (f:Addr) (cd:Value) (A:Around) (outer:List Env) (s:Shared) (H:Hp) (E:XK):Cx where
 prog:=P
 w:=w
 K:=K
 mg:=mg
 base:=base
 A:=A.deeper (envOfC qual scope s.heap.objs.size f cd)
 N:=N
 sf:=s
 Ha:=H
 env:=envOfC qual scope s.heap.objs.size f cd
 outer:=outer
 stack:=envOfC qual scope s.heap.objs.size f cd::outer
 ex:=[]
 calm:=true
 fn:=λ_=>true
 pn:=[]
 xe:=λe s'=>wpAny (model P w) (A.deeper (envOfC qual scope s.heap.objs.size f cd)) (leaving (envOfC qual scope s.heap.objs.size f cd) e) (λ_ s''=>CX outer H s E e s'') (λe' s''=>CX outer H s E e' s'') s'
def wA{sc:Scope}(h:sc.names.lookup x=some .cell):∃c,(cellsFrom n sc.names []).lookup x=some c:=by
 have q:=W.cellsFrom_some sc.names n [] (.inl h);exact Option.isSome_iff_exists.mp q
def AF{K:W.Frag}{N ps:List Str} 
  (S:eP N ps scope)(hd:A.handled=none)(e0:Dw P w K mg base A outer s H)(hl:vs.length=ps.length)(r:ba vs us)
  (x:InCallC s s.heap.objs.size (bindL (envOfC qual scope s.heap.objs.size f cd).kindOf (ps.zip us) λ_=>none) (cellsFrom (s.heap.objs.size+1) scope.names []) (bindC (envOfC qual scope s.heap.objs.size f cd).kindOf (ps.zip us) λ_=>none) s1) :
  Inv (ll CX P w K mg base N qual scope f cd A outer s H E) [] (start N vs) H s1:=by
 have hpl:ps.length<=N.length:=by have:=congrArg List.length S.pre;rw[List.length_take]at this;omega
 obtain⟨h1,tk,rfl,hk⟩:=x.done;have noA:∀b:Addr,b∉(ll CX P w K mg base N qual scope f cd A outer s H E).ex:=λb z=>absurd (show b∈([]:List Addr) from z) (by simp);refine⟨⟨e0.mod,S.kind,rfl,rfl,Nat.le_refl _,λy z c h1 h2=>?_,λy hy=>?_,λy c _ h=>?_,λ_=>hd,Around.frames_deeper e0.frames,.inr ⟨rfl,rfl⟩,λb z=>absurd z (noA b),e0.bs,e0.bsz,λb _ _=>noA b,λb z=>absurd z (noA b),e0.funs,e0.frf⟩,
  rfl,e0.bare,Un.kept hk,⟨_,x.toInCall.ns,λi y v h1 h2 h3=>?_⟩,λy c h=>⟨_,x.cell y c h⟩,e0.hok.fresh (Nat.le_refl _),λy c h=>?_,λp hp=>absurd (show p∈([]:List (Addr×Obj)) from hp) (by simp),e0.hok.kept hk,?_⟩
 .exact name_of_addr x.apart (PySem.mem_of_lookup h1) (PySem.mem_of_lookup h2)
 .have hy:scope.names.lookup y=some .cell∨scope.names.lookup y=some .free:=hy
  rcases hy with hy|hy
  .exact wA hy
  .exact absurd rfl (S.nofree _ (PySem.mem_of_lookup hy))
 .exact Nat.le_of_lt (x.above y c (PySem.mem_of_lookup h))
 .have hi:i<vs.length:=by
   unfold start at h2
   by_cases hi:i<vs.length
   .exact hi
   .rw[List.getElem?_append_right (by simpa using hi)]at h2
    rw[List.getElem?_replicate]at h2;split at h2<;>cases h2
  have ha:vs[i]?=some v:=by
   unfold start at h2;rw[List.getElem?_append_left (by simpa using hi),List.getElem?_map]at h2;cases e:vs[i]? with|none=>rw[e]at h2;cases h2|some a=>rw[e]at h2;cases h2;rfl
  obtain⟨u,hu,rv⟩:=r.get ha;have hp:ps[i]?=some y:=by
   rw[←S.pre,List.getElem?_take_of_lt (by omega)];exact h1
  have ndP:ps.Nodup:=by rw[←S.pre];exact S.nd.sublist (List.take_sublist _ _)
  refine⟨u,rv,?_⟩;rcases S.par y (List.mem_of_getElem? hp) with k|k
  .exact .inl ⟨k,sH ndP hp hu k⟩
  .obtain⟨c,e⟩:=wA (n:=s.heap.objs.size+1) k
   refine .inr ⟨.inl k,c,e,?_⟩;have q:=x.cell y c e;rw[sJ ndP hp hu (by show scope.names.lookup y≠_;rw[k];decide)]at q;exact q
 .exact e0.hok.fresh (Nat.le_of_lt (x.above y c (PySem.mem_of_lookup h)))
 .unfold start
  show _=N.length;rw[List.length_append,List.length_map,List.length_replicate];omega
def J3{K:W.Frag}{k:Nat}{dV kV doc pm cdv ct oc:Value}
  {N ps:List Str}(lk:K.lookup f=some ⟨oc,od,.func (W.fnOf name qual params body scope dV kV doc pm an cdv ct),osl⟩) (hcd:W.codeIn K cdv qual=true) (S:eP N ps scope)
  (len:∀vs H Q E,sp vs H Q E->vs.length=ps.length)
  (hbody:∀(A:Around) (outer:List Env) (s:Shared) (H:Hp) (vs:ad) (Q:VK) (E:XK),cB k (A.deeper (envOfC qual scope s.heap.objs.size f cdv))->sp vs H Q E ->
   ∃t,ux (ll CX P w K mg base N qual scope f cdv A outer s H E) body t/\t { nx:=λ_ H'=>Q .non H',rt:=Q } (start N vs) H) :
  fM P w K mg base CX (k+1) f (W.fnOf name qual params body scope dV kV doc pm an cdv ct) ps sp:=by
 refine⟨len,λA outer s H args us vs Q E hr e0 hb r hsp=>?_⟩;have hl:=len _ _ _ _ hsp;have KX:K.In s.heap:=e0.mod.kin.keeps λb o e=>(e0.bs b o e).1;have lim:s.heap.NoLimit:=e0.mod.nolimit.keeps λb o e=>(e0.bs b o e).1;have hkind:∀y∈ps.zip us,scope.names.lookup y.1=some .local ∨ (scope.names.lookup y.1=some .cell/\((cellsFrom (s.heap.objs.size+1) scope.names []).lookup y.1).isSome=true):=λ⟨n,v⟩ hy=>by
  rcases S.par n (List.of_mem_zip hy).1 with q|q
  .exact .inl q
  .exact .inr ⟨q,W.cellsFrom_some _ _ _ (.inl q)⟩
 refine codeAny_call_function hr.depth (KX _ _ lk) rfl S.co S.gen rfl (W.codeRec_of KX hcd) (hb _ _ _ _ ?_);refine wpAny_newFunctionEnv_cells S.kind hkind λenv he s1 x=>?_;subst he;refine⟨lim.keeps x.toInCall.keep,codeAny_func ?_⟩;obtain⟨t,ht,hq⟩:=hbody A outer s H vs Q E (hr.deeper _) hsp;have I:Inv (ll CX P w K mg base N qual scope f cdv A outer s H E) [] (start N vs) H s1:=AF S hr.hd e0 hl r x;refine wpAny_mono (ht [] s1 (start N vs) H _ I hq) (λfl s' hs=>?_) λe s' hs=>hs;have fin:∀{σ':St}{H':Hp}{v:V}{u:Value},Inv (ll CX P w K mg base N qual scope f cdv A outer s H E) [] σ' H' s'->bb v u->Q v H'->CE outer P w H s Q u s' :=
  λ{σ' H' v u} J rv q=>⟨v,H',J.os,J.bare,J.base,J.hok,rv,q⟩
 cases fl with
 |ret u=>
  obtain⟨v,σ',H',J,rv,q⟩:=hs;exact fin J rv q
 |next=>
  obtain⟨σ',H',J,q⟩:=hs;exact fin (v:=V.non) (u:=Value.none) J rfl q
 |brk=>
  obtain⟨_,_,_,q⟩:=hs;exact False.elim q
 |cont=>
  obtain⟨_,_,_,q⟩:=hs;exact False.elim q
section
variable {X:Cx}{x:Str}{p pos:Pos}{e:Expr}{es:List Expr}{t:TA}{id T:String}{r:ad->Hp->VK->Prop}
def LV(r:ad->Hp->VK->Prop)(t:TA):TE:=λσ H Q=>t σ H λvs H1=>r vs H1 Q
def uS(hc:iJ X (.builtin id) r)(hg:Gl X x)(hm:X.mg x=none)(hv:bootBuiltins x=some (.builtin id))(ha:PA X (e::es) t)(hn:x≠"__name__":=by decide)(hdb:(x==("__debug__":Str))=false:=by decide)
  (he:starEach (e::es) X.env=(false,eval e X.env)::starEach es X.env:=by rfl)(hpl:(backTo pos (starEach es X.env)).any (·.1)=false:=by rfl):PE X (.Call (.Name x p) (e::es) [] pos) (LV r t):=by
 intro pins s σ H Q I h;refine wpAny_Call_Name_kw (jq I hg hm hv ?_ hn hdb);exact PyProof.Rows.callWith_builtin1 (cu (ha pos pins s σ H _ I h) λus s1 ⟨vs,H1,I1,r1,q1⟩=>hc pins s1 σ H1 vs us Q I1 r1 q1) he hpl
def Ap(hc:iJ X (.type T) r)(hg:Gl X x)(hm:X.mg x=none)(hv:bootBuiltins x=some (.type T))(ha:PA X (e::es) t)(hn:x≠"__name__":=by decide)(hdb:(x==("__debug__":Str))=false:=by decide)
  (he:starEach (e::es) X.env=(false,eval e X.env)::starEach es X.env:=by rfl)(hpl:(backTo pos (starEach es X.env)).any (·.1)=false:=by rfl):PE X (.Call (.Name x p) (e::es) [] pos) (LV r t):=by
 intro pins s σ H Q I h;refine wpAny_Call_Name_kw (jq I hg hm hv ?_ hn hdb);exact PyProof.Rows.callWith_type1 (cu (ha pos pins s σ H _ I h) λus s1 ⟨vs,H1,I1,r1,q1⟩=>hc pins s1 σ H1 vs us Q I1 r1 q1) he hpl
end
end L2
namespace HT
open PySem PyProof.Rows
section
variable {prog:Program}{w:World}{A:Around}{E:Value->Shared->Prop}{s:Shared}
def cat_tup(ht:IsTup s.heap t vs.toArray)(hb:IsTup s.heap b ws.toArray)(hv:vs≠[])
  (h1:ws=[]->Q (.ref t) s)(h2:ws≠[]->Q (.ref s.heap.objs.size) { s with heap:=s.heap.push { cls:=.type "tuple",data:=.seq (vs++ws).toArray } })
  (hsz:vs.length+ws.length<=sizeLine):wpAny (model prog w) A (binaryOp .Add (.ref t) (.ref b)) Q E s:=by
 obtain⟨⟨cls,dd,data,sl⟩,ho,hc,n,hd⟩:=id ht;obtain⟨⟨cls2,dd2,data2,sl2⟩,ho2,hc2,n2,hd2⟩:=id hb;simp only at hc hd hc2 hd2;subst hc hd hc2 hd2;have e:vs.toArray++ws.toArray=(vs++ws).toArray:=by simp
 by_cases hw:ws=[]
 .exact concat_meets ⟨_,ho,rfl⟩ ⟨_,ho2,rfl⟩ noFill_tuple_add seq_tuple_add PySem.F.slot_tuple_add PySem.F.entry_tuple_add (PySem.F.args_tuple_add_2 _ _)
   (tuple_addW1 t b vs.toArray ws.toArray n n2 dd dd2 sl sl2 (by simpa using hv) (by simp[hw])) ⟨ho,ho2,h1 hw⟩
 .refine concat_meets ⟨_,ho,rfl⟩ ⟨_,ho2,rfl⟩ noFill_tuple_add seq_tuple_add PySem.F.slot_tuple_add PySem.F.entry_tuple_add (PySem.F.args_tuple_add_2 _ _)
   (tuple_addW2 t b vs.toArray ws.toArray n n2 dd dd2 sl sl2 (by simpa using hv) (by simpa using hw) (by rw[List.size_toArray,List.size_toArray];exact hsz)) ⟨ho,ho2,?_⟩
  rw[e];exact h2 hw
def sIx(n d:Nat):Option Int->Nat
 |none=>d
 |some v=>if v<0 then(v+(n:Int)).toNat else min v.toNat n
def sIx_none(n d:Nat):sIx n d none=d:=rfl
def sIx_nat(n d k:Nat):sIx n d (some (k:Int))=min k n:=by
 show(if(k:Int)<0 then((k:Int)+(n:Int)).toNat else min (k:Int).toNat n)=min k n;rw[if_neg (by omega),Int.toNat_natCast]
def GF(n d:Nat)(hd:d<=n)(o:Option Int):sIx n d o<=n:=by
 cases o with
 |none=>exact hd
 |some v=>
  show(if v<0 then(v+(n:Int)).toNat else min v.toNat n)<=n
  by_cases hv:v<0
  .rw[if_pos hv];omega
  .rw[if_neg hv];exact Nat.min_le_right _ _
def zN(v:Int)(n d:Nat):(if v<0 then max (v+(n:Int)) 0 else min v (n:Int))=((sIx n d (some v):Nat):Int):=by
 show(if v<0 then max (v+(n:Int)) 0 else min v (n:Int))=(((if v<0 then(v+(n:Int)).toNat else min v.toNat n):Nat):Int)
 by_cases hv:v<0
 .simp only[if_pos hv];omega
 .simp only[if_neg hv];omega
def xY(lo hi:Option Int)(n:Nat):Builtin.Slice.sliceAdjust lo hi 1 (n:Int)=(((sIx n 0 lo:Nat):Int),((sIx n n hi:Nat):Int)):=by
 have h1:¬((1:Int)<0):=by omega
 unfold Builtin.Slice.sliceAdjust;simp only[h1,if_false];refine Prod.ext ?_ ?_
 .cases lo with
  |none=>rfl
  |some v=>exact zN v n 0
 .cases hi with
  |none=>rfl
  |some v=>exact zN v n n
def xi(i j:Nat):Builtin.Slice.slicePlaces (i:Int) (j:Int) 1=j-i:=by
 unfold Builtin.Slice.slicePlaces;have h1:(1:Int) > 0:=by omega
 simp only[h1,if_true,Int.ediv_one];split<;>omega
def nH(p:IsPart v o)(h:Q o s):wpAny (model prog w) A (Builtin.Slice.slicePartIndex v) Q E s:=by
 cases p with|none=>exact slicePart_none h|int i t=>exact slicePart_int h
def lL{lo hi:Option Int}{Q:Int×Int×Nat->Shared->Prop}(hs:s.heap.IsSliceOf sl vl vu .none)(pl:IsPart vl lo)(pu:IsPart vu hi)
  (h:Q (((sIx n 0 lo:Nat):Int),1,sIx n n hi-sIx n 0 lo) s):wpAny (model prog w) A (Builtin.Slice.sliceApplied (.ref sl) (pure (n:Int))) Q E s:=by
 obtain⟨os,hos,hcs,hds⟩:=id hs;unfold Builtin.Slice.sliceApplied Builtin.Slice.sliceFields;refine wpAny_bind (wpAny_bind (wpAny_field hos hds (x:=vl) rfl (wpAny_bind (wpAny_field hos hds (x:=vu) rfl (wpAny_bind (wpAny_field hos hds (x:=.none) rfl (wpAny_pure ?_)))))));refine wpAny_bind (slicePart_none ?_);show wpAny _ _ (if((1:Int)==0)=true then _ else _) _ _ s;rw[if_neg (by decide)];refine wpAny_bind (nH pl (wpAny_bind (nH pu (wpAny_bind (wpAny_pure ?_)))));show wpAny _ _ (match Builtin.Slice.sliceAdjust lo hi 1 (n:Int) with|(lo,hi)=>pure (lo,(1:Int),Builtin.Slice.slicePlaces lo hi 1)) _ _ s;rw[xY lo hi n];show wpAny _ _ (pure (((sIx n 0 lo:Nat):Int),(1:Int),Builtin.Slice.slicePlaces ((sIx n 0 lo:Nat):Int) ((sIx n n hi:Nat):Int) 1)) _ _ s;rw[xi];exact wpAny_pure h
def BW(xs:Array Value)(i k:Nat):((List.range k).filterMap λ(m:Nat)=>xs[((i:Int)+(m:Int)*1).toNat]?).toArray=((xs.toList.drop i).take k).toArray:=by
 have e:(λ(m:Nat)=>xs[((i:Int)+(m:Int)*1).toNat]?)=λm=>xs[i+m]?:=by
  funext m;have:((i:Int)+(m:Int)*1).toNat=i+m:=by omega
  rw[this]
 rw[e];have:=pick_run xs i k;rw[List.filterMap_map]at this;have e2:((λx=>xs[x]?)∘λx=>i+x)=λm=>xs[i+m]?:=rfl;rw[e2]at this;rw[this]
def getItem_tuple_cut{lo hi:Option Int}(ht:IsTup s.heap t items)(hs:s.heap.IsSliceOf sl vl vu .none)(pl:IsPart vl lo)(pu:IsPart vu hi)
  (hw:¬(sIx items.size 0 lo=0/\sIx items.size items.size hi=items.size))
  (h:Q (.ref s.heap.objs.size) { s with heap:=s.heap.push { cls:=.type "tuple",data:=.seq ((items.toList.drop (sIx items.size 0 lo)).take (sIx items.size items.size hi-sIx items.size 0 lo)).toArray } })
  (hsz:items.size<=sizeLine):wpAny (model prog w) A (getItem (.ref t) (.ref sl)) Q E s:=by
 have htake:sizeOk (.seq ((items.toList.drop (sIx items.size 0 lo)).take (sIx items.size items.size hi-sIx items.size 0 lo)).toArray):=by
  show((items.toList.drop (sIx items.size 0 lo)).take (sIx items.size items.size hi-sIx items.size 0 lo)).toArray.size<=sizeLine;rw[List.size_toArray,List.length_take,List.length_drop,Array.length_toList];omega
 have hj:sIx items.size items.size hi<=items.size:=GF _ _ (Nat.le_refl _) hi;obtain⟨os,hos,hcs,hds⟩:=id hs;have hTs:s.TypeIs (.ref sl) "slice":=⟨os,hos,hcs⟩
 unfold getItem
 try with_reducible refine wpAny_holding ?_
 first|refine wpAny_bind (wpAny_pure ?_)|skip
 refine wpAny_bind (wpAny_sequenceKey ht.typeIs (by decide) ?_);refine wpAny_bind (wpAny_callSpecial?_slot (name:=Str.ofString "__getitem__") ht.typeIs PyProof.Rows.slot_tuple_getitem
  (wpAny_call_entry PyProof.Rows.slot_tuple_getitem ht.typeIs entry_tuple_getitem ?_ (args_tuple_getitem _ _)))
 show wpAny _ _ (Builtin.Tuple.tupleItemsOf (.ref t) >>= _) _ _ s;refine wpAny_bind (tupleItemsOf_ ht ?_);refine wpAny_bind (wpAny_typeOf hTs ?_);rw[if_pos (by decide)];refine wpAny_bind (lL hs pl pu ?_);have hno:¬((((sIx items.size 0 lo:Nat):Int)==0&&(1:Int)==1&&(sIx items.size items.size hi-sIx items.size 0 lo)==items.size)=true):=by
  intro q;rw[Bool.and_eq_true,Bool.and_eq_true]at q;have q1:((sIx items.size 0 lo:Nat):Int)=0:=eq_of_beq q.1.1;have q2:sIx items.size items.size hi-sIx items.size 0 lo=items.size:=eq_of_beq q.2;exact hw ⟨by omega,by omega⟩
 show wpAny _ _ (if(((sIx items.size 0 lo:Nat):Int)==0&&(1:Int)==1&&(sIx items.size items.size hi-sIx items.size 0 lo)==items.size)=true then _ else _) _ _ s;rw[if_neg hno,BW]
 first
  |exact wpAny_bind (m:=Builtin.Tuple.tupleExact _) (wpAny_newObj_type (wpAny_pure ⟨_,rfl,wpAny_pure h⟩) htake)
  |exact wpAny_bind (m:=Builtin.Tuple.tupleExact _) (wpAny_newObj_type (wpAny_bind (wpAny_pure (wpAny_pure ⟨_,rfl,wpAny_pure h⟩))) htake)
  |exact wpAny_bind (wpAny_bind (m:=Builtin.Tuple.tupleExact _) (wpAny_newObj_type (wpAny_pure (wpAny_pure ⟨_,rfl,wpAny_pure h⟩)) htake))
  |exact wpAny_bind (wpAny_bind (m:=Builtin.Tuple.tupleExact _) (wpAny_newObj_type (wpAny_pure ⟨_,rfl,wpAny_pure h⟩) htake))
end
end HT
namespace L2
open PySem PySem.Spec PyProof.Rows
abbrev TO:=St->Hp->(Option Int->Hp->Prop)->Prop
def PO(X:Cx)(e:Option Expr)(t:TO):Prop :=
 ∀(pins:List (Addr×Obj)) (s:Shared) (σ:St) (H:Hp) (Q:Option Int->Hp->Prop),Inv X pins σ H s->t σ H Q ->
  wpAny (model X.prog X.w) X.A (evalPart e X.env) (λu s'=>∃o H',Inv X pins σ H' s'/\IsPart u o/\Q o H') X.xe s
def D9:TO:=λ_ H Q=>Q none H
def IP(t:TE):TO:=λσ H Q=>t σ H λx H1=>∃i,x=.int i/\Q (some i) H1
section
variable {X:Cx}{e:Expr}{te:TE}{lo hi:Option Expr}{tl th:TO}{pos p2:Pos}
def Et:PO X none D9:=by
 intro pins s σ H Q I h;rw[evalPart_none];exact wpAny_pure ⟨none,H,I,.none,h⟩
def Es(h:PE X e te):PO X (some e) (IP te):=by
 intro pins s σ H Q I hw;rw[evalPart_some];refine cu (h pins s σ H _ I hw) λu s1 ⟨x,H1,I1,r1,q1⟩=>?_;obtain⟨i,rfl,q⟩:=q1;obtain⟨t,rfl⟩:=r1;exact⟨some i,H1,I1,.int i t,q⟩
noncomputable def DH(X:Cx) (r:V->Option Int->Option Int->Hp->VK->Prop):Prop :=
 ∀(pins:List (Addr×Obj)) (s:Shared) (σ:St) (H:Hp) (x:V) (v vl vu:Value) (lo hi:Option Int) (sl:Addr) (Q:VK),Inv X pins σ H s->bb x v->s.heap.IsSliceOf sl vl vu .none->IsPart vl lo->IsPart vu hi->r x lo hi H Q ->
  ∃T id,typeLookup (.type T) "__getitem__"=pure (some (.builtin id))/\s.TypeIs v T/\wpAny (model X.prog X.w) X.A (getItem v (.ref sl)) (EP X pins σ Q) X.xe s
def DH.or(h:DH X r)(h':DH X r'):DH X (λx lo hi H Q=>r x lo hi H Q∨r' x lo hi H Q):=by
 intro pins s σ H x v vl vu lo hi sl Q I rx hs pl pu q;rcases q with q|q
 .exact h pins s σ H x v vl vu lo hi sl Q I rx hs pl pu q
 .exact h' pins s σ H x v vl vu lo hi sl Q I rx hs pl pu q
def LR(r:V->Option Int->Option Int->Hp->VK->Prop)(te:TE)(tl th:TO):TE:=λσ H Q=>te σ H λx H1=>tl σ H1 λl H2=>th σ H2 λu H3=>r x l u H3 Q
def uR(hr:DH X r)(he:PE X e te)(hl:PO X lo tl)(hu:PO X hi th):PE X (.Subscript e (.Slice lo hi none p2) pos) (LR r te tl th):=by
 intro pins s σ H Q I h;refine Subscript_ (cu (he pins s σ H _ I h) λv s1 ⟨x,H1,I1,r1,q1⟩=>?_);refine wpAny_Slice (cu (hl pins s1 σ H1 _ I1 q1) λvl s2 ⟨l,H2,I2,pl,q2⟩=>cu (hu pins s2 σ H2 _ I2 q2) λvu s3 ⟨u,H3,I3,pu,q3⟩=>?_);rw[evalPart_none];refine wpAny_pure ?_;have I4:Inv X pins σ H3 { s3 with heap:=s3.heap.push { cls:=.type "slice",data:=.fields #[vl,vu,.none] } }:=I3.kept (t':=s3.toks) λb ob q=>Heap.get?_push_of_some _ q;obtain⟨T,id,hT,ht,hg⟩:=hr pins { s3 with heap:=s3.heap.push { cls:=.type "slice",data:=.fields #[vl,vu,.none] } } σ H3 x v vl vu l u s3.heap.objs.size Q I4 r1 (Heap.IsSliceOf.new ..) pl pu q3;show wpAny (model X.prog X.w) X.A (subscriptTail e (.Slice lo hi none p2) v (.ref s3.heap.objs.size)) (EP X pins σ Q) X.xe { s3 with heap:=s3.heap.push { cls:=.type "slice",data:=.fields #[vl,vu,.none] } };exact tail_any (ops:=[.ref s3.heap.objs.size,v]) ht hT hg (by with_unfolding_all rfl)
def wt(xs:ad)(lo hi:Option Int):ad:=(xs.drop (HT.sIx xs.length 0 lo)).take (HT.sIx xs.length xs.length hi-HT.sIx xs.length 0 lo)
def mC(xs:ad)(lo hi:Option Int):(wt xs lo hi).length<=xs.length:=by
 unfold wt;rw[List.length_take,List.length_drop];omega
def Lh(K:W.Frag):V->Option Int->Option Int->Hp->VK->Prop:=λx lo hi H Q=>∃a xs,x=.ref a/\i4 K H a xs /\
 ¬(HT.sIx xs.length 0 lo=0/\HT.sIx xs.length xs.length hi=xs.length)/\∀p,H p=none->Q (.ref p) (upd H p (.tup (wt xs lo hi)))
def Gx:DH X (Lh X.K):=by
 intro pins s σ H x v vl vu lo hi sl Q I rx hs pl pu h;obtain⟨a,xs,rfl,hx,hw,q⟩:=h;cases rx;obtain⟨its,r,ht,hz⟩:=I.tuple hx;have hlen:its.toArray.size=xs.length:=by rw[List.size_toArray];exact r.length.symm
 refine⟨"tuple",_,PyProof.Rows.slot_tuple_getitem.lookup,ht.typeIs,?_⟩;refine HT.getItem_tuple_cut ht hs pl pu (by rw[hlen];exact hw) ?_ (by rw[hlen];exact hz);rw[hlen];refine⟨.ref s.heap.objs.size,_,I.laid (t':=s.toks) (o:=.tup (wt xs lo hi)) (λb ob q=>Heap.get?_push_of_some _ q) (Nat.le_refl _) ?_,rfl,q _ (I.hok.fresh (Nat.le_refl _))⟩;exact⟨Nat.le_trans (mC xs lo hi) hz,_,(r.drop (HT.sIx xs.length 0 lo)).take (HT.sIx xs.length xs.length hi-HT.sIx xs.length 0 lo),IsTup.new _ _⟩
def Jq(K:W.Frag):R2:=λx y H Q=>∃a b xs ys,x=.ref a/\y=.ref b/\i4 K H a xs/\i4 K H b ys/\xs≠[]/\xs.length+ys.length<=sizeLine /\
 (ys=[]->Q (.ref a) H)/\(ys≠[]->∀p,H p=none->Q (.ref p) (upd H p (.tup (xs++ys))))
def ba.nil_iff(r:ba xs us):us=[]↔xs=[]:=by
 cases r with|nil|cons _ _=>simp
def yJ:dW X (binaryOp .Add) (Jq X.K):=by
 intro pins s σ H x y v u Q I rx ry h;obtain⟨a,b,xs,ys,rfl,rfl,ha,hb,hx,hz,q1,q2⟩:=h;cases rx;cases ry;obtain⟨its,r1,p1,_⟩:=I.tuple ha;obtain⟨its2,r2,p2,_⟩:=I.tuple hb;refine HT.cat_tup p1 p2 (λz=>hx (r1.nil_iff.mp z)) (λz=>⟨.ref a,H,I,rfl,q1 (r2.nil_iff.mp z)⟩) (λz=>?_) (by rw[←r1.length,←r2.length];exact hz);refine⟨.ref s.heap.objs.size,_,I.laid (t':=s.toks) (o:=.tup (xs++ys)) (λb ob q=>Heap.get?_push_of_some _ q) (Nat.le_refl _) ?_,rfl,q2 (λw=>z (r2.nil_iff.mpr w)) _ (I.hok.fresh (Nat.le_refl _))⟩;exact⟨by rw[List.length_append];exact hz,_,r1.append r2,IsTup.new _ _⟩
end
def vt(n:Nat)(i:Int):Option Nat:=if 0<=i then(if i<n then some i.toNat else none) else if -(n:Int)<=i then some (i+n).toNat else none
def atI{α:Type}(xs:List α)(i:Int):Option α:=(vt xs.length i).bind λj=>xs[j]?
def tN(h:vt n i=some j):seqIndex? i n=some j/\j<n/\-(n:Int)<=i/\i<n:=by
 unfold vt at h
 by_cases h0:0<=i
 .rw[if_pos h0]at h
  by_cases h1:i<n
  .rw[if_pos h1]at h
   have e:i.toNat=j:=Option.some.inj h;exact⟨by rw[seqIndex_of h0 h1,e],by omega,by omega,h1⟩
  .rw[if_neg h1]at h;cases h
 .rw[if_neg h0]at h
  by_cases h1:-(n:Int)<=i
  .rw[if_pos h1]at h
   have e:(i+n).toNat=j:=Option.some.inj h;exact⟨by rw[seqIndex_neg (by omega) h1,e],by omega,h1,by omega⟩
  .rw[if_neg h1]at h;cases h
def uq{v:α}(h:atI xs i=some v):∃j,seqIndex? i xs.length=some j/\xs[j]?=some v/\j<xs.length/\-(xs.length:Int)<=i/\i<xs.length:=by
 unfold atI at h;cases e:vt xs.length i with
 |none=>rw[e]at h;cases h
 |some j=>
  rw[e]at h;obtain⟨h1,h2,h3,h4⟩:=tN e;exact⟨j,h1,h,h2,h3,h4⟩
def dS{j:Nat}{v:α}(h:xs[j]?=some v):atI xs (j:Int)=some v:=by
 have hj:j<xs.length:=(List.getElem?_eq_some_iff.mp h).1;have e:vt xs.length (j:Int)=some j:=by
  unfold vt;rw[if_pos (by omega),if_pos (by omega)];simp
 unfold atI;rw[e];exact h
def gM(b:Expr):Prop:=∀o i,subscripted b false o i=operate [o,i] (getItem o i)
noncomputable def Dv(X:Cx) (r:R2):Prop :=
 ∀(value slice:Expr) (pins:List (Addr×Obj)) (s:Shared) (σ:St) (H:Hp) (x y:V) (v u:Value) (Q:VK),Inv X pins σ H s->bb x v->bb y u->r x y H Q ->
  subscripted slice false v u=operate [v,u] (getItem v u)->wpAny (model X.prog X.w) X.A (subscriptTail value slice v u) (EP X pins σ Q) X.xe s
noncomputable def Me(X:Cx) (id:String) (r:V->ad->Hp->VK->Prop):Prop :=
 ∀(pins:List (Addr×Obj)) (s:Shared) (σ:St) (H:Hp) (x:V) (xs:ad) (v:Value) (us:List Value) (Q:VK),Inv X pins σ H s->bb x v->ba xs us->r x xs H Q ->
  wpAny (model X.prog X.w) X.A (call (.builtin id) (v::us)) (EP X pins σ Q) X.xe s
section
variable {X:Cx}{a b:Expr}{ta tb:TE}{pos:Pos}
def Dv.or(h:Dv X r)(h':Dv X r'):Dv X (λx y H Q=>r x y H Q∨r' x y H Q):=by
 intro value slice pins s σ H x y v u Q I rx ry q hs;rcases q with q|q
 .exact h value slice pins s σ H x y v u Q I rx ry q hs
 .exact h' value slice pins s σ H x y v u Q I rx ry q hs
def yD(hr:Dv X r)(ha:PE X a ta)(hb:PE X b tb)(hs:gM b):PE X (.Subscript a b pos) (Iy r ta tb):=by
 intro pins s σ H Q I h;exact Subscript_ (Ib ha hb I h λv u s2 x y H2 I2 rx ry q=>hr a b pins s2 σ H2 x y v u Q I2 rx ry q (hs _ _))
def Jm(K:W.Frag):R2:=λx y H Q=>∃p xs i v,x=.ref p/\y=.int i/\d9 K H p xs/\atI xs i=some v/\Q v H
def Jk(K:W.Frag):R2:=λx y H Q=>∃p xs i v,x=.ref p/\y=.int i/\i4 K H p xs/\atI xs i=some v/\Q v H
def Jl:R2:=λx y H Q=>∃z i c,x=.str z/\y=.int i/\z.length<=sizeLine/\atI z.cps.toList i=some c/\Q (.str ⟨#[c]⟩) H
def EY:Dv X (Jm X.K):=by
 intro value slice pins s σ H x y v u Q I rx ry h hs;obtain⟨p,xs,i,z,rfl,rfl,hq,he,q⟩:=h;cases rx;obtain⟨t,rfl⟩:=ry;obtain⟨its,r,pl,hz⟩:=I.list hq;obtain⟨j,h1,h2,h3,h4,h5⟩:=uq he;obtain⟨w,ew,rw'⟩:=r.get h2;have hl:=r.length;have hn:=oe;have fin:EP X pins σ Q w s:=⟨z,H,I,rw',q⟩
 by_cases h0:0<=i
 .have hj:i.toNat=j:=by
   rw[seqIndex_of h0 h5]at h1;exact Option.some.inj h1
  exact item_listR pl.isList h0 (by omega) (by rw[hj];simpa using ew) fin hs
 .have hj:(i+(its.toArray.size:Int)).toNat=j:=by
   rw[seqIndex_neg (by omega) h4]at h1;rw[List.size_toArray,←hl];exact Option.some.inj h1
  exact subscriptTail_builtinR (x:=w) pl.isList.typeIs slot_list_getitem.lookup
   (wpAny_getItem_list_neg (Q:=λr s'=>r=w/\EP X pins σ Q r s') pl.isList (by omega) (by rw[List.size_toArray]<;>omega) (by omega) (by rw[hj];simpa using ew) ⟨rfl,fin⟩) hs
def xD:Dv X (Jk X.K):=by
 intro value slice pins s σ H x y v u Q I rx ry h hs;obtain⟨p,xs,i,z,rfl,rfl,hq,he,q⟩:=h;cases rx;obtain⟨t,rfl⟩:=ry;obtain⟨its,r,pl,hz⟩:=I.tuple hq;obtain⟨j,h1,h2,h3,h4,h5⟩:=uq he;obtain⟨w,ew,rw'⟩:=r.get h2;have hl:=r.length;have hn:=oe;have fin:EP X pins σ Q w s:=⟨z,H,I,rw',q⟩
 exact subscriptTail_builtinR (x:=w) pl.typeIs slot_tuple_getitem.lookup
  (getItem_tuple (j:=j) (Q:=λr s'=>r=w/\EP X pins σ Q r s') pl (by omega) (by omega) (by rw[List.size_toArray,←hl];exact h1) (by simpa using ew) ⟨rfl,fin⟩) hs
def Hs:Dv X Jl:=by
 intro value slice pins s σ H x y v u Q I rx ry h hs;obtain⟨z,i,c,rfl,rfl,hz,he,q⟩:=h;obtain⟨t,rfl⟩:=rx;obtain⟨t',rfl⟩:=ry;obtain⟨j,h1,h2,h3,h4,h5⟩:=uq he;have hl:z.cps.toList.length=z.length:=by simp[Str.length]
 rw[hl]at h1 h4 h5;have hn:=oe;exact tail_any (typeIs_str s z t) slot_str_getitem.lookup (getItem_str (c:=c) (by
  have e1:decide (i < -(2 ^ 63:Int))=false:=decide_eq_false (by omega);have e2:decide (i≥2 ^ 63)=false:=decide_eq_false (by omega);rw[e1,e2,Bool.or_false]) (by rw[h1];simpa using h2) ⟨.str ⟨#[c]⟩,H,I.tok _,⟨_,rfl⟩,q⟩) hs
def LW(K:W.Frag):R2:=λx y H Q=>Jm K x y H Q∨Jk K x y H Q∨Jl x y H Q
def Cz:Dv X (LW X.K):=EY.or (xD.or Hs)
def xw(its:List Value)(n j:Nat)(u:Value):Obj.mapSeq (·.setIfInBounds j u) { cls:=.type "list",data:=.seq its.toArray n }={ cls:=.type "list",data:=.seq (its.set j u).toArray n }:=by
 simp[Obj.mapSeq]
def Inv.lst(I:Inv X pins σ H s)(h:H p=some (.lst xs)) :
  ∃(its:List Value) (n:Nat),ba xs its/\s.heap.get? p=some { cls:=.type "list",data:=.seq its.toArray n }/\xs.length<=sizeLine:=by
 obtain⟨z,its,n,r,e⟩:=I.hok p _ h;exact⟨its,n,r,e,z⟩
def Inv.lstUpd{its its':List Value}(I:Inv X pins σ H s)(h:H p=some (.lst xs))
  (ho:s.heap.get? p=some { cls:=.type "list",data:=.seq its.toArray n })(hf:f { cls:=.type "list",data:=.seq its.toArray n }={ cls:=.type "list",data:=.seq its'.toArray n' })(r:ba ys its')(hz:ys.length<=sizeLine)(t:Nat) :
  Inv X pins σ (upd H p (.lst ys)) { s with heap:=s.heap.update p f,toks:=t }:=by
 have e:(s.heap.update p f).get? p=some { cls:=.type "list",data:=.seq its'.toArray n' }:=by
  rw[Heap.get?_update_self f ho (by rw[hf]<;>rfl),hf]
 refine I.write (x:=p) (e:=p) (by rw[h];trivial) (.inl rfl) (λb u hb q=>(Heap.get?_update_other _ _ (Ne.symm hb)).trans q) ⟨_,e⟩ ?_;exact⟨hz,its',n',r,e⟩
def FH:V->V->V->Hp->(Hp->Prop)->Prop:=λo i v H Q=>∃p xs k j,o=.ref p/\i=.int k/\H p=some (.lst xs)/\vt xs.length k=some j/\Q (upd H p (.lst (xs.set j v)))
def uG:Kk X FH:=by
 intro pins s σ H o i v ov iv u Q I ro ri rv h;obtain⟨p,xs,k,j,rfl,rfl,hp,hj,q⟩:=h;cases ro;obtain⟨t,rfl⟩:=ri;obtain⟨its,n,r,ho,hz⟩:=I.lst hp;obtain⟨h1,h2,h3,h4⟩:=tN hj;have hl:=r.length;have hn:=oe;have I':Inv X pins σ (upd H p (.lst (xs.set j v))) { s with heap:=s.heap.update p (Obj.mapSeq (·.setIfInBounds j u)) } :=
  I.lstUpd hp ho (xw its n j u) (r.set rv j) (by rw[List.length_set];exact hz) s.toks
 by_cases h0:0<=k
 .have hk:k.toNat=j:=by
   rw[seqIndex_of h0 h4]at h1;exact Option.some.inj h1
  exact W.ki_setAt ho h0 (by omega) (by rw[List.size_toArray,←hl];exact h4) (by rw[hk];exact⟨_,I',q⟩)
 .have hk:(k+(its.toArray.size:Int)).toNat=j:=by
   rw[seqIndex_neg (by omega) h3]at h1;rw[List.size_toArray,←hl];exact Option.some.inj h1
  exact W.ki_setBack ho (by omega) (by rw[List.size_toArray,←hl];exact h3) (by omega) (by rw[hk];exact⟨_,I',q⟩)
def sV(lo hi:Option Int)(n:Nat):(sliceBounds lo hi none n).1=((HT.sIx n 0 lo:Nat):Int)/\(sliceBounds lo hi none n).2.1=((HT.sIx n n hi:Nat):Int)/\(sliceBounds lo hi none n).2.2=1:=by
 refine⟨?_,?_,rfl⟩
 .cases lo with
  |none=>simp[sliceBounds,HT.sIx]
  |some i=>
   simp only[sliceBounds,HT.sIx,Option.getD_none,show(1:Int) > 0 by decide,if_true]
   by_cases h:i<0
   .simp only[h,if_true]<;>omega
   .simp only[h,if_false]<;>omega
 .cases hi with
  |none=>simp[sliceBounds,HT.sIx]
  |some i=>
   simp only[sliceBounds,HT.sIx,Option.getD_none,show(1:Int) > 0 by decide,if_true]
   by_cases h:i<0
   .simp only[h,if_true]<;>omega
   .simp only[h,if_false]<;>omega
def qF(its:List Value)(lo hi:Option Int):slicePick its.toArray lo hi none=((its.drop (HT.sIx its.length 0 lo)).take (HT.sIx its.length its.length hi-HT.sIx its.length 0 lo)).toArray:=by
 obtain⟨h1,h2,h3⟩:=sV lo hi its.toArray.size;unfold slicePick;rw[h1,h2,h3];simp only[sliceRange_one,pick_run,List.size_toArray]<;>rfl
def Lj(K:W.Frag):V->Option Int->Option Int->Hp->VK->Prop:=λx lo hi H Q=>∃a xs,x=.ref a/\d9 K H a xs/\∀p,H p=none->Q (.ref p) (upd H p (.lst (wt xs lo hi)))
def yn:DH X (Lj X.K):=by
 intro pins s σ H x v vl vu lo hi sl Q I rx hs pl pu h;obtain⟨a,xs,rfl,hx,q⟩:=h;cases rx;obtain⟨its,r,ht,hz⟩:=I.list hx;have hlen:=r.length;refine⟨"list",_,slot_list_getitem.lookup,ht.isList.typeIs,?_⟩;refine wpAny_getItem_list_slice ht.isList hs pl pu .none (by simp) ?_ (by rw[List.size_toArray]<;>omega);rw[qF,←hlen];refine⟨.ref s.heap.objs.size,_,I.laid (t':=s.toks) (o:=.lst (wt xs lo hi)) (λb ob q=>Heap.get?_push_of_some _ q) (Nat.le_refl _) ?_,rfl,q _ (I.hok.fresh (Nat.le_refl _))⟩;exact⟨Nat.le_trans (mC xs lo hi) hz,_,0,(r.drop (HT.sIx xs.length 0 lo)).take (HT.sIx xs.length xs.length hi-HT.sIx xs.length 0 lo),Heap.get?_push_size _ rfl⟩
def tm:dW X (compareOp .NotIn) (λx y H Q=>∃i j,x=.str i/\y=.str j/\Q (.bl (!(!(Builtin.Str.occurrences j i 0 j.length 1).isEmpty))) H):=by
 intro pins s σ H x y v u Q I rx ry h;obtain⟨i,j,rfl,rfl,q⟩:=h;obtain⟨t,rfl⟩:=rx;obtain⟨t',rfl⟩:=ry;exact notIn_str ⟨.bl _,H,I,rfl,q⟩
noncomputable def LP(K:W.Frag) (T:String) (x:V) (H:Hp):Prop:=match x with
 |.str _=>T="str"
 |.int _=>T="int"
 |.ref p=>(T="list"/\∃xs,d9 K H p xs)∨(T="tuple"/\∃o,K.lookup p=some o/\o.cls=.type "tuple"/\o.dict=none) ∨
   (T="dict"/\((∃kvs,H p=some (.dK kvs))∨∃kvs,H p=some (.dT kvs)))∨(T="set"/\∃S n,H p=some (.set S n))
 |_=>False
def Gm(I:Inv X pins σ H s)(r:bb x v)(ty:LP X.K T x H) :
  s.TypeIs v T/\∀a,v=.ref a->∃ob,s.heap.get? a=some ob/\ob.dict=none:=by
 cases x with
 |str z=>
  obtain⟨t,rfl⟩:=r;cases (show T="str" from ty);exact⟨typeIs_str s z t,λ_ e=>nomatch e⟩
 |int i=>
  obtain⟨t,rfl⟩:=r;cases (show T="int" from ty);exact⟨typeIs_int s i t,λ_ e=>nomatch e⟩
 |ref p=>
  cases r;rcases ty with⟨rfl,xs,hq⟩|⟨rfl,o,hk,hc,hd⟩|⟨rfl,hk⟩|⟨rfl,S,n,hk⟩
  .obtain⟨its,_,pl,_⟩:=I.list hq
   refine⟨pl.isList.typeIs,λa e=>?_⟩;cases e;obtain⟨o,n,e,c,hd,_⟩:=pl;exact⟨o,e,hd⟩
  .refine⟨⟨o,I.kIn p o hk,hc⟩,λa e=>?_⟩
   cases e;exact⟨o,I.kIn _ o hk,hd⟩
  .have z:∃o,s.heap.get? p=some o/\o.ExactDict:=by
    rcases hk with⟨kvs,hk⟩|⟨kvs,hk⟩
    .obtain⟨_,_,_,_,o,_,_,e,ex,_⟩:=I.hok p _ hk
     exact⟨o,e,ex⟩
    .obtain⟨_,_,_,_,o,_,_,e,ex,_⟩:=I.hok p _ hk
     exact⟨o,e,ex⟩
   obtain⟨o,e,ex⟩:=z;refine⟨⟨o,e,ex.1⟩,λa e2=>?_⟩;cases e2;exact⟨o,e,ex.2.1⟩
  .obtain⟨o,_,_,_,e,ex,_⟩:=I.hok p _ hk
   refine⟨⟨o,e,ex.1⟩,λa e2=>?_⟩;cases e2;exact⟨o,e,ex.2.1⟩
 |_=>exact False.elim ty
def Mw(K:W.Frag)(T:String)(r:V->ad->Hp->VK->Prop)(to:TE)(t:TA):TE:=λσ H Q=>to σ H λx H1=>LP K T x H1/\t σ H1 λxs H2=>r x xs H2 Q
variable {o e:Expr}{es:List Expr}{to:TE}{t:TA}{name:Str}{apos cpos:Pos}{T id:String}{r:V->ad->Hp->VK->Prop}
def uT(pa:PlainAttrs T)(slot:Slot T name id)(hty:typeOf (.builtin id)=pure (.type "method_descriptor"))(hm:Me X id r)(ho:PE X o to)(ha:PA X (e::es) t)
  (hbase:attributeBase o name X.env (eval o X.env)=eval o X.env:=by rfl)
  (hfew:((backTo cpos (starEach (e::es) X.env)).all (λx=>!x.1)&&(backToKw cpos (keywordEach [] X.env)).all (λx=>x.1.isSome)
  &&decide ((e::es).length+([]:List Keyword).length+(if([]:List Keyword).isEmpty then 0 else 1)<30))=true:=by rfl)
  (hline:(apos.endLine==cpos.line)=true:=by rfl) (hs:starEach (e::es) X.env=(false,eval e X.env)::starEach es X.env:=by rfl) (hplain:(backTo cpos (starEach es X.env)).any (·.1)=false:=by rfl) :
  PE X (.Call (.Attribute o name apos) (e::es) [] cpos) (Mw X.K T r to t):=by
 intro pins s σ H Q I h;refine wpAny_Call_method_late hbase hfew hline rfl (cu (ho pins s σ H _ I h) λv s1 ⟨x,H1,I1,r1,ty,q1⟩=>?_);obtain⟨h1,h2⟩:=Gm I1 r1 ty;refine⟨T,id,pa,slot,hty,h1,h2,?_⟩;have hA:=ha cpos pins s1 σ H1 _ I1 q1;rw[hs]at hA ⊢;refine Calls.callWith_builtin (by show(false||(backTo cpos (starEach es X.env)).any (·.1))=false;rw[hplain]<;>rfl) (Calls.evalArgs_plain ?_);exact cu hA λus s2 ⟨vs,H2,I2,r2,q2⟩=>hm pins s2 σ H2 x vs v us Q I2 r1 r2 q2
end
noncomputable def Mf(X:Cx) (id:String) (r:V->ad->Hp->VK->Prop):Prop :=
 ∀(pins:List (Addr×Obj)) (s:Shared) (σ:St) (H:Hp) (x:V) (xs:ad) (v:Value) (us:List Value) (Q:VK),Inv X pins σ H s->bb x v->ba xs us->r x xs H Q ->
  wpAny (model X.prog X.w) X.A (call (.builtin id) (v::us)) (EP X pins σ Q) X.xe s
theorem ba.one:∀{x:V}{us:List Value},ba [x] us->∃u,us=[u]/\bb x u
 |_,_,.cons r .nil=>⟨_,rfl,r⟩
theorem ba.eraseIdx:∀{xs:ad}{us:List Value}(i:Nat),ba xs us->ba (xs.eraseIdx i) (us.eraseIdx i)
 |_,_,_,.nil=>.nil
 |_,_,0,.cons _ t=>t
 |_,_,i+1,.cons r t=>.cons r (ba.eraseIdx i t)
theorem ba.rep(h:ba xs us):∀k:Nat,ba (List.replicate k xs).flatten (List.replicate k us).flatten
 |0=>.nil
 |k+1=>by
  rw[List.replicate_succ,List.replicate_succ,List.flatten_cons,List.flatten_cons];exact ba.append h (ba.rep h k)
theorem rq{α:Type}:∀(l:List α) (i:Nat),(l.eraseIdx i).length<=l.length
 |[],_=>Nat.le_refl _
 |_::_,0=>Nat.le_succ _
 |_::r,i+1=>Nat.succ_le_succ (rq r i)
theorem rG(its:List Value):∀(k:Nat) (acc:List Value),
  List.foldl (λx1 x2=>x1++x2) acc.toArray (List.replicate k its.toArray)=(acc++(List.replicate k its).flatten).toArray
 |0,acc=>by simp
 |k+1,acc=>by
  have e:acc.toArray++its.toArray=(acc++its).toArray:=by simp
  have e2:(acc++its)++(List.replicate k its).flatten=acc++(List.replicate (k+1) its).flatten:=by
   rw[List.replicate_succ,List.flatten_cons,List.append_assoc]
  rw[←e2,←rG its k (acc++its),←e,List.replicate_succ,List.foldl_cons]
section
variable {X:Cx}{pins:List (Addr×Obj)}{σ:St}{H:Hp}{s:Shared}{l b:Addr}{xs ys zs:ad}
def Inv.lset{its its':List Value}(I:Inv X pins σ H s)(hH:H l=some (.lst xs))
  (e:s.heap.get? l=some { cls:=.type "list",data:=.seq its.toArray n })(hf:f its.toArray=its'.toArray)(hv:ba ys its')(hz:ys.length<=sizeLine) :
  Inv X pins σ (upd H l (.lst ys)) { s with heap:=s.heap.update l (Obj.mapSeq f),toks:=t' }:=by
 have q:=PySem.IsL.update e f;rw[hf]at q;refine I.write (x:=l) (e:=l) (by rw[hH];exact trivial) (.inl rfl) (λb' u hb hu=>(Heap.get?_update_other s.heap (Obj.mapSeq f) (Ne.symm hb)).trans hu) ⟨_,q⟩ ?_;exact⟨hz,its',_,hv,q⟩
def Inv.lnew(I:Inv X pins σ H s)(hv:ba ys its)(hz:ys.length<=sizeLine) :
  Inv X pins σ (upd H s.heap.objs.size (.lst ys)) { s with heap:=s.heap.push { cls:=.type "list",data:=.seq its.toArray },toks:=t' } :=
 I.laid (λ_ _ q=>Heap.get?_push_of_some _ q) (Nat.le_refl _) ⟨hz,its,0,hv,Heap.get?_push_size _ rfl⟩
def Inv.fresh(I:Inv X pins σ H s):H s.heap.objs.size=none:=I.hok.fresh (Nat.le_refl _)
def Inv.lstM(I:Inv X pins σ H s)(hH:H l=some (.lst xs)):xs.length<=sizeLine/\∃(its:List Value) (n:Nat),ba xs its/\xs.length=its.length/\s.heap.get? l=some { cls:=.type "list",data:=.seq its.toArray n }:=by
 obtain⟨z,its,n,r,e⟩:=I.hok l _ hH;exact⟨z,its,n,r,r.length,e⟩
def Ce(h:n<=sizeLine):Builtin.List.listTooLong n=false:=by
 unfold Builtin.List.listTooLong;exact decide_eq_false (by omega)
end
section
variable {X:Cx}
def Ek:V->ad->Hp->VK->Prop:=λx vs H Q=>∃l xs y,x=.ref l/\vs=[y]/\H l=some (.lst xs)/\xs.length<sizeLine/\Q .non (upd H l (.lst (xs++[y])))
def iP:Mf X "list.append" Ek:=by
 intro pins s σ H x vs v us Q I rx rv h;obtain⟨l,xs,y,rfl,rfl,hH,hz,q⟩:=h;cases rx;obtain⟨u,rfl,ru⟩:=rv.one;obtain⟨z,its,n,r,hl,e⟩:=I.lstM hH;refine call_meets F.slot_list_append ⟨_,e,rfl⟩ F.entry_list_append (F.args_list_append_2 _ _) (PySem.list_append l its.toArray n u (by rw[List.size_toArray];omega)) ⟨e,?_⟩;refine⟨.non,_,I.lset (its':=its++[u]) hH e (by simp) (r.append (.cons ru .nil)) ?_,rfl,q⟩;rw[List.length_append,List.length_singleton];omega
def GP:V->ad->Hp->VK->Prop:=λx vs H Q=>∃l xs i k y,x=.ref l/\vs=[.int i]/\H l=some (.lst xs)/\-(2 ^ 63)<=i/\i<2 ^ 63/\seqIndex? i xs.length=some k/\xs[k]?=some y/\Q y (upd H l (.lst (xs.eraseIdx k)))
def Cp:Mf X "list.pop" GP:=by
 intro pins s σ H x vs v us Q I rx rv h;obtain⟨l,xs,i,k,y,rfl,rfl,hH,h1,h2,hk,hy,q⟩:=h;cases rx;obtain⟨u,rfl,ru⟩:=rv.one;obtain⟨t,rfl⟩:=ru;obtain⟨z,its,n,r,hl,e⟩:=I.lstM hH;obtain⟨w,hw,rw'⟩:=r.get hy;refine call_meets F.slot_list_pop ⟨_,e,rfl⟩ F.entry_list_pop (F.args_list_pop_2 _ _)
  (MeetsSeq.list_pop_at l its.toArray n i t k w (fitsIndex_both h1 h2) (by rw[List.size_toArray,←hl];exact hk) (by rw[←Array.getElem?_toList];exact hw) (by rw[List.size_toArray];omega)) ⟨e,?_⟩
 refine⟨y,_,I.lset (its':=its.eraseIdx k) hH e ?_ (r.eraseIdx k) ?_,rw',q⟩
 .show its.toArray.eraseIdxIfInBounds k=(its.eraseIdx k).toArray
  rw[List.eraseIdxIfInBounds_toArray]
 .have:=rq xs k
  omega
def Lk:R2:=λx y H Q=>∃l k xs,x=.ref l/\y=.int k/\H l=some (.lst xs)/\-(2 ^ 63)<=k/\k<2 ^ 63/\xs.length*k.toNat<=sizeLine /\
 ∀p,H p=none->Q (.ref p) (upd H p (.lst (List.replicate k.toNat xs).flatten))
def EV{α:Type}(xs:List α)(k:Nat):(List.replicate k xs).flatten.length=k*xs.length:=by
 induction k with|zero=>simp|succ k ih=>rw[List.replicate_succ,List.flatten_cons,List.length_append,ih,Nat.succ_mul,Nat.add_comm]
def Hd:dW X (binaryOp .Mult) Lk:=by
 intro pins s σ H x y v u Q I rx ry h;obtain⟨l,k,xs,rfl,rfl,hH,h1,h2,hz,q⟩:=h;cases rx;obtain⟨t,rfl⟩:=ry;obtain⟨z,its,n,r,hl,e⟩:=I.lstM hH;have hlen:its.toArray.size*k.toNat<=sizeLine:=by rw[List.size_toArray,←hl];exact hz
 have hcap:¬its.toArray.size*k.toNat > (2 ^ 63-1) / 8:=by
  have:(sizeLine:Nat)<=(2 ^ 63-1) / 8:=by decide
  omega
 have hfit:¬(!Builtin.List.listFitsIndex k)=true:=by
  rw[fitsIndex_both h1 h2];exact Bool.false_ne_true
 have hlong:¬Builtin.List.listTooLong (its.toArray.size*k.toNat)=true:=by
  rw[Ce hlen];exact Bool.false_ne_true
 have hnew:List.foldl (λx1 x2=>x1++x2) #[] (List.replicate (if its.toArray.isEmpty=true then 0 else k.toNat) its.toArray)=(List.replicate k.toNat its).flatten.toArray:=by
  have f0:∀m:Nat,List.foldl (λx1 x2=>x1++x2) #[] (List.replicate m its.toArray)=(List.replicate m its).flatten.toArray:=λm=>by
   have:=rG its m [];rw[List.nil_append]at this;exact this
  rw[f0];cases its with|nil=>simp|cons a r'=>rw[if_neg (by simp)]
 refine wpAny_binaryOp_repeat_ref (T:="list") (U:="int") (by decide) ⟨_,e,rfl⟩ (λs'=>typeIs_int s' k t) noFill_list_mul F.fills_int_mul F.slot_int_rmul repeat_list F.slot_int_index.lookup
  (call_meets F.slot_int_rmul (typeIs_int s k t) F.entry_int_rmul (F.args_int_rmul_2 _ _) (int___rmul___int_list k t l its.toArray n)
   ⟨e,rfl,⟨_,e,rfl⟩,call_meets F.slot_list_mul ⟨_,e,rfl⟩ F.entry_list_mul (F.args_list_mul_2 _ _) (AutoListH.list___mul___list_int_3 l its.toArray n k t hfit hcap hlong) ⟨e,?_⟩⟩)
 rw[hnew];exact⟨.ref _,_,I.lnew (t':=s.toks) (r.rep k.toNat) (by rw[EV,Nat.mul_comm];exact hz),rfl,q _ I.fresh⟩
end
end L2
namespace Att
open PySem PySem.W PySem.Calls PyProof.Rows
def mU{h:Heap}:∀(ns:List Int) (vs:List Value),WellAll P h vs (ns.map WData.int)->IntsAre vs ns:=by
 intro ns
 induction ns with
 |nil=>
  intro vs w;rw[List.map_nil]at w;cases w;exact .nil
 |cons n ns ih=>
  intro vs w;rw[List.map_cons]at w;cases w with
  |cons a b=>
   cases a;exact .cons _ _ (ih _ b)
def Aj{l:OpenLaw}(hn:l.most=some n){h:Heap} 
  (hpre:l.row.toRowW.claim.pre args=true)(hwl:WellAll P h vals args) :
  ∃a vs ns,vals=[Value.ref a]/\args=[WData.list (ns.map WData.int)]/\h.get? a=some { cls:=.type "list",data:=.seq vs.toArray }/\IntsAre vs ns/\ns.length<=n:=by
 have hsh:WShape.hasAll [] args [.list .int]=true:=(pre_splitW hpre).1;have hc:l.pre.holds [] { args:=args }=true:=(pre_splitW hpre).2;obtain⟨d,r,rfl,h1,h2⟩:=hasAllW_cons hsh;obtain rfl:=hasAllW_nil h2;obtain⟨xs,rfl,h3⟩:=hasW_list h1;obtain⟨ns,rfl⟩:=items_int h3;have hlen:ns.length<=n:=by
  unfold OpenLaw.pre at hc;have h4:(WTm.not (.lt (.lit (.int (n:Int))) (.len (.arg 0)))).holds [] { args:=[.list (ns.map .int)] }=true:=by
   have h4:=(holds_andW hc).1;rw[hn]at h4;exact h4
  have h5:=condW_of h4 (w_not (w_lt w_lit (w_len_list (w_arg rfl))));rw[List.length_map]at h5;refine Nat.le_of_not_lt λq=>?_;have q':(n:Int)<((ns.length:Nat):Int):=by omega
  first
   |(rw[decide_eq_true q']at h5;exact absurd h5 (by decide))
   |(simp at h5;omega)
 cases hwl with
 |cons w1 w2=>
  cases w2;cases w1 with|list ho hall=>exact⟨_,_,ns,rfl,rfl,ho,mU ns _ hall,hlen⟩
def An(l:OpenLaw)(args:List WData):l.row.toRowW.claim.post args (.bool true) args=true :=
 postW_of (r:=l.row.toRowW) (X:=(true==true))
  (show WShape.has [] (.bool true) .bool=true by first|rfl|decide|simp[WShape.has,WShape.arms,WShape.armsAll])
  (show(WTm.eq .res (.lit (.bool true))).value [] { args:=args,res:=some (.bool true),after:=args }=some (.bool (true==true)) from w_eq_bool (w_res rfl) w_lit) rfl
def attach_call{l:OpenLaw} 
  (hn:l.most=some n)(hdf:d.params.defaults=[])
  (call:∀(w:World) (sf sg:Shared) (mg mb:Str->Option Value) (fa:Addr) (o:Obj) (pm cd doc:Value) (a:Addr) (vs:List Value) (ns:List Int),
   Ground q loose [] XP w sf mg mb sg.heap->YP w sg.heap ->
   sg.heap.get? fa=some o->o.data=.func (docDef d.name d.params d.body d.scope pm cd doc)->sg.heap.CodeRec cd d.name->mg d.name=some (.ref fa) ->
   sg.heap.get? a=some { cls:=.type "list",data:=.seq vs.toArray }->IntsAre vs ns->ns.length<=n->sg.gens=#[] ->
   codeAny (model l.prog w) callerA (.call (.ref fa) ⟨[.ref a],[]⟩) (λr s'=>r=.ok (.ret (.bool true))/\OldK sg.heap s'.heap/\s'.os=sg.os/\AllBare s'.gens) sg) :
  WalkO q loose XP YP l.row.toRowW d [] (λf vs=>PySem.call f vs):=by
 intro w sf sg mg mb G Y fa o pm cd doc dV kV ho hd hcd hD hmg hg args vals as hpre hlay hrd hwl hlo;obtain rfl:dV=.none:=Dflts.none hD hdf;obtain rfl:kV=.none:=Dflts.noKw hD;obtain⟨a,vs,ns,rfl,rfl,hobj,hints,hlen⟩:=Aj hn hpre hwl;refine enter_call (codeAny_mono (call w sf sg mg mb fa o pm cd doc a vs ns G Y ho (fd_plain hd) hcd hmg hobj hints hlen hg) λr s' hq=>?_);obtain⟨rfl,h2,h3,h4⟩:=hq;exact⟨.inl ⟨.bool true,.bool true,[],rfl,λ_=>rfl,.bool true,An l _,λ_=>⟨List.Pairwise.nil,λ_ hm=>(nomatch hm)⟩⟩,h2,h3,h4⟩
end Att
namespace L2
open PySem PySem.Spec PyProof.Rows
theorem qW:∀{vs:List Value}{ns:List Int},IntsAre vs ns->ba (ns.map V.int) vs
 |_,_,.nil=>.nil
 |_,_,.cons n t h=>.cons ⟨t,rfl⟩ (qW h)
def Fu(H:Hp):Prop:=∀b,H b=none∨∃o xs,H b=some (.frz o (.lst xs))
def Cy{K:W.Frag}{k:Nat} 
  (KX:K.In sg.heap)(hns:sg.heap.Ns mainGlobals mg)(hb:sg.heap.Ns builtinsNs mb)(hbb:∀x:Str,x≠"__name__"->mb x=bootBuiltins x)(hlim:sg.heap.NoLimit)(hsm:∃mm,sg.heap.Ns sysModules mm)(hg:sg.gens=#[])
  (ha:sg.heap.get? a=some { cls:=.type "list",data:=.seq vs.toArray })(hi:IntsAre vs ns)(hl:ns.length<=sizeLine)(hr:cB k callerA)
  (F:∀base:Heap,K.In base->base.Ns mainGlobals mg->fM P w K mg base CX k fa fd [x] sp)(hbind:∀(s:Shared) (u:Value),BindsTo s fd ⟨[u],[]⟩ [(x,u)])
  (hsp:∀H:Hp,Fu H->d9 K H a (ns.map V.int)->sp [.ref a] H (λv _=>v=.bl true) λ_ _ _=>False)
  (hCX:∀H e s',CX [] H sg (λ_ _ _=>False) e s'->False) :
  codeAny (model P w) callerA (.call (.ref fa) ⟨[.ref a],[]⟩) (λr s'=>r=.ok (.ret (.bool true))/\OldK sg.heap s'.heap/\s'.os=sg.os/\AllBare s'.gens) sg:=by
 have rv:=qW hi;have lenV:=hi.length;have core:∀H:Hp,Fu H->d9 K H a (ns.map V.int)->jF P w H sg.heap->(∀b,H b≠none->b=a)->(H a≠none->K.lookup a=none) ->
   codeAny (model P w) callerA (.call (.ref fa) ⟨[.ref a],[]⟩) (λr s'=>r=.ok (.ret (.bool true))/\OldK sg.heap s'.heap/\s'.os=sg.os/\AllBare s'.gens) sg:=by
  intro H hO hS hok hA hK;have base_of:∀{b:Addr}{o:Obj},sg.heap.get? b=some o->H b=none->(tQ sg.heap H).get? b=some o:=λe n=>CC e n;have noA:∀{b:Addr}{o:Obj}{es:Array DictEntry}{ep:Nat},sg.heap.get? b=some o->o.data=.dict es ep->H b=none:=λ{b o es ep} e d=>by
   cases q:H b with
   |none=>rfl
   |some u=>
    have e':b=a:=hA b (by rw[q];simp);subst e';rw[ha]at e;cases e;have d':Data.seq vs.toArray _=Data.dict es ep:=d;cases d'
  have nsK:∀{b:Addr}{m:Str->Option Value},sg.heap.Ns b m->(tQ sg.heap H).Ns b m:=λ{b m} ⟨o,es,ep,e,d,r⟩=>⟨o,es,ep,base_of e (noA e d),d,r⟩
  have hKb:K.In (tQ sg.heap H):=λb o e=>base_of (KX b o e) (by
   cases q:H b with
   |none=>rfl
   |some u=>
    have e':b=a:=hA b (by rw[q];simp);subst e';rw[hK (by rw[q];simp)]at e;cases e)
  have hM:Mod K mg (tQ sg.heap H):=⟨hKb,nsK hns,⟨mb,nsK hb,hbb⟩,let ⟨mc,h1,h2⟩:=hlim;⟨mc,nsK h1,h2⟩,let ⟨mm,h1⟩:=hsm;⟨mm,nsK h1⟩⟩
  have e0:Dw P w K mg (tQ sg.heap H) callerA [] sg H:=⟨rfl,hM,λb o e=>EH e,Nat.le_of_eq (AH _ _),trivial,λb hb=>absurd (show b∈([]:List Addr) from hb) (by simp),hok,.of_eq hg⟩
  refine codeAny_mono ((F _ hKb (nsK hns)).run callerA [] sg H ⟨[.ref a],[]⟩ [.ref a] [.ref a] _ _ hr e0 (hbind sg (.ref a)) (.cons rfl .nil) (hsp H hO hS)) λr s' h=>?_;cases r with
  |error e=>exact(hCX H e s' h).elim
  |ok fl=>
   cases fl with
   |next|brk|cont=>exact False.elim h
   |ret u=>
    obtain⟨v,H',os,bare,un,hok',r',q⟩:=h;have q':v=.bl true:=q;subst q';obtain rfl:u=Value.bool true:=r';refine⟨rfl,OldK.of_keep λb o e=>?_,os,bare⟩;cases q:H b with
    |none=>exact un.keep b o e q (by intro z;exact absurd (show b∈([]:List Addr) from z) (by simp)) (by simp)
    |some u=>
     rcases hO b with z|⟨ob,xs,z⟩
     .rw[q]at z;cases z
     .have z2:=un.frzs b ob _ z
      obtain⟨e1,_⟩:=hok b _ z;obtain⟨e2,_⟩:=hok' b _ z2;rw[e]at e1;cases e1;exact e2
 cases hk:K.lookup a with
 |some o=>
  have e:=KX a o hk;rw[ha]at e;cases e;refine core (λ_=>none) (λ_=>.inl rfl) (.inr ⟨_,vs.toArray,_,hk,rfl,rfl,rfl,by rw[List.size_toArray,lenV];exact hl,by simpa using rv⟩) (λb u z=>by have z':(none:Option HO)=some u:=z;cases z') (λb z=>absurd rfl z) λz=>absurd rfl z
 |none=>
  refine core (λb=>if b=a then some (.frz { cls:=.type "list",data:=.seq vs.toArray } (.lst (ns.map V.int))) else none) (λb=>?_) (.inl (.inr ⟨{ cls:=.type "list",data:=.seq vs.toArray },if_pos rfl⟩)) (λb u z=>?_) (λb z=>?_) λ_=>hk
  .by_cases hb:b=a
   .exact .inr ⟨_,_,if_pos hb⟩
   .exact .inl (if_neg hb)
  .by_cases hb:b=a
   .have z':=(if_pos hb).symm.trans z
    cases z';subst hb;exact⟨ha,by rw[List.length_map];exact hl,vs,_,rv,ha⟩
   .have z':=(if_neg hb).symm.trans z
    cases z'
  .by_cases hb:b=a
   .exact hb
   .exact absurd (if_neg hb) z
abbrev KOf{K:W.Frag}{h:Heap}(_:K.In h):W.Frag:=K
def D1{l:W.OpenLaw}{n k:Nat}{K:Params->W.Frag}{CX:World->yg}{sp:World->Sp} 
  (hi:importsNone q=true)(hn:l.most=some n)(hn2:n<=sizeLine)(hdf:d.params.defaults=[])(hr:cB k callerA)
  (hY:∀(w:World) (h:Heap),YP w h->(K w.params).In h)
  (F:∀(w:World) (mg:Str->Option Value) (fa:Addr) (h:Heap),(K w.params).In h->h.Ns mainGlobals mg->mg d.name=some (.ref fa) ->
   ∃fd:FuncData,(∀(s:Shared) (u:Value),BindsTo s fd ⟨[u],[]⟩ [(x,u)]) /\
    ∀base:Heap,(K w.params).In base->base.Ns mainGlobals mg->fM l.prog w (K w.params) mg base (CX w) k fa fd [x] (sp w))
  (hsp:∀(w:World) (H:Hp) (a:Addr) (ns:List Int),ns.length<=n->Fu H->d9 (K w.params) H a (ns.map V.int)->sp w [.ref a] H (λv _=>v=.bl true) λ_ _ _=>False)
  (hCX:∀(w:World) (H:Hp) (s:Shared) (e:Value) (s':Shared),CX w [] H s (λ_ _ _=>False) e s'->False) :
  W.WalkO q loose XP YP l.row.toRowW d [] (λf vs=>PySem.call f vs):=by
 refine Att.attach_call hn hdf λw sf sg mg mb fa o pm cd doc a vs ns G Y ho hd hcd hmg hobj hints hlen hg=>?_;have KX:=hY w _ Y;obtain⟨fd,hb,hF⟩:=F w mg fa _ KX G.T.g hmg;exact Cy KX G.T.g G.T.b G.T.builtins G.T.nolimit (let ⟨mm,h1,_⟩:=(G.T.seer hi).mods;⟨mm,h1⟩) hg hobj hints (Nat.le_trans hlen hn2) hr hF hb (λH hO hS=>hsp w H a ns hlen hO hS) λH e s'=>hCX w H sg e s'
def walk_ofK{l:W.OpenLaw}{n k:Nat}{K:Params->W.Frag}{sp:W.Frag->Sp} 
  (hi:importsNone q=true)(hn:l.most=some n)(hn2:n<=sizeLine)(hdf:d.params.defaults=[])(hr:cB k callerA)
  (hY:∀(w:World) (h:Heap),YP w h->(K w.params).In h)
  (F:∀(w:World) (mg:Str->Option Value) (fa:Addr) (h:Heap),(K w.params).In h->h.Ns mainGlobals mg->mg d.name=some (.ref fa) ->
   ∃fd:FuncData,(∀(s:Shared) (u:Value),BindsTo s fd ⟨[u],[]⟩ [(x,u)]) /\
    ∀base:Heap,(K w.params).In base->base.Ns mainGlobals mg->fM l.prog w (K w.params) mg base CX k fa fd [x] (sp (K w.params)))
  (hsp:∀(K:W.Frag) (H:Hp) (a:Addr) (ns:List Int),ns.length<=n->Fu H->d9 K H a (ns.map V.int)->sp K [.ref a] H (λv _=>v=.bl true) λ_ _ _=>False)
  (hCX:∀(H:Hp) (s:Shared) (e:Value) (s':Shared),CX [] H s (λ_ _ _=>False) e s'->False) :
  W.WalkO q loose XP YP l.row.toRowW d [] (λf vs=>PySem.call f vs) :=
 D1 (K:=K) (CX:=λ_=>CX) (sp:=λw=>sp (K w.params)) hi hn hn2 hdf hr hY F (λw H a ns h1 h2 h3=>hsp (K w.params) H a ns h1 h2 h3) λ_ H s e s'=>hCX H s e s'
def defArgs(s:Stmt):Arguments:=match s with
 |.FunctionDef _ a _ _ _ _ _ _ _ _=>a
 |_=>{ posonlyargs:=[],args:=[],vararg:=none,kwonlyargs:=[],kw_defaults:=[],kwarg:=none,defaults:=[] }
def defBody(s:Stmt):List Stmt:=match s with
 |.FunctionDef _ _ b _ _ _ _ _ _ _=>b
 |_=>[]
def defScope(s:Stmt):Scope:=match s with
 |.FunctionDef _ _ _ _ _ _ sc _ _ _=>sc
 |_=>{ kind:=.function,names:=[],isGenerator:=false,isCoroutine:=false }
abbrev CX0:yg:=λ_ _ _ _ _ _=>False
abbrev E0:XK:=λ_ _ _=>False
def uV:ee CX0 X E0:=λ_ _ _ _ _ _ _ h=>h.elim
structure DJ (K:W.Frag) (x qual:Str) (st:Stmt) (f:Addr) (fd:FuncData):Prop where
 ex:∃(oc:Value) (od:Option Addr) (kV doc pm:Value) (an:Option Addr) (cdv ct:Value) (osl:Array (Option Value)),
  fd=W.fnOf x qual (defArgs st) (defBody st) (defScope st) .none kV doc pm an cdv ct/\K.lookup f=some ⟨oc,od,.func fd,osl⟩/\W.codeIn K cdv qual=true
 kp:W.keepIn K (.ref f)=true
section
variable {P:Program}{w:World}{K:W.Frag}{mg:Str->Option Value}{base:Heap}
def DJ.ok{st:Stmt}{N ps:List Str}{k:Nat}(F:DJ K x qual st f fd)(S:eP N ps (defScope st))(len:∀vs H Q E,sp vs H Q E->vs.length=ps.length)
  (hbody:∀(cdv:Value) (A:Around) (outer:List Env) (s:Shared) (H:Hp) (vs:ad) (Q:VK) (E:XK),cB k (A.deeper (envOfC qual (defScope st) s.heap.objs.size f cdv))->sp vs H Q E ->
   ∃t,ux (ll CX0 P w K mg base N qual (defScope st) f cdv A outer s H E).nox (defBody st) t/\t { nx:=λ_ H'=>Q .non H',rt:=Q } (start N vs) H):fM P w K mg base CX0 (k+1) f fd ps sp:=by
 obtain⟨oc,od,kV,doc,pm,an,cdv,ct,osl,rfl,lk,hcd⟩:=F.ex;refine J3 lk hcd S len λA outer s H vs Q E hr hsp=>?_;obtain⟨t,h,q⟩:=hbody cdv A outer s H vs Q E hr hsp;exact⟨t,h.nox,q⟩
def DJ.binds{st:Stmt}{ps:List Str}(F:DJ K x qual st f fd)
  (h:∀(kV doc pm:Value) (an:Option Addr) (cdv ct:Value) (us:List Value),us.length=ps.length->bindArgs (W.fnOf x qual (defArgs st) (defBody st) (defScope st) .none kV doc pm an cdv ct) ⟨us,[]⟩=pure (ps.zip us)):iL K fd ps []:=by
 obtain⟨oc,od,kV,doc,pm,an,cdv,ct,osl,rfl,lk,hcd⟩:=F.ex;exact .all (h kV doc pm an cdv ct)
def CG{st:Stmt}{kV doc pm cdv ct:Value}(l:K.lookup f=some ⟨oc,od,.func (W.fnOf x qual (defArgs st) (defBody st) (defScope st) .none kV doc pm an cdv ct),osl⟩)
  (c:W.codeIn K cdv qual=true)(k:W.keepIn K (.ref f)=true):DJ K x qual st f (W.fnOf x qual (defArgs st) (defBody st) (defScope st) .none kV doc pm an cdv ct):=⟨⟨oc,od,kV,doc,pm,an,cdv,ct,osl,rfl,l,c⟩,k⟩
end
def aA(H H':Hp):Prop:=∀b o,H b=some o->H' b=some o
def aA.refl(H:Hp):aA H H:=λ_ _ h=>h
def aA.trans(a:aA H H1)(b:aA H1 H2):aA H H2:=λc o h=>b c o (a c o h)
def aA.free(e:aA H H')(h:H' l=Option.none):H l=Option.none:=by
 cases q:H l with
 |none=>rfl
 |some o=>
  rw[e l o q]at h;cases h
end L2
namespace DL
open PySem PySem.Spec PySem.Calls PySem.W PyProof.Rows Builtin Builtin.ObjectAttr Builtin.Getset_descriptor
section
variable {prog:Program}{w:World}{A:Around}{E:Value->Shared->Prop}{h:Heap}{g:Array GenState}{d:Drawn}{t:Nat}{os:OsState}{a C:Addr}{o:Obj}{K:Frag}
structure qU (K:Frag) (C:Addr):Prop where
 cls:findIn K (.ref C) "__class__"=some (some (.builtin "object.__class__"))
 ga:findIn K (.ref C) "__getattribute__"=some (some (.builtin "BaseException.__getattribute__"))
 gt:findIn K (.ref C) "__getattr__"=some none
 ob:mroIn K C (.type "object")=some true
 be:subIn K (.ref C) (.type "BaseException")=some true
def Gg(X:K.In h)(Z:qU K C)(hx:h.get? a=some o)(hc:o.cls=.ref C)(hq:R (.ok (.ret (.ref C))) ⟨h,g,d,t,os⟩) :
  codeAny (model prog w) A (.call (.builtin "getset_descriptor.__get__") ⟨[.builtin "object.__class__",.ref a,tp],[]⟩) R ⟨h,g,d,t,os⟩:=by
 have L0:Looks (model prog w) h (typeOf (.ref a)) (.ref C):=hc▸(Looks.ld hx).andThen .now;have L1:=looks_mroIn (M:=model prog w) X Z.ob;refine codeAny_call_builtin KF.slot_gs.plain KF.entry_gs (KF.slot_gs.check _ _ _ _ _ _ _ _ KF.type_class (KF.args_gs _ _ _) ?_);unfold Builtin.«getset_descriptor.__get__» descrGet;rw[dga_obj];refine wpAny_bind (wpAny_pure ?_);unfold descrGetter descrCheckInstance descrNameAndClass isInstance;simp only[KF.owner_class]
 repeat lk
 refine⟨Code.quiet_builtin _ (by decide +kernel),codeAny_builtin KF.entry_class ?_⟩;unfold Builtin.«object.__class__» shownTypeOf
 repeat lk
 exact hq
def Bc(X:K.In h)(Z:qU K C)(hx:h.get? a=some o)(hc:o.cls=.ref C)(hq:Q () ⟨h,g,d,t,os⟩):wpAny M A (checkBuiltinCall "BaseException.__getattribute__" ⟨[.ref a,nameV],[]⟩) Q E ⟨h,g,d,t,os⟩:=by
 have hk:builtinKind "BaseException.__getattribute__"=some .slot:=by decide +kernel
 have hsplit:splitId "BaseException.__getattribute__"=some ("BaseException","__getattribute__"):=by decide +kernel
 have ha:=F.args_bexc_ga (.ref a) nameV;have LS:Looks M h (isSubtype (.ref C) (.type "BaseException")) true:=looks_subIn X Z.be;simp only[checkBuiltinCall,hk,hsplit];refine wpAny_bind ?_
 .unfold isInstance
  repeat (first|(with_reducible refine wpAny_loadPart_at hx ?_;rw[hc])|(with_reducible refine LS.at ?_)|wp_step)
  exact hq
def Bb(X:K.In h)(Z:qU K C)(hx:h.get? a=some o)(hc:o.cls=.ref C)(hq:Q (.done (.ret (.ref C))) ⟨h,g,d,t,os⟩) :
  wpAny (model prog w) A (Builtin.«object.__getattribute__» ⟨[.ref a,.str "__class__" tk],[]⟩) Q E ⟨h,g,d,t,os⟩:=by
 have hT5:(⟨h,g,d,t,os⟩:Shared).TypeIs (.builtin "object.__class__") "getset_descriptor":=F.typeOf_object_class;have f5:=F.typeOf_object_class;have f6:=F.slot_gs_get.lookup;have f7:=F.slot_gs_set.lookup;have LC:Looks (model prog w) h (typeLookup (.ref C) "__class__") (some (.builtin "object.__class__")):=looks_findIn X Z.cls
 repeat (any_goals (first|assumption|(with_reducible refine wpAny_loadPart_at hx ?_;rw[hc])|(with_reducible refine LC.at ?_)|wp_step))
 refine Gg X Z hx hc ?_
 repeat (any_goals (first|assumption|wp_step))
def DU(X:K.In h)(Z:qU K C)(hx:h.get? a=some o)(hc:o.cls=.ref C)(hq:R (.ok (.ret (.ref C))) ⟨h,g,d,t,os⟩) :
  codeAny (model prog w) A (.call (.builtin "BaseException.__getattribute__") ⟨[.ref a,.str "__class__" tk],[]⟩) R ⟨h,g,d,t,os⟩ :=
 codeAny_call_builtin F.attr_ValueError.ga.plain F.entry_bexc_ga (Bc X Z hx hc (Bb X Z hx hc hq))
def IH(X:K.In h)(Z:qU K C)(hx:h.get? a=some o)(hc:o.cls=.ref C)(hq:Q (.ref C) ⟨h,g,d,t,os⟩) :
  wpAny (model prog w) A (getAttrBy (.ref a) (.str "__class__" tk) false) Q E ⟨h,g,d,t,os⟩:=by
 have f3:=F.attr_ValueError.ga.bind (.ref a);have hx2:(Value.builtin "BaseException.__getattribute__"==Value.builtin "object.__getattribute__")=false:=by decide +kernel
 have hx1:(onTheHeap (Value.ref C)&&Value.builtin "BaseException.__getattribute__"==Value.builtin "object.__getattribute__")=false:=by rw[hx2];rfl
 have L1:Looks (model prog w) h (typeLookup (.ref C) "__getattribute__") (some (.builtin "BaseException.__getattribute__")):=looks_findIn X Z.ga;have L2:Looks (model prog w) h (typeLookup (.ref C) "__getattr__") none:=looks_findIn X Z.gt
 repeat (any_goals (first|assumption|(with_reducible refine wpAny_loadPart_at hx ?_;rw[hc])|(with_reducible refine L1.at ?_)|(with_reducible refine L2.at ?_)|wp_step))
 refine DU X Z hx hc ?_
 repeat (any_goals (first|assumption|wp_step))
def DV(X:K.In h)(Z:qU K C)(hx:h.get? a=some o)(hc:o.cls=.ref C)(hq:Q (some (.ref C)) ⟨h,g,d,t+1,os⟩):wpAny (model prog w) A (getAttr? (.ref a) "__class__") Q E ⟨h,g,d,t,os⟩:=by
 unfold getAttr? getAttrBy?
 repeat (any_goals (first|assumption|with_reducible apply IH X Z hx hc|wp_step))
end
def KJ(a C:Addr)(dc:Option Addr):Heap->Prop:=λh=>∃o vs,h.get? a=some o/\o.cls=.ref C/\o.data=.fields vs/\o.dict=dc
def vq{K:Frag}{a C:Addr}{dc:Option Addr}(Z:qU K C)(hC:(clsIn K C).isSome=true):KitX K (.ref a) (.ref C) (KJ a C dc) where
 ty:=λ_ _ _ ⟨o,_,h1,h2,_⟩=>h2▸(Looks.ld h1).andThen .now
 it:=λ_ _ X _=>by
  obtain⟨cd,hcD⟩:=Option.isSome_iff_exists.mp hC;unfold clsIn at hcD;split at hcD
  .rename_i c' d' cd' sl' ho
   intro A' Q' E' s' k q;unfold isType loadHead;exact wpAny_bind (wpAny_loadPart (k _ _ (X _ _ ho)) (wpAny_pure q))
  .cases hcD
 ne:=λh tp dd its n sl X htp=>by
  obtain⟨cd,hcD⟩:=Option.isSome_iff_exists.mp hC;refine Bool.eq_false_iff.mpr λq=>?_;have e:C=tp:=Value.ref.inj (beq_iff_eq.mp q);subst e;unfold clsIn at hcD;split at hcD
  .rename_i c' d' cd' sl' ho
   have z:=(X _ _ ho).symm.trans htp;cases z
  .cases hcD
 ca:=λ{_ _ _ _ _ s} X ⟨o,_,h1,h2,_⟩ k=>by
  obtain⟨h,g,d,t,os⟩:=s;exact DV X Z h1 h2 k
def qU.isCls{K:Frag}(Z:qU K C):(clsIn K C).isSome=true:=by
 obtain⟨cd,a,b⟩:=Option.bind_eq_some_iff.mp Z.ob;rw[a];rfl
def gI:List String:=["NoneType","bool","int","str","tuple","list","dict"]
structure XC (K:Frag) (x:Str) (C:Addr):Prop where
 ns:nsIn K mainGlobals x=some (some (.ref C))
 ek:qU K C
 bt:∀T∈gI,kitOne K (.ref C) (.type T)=some false
end DL
namespace DL
open PySem PySem.Spec PyProof.Rows L2
def IA:Expr->Bool
 |.Starred _ _=>false
 |_=>true
def aN(h:IA e=true):starEach (e::es) env=(false,eval e env)::starEach es env:=by
 cases e<;>first|(rw[starEach];intros;contradiction)|rw[starEach]|(cases h)
def dF(h:IA e=true):starEach [e] env=[(false,eval e env)]:=by
 rw[aN h,starEach]
theorem bw:∀{es:List Expr},es.all IA=true->(backTo pos (starEach es env)).any (·.1)=false
 |[],_=>by rw[starEach];rfl
 |e::es,h=>by
  rw[List.all_cons,Bool.and_eq_true]at h;rw[aN h.1];have:=bw (env:=env) (pos:=pos) h.2;show(false||(backTo pos (starEach es env)).any (·.1))=false;rw[this];rfl
def e7(h:IA e=true):((backTo pos (starEach [e] env)).all (λx=>!x.1)&&(backToKw pos (keywordEach [] env)).all (λx=>x.1.isSome)
  &&decide ([e].length+([]:List Keyword).length+(if([]:List Keyword).isEmpty then 0 else 1)<30))=true:=by
 rw[dF h,keywordEach];rfl
inductive Kd where
 |ins (c:Str) (ks:List Str)|dint (ks:List Int)|exf (c:Str) (ks:List Str)
inductive D where
 |non|bl (b:Bool)|int (i:Int)|str (x:Str)|tup (xs:List D)|lst (xs:List D)|dic (ks:List Str) (xs:List D)|exc (x:Str)|ob (k:Kd) (xs:List D)
abbrev ac:=List D
structure LF (K:W.Frag) (ks:List Str) (C:Addr):Prop where
 cls:KO K C
 no:∀f∈ks,Ip K C f
 gc:W.findIn K (.ref C) "__class__"=some (some (.builtin "object.__class__"))
 gn:W.specialIn K (.builtin "object.__class__") "__get__"=some (some (.builtin "getset_descriptor.__get__"))
 tk:W.takesIn K (.builtin "object.__class__")=some true
 mo:W.mroIn K C (.type "object")=some true
 bt:∀T∈gI,W.kitOne K (.ref C) (.type T)=some false
noncomputable def Du(K:W.Frag) (H:Hp):Kd->Addr->ad->Prop
 |.ins c ks,a,vs=>∃C dx,W.nsIn K mainGlobals c=some (some (.ref C))/\LF K ks C/\H a=some (.ins C dx (ks.zip vs))/\ks.length=vs.length
 |.dint ks,a,vs=>∃kvs,Rd H a (.dK kvs)/\kvs=(ks.map Sum.inl).zip vs/\ks.length=vs.length
 |.exf c ks,a,vs=>∃C dx fs,XC K c C/\Rd H a (.ext (KJ a C (some dx)))/\H dx=some (.xd fs)/\ks.length=vs.length/\∀(i:Nat) (f:Str) (v:V),ks[i]?=some f->vs[i]?=some v->fs.lookup f=some v
structure Mk where
 cls:Str
 flds:List (Str×D)
inductive ai (α:Type) where
 |ok (a:α)|exn (x:Mk)|stuck
def ai.bind{α β:Type}(r:ai α)(f:α->ai β):ai β:=match r with
 |.ok a=>f a
 |.exn x=>.exn x
 |.stuck=>.stuck
mutual
def Rep(K:W.Frag)(H:Hp):D->V->Prop
 |.non,v=>v=.non
 |.bl b,v=>v=.bl b
 |.int i,v=>v=.int i
 |.str x,v=>v=.str x
 |.tup ds,v=>∃a vs,v=.ref a/\i4 K H a vs/\Reps K H ds vs
 |.lst ds,v=>∃a vs,v=.ref a/\d9 K H a vs/\Reps K H ds vs
 |.dic ks ds,v=>∃a kvs vs,v=.ref a/\Rd H a (.dK kvs)/\kvs=(ks.map Sum.inr).zip vs/\ks.length=vs.length/\Reps K H ds vs
 |.exc x,v=>∃a C dc,v=.ref a/\XC K x C/\Rd H a (.ext (KJ a C dc))
 |.ob k ds,v=>∃a vs,v=.ref a/\Du K H k a vs/\Reps K H ds vs
def Reps(K:W.Frag)(H:Hp):ac->ad->Prop
 |[],vs=>vs=[]
 |d::ds,vs=>∃v r,vs=v::r/\Rep K H d v/\Reps K H ds r
end
def aA.rd(e:aA H H')(h:Rd H a o):Rd H' a o:=by
 rcases h with h|⟨o',h⟩
 .exact .inl (e _ _ h)
 .exact .inr ⟨o',e _ _ h⟩
def aA.sqT{K:W.Frag}(e:aA H H')(h:i4 K H a xs):i4 K H' a xs:=by
 rcases h with h|h
 .exact .inl (aA.rd e h)
 .exact .inr h
def aA.sqL{K:W.Frag}(e:aA H H')(h:d9 K H a xs):d9 K H' a xs:=by
 rcases h with h|h
 .exact .inl (aA.rd e h)
 .exact .inr h
theorem Du.mono{K:W.Frag}(e:aA H H'):∀{k:Kd}{a:Addr}{vs:ad},Du K H k a vs->Du K H' k a vs
 |.ins c ks,a,vs,⟨C,dx,h0,h1,h2,h3⟩=>⟨C,dx,h0,h1,e _ _ h2,h3⟩
 |.dint ks,a,vs,⟨kvs,h1,h2,h3⟩=>⟨kvs,aA.rd e h1,h2,h3⟩
 |.exf c ks,a,vs,⟨C,dx,fs,h1,h2,h3,h4⟩=>⟨C,dx,fs,h1,aA.rd e h2,e _ _ h3,h4⟩
mutual
theorem Rep.mono{K:W.Frag}{H H':Hp}(e:aA H H'):∀{d:D}{v:V},Rep K H d v->Rep K H' d v
 |.non,_,h=>by unfold Rep at h ⊢;exact h
 |.bl _,_,h=>by unfold Rep at h ⊢;exact h
 |.int _,_,h=>by unfold Rep at h ⊢;exact h
 |.str _,_,h=>by unfold Rep at h ⊢;exact h
 |.tup ds,_,h=>by
  unfold Rep at h ⊢;obtain⟨a,vs,e1,e2,e3⟩:=h;exact⟨a,vs,e1,aA.sqT e e2,Reps.mono e e3⟩
 |.lst ds,_,h=>by
  unfold Rep at h ⊢;obtain⟨a,vs,e1,e2,e3⟩:=h;exact⟨a,vs,e1,aA.sqL e e2,Reps.mono e e3⟩
 |.dic ks ds,_,h=>by
  unfold Rep at h ⊢;obtain⟨a,kvs,vs,e1,e2,e3,e4,e5⟩:=h;exact⟨a,kvs,vs,e1,aA.rd e e2,e3,e4,Reps.mono e e5⟩
 |.exc x,_,h=>by
  unfold Rep at h ⊢;obtain⟨a,C,dc,e1,e2,e3⟩:=h;exact⟨a,C,dc,e1,e2,aA.rd e e3⟩
 |.ob k ds,_,h=>by
  unfold Rep at h ⊢;obtain⟨a,vs,e1,e2,e3⟩:=h;exact⟨a,vs,e1,e2.mono e,Reps.mono e e3⟩
theorem Reps.mono{K:W.Frag}{H H':Hp}(e:aA H H'):∀{ds:ac}{vs:ad},Reps K H ds vs->Reps K H' ds vs
 |[],_,h=>by unfold Reps at h ⊢;exact h
 |d::ds,_,h=>by
  unfold Reps at h ⊢;obtain⟨v,r,e1,e2,e3⟩:=h;exact⟨v,r,e1,Rep.mono e e2,Reps.mono e e3⟩
end
section
variable {K:W.Frag}{H:Hp}{v:V}{vs:ad}{d:D}{ds:ac}
def aL:Rep K H .non v↔v=.non:=by unfold Rep;exact Iff.rfl
def aH{b}:Rep K H (.bl b) v↔v=.bl b:=by unfold Rep;exact Iff.rfl
def ar{i}:Rep K H (.int i) v↔v=.int i:=by unfold Rep;exact Iff.rfl
def Rep.str_iff{x}:Rep K H (.str x) v↔v=.str x:=by unfold Rep;exact Iff.rfl
def aI:Rep K H (.tup ds) v↔∃a vs,v=.ref a/\i4 K H a vs/\Reps K H ds vs:=by rw[Rep]
def aE:Rep K H (.lst ds) v↔∃a vs,v=.ref a/\d9 K H a vs/\Reps K H ds vs:=by rw[Rep]
def mM{x}:Rep K H (.exc x) v↔∃a C dc,v=.ref a/\XC K x C/\Rd H a (.ext (KJ a C dc)):=by rw[Rep]
def jE{k}:Rep K H (.ob k ds) v↔∃a vs,v=.ref a/\Du K H k a vs/\Reps K H ds vs:=by rw[Rep]
def Reps.nil_iff:Reps K H [] vs↔vs=[]:=by unfold Reps;exact Iff.rfl
def aB:Reps K H (d::ds) vs↔∃v r,vs=v::r/\Rep K H d v/\Reps K H ds r:=by rw[Reps]
def Reps.nil:Reps K H [] []:=Reps.nil_iff.mpr rfl
def Reps.cons(h:Rep K H d v)(h':Reps K H ds vs):Reps K H (d::ds) (v::vs):=aB.mpr ⟨_,_,rfl,h,h'⟩
end
theorem Reps.length{K:W.Frag}:∀{ds:ac}{vs:ad},Reps K H ds vs->ds.length=vs.length
 |[],_,h=>by rw[Reps.nil_iff.mp h];rfl
 |d::ds,_,h=>by
  obtain⟨v,r,rfl,_,h⟩:=aB.mp h;simp[Reps.length h]
theorem Reps.get{K:W.Frag}{H:Hp}:∀{ds:ac}{vs:ad}{i:Nat}{d:D},Reps K H ds vs->ds[i]?=some d->∃v,vs[i]?=some v/\Rep K H d v
 |[],_,_,_,h,e=>by simp at e
 |x::ds,_,0,d,h,e=>by
  obtain⟨v,r,rfl,h1,_⟩:=aB.mp h;simp at e;subst e;exact⟨v,rfl,h1⟩
 |x::ds,_,i+1,d,h,e=>by
  obtain⟨v,r,rfl,_,h2⟩:=aB.mp h;obtain⟨u,e1,e2⟩:=Reps.get (i:=i) h2 (by simpa using e);exact⟨u,by simpa using e1,e2⟩
theorem Reps.app{K:W.Frag}{H:Hp}:∀{ds es:ac}{vs us:ad},Reps K H ds vs->Reps K H es us->Reps K H (ds++es) (vs++us)
 |[],_,_,_,h,h'=>by rw[Reps.nil_iff.mp h];exact h'
 |d::ds,_,_,_,h,h'=>by
  obtain⟨v,r,rfl,h1,h2⟩:=aB.mp h;exact Reps.cons h1 (Reps.app h2 h')
theorem Reps.take{K:W.Frag}:∀{ds:ac}{vs:ad}(n:Nat),Reps K H ds vs->Reps K H (ds.take n) (vs.take n)
 |_,_,0,_=>by simp;exact Reps.nil
 |[],_,n+1,h=>by rw[Reps.nil_iff.mp h];exact Reps.nil
 |d::ds,_,n+1,h=>by
  obtain⟨v,r,rfl,h1,h2⟩:=aB.mp h;exact Reps.cons h1 (Reps.take n h2)
theorem Reps.drop{K:W.Frag}:∀{ds:ac}{vs:ad}(n:Nat),Reps K H ds vs->Reps K H (ds.drop n) (vs.drop n)
 |_,_,0,h=>by simpa using h
 |[],_,n+1,h=>by rw[Reps.nil_iff.mp h];exact Reps.nil
 |d::ds,_,n+1,h=>by
  obtain⟨v,r,rfl,h1,h2⟩:=aB.mp h;exact Reps.drop n h2
theorem Reps.set{K:W.Frag}(h:Rep K H d v):∀{ds:ac}{vs:ad}(n:Nat),Reps K H ds vs->Reps K H (ds.set n d) (vs.set n v)
 |[],_,n,h'=>by rw[Reps.nil_iff.mp h'];exact Reps.nil
 |x::ds,_,0,h'=>by
  obtain⟨v,r,rfl,h1,h2⟩:=aB.mp h';exact Reps.cons h h2
 |x::ds,_,n+1,h'=>by
  obtain⟨v,r,rfl,h1,h2⟩:=aB.mp h';exact Reps.cons h1 (Reps.set h n h2)
theorem sP{K:W.Frag}:∀(ns:List Int),Reps K H (ns.map D.int) (ns.map V.int)
 |[]=>Reps.nil
 |n::r=>Reps.cons (ar.mpr rfl) (sP r)
structure aS (H Ha H' Ha':Hp):Prop where
 s:aA H H'
 z:aA Ha Ha'
 sub:aA Ha' H'
 nw:∀a,Ha' a≠none->Ha a=none->H a=none
def aS.refl(h:aA Ha H):aS H Ha H Ha:=⟨aA.refl _,aA.refl _,h,λa h1 h2=>absurd h2 h1⟩
theorem aS.trans(a:aS H Ha H1 H01)(b:aS H1 H01 H2 H02):aS H Ha H2 H02 :=
 ⟨a.s.trans b.s,a.z.trans b.z,b.sub,λx h1 h2=>by
  cases q:H01 x with
  |none=>exact a.s.free (b.nw x h1 q)
  |some o=>exact a.nw x (by rw[q];simp) h2⟩
def aV(hs:aA Ha H)(hp:H p=none):aS H Ha (upd H p o) (upd Ha p o) :=
 ⟨same_new hp o,same_new (hs.free hp) o,λb u e=>by
  by_cases hb:b=p
  .subst hb;rw[aC]at e ⊢;exact e
  .rw[av hb]at e ⊢;exact hs _ _ e,λa h1 h2=>by
  by_cases hb:a=p
  .subst hb;exact hp
  .rw[av hb]at h1;exact absurd h2 h1⟩
where
 same_new {H:Hp}{p:Addr}(h:H p=none) (o:HO):aA H (upd H p o):=λb u q=>by rw[av (bj q h)];exact q
inductive Sl where
 |no|sh (d:D)|ow (d:D)|ox (j:Nat) (ds:ac)|pt (a:Addr)
abbrev Ev:=List Sl
abbrev al:=Ev->ai D
def Reads(K:W.Frag)(Ha:Hp)(σ:L2.St)(ρ:Ev):Prop:=∀(i:Nat) (d:D),ρ[i]?=some (.sh d)->∃v,σ[i]?=some (some v)/\Rep K Ha d v
def Reads.mono{K:W.Frag}(e:aA H H')(r:Reads K H σ ρ):Reads K H' σ ρ:=λi d h=>
 let ⟨v,h1,h2⟩:=r i d h
 ⟨v,h1,h2.mono e⟩
def ye(K:W.Frag)(H:Hp)(x:Mk)(C:Value)(ox:Option Addr):Prop :=
 (∃c,C=.ref c/\XC K x.cls c)/\match ox with
  |none=>x.flds=[]
  |some a=>∃fs,H a=some (.xd fs)/\∀n d,x.flds.lookup n=some d->∃v,fs.lookup n=some v/\Rep K H d v
def post(K:W.Frag)(E:XK)(H Ha:Hp)(r:ai D)(Q:VK):Prop:=match r with
 |.ok d=>∀v H' Ha',aS H Ha H' Ha'->Rep K Ha' d v->Q v H'
 |.exn x=>∀C ox H' Ha',aS H Ha H' Ha'->ye K Ha' x C ox->E C ox H'
 |.stuck=>False
def uP(K:W.Frag)(E:XK)(H Ha:Hp)(r:ai (ac))(Q:ad->Hp->Prop):Prop:=match r with
 |.ok ds=>∀vs H' Ha',aS H Ha H' Ha'->Reps K Ha' ds vs->Q vs H'
 |.exn x=>∀C ox H' Ha',aS H Ha H' Ha'->ye K Ha' x C ox->E C ox H'
 |.stuck=>False
def nR(K:W.Frag)(E:XK)(H Ha:Hp)(r:ai D)(Q:Bool->Hp->Prop):Prop:=match r with
 |.ok (.bl b)=>∀H' Ha',aS H Ha H' Ha'->Q b H'
 |.ok _=>False
 |.exn x=>∀C ox H' Ha',aS H Ha H' Ha'->ye K Ha' x C ox->E C ox H'
 |.stuck=>False
section
variable {K:W.Frag}{E:XK}{H Ha H1 H01:Hp}
def post.grow(h:post K E H Ha r Q)(g:aS H Ha H1 H01):post K E H1 H01 r Q:=by
 cases r with|ok d=>exact λv H' Ha' g'=>h v H' Ha' (g.trans g')|exn x=>exact λC ox H' Ha' g'=>h C ox H' Ha' (g.trans g')|stuck=>exact h
def uP.grow(h:uP K E H Ha r Q)(g:aS H Ha H1 H01):uP K E H1 H01 r Q:=by
 cases r with|ok d=>exact λv H' Ha' g'=>h v H' Ha' (g.trans g')|exn x=>exact λC ox H' Ha' g'=>h C ox H' Ha' (g.trans g')|stuck=>exact h
def nR.grow(h:nR K E H Ha r Q)(g:aS H Ha H1 H01):nR K E H1 H01 r Q:=by
 cases r with
 |ok d=>
  cases d with|bl b=>exact λH' Ha' g'=>h H' Ha' (g.trans g')| _=>exact h
 |exn x=>exact λC ox H' Ha' g'=>h C ox H' Ha' (g.trans g')
 |stuck=>exact h
end
def tD(K:W.Frag)(E:XK)(f:al):TE:=λσ H Q=>∃Ha ρ,aA Ha H/\Reads K Ha σ ρ/\post K E H Ha (f ρ) Q
def LU(K:W.Frag)(E:XK)(f:Ev->ai (ac)):TA:=λσ H Q=>∃Ha ρ,aA Ha H/\Reads K Ha σ ρ/\uP K E H Ha (f ρ) Q
def Iz(K:W.Frag)(E:XK)(f:al):TT:=λσ H Q=>∃Ha ρ,aA Ha H/\Reads K Ha σ ρ/\nR K E H Ha (f ρ) Q
structure DE (X:Cx) (E:XK) (e:Expr) (f:al):Prop where
 o:PE X e (tD X.K E f)
structure DA (X:Cx) (E:XK) (es:List Expr) (f:Ev->ai (ac)):Prop where
 o:PA X es (LU X.K E f)
structure DT (X:Cx) (E:XK) (e:Expr) (f:al):Prop where
 o:PT X e (Iz X.K E f)
structure DW (X:Cx) (E:XK) (e:Expr) (f:al):Prop where
 o:PW X e (Iz X.K E f)
section
variable {X:Cx}{E:XK}{e a b:Expr}{es:List Expr}{f g:al}{fa:Ev->ai (ac)}{pos:Pos}
def aQ(h:PE X e t)(w:∀σ H Q,t' σ H Q->t σ H Q):PE X e t':=λpins s σ H Q I q=>h pins s σ H Q I (w σ H Q q)
def jO(h:PA X es t)(w:∀σ H Q,t' σ H Q->t σ H Q):PA X es t':=λpos pins s σ H Q I q=>h pos pins s σ H Q I (w σ H Q q)
def iM(h:PT X e t)(w:∀σ H Q,t' σ H Q->t σ H Q):PT X e t':=λpins s σ H Q I q=>h pins s σ H Q I (w σ H Q q)
def yx(h:PW X e t)(w:∀σ H Q,t' σ H Q->t σ H Q):PW X e t':=λwh pins s σ H Q I q=>h wh pins s σ H Q I (w σ H Q q)
def ae(i:Nat):al:=λρ=>match ρ[i]? with
 |some (.sh d)=>.ok d
 |_=>.stuck
def dC(d:D):al:=λ_=>.ok d
def HN(hN:X.N[i]?=some x)(hv:A0 X.env.scope x)(hd:(x==("__debug__":Str))=false:=by decide)(hcd:(x==("__classdict__":Str))=false:=by decide):DE X E (.Name x pos) (ae i):=by
 refine⟨?_⟩;refine aQ (fH hN hv hd hcd) λσ H Q ⟨Ha,ρ,hs,hr,q⟩=>?_;unfold ae at q;cases e:ρ[i]? with
 |none=>rw[e]at q;exact q.elim
 |some s=>
  rw[e]at q;cases s with
  |sh d=>
   obtain⟨v,e1,e2⟩:=hr i d e;exact⟨v,e1,q v H Ha (aS.refl hs) e2⟩
  |no|ow d|ox j ds|pt a=>exact q.elim
def aj{i j}:DE X E (.Constant (.int i) j pos) (dC (.int i)):=⟨aQ tf λσ H Q ⟨Ha,ρ,hs,hr,q⟩=>q _ H Ha (aS.refl hs) (ar.mpr rfl)⟩
def fV{i j}:DE X E (.Constant (.bool i) j pos) (dC (.bl i)):=⟨aQ Jz λσ H Q ⟨Ha,ρ,hs,hr,q⟩=>q _ H Ha (aS.refl hs) (aH.mpr rfl)⟩
def cW{j}:DE X E (.Constant .none j pos) (dC .non):=⟨aQ G6 λσ H Q ⟨Ha,ρ,hs,hr,q⟩=>q _ H Ha (aS.refl hs) (aL.mpr rfl)⟩
def fI{x j}:DE X E (.Constant (.str x) j pos) (dC (.str x)):=⟨aQ G3 λσ H Q ⟨Ha,ρ,hs,hr,q⟩=>q _ H Ha (aS.refl hs) (Rep.str_iff.mpr rfl)⟩
def Fb(hg:Gl X x)(hm:X.mg x=some u)(r:bb v u)(hr:∀H,Rep X.K H d v)(hd:(x==("__debug__":Str))=false:=by decide):DE X E (.Name x pos) (dC d) :=
 ⟨aQ (Ez hg hm r hd) λσ H Q ⟨Ha,ρ,hs,hr',q⟩=>q _ H Ha (aS.refl hs) (hr Ha)⟩
def aa(f g:al)(op:D->D->ai D):al:=λρ=>(f ρ).bind λx=>(g ρ).bind λy=>op x y
def cm(f:al)(op:D->ai D):al:=λρ=>(f ρ).bind op
def qC(K:W.Frag)(E:XK)(r:R2)(op:D->D->ai D):Prop:=∀(x y:D) (v u:V) (H Ha:Hp) (Q:VK),aA Ha H->Rep K Ha x v->Rep K Ha y u->post K E H Ha (op x y) Q->r v u H Q
def fO(ho:qC X.K E r op)(σ:L2.St)(H:Hp)(Q:VK)(h:tD X.K E (aa f g op) σ H Q):Iy r (tD X.K E f) (tD X.K E g) σ H Q:=by
 obtain⟨Ha,ρ,hs,hr,q⟩:=h;refine⟨Ha,ρ,hs,hr,?_⟩;unfold aa at q;cases e1:f ρ with
 |stuck|exn x=>rw[e1]at q;exact q
 |ok x=>
  rw[e1]at q;intro v H1 H01 g1 r1;refine⟨H01,ρ,g1.sub,hr.mono g1.z,?_⟩;replace q:post X.K E H Ha ((g ρ).bind λy=>op x y) Q:=q;replace q:=q.grow g1;cases e2:g ρ with
  |stuck|exn x=>rw[e2]at q;exact q
  |ok y=>
   rw[e2]at q;intro u H2 H02 g2 r2;exact ho x y v u H2 H02 Q g2.sub (r1.mono g2.z) r2 (post.grow (r:=op x y) q g2)
def so(h:dW X (binaryOp op) r)(ho:qC X.K E r o)(ha:DE X E a f)(hb:DE X E b g):DE X E (.BinOp a op b pos) (aa f g o) :=
 ⟨aQ (B0 h ha.o hb.o) (fO ho)⟩
def dw(h:dW X (compareOp op) r)(ho:qC X.K E r o)(ha:DE X E a f)(hb:DE X E b g)(hm:behindInMarks op b=false):DE X E (.Compare a [op] [b] pos) (aa f g o) :=
 ⟨aQ (yE h ha.o hb.o hm) (fO ho)⟩
def Kf(h:Dv X r)(ho:qC X.K E r o)(ha:DE X E a f)(hb:DE X E b g)(hs:gM b):DE X E (.Subscript a b pos) (aa f g o) :=
 ⟨aQ (yD h ha.o hb.o hs) (fO ho)⟩
def MH(K:W.Frag)(E:XK)(r:V->Hp->VK->Prop)(op:D->ai D):Prop:=∀(x:D) (v:V) (H Ha:Hp) (Q:VK),aA Ha H->Rep K Ha x v->post K E H Ha (op x) Q->r v H Q
def Kc(h:KD X (unaryOp op) r)(ho:MH X.K E r o)(ha:DE X E a f):DE X E (.UnaryOp op a pos) (cm f o):=by
 refine⟨?_⟩;refine aQ (Jx h ha.o) λσ H Q z9=>?_;obtain⟨Ha,ρ,hs,hr,q⟩:=z9;refine⟨Ha,ρ,hs,hr,?_⟩
 unfold cm at q;cases e1:f ρ with
 |stuck|exn x=>rw[e1]at q;exact q
 |ok x=>
  rw[e1]at q;intro v H1 H01 g1 r1;exact ho x v H1 H01 Q g1.sub r1 (post.grow (r:=o x) q g1)
def aG:Ev->ai (ac):=λ_=>.ok []
def ah(f:al)(fa:Ev->ai (ac)):Ev->ai (ac):=λρ=>(f ρ).bind λx=>(fa ρ).bind λxs=>.ok (x::xs)
def az:DA X E [] aG:=⟨jO eW λσ H Q ⟨Ha,ρ,hs,hr,q⟩=>q [] H Ha (aS.refl hs) Reps.nil⟩
def af(ha:DE X E e f)(hr:DA X E es fa)(hs:starEach (e::es) X.env=(false,eval e X.env)::starEach es X.env:=by exact aN rfl):DA X E (e::es) (ah f fa):=by
 refine⟨?_⟩;refine jO (cx ha.o hr.o hs) λσ H Q z9=>?_;obtain⟨Ha,ρ,hs,hr,q⟩:=z9;refine⟨Ha,ρ,hs,hr,?_⟩
 unfold ah at q;cases e1:f ρ with
 |stuck|exn x=>rw[e1]at q;exact q
 |ok x=>
  rw[e1]at q;intro v H1 H01 g1 r1;refine⟨H01,ρ,g1.sub,hr.mono g1.z,?_⟩;replace q:uP X.K E H Ha ((fa ρ).bind λxs=>.ok (x::xs)) Q:=q;replace q:=q.grow g1;cases e2:fa ρ with
  |stuck|exn x=>rw[e2]at q;exact q
  |ok xs=>
   rw[e2]at q;intro us H2 H02 g2 r2;exact q (v::us) H2 H02 g2 (Reps.cons (r1.mono g2.z) r2)
def line:Nat:=1000000
def cE(h:n<=line):n<=sizeLine:=Nat.le_trans h (by decide)
def au(fa:Ev->ai (ac))(m:ac->ai D):al:=λρ=>(fa ρ).bind m
def fR:ac->ai D:=λds=>if ds.length<=line then .ok (.tup ds) else .stuck
def du:ac->ai D:=λds=>if ds.length<=line then .ok (.lst ds) else .stuck
def iZ{r:ad->Hp->VK->Prop}(ho:∀(ds:ac) (vs:ad) (H Ha:Hp) (Q:VK),aA Ha H->Reps X.K Ha ds vs->post X.K E H Ha (m ds) Q->r vs H Q)
  (σ:L2.St)(H:Hp)(Q:VK)(h:tD X.K E (au fa m) σ H Q):LU X.K E fa σ H λvs H1=>r vs H1 Q:=by
 obtain⟨Ha,ρ,hs,hr,q⟩:=h;refine⟨Ha,ρ,hs,hr,?_⟩;unfold au at q;cases e1:fa ρ with
 |stuck|exn x=>rw[e1]at q;exact q
 |ok x=>
  rw[e1]at q;intro v H1 H01 g1 r1;exact ho x v H1 H01 Q g1.sub r1 (post.grow (r:=m x) q g1)
def d7{x1}(h:DA X E es fa):DE X E (.Tuple es x1 pos) (au fa fR):=by
 refine⟨?_⟩;refine aQ (BZ h.o) (iZ (r:=λxs H1 Q=>xs.length<=sizeLine/\∀p,H1 p=none->Q (.ref p) (upd H1 p (.tup xs))) λds vs H Ha Q hs hr q=>?_);unfold fR at q
 by_cases hl:ds.length<=line
 .rw[if_pos hl]at q
  refine⟨by rw[←hr.length];exact cE hl,λp hp=>q _ _ _ (aV hs hp) (aI.mpr ⟨p,vs,rfl,i4.of aC,hr.mono (aV hs hp).z⟩)⟩
 .rw[if_neg hl]at q;exact q.elim
def da(h:DA X E es fa):DE X E (.List es pos) (au fa du):=by
 refine⟨?_⟩;refine aQ (B1 h.o) (iZ (r:=λxs H1 Q=>xs.length<=sizeLine/\∀p,H1 p=none->Q (.ref p) (upd H1 p (.lst xs))) λds vs H Ha Q hs hr q=>?_);unfold du at q
 by_cases hl:ds.length<=line
 .rw[if_pos hl]at q
  refine⟨by rw[←hr.length];exact cE hl,λp hp=>q _ _ _ (aV hs hp) (aE.mpr ⟨p,vs,rfl,d9.of aC,hr.mono (aV hs hp).z⟩)⟩
 .rw[if_neg hl]at q;exact q.elim
def spD(K:W.Frag)(n:Nat)(m:ac->ai D):Sp:=λvs H Q E=>vs.length=n/\∃Ha ds,aA Ha H/\Reps K Ha ds vs/\post K E H Ha (m ds) Q
def Fc{k n:Nat}{ps:List Str}(F:fM X.prog X.w X.K X.mg X.base CX k fn fd ps (spD X.K n m))(hr:cB k X.A)(hg:Gl X x)(hm:X.mg x=some (.ref fn))
  (hk:W.keepIn X.K (.ref fn)=true)(hb:iL X.K fd ps [])(hx:ee CX X E)(ha:DA X E (e::es) fa)(hn:(e::es).length=n:=by rfl)(hl:∀ρ ds,fa ρ=.ok ds->ds.length=(e::es).length)
  (hdb:(x==("__debug__":Str))=false:=by decide)(he:starEach (e::es) X.env=(false,eval e X.env)::starEach es X.env:=by exact aN rfl)(hpl:(backTo pos (starEach es X.env)).any (·.1)=false:=by exact bw rfl) :
  DE X E (.Call (.Name x p) (e::es) [] pos) (au fa m):=by
 refine⟨?_⟩;refine aQ (jM F hr hg hm hk hb .nil hx ha.o hdb he hpl) λσ H Q h=>?_;obtain⟨Ha,ρ,hs,hr,q⟩:=h;refine⟨Ha,ρ,hs,hr,?_⟩;unfold au at q;cases e1:fa ρ with
 |stuck|exn x=>rw[e1]at q;exact q
 |ok ds=>
  rw[e1]at q;intro v H1 H01 g1 r1;refine⟨?_,H01,ds,g1.sub,by simpa using r1,post.grow (r:=m ds) q g1⟩;have:=r1.length;have:=hl ρ ds e1;simp only[List.append_nil];omega
def Dr(h:aG ρ=.ok ds):ds.length=0:=by cases h;rfl
def l6(hr:∀es,fa ρ=.ok es->es.length=n)(h:ah f fa ρ=.ok ds):ds.length=n+1:=by
 unfold ah at h;cases e1:f ρ with
 |stuck|exn x=>rw[e1]at h;cases h
 |ok x=>
  rw[e1]at h;replace h:((fa ρ).bind λxs=>ai.ok (x::xs))=.ok ds:=h;cases e2:fa ρ with
  |stuck|exn x=>rw[e2]at h;cases h
  |ok xs=>
   rw[e2]at h;cases h;simp[hr xs e2]
def iK(X:Cx)(E:XK)(r:ad->Hp->VK->Prop)(m:ac->ai D):Prop:=∀(ds:ac) (vs:ad) (H Ha:Hp) (Q:VK),aA Ha H->Reps X.K Ha ds vs->post X.K E H Ha (m ds) Q->r vs H Q
def bq{id:String}(hc:iJ X (.builtin id) r)(hd:iK X E r m)(hg:Gl X x)(hm:X.mg x=none)(hv:bootBuiltins x=some (.builtin id))(ha:DA X E (e::es) fa)(hn:x≠"__name__":=by decide)(hdb:(x==("__debug__":Str))=false:=by decide)
  (he:starEach (e::es) X.env=(false,eval e X.env)::starEach es X.env:=by exact aN rfl)(hpl:(backTo pos (starEach es X.env)).any (·.1)=false:=by exact bw rfl):DE X E (.Call (.Name x p) (e::es) [] pos) (au fa m) :=
 ⟨aQ (uS hc hg hm hv ha.o hn hdb he hpl) (iZ hd)⟩
def CZ(h:PT X e (tB (tD X.K E f))):DT X E e f:=by
 refine⟨?_⟩;refine iM h λσ H Q z9=>?_;obtain⟨Ha,ρ,hs,hr,q⟩:=z9;refine⟨Ha,ρ,hs,hr,?_⟩
 cases e1:f ρ with
 |stuck|exn x=>rw[e1]at q;exact q
 |ok d=>
  rw[e1]at q;intro v H1 H01 g1 r1;cases d with|bl b=>rw[aH.mp r1];exact⟨b,rfl,q H1 H01 g1⟩| _=>exact q.elim
def bI(h:DE X E e f)(he:∀whole,isTrue e X.env whole=(do let v ←whole;standAt e.pos;holding [v] (truthy v)):=by intro _;rfl):DT X E e f:=CZ (GS h.o he)
def aZ(h:dW X (compareOp op) r)(ho:qC X.K E r o)(ha:DE X E a f)(hb:DE X E b g)(hm:behindInMarks op b=false):DT X E (.Compare a [op] [b] pos) (aa f g o):=by
 refine⟨?_⟩;refine iM (yy h ha.o hb.o hm) λσ H Q h=>?_;have w:tD X.K E (aa f g o) σ H λx H'=>∃k,x=.bl k/\Q k H':=by
  obtain⟨Ha,ρ,hs,hr,q⟩:=h;refine⟨Ha,ρ,hs,hr,?_⟩;cases e1:aa f g o ρ with
  |stuck|exn x=>rw[e1]at q;exact q
  |ok d=>
   rw[e1]at q;intro v H1 H01 g1 r1;cases d with|bl b=>rw[aH.mp r1];exact⟨b,rfl,q H1 H01 g1⟩| _=>exact q.elim
 exact fO ho σ H _ w
def cF(f:al):al:=cm f λx=>match x with
 |.bl b=>.ok (.bl (!b))
 |_=>.stuck
def gE(f g:al):al:=λρ=>(f ρ).bind λx=>match x with
 |.bl true=>g ρ
 |.bl false=>.ok (.bl false)
 |_=>.stuck
def jf(f g:al):al:=λρ=>(f ρ).bind λx=>match x with
 |.bl true=>.ok (.bl true)
 |.bl false=>g ρ
 |_=>.stuck
def bS(ha:DT X E a f):DT X E (.UnaryOp .Not a pos) (cF f):=by
 refine⟨?_⟩;refine iM (GU ha.o) λσ H Q z9=>?_;obtain⟨Ha,ρ,hs,hr,q⟩:=z9;refine⟨Ha,ρ,hs,hr,?_⟩
 unfold cF cm at q;cases e1:f ρ with
 |stuck|exn x=>rw[e1]at q;exact q
 |ok d=>
  rw[e1]at q;cases d with|bl b=>exact q| _=>exact q.elim
def HQ(ha:DE X E a f):DE X E (.UnaryOp .Not a pos) (cF f):=by
 refine⟨?_⟩;refine aQ (G5 ha.o) λσ H Q z9=>?_;obtain⟨Ha,ρ,hs,hr,q⟩:=z9;refine⟨Ha,ρ,hs,hr,?_⟩
 unfold cF cm at q;cases e1:f ρ with
 |stuck|exn x=>rw[e1]at q;exact q
 |ok d=>
  rw[e1]at q;intro v H1 H01 g1 r1;cases d with|bl b=>rw[aH.mp r1];exact⟨b,rfl,q (.bl !b) H1 H01 g1 (aH.mpr rfl)⟩| _=>exact q.elim
variable {rest:List Expr}
def ju(ha:DT X E a f):DW X E (.BoolOp .And [a] pos) f:=⟨Em ha.o⟩
def bC(ha:DT X E a f):DW X E (.BoolOp .Or [a] pos) f:=⟨GQ ha.o⟩
def tZ(ha:DT X E a f)(hb:DW X E (.BoolOp .And (b::rest) pos) g):DW X E (.BoolOp .And (a::b::rest) pos) (gE f g):=by
 refine⟨?_⟩;refine yx (GR ha.o hb.o) λσ H Q z9=>?_;obtain⟨Ha,ρ,hs,hr,q⟩:=z9;refine⟨Ha,ρ,hs,hr,?_⟩
 unfold gE at q;cases e1:f ρ with
 |stuck|exn x=>rw[e1]at q;exact q
 |ok d=>
  rw[e1]at q;cases d with
  |bl b=>
   cases b with|true=>exact λH1 H01 g1=>⟨H01,ρ,g1.sub,hr.mono g1.z,nR.grow (r:=g ρ) q g1⟩|false=>exact λH1 H01 g1=>q H1 H01 g1
  |_=>exact q.elim
def dz(ha:DT X E a f)(hb:DW X E (.BoolOp .Or (b::rest) pos) g):DW X E (.BoolOp .Or (a::b::rest) pos) (jf f g):=by
 refine⟨?_⟩;refine yx (Js ha.o hb.o) λσ H Q z9=>?_;obtain⟨Ha,ρ,hs,hr,q⟩:=z9;refine⟨Ha,ρ,hs,hr,?_⟩
 unfold jf at q;cases e1:f ρ with
 |stuck|exn x=>rw[e1]at q;exact q
 |ok d=>
  rw[e1]at q;cases d with
  |bl b=>
   cases b with|false=>exact λH1 H01 g1=>⟨H01,ρ,g1.sub,hr.mono g1.z,nR.grow (r:=g ρ) q g1⟩|true=>exact λH1 H01 g1=>q H1 H01 g1
  |_=>exact q.elim
def DW.dt(h:DW X E e f):DT X E e f:=⟨PW.pt h.o⟩
def iy{op}(h:DE X E a f):DE X E (.BoolOp op [a] pos) f:=⟨G4 h.o⟩
def jx(ha:DE X E a f)(hb:DE X E (.BoolOp .And (b::rest) pos) g):DE X E (.BoolOp .And (a::b::rest) pos) (gE f g):=by
 refine⟨?_⟩;refine aQ (G7 ha.o hb.o) λσ H Q z9=>?_;obtain⟨Ha,ρ,hs,hr,q⟩:=z9;refine⟨Ha,ρ,hs,hr,?_⟩
 unfold gE at q;cases e1:f ρ with
 |stuck|exn x=>rw[e1]at q;exact q
 |ok d=>
  rw[e1]at q;intro v H1 H01 g1 r1;cases d with
  |bl b=>
   rw[aH.mp r1];cases b with|true=>exact⟨true,rfl,H01,ρ,g1.sub,hr.mono g1.z,post.grow (r:=g ρ) q g1⟩|false=>exact⟨false,rfl,q (.bl false) H1 H01 g1 (aH.mpr rfl)⟩
  |_=>exact q.elim
def Ke(ha:DE X E a f)(hb:DE X E (.BoolOp .Or (b::rest) pos) g):DE X E (.BoolOp .Or (a::b::rest) pos) (jf f g):=by
 refine⟨?_⟩;refine aQ (Jy ha.o hb.o) λσ H Q z9=>?_;obtain⟨Ha,ρ,hs,hr,q⟩:=z9;refine⟨Ha,ρ,hs,hr,?_⟩
 unfold jf at q;cases e1:f ρ with
 |stuck|exn x=>rw[e1]at q;exact q
 |ok d=>
  rw[e1]at q;intro v H1 H01 g1 r1;cases d with
  |bl b=>
   rw[aH.mp r1];cases b with|false=>exact⟨false,rfl,H01,ρ,g1.sub,hr.mono g1.z,post.grow (r:=g ρ) q g1⟩|true=>exact⟨true,rfl,q (.bl true) H1 H01 g1 (aH.mpr rfl)⟩
  |_=>exact q.elim
def HU(c f g:al):al:=λρ=>(c ρ).bind λx=>match x with
 |.bl true=>f ρ
 |.bl false=>g ρ
 |_=>.stuck
def wg(hc:DT X E c fc)(ha:DE X E a f)(hb:DE X E b g):DE X E (.IfExp c a b pos) (HU fc f g):=by
 refine⟨?_⟩;refine aQ (B3 hc.o ha.o hb.o) λσ H Q z9=>?_;obtain⟨Ha,ρ,hs,hr,q⟩:=z9;refine⟨Ha,ρ,hs,hr,?_⟩
 unfold HU at q;cases e1:fc ρ with
 |stuck|exn x=>rw[e1]at q;exact q
 |ok d=>
  rw[e1]at q;cases d with
  |bl b=>
   cases b with|true=>exact λH1 H01 g1=>⟨H01,ρ,g1.sub,hr.mono g1.z,post.grow (r:=f ρ) q g1⟩|false=>exact λH1 H01 g1=>⟨H01,ρ,g1.sub,hr.mono g1.z,post.grow (r:=g ρ) q g1⟩
  |_=>exact q.elim
end
def Ft(K:W.Frag)(Ha H:Hp)(a:Addr)(d:D):Prop:=match d with
 |.lst ds=>∃vs,H a=some (.lst vs)/\Reps K Ha ds vs
 |.dic ks ds=>∃vs,H a=some (.dK ((ks.map Sum.inr).zip vs))/\ks.length=vs.length/\Reps K Ha ds vs
 |_=>False
noncomputable def Im(K:W.Frag) (He Ha H:Hp) (a:Addr) (j:Nat) (ds:ac) (p:Addr):Prop:=∃vs es us,He a=none/\H a=some (.tup vs)/\He p=none/\Ha p=none/\ds[j]?=some (.lst es)/\vs[j]?=some (.ref p)/\H p=some (.lst us)/\Reps K Ha es us/\ds.length=vs.length/\∀k d v,k≠j->ds[k]?=some d->vs[k]?=some v->Rep K Ha d v
noncomputable def OX(K:W.Frag) (He Ha:Hp) (σ:L2.St) (H:Hp) (ρ:Ev):Prop:=(∀(i j:Nat) (ds:ac),ρ[i]?=some (.ox j ds)->∃a p,σ[i]?=some (some (.ref a))/\Im K He Ha H a j ds p/\(∀(k:Nat) (d:D),ρ[k]?=some (.ow d)->σ[k]?≠some (some (.ref p)))/\∀(k j':Nat) (ds':ac),ρ[k]?=some (.ox j' ds')->k=i)/\∀(i:Nat) (a:Addr),ρ[i]?=some (.pt a)->σ[i]?=some (some (.ref a))
def OX.upd{K:W.Frag}(h:OX K He Ha σ H ρ)
  (hk:∀(j:Nat) (s:Sl),ρ'[j]?=some s->(ρ[j]?=some s/\σ'[j]?=σ[j]?)∨(∃d,s=.sh d)∨s=.no∨∃d q,s=.ow d/\σ'[j]?=some (some (.ref q))/\∀(i j:Nat) (ds:ac) (a p:Addr),ρ[i]?=some (.ox j ds)->σ[i]?=some (some (.ref a))->Im K He Ha H a j ds p->q≠p)
  (hz:aA Ha Ha')(ht:∀a vs,He a=none->H a=some (.tup vs)->H' a=some (.tup vs))
  (hl:∀p us,He p=none->Ha p=none->H p=some (.lst us)->(∀(k:Nat) (d:D),ρ[k]?=some (.ow d)->σ[k]?≠some (some (.ref p)))->H' p=some (.lst us)/\Ha' p=none):OX K He Ha' σ' H' ρ':=by
 refine⟨λi j ds e=>?_,λi a e=>?_⟩
 rotate_left
 .rcases hk i _ e with h1|⟨d,h1⟩|h1|⟨d,q,h1,_⟩
  .rw[h1.2];exact h.2 i a h1.1
  .cases h1
  .cases h1
  .cases h1
 have old:ρ[i]?=some (.ox j ds)/\σ'[i]?=σ[i]?:=by
  rcases hk i _ e with h1|⟨d,h1⟩|h1|⟨d,q,h1,_⟩
  .exact h1
  .cases h1
  .cases h1
  .cases h1
 obtain⟨a,p,h1,h2,h3,h4⟩:=h.1 i j ds old.1;have h2':=h2;obtain⟨vs,es,us,r1,r2,r3,r4,r5,r6,r7,r8,r9,r10⟩:=h2;obtain⟨l1,l2⟩:=hl p us r3 r4 r7 h3;refine⟨a,p,old.2.trans h1,⟨vs,es,us,r1,ht a vs r1 r2,r3,l2,r5,r6,l1,r8.mono hz,r9,λk d v hk e1 e2=>(r10 k d v hk e1 e2).mono hz⟩,λk d ek z=>?_,λk j' ds' ek=>?_⟩
 .rcases hk k _ ek with h1'|⟨d',h1'⟩|h1'|⟨d',q,h1',h2'',h3'⟩
  .exact h3 k d h1'.1 (by rw[←h1'.2];exact z)
  .cases h1'
  .cases h1'
  .rw[h2'']at z
   cases z;exact h3' i j ds a p old.1 h1 h2' rfl
 .rcases hk k _ ek with h1'|⟨d',h1'⟩|h1'|⟨d',q,h1',_⟩
  .exact h4 k j' ds' h1'.1
  .cases h1'
  .cases h1'
  .cases h1'
def OX.none{K:W.Frag}(h:∀(i j:Nat) (ds:ac),ρ[i]?≠some (.ox j ds))(h':∀(i:Nat) (a:Addr),ρ[i]?=some (.pt a)->σ[i]?=some (some (.ref a))):OX K He Ha σ H ρ:=⟨λi j ds e=>absurd e (h i j ds),h'⟩
theorem sW{K:W.Frag}{H:Hp}:∀{ds:ac}{vs:ad},ds.length=vs.length->(∀(k:Nat) (d:D) (v:V),ds[k]?=some d->vs[k]?=some v->Rep K H d v)->Reps K H ds vs
 |[],[],_,_=>Reps.nil
 |d::ds,v::vs,hl,h=>Reps.cons (h 0 d v rfl rfl) (sW (by simpa using hl) λk d' v' e1 e2=>h (k+1) d' v' e1 e2)
structure cO (K:W.Frag) (He H0e Ha:Hp) (σ:L2.St) (H:Hp) (ρ:Ev):Prop where
 g:aS He H0e H Ha
 rd:Reads K Ha σ ρ
 ow:∀(i:Nat) (d:D),ρ[i]?=some (.ow d)->∃a,σ[i]?=some (some (.ref a))/\He a=none/\Ha a=none/\Ft K Ha H a d
 ap:∀(i j:Nat) (d d':D),i≠j->ρ[i]?=some (.ow d)->ρ[j]?=some (.ow d')->σ[i]?≠σ[j]?
 ln:ρ.length=σ.length
 ex:OX K He Ha σ H ρ
inductive Fl where
 |nx (ρ:Ev)|rt (d:D)|bk (ρ:Ev)|ct (ρ:Ev)
abbrev am:=Ev->ai Fl
noncomputable def bL(K:W.Frag) (E:XK) (He H0e Ha:Hp) (r:ai Fl) (D:jG):Prop:=match r with
 |.ok (.nx ρ)=>∀σ H Ha',aA Ha Ha'->cO K He H0e Ha' σ H ρ->D.nx σ H
 |.ok (.rt d)=>∀v H Ha',aS He H0e H Ha'->Rep K Ha' d v->D.rt v H
 |.ok (.bk ρ)=>∀σ H Ha',aA Ha Ha'->cO K He H0e Ha' σ H ρ->D.bk σ H
 |.ok (.ct ρ)=>∀σ H Ha',aA Ha Ha'->cO K He H0e Ha' σ H ρ->D.ct σ H
 |.exn x=>∀C ox H Ha',aS He H0e H Ha'->ye K Ha' x C ox->E C ox H
 |.stuck=>False
def bL.grow{K:W.Frag}{D:jG}(h:bL K E He H0e Ha r D)(s:aA Ha Hb):bL K E He H0e Hb r D:=by
 cases r with
 |ok f=>
  cases f with|nx ρ=>exact λσ H Ha' s'=>h σ H Ha' (s.trans s')|rt d=>exact h|bk ρ=>exact λσ H Ha' s'=>h σ H Ha' (s.trans s')|ct ρ=>exact λσ H Ha' s'=>h σ H Ha' (s.trans s')
 |exn x=>exact h
 |stuck=>exact h
def tS(K:W.Frag)(E:XK)(He H0e:Hp)(g:am):TS:=λD σ H=>∃Ha ρ,cO K He H0e Ha σ H ρ/\bL K E He H0e Ha (g ρ) D
structure DS (X:Cx) (E:XK) (He H0e:Hp) (st:Stmt) (g:am):Prop where
 o:PS X st (tS X.K E He H0e g)
structure yf (X:Cx) (E:XK) (He H0e:Hp) (st:List Stmt) (g:am):Prop where
 o:ux X st (tS X.K E He H0e g)
def gO(ρ:Ev):Ev:=ρ.map λs=>match s with
 |.ow d=>.sh d
 |.ox _ ds=>.sh (.tup ds)
 |x=>x
def frz(He Ha H:Hp):Hp:=λa=>match He a with
 |none=>H a
 |some _=>Ha a
section
variable {K:W.Frag}{E:XK}{He H0e Ha H H1:Hp}{σ:L2.St}{ρ:Ev}
def cO.same(h:cO K He H0e Ha σ H ρ)(s:aA H H1):cO K He H0e Ha σ H1 ρ :=
 ⟨⟨h.g.s.trans s,h.g.z,h.g.sub.trans s,h.g.nw⟩,h.rd,λi d e=>by
  obtain⟨a,h1,h2,h3,h4⟩:=h.ow i d e;refine⟨a,h1,h2,h3,?_⟩;cases d with
  |lst ds=>obtain⟨vs,h5,h6⟩:=h4;exact⟨vs,s _ _ h5,h6⟩|dic ks ds=>obtain⟨vs,h5,hl,h6⟩:=h4;exact⟨vs,s _ _ h5,hl,h6⟩
  |_=>exact h4,h.ap,h.ln,h.ex.upd (λj s' e=>.inl ⟨e,rfl⟩) (aA.refl _) (λa vs _ e=>s _ _ e) λp us _ h0 hp _=>⟨s _ _ hp,h0⟩⟩
def cO.grow(h:cO K He H0e Ha σ H ρ)(s:aS H Ha H1 H01):cO K He H0e H01 σ H1 ρ :=
 ⟨h.g.trans s,h.rd.mono s.z,λi d e=>by
  obtain⟨a,h1,h2,h3,h4⟩:=h.ow i d e;have ha:H01 a=none:=by
   cases q:H01 a with
   |none=>rfl
   |some o=>
    have:=s.nw a (by rw[q];simp) h3;cases d with|lst ds|dic ks ds=>obtain⟨vs,h5,_⟩:=h4;rw[h5]at this;cases this| _=>exact h4.elim
  refine⟨a,h1,h2,ha,?_⟩;cases d with
  |lst ds=>obtain⟨vs,h5,h6⟩:=h4;exact⟨vs,s.s _ _ h5,h6.mono s.z⟩|dic ks ds=>obtain⟨vs,h5,hl,h6⟩:=h4;exact⟨vs,s.s _ _ h5,hl,h6.mono s.z⟩
  |_=>exact h4,h.ap,h.ln,h.ex.upd (λj s' e=>.inl ⟨e,rfl⟩) s.z (λa vs _ e=>s.s _ _ e) λp us _ h0 hp _=>⟨s.s _ _ hp,by
   cases q:H01 p with
   |none=>rfl
   |some o=>have:=s.nw p (by rw[q];simp) h0;rw[hp]at this;cases this⟩⟩
def cO.frz_sub(h:cO K He H0e Ha σ H ρ):aA Ha (frz He Ha H):=λb o e=>by
 unfold frz;cases q:He b with|none=>exact h.g.sub _ _ e|some _=>exact e
def cO.frz_le(h:cO K He H0e Ha σ H ρ):aA (frz He Ha H) H:=λb o e=>by
 unfold frz at e;cases q:He b with|none=>rw[q]at e;exact e|some _=>rw[q]at e;exact h.g.sub _ _ e
theorem cO.frz_grow(h:cO K He H0e Ha σ H ρ):aS He H0e H (frz He Ha H) :=
 ⟨h.g.s,h.g.z.trans h.frz_sub,h.frz_le,λa h1 h2=>by
  cases q:He a with
  |none=>rfl
  |some o=>
   unfold frz at h1;rw[q]at h1;have:=h.g.nw a h1 h2;rw[q]at this;cases this⟩
def cO.looks(h:cO K He H0e Ha σ H ρ):Reads K (frz He Ha H) σ (gO ρ):=λi d e=>by
 unfold gO at e;rw[List.getElem?_map]at e;cases q:ρ[i]? with
 |none=>rw[q]at e;cases e
 |some s=>
  rw[q]at e;cases s with
  |no|pt a=>cases e
  |sh d'=>
   cases e;obtain⟨v,h1,h2⟩:=h.rd i d q;exact⟨v,h1,h2.mono h.frz_sub⟩
  |ow d'=>
   cases e;obtain⟨a,h1,h2,h3,h4⟩:=h.ow i d q;refine⟨_,h1,?_⟩;cases d with
   |lst ds=>
    obtain⟨vs,h5,h6⟩:=h4;exact aE.mpr ⟨a,vs,rfl,d9.of (by unfold frz;rw[h2];exact h5),h6.mono h.frz_sub⟩
   |dic ks ds=>
    obtain⟨vs,h5,hl,h6⟩:=h4;rw[Rep];exact⟨a,_,vs,rfl,.inl (by unfold frz;rw[h2];exact h5),rfl,hl,h6.mono h.frz_sub⟩
   |_=>exact h4.elim
  |ox j ds=>
   cases e;obtain⟨a,p,h1,⟨vs,es,us,r1,r2,r3,r4,r5,r6,r7,r8,r9,r10⟩,_⟩:=h.ex.1 i j ds q;refine⟨_,h1,aI.mpr ⟨a,vs,rfl,i4.of (by unfold frz;rw[r1];exact r2),sW r9 λk d v e1 e2=>?_⟩⟩
   by_cases hk:k=j
   .subst hk
    rw[r5]at e1;cases e1;rw[r6]at e2;cases e2;exact aE.mpr ⟨p,us,rfl,d9.of (by unfold frz;rw[r3];exact r7),r8.mono h.frz_sub⟩
   .exact(r10 k d v hk e1 e2).mono h.frz_sub
def cO.put(h:cO K He H0e Ha σ H ρ)(r:Rep K Ha d v):cO K He H0e Ha (σ.set i (some v)) H (ρ.set i (.sh d)):=by
 have key:∀(j:Nat) (s:Sl),(ρ.set i (.sh d))[j]?=some s->(j=i/\s=.sh d/\i<σ.length)∨(j≠i/\ρ[j]?=some s):=λj s e=>by
  by_cases hj:i=j
  .subst hj
   rw[List.getElem?_set_self']at e;cases q:ρ[i]? with
   |none=>rw[q]at e;cases e
   |some s'=>
    rw[q]at e;cases e;refine .inl ⟨rfl,rfl,?_⟩;rw[←h.ln];exact(List.getElem?_eq_some_iff.mp q).1
  .rw[List.getElem?_set_ne hj]at e
   exact .inr ⟨λz=>hj z.symm,e⟩
 refine⟨h.g,λj d' e=>?_,λj d' e=>?_,λj k d1 d2 hn e1 e2=>?_,by simp[h.ln],h.ex.upd (λj s e=>?_) (aA.refl _) (λa vs _ e=>e) λp us _ h0 hp _=>⟨hp,h0⟩⟩
 rotate_left 3
 .rcases key j _ e with⟨rfl,e',hl⟩|⟨hj,e'⟩
  .exact .inr (.inl ⟨d,e'⟩)
  .exact .inl ⟨e',by rw[List.getElem?_set_ne (Ne.symm hj)]⟩
 .rcases key j _ e with⟨rfl,e',hl⟩|⟨hj,e'⟩
  .cases e'
   exact⟨v,by rw[List.getElem?_set_self hl],r⟩
  .obtain⟨v',h1,h2⟩:=h.rd j d' e'
   exact⟨v',by rw[List.getElem?_set_ne (Ne.symm hj)];exact h1,h2⟩
 .rcases key j _ e with⟨rfl,e',hl⟩|⟨hj,e'⟩
  .cases e'
  .obtain⟨a,h1,h2⟩:=h.ow j d' e'
   exact⟨a,by rw[List.getElem?_set_ne (Ne.symm hj)];exact h1,h2⟩
 .rcases key j _ e1 with⟨_,e',_⟩|⟨hj,e1'⟩
  .cases e'
  rcases key k _ e2 with⟨_,e',_⟩|⟨hk,e2'⟩
  .cases e'
  rw[List.getElem?_set_ne (Ne.symm hj),List.getElem?_set_ne (Ne.symm hk)];exact h.ap j k d1 d2 hn e1' e2'
def cO.putOwn(h:cO K He H0e Ha σ H ρ)(hp:∀(j:Nat) (a:Addr),σ[j]?=some (some (V.ref a))->a=p->∀d:D,ρ[j]?≠some (Sl.ow d))(he:He p=none)(h0:Ha p=none)(hv:H p=some (.lst vs))(r:Reps K Ha ds vs)(hx:∀(i j:Nat) (ds:ac) (a q:Addr),ρ[i]?=some (.ox j ds)->σ[i]?=some (some (.ref a))->Im K He Ha H a j ds q->p≠q) :
  cO K He H0e Ha (σ.set i (some (.ref p))) H (ρ.set i (.ow (.lst ds))):=by
 have key:∀(j:Nat) (s:Sl),(ρ.set i (.ow (.lst ds)))[j]?=some s->(j=i/\s=.ow (.lst ds)/\i<σ.length)∨(j≠i/\ρ[j]?=some s):=λj s e=>by
  by_cases hj:i=j
  .subst hj
   rw[List.getElem?_set_self']at e;cases q:ρ[i]? with
   |none=>rw[q]at e;cases e
   |some s'=>
    rw[q]at e;cases e;refine .inl ⟨rfl,rfl,?_⟩;rw[←h.ln];exact(List.getElem?_eq_some_iff.mp q).1
  .rw[List.getElem?_set_ne hj]at e
   exact .inr ⟨λz=>hj z.symm,e⟩
 have other:∀(k:Nat) (d2:D),k≠i->ρ[k]?=some (.ow d2)->some (some (V.ref p))≠σ[k]?:=λk d2 hk e2 z=>by
  obtain⟨a,h1,_⟩:=h.ow k d2 e2;rw[h1]at z;cases z;exact hp k p h1 rfl d2 e2
 refine⟨h.g,λj d' e=>?_,λj d' e=>?_,λj k d1 d2 hn e1 e2=>?_,by simp[h.ln],h.ex.upd (λj s e=>?_) (aA.refl _) (λa vs _ e=>e) λp us _ h0 hp _=>⟨hp,h0⟩⟩
 rotate_left 3
 .rcases key j _ e with⟨rfl,e',hl⟩|⟨hj,e'⟩
  .exact .inr (.inr (.inr ⟨.lst ds,p,e',by rw[List.getElem?_set_self hl],hx⟩))
  .exact .inl ⟨e',by rw[List.getElem?_set_ne (Ne.symm hj)]⟩
 .rcases key j _ e with⟨rfl,e',hl⟩|⟨hj,e'⟩
  .cases e'
  .obtain⟨v',h1,h2⟩:=h.rd j d' e'
   exact⟨v',by rw[List.getElem?_set_ne (Ne.symm hj)];exact h1,h2⟩
 .rcases key j _ e with⟨rfl,e',hl⟩|⟨hj,e'⟩
  .cases e'
   exact⟨p,by rw[List.getElem?_set_self hl],he,h0,vs,hv,r⟩
  .obtain⟨a,h1,h2⟩:=h.ow j d' e'
   exact⟨a,by rw[List.getElem?_set_ne (Ne.symm hj)];exact h1,h2⟩
 .rcases key j _ e1 with⟨rfl,_,hl⟩|⟨hj,e1'⟩
  .rcases key k _ e2 with⟨rfl,_,_⟩|⟨hk,e2'⟩
   .exact absurd rfl hn
   .rw[List.getElem?_set_self hl,List.getElem?_set_ne (Ne.symm hk)]
    exact other k d2 hk e2'
  .rcases key k _ e2 with⟨rfl,_,hl⟩|⟨hk,e2'⟩
   .rw[List.getElem?_set_self hl,List.getElem?_set_ne (Ne.symm hj)]
    exact λz=>other j d1 hj e1' z.symm
   .rw[List.getElem?_set_ne (Ne.symm hj),List.getElem?_set_ne (Ne.symm hk)]
    exact h.ap j k d1 d2 hn e1' e2'
def cO.fresh_x{H01:Hp}{p:Addr}(h:cO K He H0e Ha σ H ρ)(s:aA H H1)(hp:H p=none):∀(i j:Nat) (ds:ac) (a q:Addr),ρ[i]?=some (.ox j ds)->σ[i]?=some (some (.ref a))->Im K He H01 H1 a j ds q->p≠q:=λi j ds a q x1 x2 x3=>by
 obtain⟨a2,p2,y1,⟨vs2,_,us2,_,z3,_,_,_,z4,z5,_⟩,_⟩:=h.ex.1 i j ds x1;rw[x2]at y1;cases y1;obtain⟨vs1,_,_,_,z1,_,_,_,z2,_⟩:=x3;have:=s _ _ z3;rw[z1]at this;cases this;rw[z2]at z4;cases z4;intro z;subst z;rw[hp]at z5;cases z5
def cO.write(h:cO K He H0e Ha σ H ρ)(e:ρ[i]?=some (.ow d))(es:σ[i]?=some (some (.ref p)))(r:Reps K Ha ds vs) :
  cO K He H0e Ha σ (upd H p (.lst vs)) (ρ.set i (.ow (.lst ds))):=by
 obtain⟨a,h1,h2,h3,h4⟩:=h.ow i d e;rw[h1]at es;cases es;have hil:i<ρ.length:=(List.getElem?_eq_some_iff.mp e).1;have key:∀(j:Nat) (s:Sl),(ρ.set i (.ow (.lst ds)))[j]?=some s->(j=i/\s=.ow (.lst ds))∨(j≠i/\ρ[j]?=some s):=λj s e=>by
  by_cases hj:i=j
  .subst hj
   rw[List.getElem?_set_self hil]at e;cases e;exact .inl ⟨rfl,rfl⟩
  .rw[List.getElem?_set_ne hj]at e
   exact .inr ⟨λz=>hj z.symm,e⟩
 refine⟨⟨λb o eb=>?_,h.g.z,λb o eb=>?_,h.g.nw⟩,λj d' e'=>?_,λj d' e'=>?_,λj k d1 d2 hn e1 e2=>?_,by simp[h.ln],h.ex.upd (λj s e'=>?_) (aA.refl _) (λb us _ eb=>?_) λq us _ q0 hq hd=>?_⟩
 rotate_left 5
 .rcases key j _ e' with⟨rfl,e''⟩|⟨hj,e''⟩
  .exact .inr (.inr (.inr ⟨.lst ds,p,e'',h1,λi' j' ds' a' p' x1 x2 x3=>by
    obtain⟨a2,p2,y1,y2,y3,_⟩:=h.ex.1 i' j' ds' x1;rw[x2]at y1;cases y1;have:p2=p':=by
     obtain⟨vs1,_,_,_,z1,_,_,_,z2,_⟩:=x3;obtain⟨vs2,_,_,_,z3,_,_,_,z4,_⟩:=y2;rw[z1]at z3;cases z3;rw[z2]at z4;cases z4;rfl
    subst this;intro zz;subst zz;exact y3 j d e h1⟩))
  .exact .inl ⟨e'',rfl⟩
 .rw[av (by
   intro z;subst z;cases d with
   |lst ds'|dic ks ds'=>obtain⟨vs',h5,_⟩:=h4;rw[h5]at eb;cases eb
   |_=>exact h4)];exact eb
 .have hq':q≠p:=by
   intro z;subst z;exact hd i d e h1
  exact⟨by rw[av hq'];exact hq,q0⟩
 .rw[av (by intro z;subst z;rw[h2]at eb;cases eb)];exact h.g.s _ _ eb
 .rw[av (by intro z;subst z;rw[h3]at eb;cases eb)];exact h.g.sub _ _ eb
 .rcases key j _ e' with⟨rfl,e''⟩|⟨hj,e''⟩
  .cases e''
  .exact h.rd j d' e''
 .rcases key j _ e' with⟨rfl,e''⟩|⟨hj,e''⟩
  .cases e''
   exact⟨p,h1,h2,h3,vs,aC,r⟩
  .obtain⟨b,k1,k2,k3,k4⟩:=h.ow j d' e''
   refine⟨b,k1,k2,k3,?_⟩;have hb:b≠p:=by
    intro z;subst z;exact h.ap j i d' d hj e'' e (by rw[k1,h1])
   cases d' with
   |lst ds'=>
    obtain⟨vs',h5,h6⟩:=k4;exact⟨vs',by rw[av hb];exact h5,h6⟩
   |dic ks ds'=>
    obtain⟨vs',h5,hl,h6⟩:=k4;exact⟨vs',by rw[av hb];exact h5,hl,h6⟩
   |_=>exact k4.elim
 .rcases key j _ e1 with⟨rfl,e1'⟩|⟨hj,e1'⟩
  .rcases key k _ e2 with⟨rfl,_⟩|⟨hk,e2'⟩
   .exact absurd rfl hn
   .exact h.ap j k d d2 hn e e2'
  .rcases key k _ e2 with⟨rfl,_⟩|⟨hk,e2'⟩
   .exact h.ap j k d1 d hn e1' e
   .exact h.ap j k d1 d2 hn e1' e2'
end
mutual
def tT:D->Bool
 |.lst _=>false
 |.dic _ _=>false
 |.exc _=>false
 |.ob _ _=>false
 |.tup ds=>flats ds
 |_=>true
def flats:ac->Bool
 |[]=>true
 |d::ds=>tT d&&flats ds
end
mutual
theorem Rep.flat_to{K:W.Frag}{H H':Hp}(e:∀a vs,Rd H a (.tup vs)->Rd H' a (.tup vs)):∀{d:D}{v:V},tT d=true->Rep K H d v->Rep K H' d v
 |.non,_,_,h=>by unfold Rep at h ⊢;exact h
 |.bl _,_,_,h=>by unfold Rep at h ⊢;exact h
 |.int _,_,_,h=>by unfold Rep at h ⊢;exact h
 |.str _,_,_,h=>by unfold Rep at h ⊢;exact h
 |.tup ds,_,f,h=>by
  unfold tT at f;obtain⟨a,vs,e1,e2,e3⟩:=aI.mp h;refine aI.mpr ⟨a,vs,e1,?_,Reps.flat_to e f e3⟩;rcases e2 with e2|e2
  .exact .inl (e _ _ e2)
  .exact .inr e2
 |.lst ds,_,f,h=>by unfold tT at f;cases f
 |.dic ks ds,_,f,h=>by unfold tT at f;cases f
 |.exc x,_,f,h=>by unfold tT at f;cases f
 |.ob k ds,_,f,h=>by unfold tT at f;cases f
theorem Reps.flat_to{K:W.Frag}{H H':Hp}(e:∀a vs,Rd H a (.tup vs)->Rd H' a (.tup vs)):∀{ds:ac}{vs:ad},flats ds=true->Reps K H ds vs->Reps K H' ds vs
 |[],_,_,h=>by unfold Reps at h ⊢;exact h
 |d::ds,_,f,h=>by
  unfold flats at f;rw[Bool.and_eq_true]at f;obtain⟨v,r,e1,e2,e3⟩:=aB.mp h;exact aB.mpr ⟨v,r,e1,Rep.flat_to e f.1 e2,Reps.flat_to e f.2 e3⟩
end
def gb(Ha J:Hp):Hp:=λa=>match Ha a with
 |some o=>some o
 |none=>match J a with
  |some (.tup vs)=>some (.tup vs)
  |some (.frz o (.tup vs))=>some (.frz o (.tup vs))
  |_=>none
section
variable {K:W.Frag}{E:XK}{He H0e Ha H H1 J:Hp}{σ:L2.St}{ρ:Ev}
def Fp(h:aA Ha J):∀a o,gb Ha J a=some o->J a=some o:=λa o e=>by
 unfold gb at e;cases q:Ha a with
 |some u=>rw[q]at e;cases e;exact h _ _ q
 |none=>
  rw[q]at e;cases q2:J a with
  |none=>rw[q2]at e;cases e
  |some u=>
   rw[q2]at e;cases u with
   |tup vs=>cases e;rfl
   |frz o u'=>
    cases u' with|tup vs=>cases e;rfl| _=>cases e
   |_=>cases e
def Fo(h:aA Ha J)(a:Addr)(vs:ad)(e:Rd J a (.tup vs)):Rd (gb Ha J) a (.tup vs):=by
 rcases e with e|⟨o,e⟩
 .refine .inl ?_
  unfold gb;cases q:Ha a with|some u=>have:=h _ _ q;rw[e]at this;cases this;rfl|none=>rw[e]
 .refine .inr ⟨o,?_⟩
  unfold gb;cases q:Ha a with|some u=>have:=h _ _ q;rw[e]at this;cases this;rfl|none=>rw[e]
def cO.behind(h:cO K He H0e Ha σ H ρ)(g:aS H (frz He Ha H) H1 J):cO K He H0e (gb Ha J) σ H1 ρ:=by
 have hJ:aA Ha J:=h.frz_sub.trans g.z;have le:=Fp (Ha:=Ha) (J:=J) hJ;have z:aA Ha (gb Ha J):=λb o e=>by unfold gb;rw[e]
 refine⟨⟨h.g.s.trans g.s,h.g.z.trans z,λb o e=>g.sub _ _ (le b o e),λa h1 h2=>?_⟩,h.rd.mono z,λi d e=>?_,h.ap,h.ln,h.ex.upd (λj s e=>.inl ⟨e,rfl⟩) z (λa vs _ e=>g.s _ _ e) λp us hp h0 hl _=>⟨g.s _ _ hl,by
  have:frz He Ha H p=some (.lst us):=by unfold frz;rw[hp];exact hl
  have:=g.z _ _ this;unfold gb;rw[h0,this]⟩⟩
 .cases q:gb Ha J a with
  |none=>exact absurd q h1
  |some o=>
   have hj:=le a o q;exact(h.frz_grow.trans g).nw a (by rw[hj];simp) h2
 .obtain⟨a,k1,k2,k3,k4⟩:=h.ow i d e
  refine⟨a,k1,k2,?_,?_⟩
  .cases d with
   |lst ds=>
    obtain⟨vs,h5,_⟩:=k4;have:frz He Ha H a=some (.lst vs):=by unfold frz;rw[k2];exact h5
    have:=g.z _ _ this;unfold gb;rw[k3,this]
   |dic ks ds=>
    obtain⟨vs,h5,_⟩:=k4;have:frz He Ha H a=some (.dK ((ks.map Sum.inr).zip vs)):=by unfold frz;rw[k2];exact h5
    have:=g.z _ _ this;unfold gb;rw[k3,this]
   |_=>exact k4.elim
  .cases d with
   |lst ds=>obtain⟨vs,h5,h6⟩:=k4;exact⟨vs,g.s _ _ h5,h6.mono z⟩
   |dic ks ds=>obtain⟨vs,h5,hl,h6⟩:=k4;exact⟨vs,g.s _ _ h5,hl,h6.mono z⟩
   |_=>exact k4.elim
end
section
variable {X:Cx}{E:XK}{He H0e:Hp}{st:Stmt}{rest:List Stmt}{e a b:Expr}{es:List Expr}{f g:al}{fa:Ev->ai (ac)}{s t:am}{pos:Pos}
def bz{t t':TS}(h:PS X st t)(w:∀D σ H,t' D σ H->t D σ H):PS X st t':=λpins s σ H D I q=>h pins s σ H D I (w D σ H q)
def dI{t t':TS}(h:ux X rest t)(w:∀D σ H,t' D σ H->t D σ H):ux X rest t':=λpins s σ H D I q=>h pins s σ H D I (w D σ H q)
def ao:am:=λρ=>.ok (.nx ρ)
def aw(s t:am):am:=λρ=>(s ρ).bind λr=>match r with
 |.nx ρ'=>t ρ'
 |r=>.ok r
def ak:yf X E He H0e [] ao:=⟨dI m6 λD σ H ⟨Ha,ρ,h,q⟩=>q σ H Ha (aA.refl _) h⟩
def ag(h1:DS X E He H0e st s)(h2:yf X E He H0e rest t):yf X E He H0e (st::rest) (aw s t):=by
 refine⟨?_⟩;refine dI (eU h1.o h2.o) λD σ H z9=>?_;obtain⟨Ha,ρ,h,q⟩:=z9;refine⟨Ha,ρ,h,?_⟩
 unfold aw at q;cases e1:s ρ with
 |stuck|exn x=>rw[e1]at q;exact q
 |ok r=>
  rw[e1]at q;cases r with|nx ρ'=>exact λσ' H' Ha' s' h'=>⟨Ha',ρ',h',bL.grow (r:=t ρ') q s'⟩|rt d|bk ρ'|ct ρ'=>exact q
def dG:am:=λ_=>.stuck
def dk:DS X E He H0e st dG:=⟨bz BP λD σ H ⟨Ha,ρ,h,q⟩=>q⟩
def plain{K:W.Frag}{k:D->ai Fl}(h:cO K He H0e Ha σ H ρ) 
  (q:bL K E He H0e Ha (r.bind k) D')(hk:∀d v H' Ha',r=.ok d->aS H Ha H' Ha'->Rep K Ha' d v->bL K E He H0e Ha' (k d) D'->Q v H'):post K E H Ha r Q:=by
 cases r with|stuck=>exact q|exn x=>exact λC ox H' Ha' g ex=>q C ox H' Ha' (h.g.trans g) ex|ok d=>exact λv H' Ha' g rp=>hk d v H' Ha' rfl g rp (bL.grow (r:=k d) q g.z)
def look{K:W.Frag}{k:D->ai Fl}(h:cO K He H0e Ha σ H ρ) 
  (q:bL K E He H0e Ha (r.bind k) D')(hk:∀d v H' J,r=.ok d->aS H (frz He Ha H) H' J->Rep K J d v->bL K E He H0e Ha (k d) D'->Q v H'):post K E H (frz He Ha H) r Q:=by
 cases r with|stuck=>exact q|exn x=>exact λC ox H' Ha' g ex=>q C ox H' Ha' (h.frz_grow.trans g) ex|ok d=>exact λv H' J g rp=>hk d v H' J rfl g rp q
def FL{K:W.Frag}{k:Bool->ai Fl}(h:cO K He H0e Ha σ H ρ) 
  (q:bL K E He H0e Ha (r.bind λx=>match x with|.bl b=>k b|_=>.stuck) D')(hk:∀b H',aA H H'->bL K E He H0e Ha (k b) D'->Q b H'):nR K E H (frz He Ha H) r Q:=by
 cases r with
 |stuck=>exact q|exn x=>exact λC ox H' Ha' g ex=>q C ox H' Ha' (h.frz_grow.trans g) ex
 |ok d=>
  cases d with|bl b=>exact λH' J g=>hk b H' g.s q| _=>exact q.elim
def bE(i:Nat)(f:al):am:=λρ=>(f ρ).bind λd=>.ok (.nx (ρ.set i (.sh d)))
def bB(f:al):am:=λρ=>(f (gO ρ)).bind λd=>.ok (.rt d)
def nL(f:al):am:=λρ=>(f (gO ρ)).bind λ_=>.ok (.nx ρ)
def dH(c:al)(s t:am):am:=λρ=>(c (gO ρ)).bind λx=>match x with
 |.bl b=>if b=true then s ρ else t ρ
 |_=>.stuck
def bg(hN:X.N.Nodup)(hi:X.N[i]?=some x)(hx:A1 X.env.scope x)(he:DE X E e f)(hs:swapsWith e (some (.Name x pos')) pos.line X.env=pure false:=by rfl)
  (hf:X.fn x=true∨X.env.scope.names.lookup x=some .local := by first|exact .inl rfl|exact .inr rfl|assumption):DS X E He H0e (.Assign [.Name x pos'] e pos) (bE i f):=by
 refine⟨?_⟩;refine bz (lM hN hi hx he.o hs hf) λD σ H z9=>?_;obtain⟨Ha,ρ,h,q⟩:=z9;refine⟨Ha,ρ,h.g.sub,h.rd,?_⟩
 refine plain h q λd v H' Ha' _ g rp q'=>?_;exact q' _ H' Ha' (aA.refl _) ((h.grow g).put rp)
def aM(he:DE X E e f):DS X E He H0e (.Return (some e) pos) (bB f):=by
 refine⟨?_⟩;refine bz (nQ he.o) λD σ H z9=>?_;obtain⟨Ha,ρ,h,q⟩:=z9;refine⟨frz He Ha H,gO ρ,h.frz_le,h.looks,?_⟩
 exact look h q λd v H' J _ g rp q'=>q' v H' J (h.frz_grow.trans g) rp
def ub(he:DE X E e f)(hs:swapsWith e none pos.line X.env=pure false:=by rfl):DS X E He H0e (.Expr e pos) (nL f):=by
 refine⟨?_⟩;refine bz (m7 he.o hs) λD σ H z9=>?_;obtain⟨Ha,ρ,h,q⟩:=z9;refine⟨frz He Ha H,gO ρ,h.frz_le,h.looks,?_⟩
 exact look h q λd v H' J _ g rp q'=>q' σ H' Ha (aA.refl _) (h.same g.s)
def bJ(hc:DT X E c fc)(ha:yf X E He H0e sa s)(hb:yf X E He H0e sb t):DS X E He H0e (.If c sa sb pos) (dH fc s t):=by
 refine⟨?_⟩;refine bz (FI hc.o ha.o hb.o) λD σ H z9=>?_;obtain⟨Ha,ρ,h,q⟩:=z9;refine⟨frz He Ha H,gO ρ,h.frz_le,h.looks,?_⟩
 refine FL (k:=λb=>if b=true then s ρ else t ρ) h q λb H' hs q'=>?_;cases b with|true=>rw[if_pos rfl]at q' ⊢;exact⟨Ha,ρ,h.same hs,q'⟩|false=>rw[if_neg Bool.false_ne_true]at q' ⊢;exact⟨Ha,ρ,h.same hs,q'⟩
noncomputable def tF(K:W.Frag) (E:XK) (f:al):TE:=λσ H Q=>∃Ha ρ,aA Ha H/\Reads K Ha σ ρ/\match f ρ with
 |.ok (.lst ds)=>∀p vs H' Ha',aS H Ha H' Ha'->H p=none->Ha' p=none->H' p=some (.lst vs)->Reps K Ha' ds vs->Q (.ref p) H'
 |.ok _=>False
 |.exn x=>∀C ox H' Ha',aS H Ha H' Ha'->ye K Ha' x C ox->E C ox H'
 |.stuck=>False
structure DF (X:Cx) (E:XK) (e:Expr) (f:al):Prop where
 o:PE X e (tF X.K E f)
def mQ(i:Nat)(f:al):am:=λρ=>(f ρ).bind λd=>match d with
 |.lst ds=>.ok (.nx (ρ.set i (.ow (.lst ds))))
 |_=>.stuck
def pI(hN:X.N.Nodup)(hi:X.N[i]?=some x)(hx:A1 X.env.scope x)(he:DF X E e f)(hs:swapsWith e (some (.Name x pos')) pos.line X.env=pure false:=by rfl)
  (hf:X.fn x=true∨X.env.scope.names.lookup x=some .local := by first|exact .inl rfl|exact .inr rfl|assumption):DS X E He H0e (.Assign [.Name x pos'] e pos) (mQ i f):=by
 refine⟨?_⟩;refine bz (lM hN hi hx he.o hs hf) λD σ H z9=>?_;obtain⟨Ha,ρ,h,q⟩:=z9;refine⟨Ha,ρ,h.g.sub,h.rd,?_⟩
 unfold mQ at q;cases e1:f ρ with
 |stuck=>rw[e1]at q;exact q|exn x=>rw[e1]at q;exact λC ox H' Ha' g ex=>q C ox H' Ha' (h.g.trans g) ex
 |ok d=>
  rw[e1]at q;cases d with
  |lst ds=>
   intro p vs H' Ha' g hp h0 hv rp;refine q _ H' Ha' g.z ((h.grow g).putOwn (λj a ej ea d ed=>?_) (h.g.s.free hp) h0 hv rp (h.fresh_x g.s hp));subst ea;obtain⟨a',k1,_,_,k4⟩:=h.ow j d ed;rw[ej]at k1;cases k1;cases d with|lst ds'|dic ks ds'=>obtain⟨vs',h5,_⟩:=k4;rw[hp]at h5;cases h5| _=>exact k4.elim
  |_=>exact q.elim
def pP(h:DA X E es fa):DF X E (.List es pos) (au fa du):=by
 refine⟨?_⟩;refine aQ (B1 h.o) λσ H Q h=>?_;obtain⟨Ha,ρ,hs,hr,q⟩:=h;refine⟨Ha,ρ,hs,hr,?_⟩;unfold au at q;cases e1:fa ρ with
 |stuck|exn x=>rw[e1]at q;exact q
 |ok ds=>
  rw[e1]at q;intro vs H1 H01 g1 r1;replace q:match du ds with
   |.ok (.lst ds)=>∀p vs H' Ha',aS H Ha H' Ha'->H p=none->Ha' p=none->H' p=some (.lst vs)->Reps X.K Ha' ds vs->Q (.ref p) H'
   |.ok _=>False
   |.exn x=>∀C ox H' Ha',aS H Ha H' Ha'->ye X.K Ha' x C ox->E C ox H'
   |.stuck=>False:=q
  unfold du at q
  by_cases hl:ds.length<=line
  .rw[if_pos hl]at q
   refine⟨by rw[←r1.length];exact cE hl,λp hp=>?_⟩;have h0:H01 p=none:=g1.sub.free hp;refine q p vs _ H01 (g1.trans ⟨λb o q=>by rw[av (bj q hp)];exact q,aA.refl _,λb o q=>?_,λa h1 h2=>absurd h2 h1⟩) (g1.s.free hp) h0 aC r1;rw[av (by intro z;subst z;rw[h0]at q;cases q)];exact g1.sub _ _ q
  .rw[if_neg hl]at q;exact q.elim
def yG(ρ:Ev)(i:Nat)(k:ac->ai Fl):ai Fl:=match ρ[i]? with
 |some (.ow (.lst ds))=>k ds
 |_=>.stuck
def gr(i:Nat)(f:al):am:=λρ=>yG ρ i λds=>(f ρ).bind λd=>if ds.length<line then .ok (.nx (ρ.set i (.ow (.lst (ds++[d]))))) else .stuck
def uX{K:W.Frag}{k:ac->ai Fl}(h:cO K He H0e Ha σ H ρ)(q:bL K E He H0e Ha (yG ρ i k) D') :
  ∃ds p vs,ρ[i]?=some (.ow (.lst ds))/\σ[i]?=some (some (.ref p))/\He p=none/\Ha p=none/\H p=some (.lst vs)/\Reps K Ha ds vs/\bL K E He H0e Ha (k ds) D':=by
 unfold yG at q;cases e:ρ[i]? with
 |none=>rw[e]at q;exact q.elim
 |some s=>
  rw[e]at q;cases s with
  |no|sh d|ox j ds|pt a=>exact q.elim
  |ow d=>
   cases d with
   |lst ds=>
    obtain⟨p,h1,h2,h3,vs,h4,h5⟩:=h.ow i _ e;exact⟨ds,p,vs,rfl,h1,h2,h3,h4,h5,q⟩
   |_=>exact q.elim
def rQ(hN:X.N[i]?=some x)(hv:A0 X.env.scope x)(he:DE X E e f)
  (hd:(x==("__debug__":Str))=false:=by decide)(hcd:(x==("__classdict__":Str))=false:=by decide)
  (hbase:attributeBase (.Name x p1) "append" X.env (eval (.Name x p1) X.env)=eval (.Name x p1) X.env:=by rfl)
  (hfew:((backTo p3 (starEach [e] X.env)).all (λx=>!x.1)&&(backToKw p3 (keywordEach [] X.env)).all (λx=>x.1.isSome)
  &&decide ([e].length+([]:List Keyword).length+(if([]:List Keyword).isEmpty then 0 else 1)<30))=true:=by exact e7 rfl)
  (hline:(p2.endLine==p3.line)=true:=by rfl) (hs:starEach [e] X.env=(false,eval e X.env)::starEach [] X.env:=by exact aN rfl) (hplain:(backTo p3 (starEach [] X.env)).any (·.1)=false:=by exact bw rfl)
  (hw:swapsWith (.Call (.Attribute (.Name x p1) "append" p2) [e] [] p3) none pos.line X.env=pure false:=by rfl) :
  DS X E He H0e (.Expr (.Call (.Attribute (.Name x p1) "append" p2) [e] [] p3) pos) (gr i f):=by
 refine⟨?_⟩;refine bz (m7 (uT PySem.F.plainAttrs_list PySem.F.slot_list_append PySem.F.type_list_append iP (fH hN hv hd hcd) (cx he.o eW hs) hbase hfew hline hs hplain) hw) λD σ H ⟨Ha,ρ,h,q⟩=>?_;obtain⟨ds,p,vs,e1,e2,e3,e4,e5,e6,q⟩:=uX h q;refine⟨.ref p,e2,.inl ⟨rfl,vs,d9.of e5⟩,?_⟩;refine⟨Ha,ρ,h.g.sub,h.rd,plain h q λd v H' Ha' _ g rp q'=>?_⟩
 by_cases hl:ds.length<line
 .rw[if_pos hl]at q'
  have e5':H' p=some (.lst vs):=g.s _ _ e5;refine⟨p,vs,v,rfl,rfl,e5',by rw[←e6.length];exact Nat.lt_of_lt_of_le hl (by decide),?_⟩;exact q' σ _ Ha' (aA.refl _) ((h.grow g).write e1 e2 ((e6.mono g.z).app (Reps.cons rp Reps.nil)))
 .rw[if_neg hl]at q';exact q'.elim
def putAt(ρ:Ev)(i:Nat)(ds:ac)(d:D)(j:D):ai Fl:=match j with
 |.int j=>match vt ds.length j with
  |some n=>.ok (.nx (ρ.set i (.ow (.lst (ds.set n d)))))
  |none=>.stuck
 |_=>.stuck
def By(i:Nat)(f k:al):am:=λρ=>yG ρ i λds=>(f ρ).bind λd=>(k ρ).bind λj=>putAt ρ i ds d j
def BM{K:W.Frag}(h:cO K He H0e Ha σ H ρ)(e1:ρ[i]?=some (.ow (.lst ds)))(e2:σ[i]?=some (some (.ref p)))(e5:H p=some (.lst vs))(e6:Reps K Ha ds vs)
  (rp:Rep K Ha d v)(rj:Rep K Ha j u)(q:bL K E He H0e Ha (putAt ρ i ds d j) D'):FH (.ref p) u v H λH'=>D'.nx σ H':=by
 unfold putAt at q;cases j with
 |int n=>
  cases en:vt ds.length n with
  |none=>simp only[en]at q;exact q.elim
  |some m=>
   simp only[en]at q;refine⟨p,vs,n,m,rfl,ar.mp rj,e5,by rw[←e6.length];exact en,?_⟩;exact q σ _ Ha (aA.refl _) (h.write e1 e2 (e6.set rp m))
 |_=>exact q.elim
section
variable {i:Nat}{x:Str}{p1 p2:Pos}{k:al}
def HG(hN:X.N[i]?=some x)(hv:A0 X.env.scope x)(he:DE X E e f)(hk:DE X E b k)
  (hd:(x==("__debug__":Str))=false:=by decide)(hcd:(x==("__classdict__":Str))=false:=by decide)
  (ha:∀v,assign (.Subscript (.Name x p1) b p2) X.env v=(do
   let ov ←holding [v] (eval (.Name x p1) X.env)
   let iv ←holding [v,ov] (eval b X.env)
   standAt p2
   holding [v,ov,iv] (setItem ov iv v)
   release [v,ov,iv] []):=by intro _;rfl)
  (hs:swapsWithSole [.Subscript (.Name x p1) b p2] e pos.line X.env=pure false:=by rfl) (hw:swappedStores [.Subscript (.Name x p1) b p2] e X.env=pure none:=by rfl)
  (h1:(assignEach [.Subscript (.Name x p1) b p2] X.env).map (·.2)=[assign (.Subscript (.Name x p1) b p2) X.env]:=by rfl) :
  DS X E He H0e (.Assign [.Subscript (.Name x p1) b p2] e pos) (By i f k):=by
 refine⟨?_⟩;refine bz (BQ he.o (BY (fH hN hv hd hcd) hk.o uG ha) hs hw h1) λD σ H z9=>?_;obtain⟨Ha,ρ,h,q⟩:=z9;refine⟨Ha,ρ,h.g.sub,h.rd,?_⟩
 obtain⟨ds,p,vs,e1,e2,e3,e4,e5,e6,q⟩:=uX h q;refine plain (k:=λd=>(k ρ).bind λj=>putAt ρ i ds d j) h q λd v H1 H01 _ g1 r1 q1=>⟨.ref p,e2,?_⟩
 have h1':=h.grow g1;refine⟨H01,ρ,h1'.g.sub,h1'.rd,plain (k:=λj=>putAt ρ i ds d j) h1' q1 λj u H2 H02 _ g2 r2 q2=>?_⟩;exact BM (h1'.grow g2) e1 e2 (g2.s _ _ (g1.s _ _ e5)) ((e6.mono g1.z).mono g2.z) (r1.mono g2.z) r2 q2
end
noncomputable def bK(tg:Ev->D->ai Ev) (body:am):ac->am
 |[],ρ=>.ok (.nx ρ)
 |d::r,ρ=>(tg ρ d).bind λρ1=>(body ρ1).bind λx=>match x with
  |.nx ρ2=>bK tg body r ρ2
  |.ct ρ2=>bK tg body r ρ2
  |.bk ρ2=>.ok (.nx ρ2)
  |.rt d=>.ok (.rt d)
def tG(K:W.Frag)(He H0e:Hp)(tg:Ev->D->ai Ev):TG:=λv σ H Q=>∃Ha ρ d,cO K He H0e Ha σ H ρ/\Rep K Ha d v/\match tg ρ d with
  |.ok ρ'=>∀σ' H' Ha',aA Ha Ha'->cO K He H0e Ha' σ' H' ρ'->Q σ' H'
  |_=>False
structure DG (X:Cx) (E:XK) (He H0e:Hp) (target:Expr) (tg:Ev->D->ai Ev):Prop where
 o:PG X target (tG X.K He H0e tg)
def bF(i:Nat):Ev->D->ai Ev:=λρ d=>.ok (ρ.set i (.sh d))
def sZ{t t':TG}(h:PG X tgt t)(w:∀v σ H Q,t' v σ H Q->t v σ H Q):PG X tgt t':=λpins s σ H v u Q I r q=>h pins s σ H v u Q I r (w v σ H Q q)
def cf(hN:X.N.Nodup)(hi:X.N[i]?=some x)(hx:A1 X.env.scope x)(hf:X.fn x=true∨X.env.scope.names.lookup x=some .local := by first|exact .inl rfl|exact .inr rfl|assumption):DG X E He H0e (.Name x pos) (bF i) :=
 ⟨sZ (yC hN hi hx hf) λv σ H Q ⟨Ha,ρ,d,h,rp,q⟩=>q _ H Ha (aA.refl _) (h.put rp)⟩
def eK(K:W.Frag)(E:XK)(He H0e Hb:Hp)(tg:Ev->D->ai Ev)(s:am)(ds:ac)(D':jG)(i:Nat)(σ:L2.St)(H:Hp):Prop :=
 ∃Ha ρ,aA Hb Ha/\cO K He H0e Ha σ H ρ/\bL K E He H0e Ha (bK tg s (ds.drop i) ρ) D'
def eK.step{K:W.Frag}(h:eK K E He H0e Hb tg s ds D' i σ H)(hd:ds[i]?=some d)(rv:Rep K Hb d v)
  (he:∀ρ,tg ρ d=.stuck∨∃ρ',tg ρ d=.ok ρ') :
  tG K He H0e tg v σ H λσ2 H2=>tS K E He H0e s { D' with nx:=eK K E He H0e Hb tg s ds D' (i+1),ct:=eK K E He H0e Hb tg s ds D' (i+1),bk:=D'.nx } σ2 H2:=by
 obtain⟨Ha,ρ,z,h,q⟩:=h;have hi:i<ds.length:=(List.getElem?_eq_some_iff.mp hd).1;have hdr:ds.drop i=d::ds.drop (i+1):=by
  rw[List.drop_eq_getElem_cons hi];rw[List.getElem?_eq_getElem hi]at hd;cases hd;rfl
 rw[hdr]at q;refine⟨Ha,ρ,d,h,rv.mono z,?_⟩;unfold bK at q;rcases he ρ with e1|⟨ρ1,e1⟩
 .rw[e1]at q;exact q.elim
 .rw[e1]at q ⊢
  intro σ' H' Ha' z' h';refine⟨Ha',ρ1,h',?_⟩;replace q:=bL.grow (r:=(s ρ1).bind λx=>match x with
   |.nx ρ2=>bK tg s (ds.drop (i+1)) ρ2
   |.ct ρ2=>bK tg s (ds.drop (i+1)) ρ2
   |.bk ρ2=>.ok (.nx ρ2)
   |.rt d=>.ok (.rt d)) q z'
  cases e2:s ρ1 with
  |stuck|exn x=>rw[e2]at q;exact q
  |ok r=>
   rw[e2]at q;cases r with|nx ρ2=>exact λσ3 H3 H03 z3 h3=>⟨H03,ρ2,(z.trans z').trans z3,h3,bL.grow (r:=bK tg s (ds.drop (i+1)) ρ2) q z3⟩|ct ρ2=>exact λσ3 H3 H03 z3 h3=>⟨H03,ρ2,(z.trans z').trans z3,h3,bL.grow (r:=bK tg s (ds.drop (i+1)) ρ2) q z3⟩|bk ρ2|rt d=>exact q
def eK.done{K:W.Frag}(h:eK K E He H0e Hb tg s ds D' ds.length σ H):D'.nx σ H:=by
 obtain⟨Ha,ρ,z,h,q⟩:=h;rw[List.drop_length]at q;unfold bK at q;exact q σ H Ha (aA.refl _) h
def sO(tg:Ev->D->ai Ev):Prop:=∀ρ d,tg ρ d=.stuck∨∃ρ',tg ρ d=.ok ρ'
def cL:sO (bF i):=λρ d=>.inr ⟨_,rfl⟩
def qH(f:al)(tg:Ev->D->ai Ev)(s:am):am:=λρ=>(f ρ).bind λd=>match d with
 |.lst ds=>bK tg s ds ρ
 |_=>.stuck
def pJ(hp:PassesOwn (model X.prog X.w) X.A X.env X.xe)(hc:X.calm=true)(hi:DE X E iter f)(hg:DG X E He H0e tgt tg)(ht:sO tg)(hb:yf X E He H0e body s)
  (hs:∀x,foldedSetIterable iter X.env x=pure x:=by intro _;rfl):DS X E He H0e (.For tgt iter body [] pos) (qH f tg s):=by
 refine⟨?_⟩;refine bz (sX hp hc (yB hi.o) hg.o hb.o hs) λD' σ H z9=>?_;obtain⟨Ha,ρ,h,q⟩:=z9;refine⟨Ha,ρ,h.g.sub,h.rd,?_⟩
 refine plain h q λd v H1 H01 _ g rp q1=>?_;cases d with
 |lst ds=>
  obtain⟨a,vs,rfl,hv,hr⟩:=aE.mp rp;refine⟨a,rfl,⟨vs,aA.sqL g.sub hv⟩,?_⟩;refine CH (K:=X.K) (a:=a) (g:=tG X.K He H0e tg) (tb:=tS X.K E He H0e s) (D:=D') (xs:=vs) (eK X.K E He H0e H01 tg s ds D') ⟨H01,ρ,aA.refl _,h.grow g,q1⟩ ?_ ?_ ?_
  .rintro i σ' H' _ ⟨Ha',ρ',z,h',_⟩
   exact aA.sqL (z.trans h'.g.sub) hv
  .intro i x σ' H' hx hI
   have hil:i<ds.length:=by rw[hr.length];exact(List.getElem?_eq_some_iff.mp hx).1
   obtain⟨u,e1,e2⟩:=hr.get (List.getElem?_eq_getElem hil);rw[hx]at e1;cases e1;exact hI.step (List.getElem?_eq_getElem hil) e2 λρ=>ht ρ _
  .intro σ' H' hI
   rw[←hr.length]at hI;exact hI.done
 |_=>exact q1.elim
def intsFrom(lo:Int)(n:Nat):ac:=(List.range n).map λ(k:Nat)=>D.int (lo+(k:Int))
def nK(f:al)(tg:Ev->D->ai Ev)(s:am):am:=λρ=>(f (gO ρ)).bind λd=>match d with
 |.int j=>if -4611686018427387904<=j/\j<4611686018427387904 then bK tg s (intsFrom 0 j.toNat) ρ else .stuck
 |_=>.stuck
def nq(hp:PassesOwn (model X.prog X.w) X.A X.env X.xe)(hc:X.calm=true)(hgl:Gl X "range")(hm:X.mg "range"=none)(hi:DE X E iter f)(hg:DG X E He H0e tgt tg)(ht:sO tg)(hb:yf X E He H0e body s)
  (hst:starEach [iter] X.env=[(false,eval iter X.env)]:=by exact dF rfl)(hs:∀x,foldedSetIterable (.Call (.Name "range" p) [iter] [] pos2) X.env x=pure x:=by intro _;rfl):DS X E He H0e (.For tgt (.Call (.Name "range" p) [iter] [] pos2) body [] pos) (nK f tg s):=by
 refine⟨?_⟩;refine bz (sX hp hc (lN hgl hm (cx hi.o eW hst) hst) hg.o hb.o hs) λD' σ H ⟨Ha,ρ,h,q⟩=>?_;refine⟨frz He Ha H,gO ρ,h.frz_le,h.looks,look h q λd v H1 J _ g rp q1=>?_⟩;cases d with
 |int j=>
  rw[ar.mp rp];replace q1:bL X.K E He H0e Ha (if -4611686018427387904<=j/\j<4611686018427387904 then bK tg s (intsFrom 0 j.toNat) ρ else .stuck) D':=q1
  by_cases hj:-4611686018427387904<=j/\j<4611686018427387904
  .rw[if_pos hj]at q1
   refine⟨j,rfl,by omega,by omega,?_⟩;have hlen:(intsFrom 0 j.toNat).length=j.toNat:=by unfold intsFrom;simp
   refine AJ (lo:=0) (n:=j.toNat) (g:=tG X.K He H0e tg) (tb:=tS X.K E He H0e s) (D:=D') (eK X.K E He H0e Ha tg s (intsFrom 0 j.toNat) D') ⟨Ha,ρ,aA.refl _,h.same g.s,q1⟩ ?_ ?_
   .intro i σ' H' hlt hI
    refine hI.step (d:=.int (0+i)) ?_ (ar.mpr rfl) λρ=>ht ρ _;unfold intsFrom;simp[hlt]
   .intro σ' H' hI
    exact eK.done (ds:=intsFrom 0 j.toNat) (by rw[hlen];exact hI)
  .rw[if_neg hj]at q1;exact q1.elim
 |_=>exact q1.elim
noncomputable def b6(c:al) (s:am):Nat->am
 |0,_=>.stuck
 |n+1,ρ=>(c (gO ρ)).bind λx=>match x with
  |.bl b=>if b=true then(s ρ).bind λx=>match x with
    |.nx ρ2=>b6 c s n ρ2
    |.ct ρ2=>b6 c s n ρ2
    |.bk ρ2=>.ok (.nx ρ2)
    |.rt d=>.ok (.rt d)
   else .ok (.nx ρ)
  |_=>.stuck
def gq(fuel:Ev->Nat)(c:al)(s:am):am:=λρ=>b6 c s (fuel ρ) ρ
def pH(fuel:Ev->Nat)(hp:PassesOwn (model X.prog X.w) X.A X.env X.xe)(hc:DT X E c fc)(hb:yf X E He H0e body s):DS X E He H0e (.While c body [] pos) (gq fuel fc s):=by
 refine⟨?_⟩;refine bz (BO hp hc.o hb.o) λD' σ H ⟨Ha,ρ,h,q⟩=>?_;refine⟨λm σ H=>∃Ha ρ,cO X.K He H0e Ha σ H ρ/\bL X.K E He H0e Ha (b6 fc s m ρ) D',⟨fuel ρ,Ha,ρ,h,q⟩,?_⟩;rintro m σ1 H1 ⟨H01,ρ1,h1,q1⟩;cases m with
 |zero=>exact q1.elim
 |succ m=>
  refine⟨frz He H01 H1,gO ρ1,h1.frz_le,h1.looks,?_⟩;unfold b6 at q1;refine FL (k:=λb=>if b=true then(s ρ1).bind λx=>match x with
    |.nx ρ2=>b6 fc s m ρ2
    |.ct ρ2=>b6 fc s m ρ2
    |.bk ρ2=>.ok (.nx ρ2)
    |.rt d=>.ok (.rt d)
   else .ok (.nx ρ1)) h1 q1 λb H2 hs q2=>?_
  cases b with
  |false=>
   rw[if_neg Bool.false_ne_true]at q2 ⊢;exact q2 σ1 H2 H01 (aA.refl _) (h1.same hs)
  |true=>
   rw[if_pos rfl]at q2 ⊢;refine⟨λσ' H'=>∃m',m' < m+1/\∃Ha ρ,cO X.K He H0e Ha σ' H' ρ/\bL X.K E He H0e Ha (b6 fc s m' ρ) D',λσ' H' z=>z,H01,ρ1,h1.same hs,?_⟩;cases e2:s ρ1 with
   |stuck|exn x=>rw[e2]at q2;exact q2
   |ok r=>
    rw[e2]at q2;cases r with|nx ρ2=>exact λσ3 H3 H03 z3 h3=>⟨m,Nat.lt_succ_self _,H03,ρ2,h3,bL.grow (r:=b6 fc s m ρ2) q2 z3⟩|ct ρ2=>exact λσ3 H3 H03 z3 h3=>⟨m,Nat.lt_succ_self _,H03,ρ2,h3,bL.grow (r:=b6 fc s m ρ2) q2 z3⟩|bk ρ2|rt d=>exact q2
end
def ck(n:Nat)(s:am)(ds:ac):ai D:=(s (ds.map Sl.sh++List.replicate (n-ds.length) .no)).bind λr=>match r with
 |.nx _=>.ok .non
 |.rt d=>.ok d
 |_=>.stuck
def md{K:W.Frag}(h:Reps K Ha ds vs):Reads K Ha (start N vs) (ds.map Sl.sh++List.replicate (N.length-ds.length) .no):=by
 intro i d e;have hl:=h.length
 by_cases hi:i<ds.length
 .rw[List.getElem?_append_left (by simpa using hi),List.getElem?_map]at e
  cases q:ds[i]? with
  |none=>rw[q]at e;cases e
  |some d'=>
   rw[q]at e;cases e;obtain⟨v,h1,h2⟩:=h.get q;refine⟨v,?_,h2⟩;unfold L2.start;rw[List.getElem?_append_left (by simp;omega),List.getElem?_map,h1];rfl
 .rw[List.getElem?_append_right (by simpa using hi),List.getElem?_replicate]at e
  split at e<;>cases e
def qY{ds:ac}(i j:Nat)(es:ac):(ds.map Sl.sh++List.replicate n Sl.no)[i]?≠some (.ox j es):=λe=>by
 have:=List.mem_of_getElem? e;rw[List.mem_append]at this;rcases this with h|h
 .obtain⟨_,_,h⟩:=List.mem_map.mp h;cases h
 .have:=List.eq_of_mem_replicate h;cases this
def nG{ds:ac}{σ:L2.St}(i:Nat)(a:Addr)(e:(ds.map Sl.sh++List.replicate n Sl.no)[i]?=some (.pt a)):σ[i]?=some (some (.ref a)):=by
 have:=List.mem_of_getElem? e;rw[List.mem_append]at this;rcases this with h|h
 .obtain⟨_,_,h⟩:=List.mem_map.mp h;cases h
 .have:=List.eq_of_mem_replicate h;cases this
def AK{K:W.Frag}{st:Stmt}{N ps:List Str}{k:Nat}(F:DJ K x qual st f fd)(S:eP N ps (defScope st))
  (hbody:∀(cdv:Value) (A:Around) (outer:List PySem.Env) (s0:Shared) (H Ha:Hp) (E:XK),cB k (A.deeper (envOfC qual (defScope st) s0.heap.objs.size f cdv)) ->
   yf (ll CX0 P w K mg base N qual (defScope st) f cdv A outer s0 H E).nox E H Ha (defBody st) s):fM P w K mg base CX0 (k+1) f fd ps (spD K ps.length (ck N.length s)):=by
 have hpl:ps.length<=N.length:=by have:=congrArg List.length S.pre;rw[List.length_take]at this;omega
 refine F.ok S (λvs H Q E h=>h.1) λcdv A outer s0 H vs Q E hr h=>?_;obtain⟨hn,Ha,ds,hs,hv,q⟩:=h;refine⟨_,(hbody cdv A outer s0 H Ha E hr).o,Ha,ds.map Sl.sh++List.replicate (N.length-ds.length) .no,?_,?_⟩
 .refine⟨aS.refl hs,md hv,λi d e=>?_,λi j d d' hij e=>?_,?_,OX.none qY nG⟩
  .by_cases hi:i<ds.length
   .rw[List.getElem?_append_left (by simpa using hi),List.getElem?_map]at e
    cases q:ds[i]? with|none|some d'=>rw[q]at e;cases e
   .rw[List.getElem?_append_right (by simpa using hi),List.getElem?_replicate]at e
    split at e<;>cases e
  .by_cases hi:i<ds.length
   .rw[List.getElem?_append_left (by simpa using hi),List.getElem?_map]at e
    cases q:ds[i]? with|none|some d'=>rw[q]at e;cases e
   .rw[List.getElem?_append_right (by simpa using hi),List.getElem?_replicate]at e
    split at e<;>cases e
  .unfold L2.start
   have:=hv.length;simp only[List.length_append,List.length_map,List.length_replicate];omega
 .unfold ck at q
  cases e1:s (ds.map Sl.sh++List.replicate (N.length-ds.length) .no) with
  |stuck|exn x=>rw[e1]at q;exact q
  |ok r=>
   rw[e1]at q;cases r with|nx ρ'=>exact λσ' H' Ha' _ h'=>q .non H' Ha' h'.g (aL.mpr rfl)|rt d=>exact λv H' Ha' g rp=>q v H' Ha' g rp|bk ρ'|ct ρ'=>exact q.elim
mutual
def cn:D->D->Bool
 |.non,.non=>true
 |.bl a,.bl b=>a==b
 |.bl a,.int b=>(if a then 1 else 0)==b
 |.int a,.bl b=>a==(if b then 1 else 0)
 |.int a,.int b=>a==b
 |.str a,.str b=>a==b
 |.tup xs,.tup ys=>eqDs xs ys
 |.lst xs,.lst ys=>eqDs xs ys
 |_,_=>false
def eqDs:ac->ac->Bool
 |[],[]=>true
 |x::xs,y::ys=>cn x y&&eqDs xs ys
 |_,_=>false
end
def aY:Nat->D->Bool
 |_,.non=>true
 |_,.bl _=>true
 |_,.int _=>true
 |_,.str _=>true
 |n+1,.tup ds=>ds.all (aY n)
 |n+1,.lst ds=>ds.all (aY n)
 |_,_=>false
def rN(h:∀d∈ds,cn d d=true):eqDs ds ds=true:=by
 induction ds with
 |nil=>simp[eqDs]
 |cons d r ih=>
  unfold eqDs;rw[h d List.mem_cons_self,ih λx hx=>h x (List.mem_cons_of_mem _ hx)];rfl
theorem kU:∀(n:Nat) (d:D),aY n d=true->cn d d=true
 |_,.non,_=>by simp[cn]
 |_,.bl b,_=>by simp[cn]
 |_,.int b,_=>by simp[cn]
 |_,.str b,_=>by simp[cn]
 |n+1,.tup ds,h=>by
  unfold aY at h;unfold cn;exact rN λd hd=>kU n d (List.all_eq_true.mp h d hd)
 |n+1,.lst ds,h=>by
  unfold aY at h;unfold cn;exact rN λd hd=>kU n d (List.all_eq_true.mp h d hd)
 |0,.tup ds,h=>by unfold aY at h;cases h
 |0,.lst ds,h=>by unfold aY at h;cases h
 |0,.dic ks ds,h=>by unfold aY at h;cases h
 |n+1,.dic ks ds,h=>by unfold aY at h;cases h
 |0,.exc x,h=>by unfold aY at h;cases h
 |0,.ob k x,h=>by unfold aY at h;cases h
 |n+1,.ob k x,h=>by unfold aY at h;cases h
 |n+1,.exc x,h=>by unfold aY at h;cases h
def E3:cn (.tup xs) (.tup ys)=eqDs xs ys:=by rw[cn]
def nh:cn (.lst xs) (.lst ys)=eqDs xs ys:=by rw[cn]
theorem jt:∀(xs ys:ac),xs.length=ys.length->eqDs xs ys=(List.range xs.length).all λj=>cn (xs.getD j .non) (ys.getD j .non)
 |[],[],_=>by simp[eqDs]
 |x::xs,y::ys,h=>by
  have ih:=jt xs ys (by simpa using h);unfold eqDs;rw[ih,List.length_cons,List.range_succ_eq_map,List.all_cons,List.all_map];rfl
 |[],_::_,h=>by simp at h
 |_::_,[],h=>by simp at h
theorem ix:∀(xs ys:ac),xs.length≠ys.length->eqDs xs ys=false
 |[],[],h=>absurd rfl h
 |x::xs,y::ys,h=>by
  unfold eqDs;rw[ix xs ys (by simpa using h),Bool.and_false]
 |[],_::_,h=>by simp[eqDs]
 |_::_,[],h=>by simp[eqDs]
section
variable {X:Cx}{pins:List (Addr×Obj)}{σ:L2.St}{H:Hp}{s:Shared}
def aU(I:Inv X pins σ H s)(r:Rep X.K H (.tup ds) v)(rv:bb v u):∃a vs its,v=.ref a/\u=.ref a/\i4 X.K H a vs/\Reps X.K H ds vs/\ba vs its/\IsTup s.heap a its.toArray/\ds.length=its.length:=by
 obtain⟨a,vs,rfl,h1,h2⟩:=aI.mp r;obtain rfl:u=Value.ref a:=rv;obtain⟨its,h3,h4,_⟩:=I.tuple h1;exact⟨a,vs,its,rfl,rfl,h1,h2,h3,h4,h2.length.trans h3.length⟩
def aT(I:Inv X pins σ H s)(r:Rep X.K H (.lst ds) v)(rv:bb v u):∃a vs its,v=.ref a/\u=.ref a/\d9 X.K H a vs/\Reps X.K H ds vs/\ba vs its/\s.heap.IsList a its.toArray/\ds.length=its.length:=by
 obtain⟨a,vs,rfl,h1,h2⟩:=aE.mp r;obtain rfl:u=Value.ref a:=rv;obtain⟨its,h3,h4,_⟩:=I.list h1;exact⟨a,vs,its,rfl,rfl,h1,h2,h3,h4.isList,h2.length.trans h3.length⟩
theorem nM{n:Nat}(ih:∀(d d':D) (v:V),aY n d=true->aY n d'=true->Rep X.K H d v->Rep X.K H d' v->d=d'):∀(ds ds':ac) (vs:ad),ds.all (aY n)=true->ds'.all (aY n)=true->Reps X.K H ds vs->Reps X.K H ds' vs->ds=ds'
 |[],ds',vs,_,_,h,h'=>by
  rw[Reps.nil_iff.mp h]at h';cases ds' with|nil=>rfl|cons d r=>obtain⟨_,_,e,_⟩:=aB.mp h';cases e
 |d::ds,ds',vs,a,a',h,h'=>by
  obtain⟨v,r,rfl,h1,h2⟩:=aB.mp h;cases ds' with
  |nil=>cases Reps.nil_iff.mp h'
  |cons d' ds'=>
   obtain⟨v',r',e,h1',h2'⟩:=aB.mp h';cases e;rw[List.all_cons,Bool.and_eq_true]at a a';rw[ih d d' v a.1 a'.1 h1 h1',nM ih ds ds' r a.2 a'.2 h2 h2']
def Rep.inj(I:Inv X pins σ H s):∀(n:Nat) (d d':D) (v:V),aY n d=true->aY n d'=true->Rep X.K H d v->Rep X.K H d' v->d=d':=by
 have atom:∀(n:Nat) (d d':D) (v:V),(∀ds,d≠.tup ds)->(∀ds,d≠.lst ds)->aY n d=true->aY n d'=true->Rep X.K H d v->Rep X.K H d' v->d=d':=by
  intro n d d' v n1 n2 s1 s2 h h';have nd:∀m ks ds,aY m (.dic ks ds)=true->False:=λm ks ds h=>by cases m<;>(unfold aY at h;cases h)
  have nx:∀m x,aY m (.exc x)=true->False:=λm x h=>by cases m<;>(unfold aY at h;cases h)
  have nb:∀m k x,aY m (.ob k x)=true->False:=λm k x h=>by cases m<;>(unfold aY at h;cases h)
  cases d with
  |tup ds=>exact absurd rfl (n1 ds)|lst ds=>exact absurd rfl (n2 ds)|dic ks ds=>exact(nd _ _ _ s1).elim|exc x=>exact(nx _ _ s1).elim|ob k x=>exact(nb _ _ _ s1).elim
  |non=>
   rw[aL.mp h]at h';cases d' with|non=>rfl|bl b=>cases aH.mp h'|int b=>cases ar.mp h'|str b=>cases Rep.str_iff.mp h'|tup ds=>obtain⟨_,_,e,_⟩:=aI.mp h';cases e|lst ds=>obtain⟨_,_,e,_⟩:=aE.mp h';cases e|dic ks ds=>exact(nd _ _ _ s2).elim|exc x=>exact(nx _ _ s2).elim|ob k x=>exact(nb _ _ _ s2).elim
  |bl x=>
   rw[aH.mp h]at h';cases d' with|non=>cases aL.mp h'|bl b=>cases aH.mp h';rfl|int b=>cases ar.mp h'|str b=>cases Rep.str_iff.mp h'|tup ds=>obtain⟨_,_,e,_⟩:=aI.mp h';cases e|lst ds=>obtain⟨_,_,e,_⟩:=aE.mp h';cases e|dic ks ds=>exact(nd _ _ _ s2).elim|exc x=>exact(nx _ _ s2).elim|ob k x=>exact(nb _ _ _ s2).elim
  |int x=>
   rw[ar.mp h]at h';cases d' with|non=>cases aL.mp h'|bl b=>cases aH.mp h'|int b=>cases ar.mp h';rfl|str b=>cases Rep.str_iff.mp h'|tup ds=>obtain⟨_,_,e,_⟩:=aI.mp h';cases e|lst ds=>obtain⟨_,_,e,_⟩:=aE.mp h';cases e|dic ks ds=>exact(nd _ _ _ s2).elim|exc x=>exact(nx _ _ s2).elim|ob k x=>exact(nb _ _ _ s2).elim
  |str x=>
   rw[Rep.str_iff.mp h]at h';cases d' with|non=>cases aL.mp h'|bl b=>cases aH.mp h'|int b=>cases ar.mp h'|str b=>cases Rep.str_iff.mp h';rfl|tup ds=>obtain⟨_,_,e,_⟩:=aI.mp h';cases e|lst ds=>obtain⟨_,_,e,_⟩:=aE.mp h';cases e|dic ks ds=>exact(nd _ _ _ s2).elim|exc x=>exact(nx _ _ s2).elim|ob k x=>exact(nb _ _ _ s2).elim
 intro n
 induction n with
 |zero=>
  intro d d' v s1 s2 h h';exact atom 0 d d' v (λds e=>by subst e;unfold aY at s1;cases s1) (λds e=>by subst e;unfold aY at s1;cases s1) s1 s2 h h'
 |succ n ih=>
  intro d d' v s1 s2 h h'
  by_cases t1:∃ds,d=.tup ds
  .obtain⟨ds,rfl⟩:=t1
   by_cases t2:∃ds',d'=.tup ds'
   .obtain⟨ds',rfl⟩:=t2
    obtain⟨a,vs,rfl,h1,h2⟩:=aI.mp h;obtain⟨a',vs',e,h1',h2'⟩:=aI.mp h';cases e;rw[I.tuple_inj h1' h1]at h2';unfold aY at s1 s2;rw[nM ih ds ds' vs s1 s2 h2 h2']
   .by_cases t3:∃ds',d'=.lst ds'
    .obtain⟨ds',rfl⟩:=t3
     obtain⟨a0,_,ev,_,_⟩:=aI.mp h;subst ev;obtain⟨a,vs,its,ea,_,h1,h2,h3,h4,_⟩:=aU I h rfl;cases ea;obtain⟨a',vs',its',e,_,h1',h2',h3',h4',_⟩:=aT I h' rfl;cases e;exact absurd rfl (SeqAt.ne_of_list_tuple h4' h4)
    .exact(atom (n+1) d' _ v (λds e=>t2 ⟨ds,e⟩) (λds e=>t3 ⟨ds,e⟩) s2 s1 h' h).symm
  .by_cases t1':∃ds,d=.lst ds
   .obtain⟨ds,rfl⟩:=t1'
    by_cases t2:∃ds',d'=.lst ds'
    .obtain⟨ds',rfl⟩:=t2
     obtain⟨a,vs,rfl,h1,h2⟩:=aE.mp h;obtain⟨a',vs',e,h1',h2'⟩:=aE.mp h';cases e;rw[I.list_inj h1' h1]at h2';unfold aY at s1 s2;rw[nM ih ds ds' vs s1 s2 h2 h2']
    .by_cases t3:∃ds',d'=.tup ds'
     .obtain⟨ds',rfl⟩:=t3
      obtain⟨a0,_,ev,_,_⟩:=aE.mp h;subst ev;obtain⟨a,vs,its,ea,_,h1,h2,h3,h4,_⟩:=aT I h rfl;cases ea;obtain⟨a',vs',its',e,_,h1',h2',h3',h4',_⟩:=aU I h' rfl;cases e;exact absurd rfl (SeqAt.ne_of_list_tuple h4 h4')
     .exact(atom (n+1) d' _ v (λds e=>t3 ⟨ds,e⟩) (λds e=>t2 ⟨ds,e⟩) s2 s1 h' h).symm
   .exact atom (n+1) d d' v (λds e=>t1 ⟨ds,e⟩) (λds e=>t1' ⟨ds,e⟩) s1 s2 h h'
def vv{A:Around} 
  (ih:∀(x y:D) (v u:V) (a b:Value),aY n x=true->aY n y=true->Rep X.K H x v->Rep X.K H y u->bb v a->bb u b->SeqAt.EqAt A.in1 s a b (cn x y))
  (sx:xs.all (aY n)=true)(sy:ys.all (aY n)=true)(rx:Reps X.K H xs vs)(ry:Reps X.K H ys us)(qx:ba vs is)(qy:ba us js) :
  ∀j (h1:j<is.toArray.size) (h2:j<js.toArray.size),SeqAt.EqAt A.in1 s is.toArray[j] js.toArray[j] (cn (xs.getD j .non) (ys.getD j .non)):=by
 intro j h1 h2;have lx:=rx.length;have ly:=ry.length;have kx:=qx.length;have ky:=qy.length;have h1':j<is.length:=by simpa using h1
 have h2':j<js.length:=by simpa using h2
 have hx:j<xs.length:=by omega
 have hy:j<ys.length:=by omega
 obtain⟨v,e1,r1⟩:=rx.get (List.getElem?_eq_getElem hx);obtain⟨u,e2,r2⟩:=ry.get (List.getElem?_eq_getElem hy);obtain⟨a,e3,r3⟩:=qx.get e1;obtain⟨b,e4,r4⟩:=qy.get e2;have ea:is.toArray[j]=a:=by
  rw[List.getElem?_eq_getElem h1']at e3;simpa using Option.some.inj e3
 have eb:js.toArray[j]=b:=by
  rw[List.getElem?_eq_getElem h2']at e4;simpa using Option.some.inj e4
 rw[ea,eb];have gx:xs.getD j .non=xs[j]:=by simp[List.getD,List.getElem?_eq_getElem hx]
 have gy:ys.getD j .non=ys[j]:=by simp[List.getD,List.getElem?_eq_getElem hy]
 rw[gx,gy];exact ih _ _ v u a b (List.all_eq_true.mp sx _ (List.getElem_mem hx)) (List.all_eq_true.mp sy _ (List.getElem_mem hy)) r1 r2 r3 r4
def uN(I:Inv X pins σ H s)(hu:A.units<cLine)(rx:Rep X.K H x v)(ry:Rep X.K H y u)(qx:bb v a)(qy:bb u b)
  (n1:∀ds ds',¬(x=.lst ds/\y=.lst ds'))(n2:∀ds ds',¬(x=.tup ds/\y=.tup ds'))(d1:∀ks ds,x≠.dic ks ds)(d2:∀ks ds,y≠.dic ks ds)(x1:∀c,x≠.exc c)(x2:∀c,y≠.exc c)(o1:∀k c,x≠.ob k c)(o2:∀k c,y≠.ob k c) :
  SeqAt.RcAt A s a b (cn x y)/\SeqAt.EqAt A s a b (cn x y)/\SeqAt.RcNeAt A s a b (!(cn x y)):=by
 cases x with
 |non=>
  cases y with
  |non=>
   obtain rfl:=aL.mp rx;obtain rfl:a=Value.none:=qx;obtain rfl:=aL.mp ry;obtain rfl:b=Value.none:=qy;unfold cn;exact⟨SeqAt.RcAt.none_none ,SeqAt.EqAt.same _,SeqAt.RcNeAt.none_none ⟩
  |bl y=>
   obtain rfl:=aL.mp rx;obtain rfl:a=Value.none:=qx;obtain rfl:=aH.mp ry;obtain rfl:b=Value.bool _:=qy;unfold cn;exact⟨SeqAt.RcAt.none_bool _,SeqAt.EqAt.none_bool _,SeqAt.RcNeAt.none_bool _⟩
  |int y=>
   obtain rfl:=aL.mp rx;obtain rfl:a=Value.none:=qx;obtain rfl:=ar.mp ry;obtain⟨ty,rfl⟩:∃t,b=Value.int _ t:=qy;unfold cn;exact⟨SeqAt.RcAt.none_int _ _,SeqAt.EqAt.none_int _ _,SeqAt.RcNeAt.none_int _ _⟩
  |str y=>
   obtain rfl:=aL.mp rx;obtain rfl:a=Value.none:=qx;obtain rfl:=Rep.str_iff.mp ry;obtain⟨ty,rfl⟩:∃t,b=Value.str _ t:=qy;unfold cn;exact⟨SeqAt.RcAt.none_str _ _,SeqAt.EqAt.none_str _ _,SeqAt.RcNeAt.none_str _ _⟩
  |lst y=>
   obtain rfl:=aL.mp rx;obtain rfl:a=Value.none:=qx;obtain⟨ly,_,_,rfl,rfl,_,_,_,hy,_⟩:=aT I ry qy;unfold cn;exact⟨SeqAt.RcAt.none_list  hy hu,SeqAt.EqAt.none_list  hy hu,SeqAt.RcNeAt.none_list  hy hu⟩
  |tup y=>
   obtain rfl:=aL.mp rx;obtain rfl:a=Value.none:=qx;obtain⟨ly,_,_,rfl,rfl,_,_,_,hy,_⟩:=aU I ry qy;unfold cn;exact⟨SeqAt.RcAt.none_tuple  hy hu,SeqAt.EqAt.none_tuple  hy hu,SeqAt.RcNeAt.none_tuple  hy hu⟩
  |dic ks ds=>exact absurd rfl (d2 ks ds)|exc c=>exact absurd rfl (x2 c)|ob k c=>exact absurd rfl (o2 k c)
 |bl x=>
  cases y with
  |non=>
   obtain rfl:=aH.mp rx;obtain rfl:a=Value.bool _:=qx;obtain rfl:=aL.mp ry;obtain rfl:b=Value.none:=qy;unfold cn;exact⟨SeqAt.RcAt.bool_none _,SeqAt.EqAt.bool_none _,SeqAt.RcNeAt.bool_none _⟩
  |bl y=>
   obtain rfl:=aH.mp rx;obtain rfl:a=Value.bool _:=qx;obtain rfl:=aH.mp ry;obtain rfl:b=Value.bool _:=qy;unfold cn;exact⟨SeqAt.RcAt.bool_bool _ _,SeqAt.EqAt.bool_bool _ _,SeqAt.RcNeAt.bool_bool _ _⟩
  |int y=>
   obtain rfl:=aH.mp rx;obtain rfl:a=Value.bool _:=qx;obtain rfl:=ar.mp ry;obtain⟨ty,rfl⟩:∃t,b=Value.int _ t:=qy;unfold cn;exact⟨SeqAt.RcAt.bool_int _ _ _,SeqAt.EqAt.bool_int _ _ _,SeqAt.RcNeAt.bool_int _ _ _⟩
  |str y=>
   obtain rfl:=aH.mp rx;obtain rfl:a=Value.bool _:=qx;obtain rfl:=Rep.str_iff.mp ry;obtain⟨ty,rfl⟩:∃t,b=Value.str _ t:=qy;unfold cn;exact⟨SeqAt.RcAt.bool_str _ _ _,SeqAt.EqAt.bool_str _ _ _,SeqAt.RcNeAt.bool_str _ _ _⟩
  |lst y=>
   obtain rfl:=aH.mp rx;obtain rfl:a=Value.bool _:=qx;obtain⟨ly,_,_,rfl,rfl,_,_,_,hy,_⟩:=aT I ry qy;unfold cn;exact⟨SeqAt.RcAt.bool_list _ hy hu,SeqAt.EqAt.bool_list _ hy hu,SeqAt.RcNeAt.bool_list _ hy hu⟩
  |tup y=>
   obtain rfl:=aH.mp rx;obtain rfl:a=Value.bool _:=qx;obtain⟨ly,_,_,rfl,rfl,_,_,_,hy,_⟩:=aU I ry qy;unfold cn;exact⟨SeqAt.RcAt.bool_tuple _ hy hu,SeqAt.EqAt.bool_tuple _ hy hu,SeqAt.RcNeAt.bool_tuple _ hy hu⟩
  |dic ks ds=>exact absurd rfl (d2 ks ds)|exc c=>exact absurd rfl (x2 c)|ob k c=>exact absurd rfl (o2 k c)
 |int x=>
  cases y with
  |non=>
   obtain rfl:=ar.mp rx;obtain⟨tx,rfl⟩:∃t,a=Value.int _ t:=qx;obtain rfl:=aL.mp ry;obtain rfl:b=Value.none:=qy;unfold cn;exact⟨SeqAt.RcAt.int_none _ _,SeqAt.EqAt.int_none _ _,SeqAt.RcNeAt.int_none _ _⟩
  |bl y=>
   obtain rfl:=ar.mp rx;obtain⟨tx,rfl⟩:∃t,a=Value.int _ t:=qx;obtain rfl:=aH.mp ry;obtain rfl:b=Value.bool _:=qy;unfold cn;exact⟨SeqAt.RcAt.int_bool _ _ _,SeqAt.EqAt.int_bool _ _ _,SeqAt.RcNeAt.int_bool _ _ _⟩
  |int y=>
   obtain rfl:=ar.mp rx;obtain⟨tx,rfl⟩:∃t,a=Value.int _ t:=qx;obtain rfl:=ar.mp ry;obtain⟨ty,rfl⟩:∃t,b=Value.int _ t:=qy;unfold cn;exact⟨SeqAt.RcAt.int_int _ _ _ _,SeqAt.EqAt.int_int _ _ _ _,SeqAt.RcNeAt.int_int _ _ _ _⟩
  |str y=>
   obtain rfl:=ar.mp rx;obtain⟨tx,rfl⟩:∃t,a=Value.int _ t:=qx;obtain rfl:=Rep.str_iff.mp ry;obtain⟨ty,rfl⟩:∃t,b=Value.str _ t:=qy;unfold cn;exact⟨SeqAt.RcAt.int_str _ _ _ _,SeqAt.EqAt.int_str _ _ _ _,SeqAt.RcNeAt.int_str _ _ _ _⟩
  |lst y=>
   obtain rfl:=ar.mp rx;obtain⟨tx,rfl⟩:∃t,a=Value.int _ t:=qx;obtain⟨ly,_,_,rfl,rfl,_,_,_,hy,_⟩:=aT I ry qy;unfold cn;exact⟨SeqAt.RcAt.int_list _ _ hy hu,SeqAt.EqAt.int_list _ _ hy hu,SeqAt.RcNeAt.int_list _ _ hy hu⟩
  |tup y=>
   obtain rfl:=ar.mp rx;obtain⟨tx,rfl⟩:∃t,a=Value.int _ t:=qx;obtain⟨ly,_,_,rfl,rfl,_,_,_,hy,_⟩:=aU I ry qy;unfold cn;exact⟨SeqAt.RcAt.int_tuple _ _ hy hu,SeqAt.EqAt.int_tuple _ _ hy hu,SeqAt.RcNeAt.int_tuple _ _ hy hu⟩
  |dic ks ds=>exact absurd rfl (d2 ks ds)|exc c=>exact absurd rfl (x2 c)|ob k c=>exact absurd rfl (o2 k c)
 |str x=>
  cases y with
  |non=>
   obtain rfl:=Rep.str_iff.mp rx;obtain⟨tx,rfl⟩:∃t,a=Value.str _ t:=qx;obtain rfl:=aL.mp ry;obtain rfl:b=Value.none:=qy;unfold cn;exact⟨SeqAt.RcAt.str_none _ _,SeqAt.EqAt.str_none _ _,SeqAt.RcNeAt.str_none _ _⟩
  |bl y=>
   obtain rfl:=Rep.str_iff.mp rx;obtain⟨tx,rfl⟩:∃t,a=Value.str _ t:=qx;obtain rfl:=aH.mp ry;obtain rfl:b=Value.bool _:=qy;unfold cn;exact⟨SeqAt.RcAt.str_bool _ _ _,SeqAt.EqAt.str_bool _ _ _,SeqAt.RcNeAt.str_bool _ _ _⟩
  |int y=>
   obtain rfl:=Rep.str_iff.mp rx;obtain⟨tx,rfl⟩:∃t,a=Value.str _ t:=qx;obtain rfl:=ar.mp ry;obtain⟨ty,rfl⟩:∃t,b=Value.int _ t:=qy;unfold cn;exact⟨SeqAt.RcAt.str_int _ _ _ _,SeqAt.EqAt.str_int _ _ _ _,SeqAt.RcNeAt.str_int _ _ _ _⟩
  |str y=>
   obtain rfl:=Rep.str_iff.mp rx;obtain⟨tx,rfl⟩:∃t,a=Value.str _ t:=qx;obtain rfl:=Rep.str_iff.mp ry;obtain⟨ty,rfl⟩:∃t,b=Value.str _ t:=qy;unfold cn;exact⟨SeqAt.RcAt.str_str _ _ _ _,SeqAt.EqAt.str_str _ _ _ _,SeqAt.RcNeAt.str_str _ _ _ _⟩
  |lst y=>
   obtain rfl:=Rep.str_iff.mp rx;obtain⟨tx,rfl⟩:∃t,a=Value.str _ t:=qx;obtain⟨ly,_,_,rfl,rfl,_,_,_,hy,_⟩:=aT I ry qy;unfold cn;exact⟨SeqAt.RcAt.str_list _ _ hy hu,SeqAt.EqAt.str_list _ _ hy hu,SeqAt.RcNeAt.str_list _ _ hy hu⟩
  |tup y=>
   obtain rfl:=Rep.str_iff.mp rx;obtain⟨tx,rfl⟩:∃t,a=Value.str _ t:=qx;obtain⟨ly,_,_,rfl,rfl,_,_,_,hy,_⟩:=aU I ry qy;unfold cn;exact⟨SeqAt.RcAt.str_tuple _ _ hy hu,SeqAt.EqAt.str_tuple _ _ hy hu,SeqAt.RcNeAt.str_tuple _ _ hy hu⟩
  |dic ks ds=>exact absurd rfl (d2 ks ds)|exc c=>exact absurd rfl (x2 c)|ob k c=>exact absurd rfl (o2 k c)
 |lst x=>
  cases y with
  |non=>
   obtain⟨lx,_,_,rfl,rfl,_,_,_,hx,_⟩:=aT I rx qx;obtain rfl:=aL.mp ry;obtain rfl:b=Value.none:=qy;unfold cn;exact⟨SeqAt.RcAt.list_none  hx hu,SeqAt.EqAt.list_none  hx hu,SeqAt.RcNeAt.list_none  hx hu⟩
  |bl y=>
   obtain⟨lx,_,_,rfl,rfl,_,_,_,hx,_⟩:=aT I rx qx;obtain rfl:=aH.mp ry;obtain rfl:b=Value.bool _:=qy;unfold cn;exact⟨SeqAt.RcAt.list_bool _ hx hu,SeqAt.EqAt.list_bool _ hx hu,SeqAt.RcNeAt.list_bool _ hx hu⟩
  |int y=>
   obtain⟨lx,_,_,rfl,rfl,_,_,_,hx,_⟩:=aT I rx qx;obtain rfl:=ar.mp ry;obtain⟨ty,rfl⟩:∃t,b=Value.int _ t:=qy;unfold cn;exact⟨SeqAt.RcAt.list_int _ _ hx hu,SeqAt.EqAt.list_int _ _ hx hu,SeqAt.RcNeAt.list_int _ _ hx hu⟩
  |str y=>
   obtain⟨lx,_,_,rfl,rfl,_,_,_,hx,_⟩:=aT I rx qx;obtain rfl:=Rep.str_iff.mp ry;obtain⟨ty,rfl⟩:∃t,b=Value.str _ t:=qy;unfold cn;exact⟨SeqAt.RcAt.list_str _ _ hx hu,SeqAt.EqAt.list_str _ _ hx hu,SeqAt.RcNeAt.list_str _ _ hx hu⟩
  |lst y=>
   exact absurd ⟨rfl,rfl⟩ (n1 x y)
  |tup y=>
   obtain⟨lx,_,_,rfl,rfl,_,_,_,hx,_⟩:=aT I rx qx;obtain⟨ly,_,_,rfl,rfl,_,_,_,hy,_⟩:=aU I ry qy;unfold cn;exact⟨SeqAt.RcAt.list_tuple  hx hy hu,SeqAt.EqAt.list_tuple  hx hy hu,SeqAt.RcNeAt.list_tuple  hx hy hu⟩
  |dic ks ds=>exact absurd rfl (d2 ks ds)|exc c=>exact absurd rfl (x2 c)|ob k c=>exact absurd rfl (o2 k c)
 |tup x=>
  cases y with
  |non=>
   obtain⟨lx,_,_,rfl,rfl,_,_,_,hx,_⟩:=aU I rx qx;obtain rfl:=aL.mp ry;obtain rfl:b=Value.none:=qy;unfold cn;exact⟨SeqAt.RcAt.tuple_none  hx hu,SeqAt.EqAt.tuple_none  hx hu,SeqAt.RcNeAt.tuple_none  hx hu⟩
  |bl y=>
   obtain⟨lx,_,_,rfl,rfl,_,_,_,hx,_⟩:=aU I rx qx;obtain rfl:=aH.mp ry;obtain rfl:b=Value.bool _:=qy;unfold cn;exact⟨SeqAt.RcAt.tuple_bool _ hx hu,SeqAt.EqAt.tuple_bool _ hx hu,SeqAt.RcNeAt.tuple_bool _ hx hu⟩
  |int y=>
   obtain⟨lx,_,_,rfl,rfl,_,_,_,hx,_⟩:=aU I rx qx;obtain rfl:=ar.mp ry;obtain⟨ty,rfl⟩:∃t,b=Value.int _ t:=qy;unfold cn;exact⟨SeqAt.RcAt.tuple_int _ _ hx hu,SeqAt.EqAt.tuple_int _ _ hx hu,SeqAt.RcNeAt.tuple_int _ _ hx hu⟩
  |str y=>
   obtain⟨lx,_,_,rfl,rfl,_,_,_,hx,_⟩:=aU I rx qx;obtain rfl:=Rep.str_iff.mp ry;obtain⟨ty,rfl⟩:∃t,b=Value.str _ t:=qy;unfold cn;exact⟨SeqAt.RcAt.tuple_str _ _ hx hu,SeqAt.EqAt.tuple_str _ _ hx hu,SeqAt.RcNeAt.tuple_str _ _ hx hu⟩
  |lst y=>
   obtain⟨lx,_,_,rfl,rfl,_,_,_,hx,_⟩:=aU I rx qx;obtain⟨ly,_,_,rfl,rfl,_,_,_,hy,_⟩:=aT I ry qy;unfold cn;exact⟨SeqAt.RcAt.tuple_list  hx hy hu,SeqAt.EqAt.tuple_list  hx hy hu,SeqAt.RcNeAt.tuple_list  hx hy hu⟩
  |tup y=>
   exact absurd ⟨rfl,rfl⟩ (n2 x y)
  |dic ks ds=>exact absurd rfl (d2 ks ds)|exc c=>exact absurd rfl (x2 c)|ob k c=>exact absurd rfl (o2 k c)
 |dic ks ds=>exact absurd rfl (d1 ks ds)
 |exc c=>exact absurd rfl (x1 c)
 |ob k c=>exact absurd rfl (o1 k c)
def GN(I:Inv X pins σ H s):∀(n:Nat) (A:Around),A.units+n<cLine->∀(x y:D) (v u:V) (a b:Value),aY n x=true->aY n y=true->Rep X.K H x v->Rep X.K H y u->bb v a->bb u b ->
  SeqAt.RcAt A s a b (cn x y)/\SeqAt.EqAt A s a b (cn x y)/\SeqAt.RcNeAt A s a b (!(cn x y)):=by
 have nd:∀m ks ds,aY m (.dic ks ds)=true->False:=λm ks ds h=>by cases m<;>(unfold aY at h;cases h)
 have nx:∀m x,aY m (.exc x)=true->False:=λm x h=>by cases m<;>(unfold aY at h;cases h)
 have nb:∀m k x,aY m (.ob k x)=true->False:=λm k x h=>by cases m<;>(unfold aY at h;cases h)
 intro n
 induction n with
 |zero=>
  intro A hu x y v u a b sx sy rx ry qa qb;refine uN I (by omega) rx ry qa qb (λds ds' z=>?_) (λds ds' z=>?_) (λks ds z=>?_) (λks ds z=>?_) (λc z=>nx _ _ (z▸sx)) (λc z=>nx _ _ (z▸sy)) (λk c z=>nb _ _ _ (z▸sx)) (λk c z=>nb _ _ _ (z▸sy))
  .rw[z.1]at sx;unfold aY at sx;cases sx
  .rw[z.1]at sx;unfold aY at sx;cases sx
  .rw[z]at sx;exact nd _ _ _ sx
  .rw[z]at sy;exact nd _ _ _ sy
 |succ n ih=>
  intro A hu x y v u a b sx sy rx ry qa qb;have ih':∀(x y:D) (v u:V) (a b:Value),aY n x=true->aY n y=true->Rep X.K H x v->Rep X.K H y u->bb v a->bb u b->SeqAt.EqAt A.in1 s a b (cn x y) :=
   λx y v u a b s1 s2 r1 r2 q1 q2=>(ih A.in1 (by show A.units+1+n<cLine;omega) x y v u a b s1 s2 r1 r2 q1 q2).2.1
  by_cases t1:∃ds ds',x=.tup ds/\y=.tup ds'
  .obtain⟨xs,ys,rfl,rfl⟩:=t1
   obtain⟨l,vs,is,rfl,rfl,h1,h2,h3,h4,h5⟩:=aU I rx qa;obtain⟨m,us,js,rfl,rfl,k1,k2,k3,k4,k5⟩:=aU I ry qb;have hsx:=sx;have hsy:=sy;unfold aY at sx sy;have each:=vv (A:=A) ih' sx sy h2 k2 h3 k3;have eall:cn (.tup xs) (.tup ys)=((List.range (min is.toArray.size js.toArray.size)).all (λj=>cn (xs.getD j .non) (ys.getD j .non))&&is.toArray.size==js.toArray.size):=by
    rw[E3];simp only[List.size_toArray,←h5,←k5]
    by_cases hl:xs.length=ys.length
    .rw[jt xs ys hl,←hl,Nat.min_self,beq_self_eq_true,Bool.and_true]
    .rw[ix xs ys hl,beq_eq_false_iff_ne.mpr hl,Bool.and_false]
   refine⟨?_,?_,?_⟩
   .rw[eall];exact SeqAt.RcAt.tuples h4 k4 (by omega) each
   .by_cases hlm:l=m
    .subst hlm
     rw[Rep.inj I (n+1) _ _ _ hsx hsy rx ry,kU (n+1) _ hsy];exact SeqAt.EqAt.same _
    .refine SeqAt.EqAt.of_refs hlm ?_
     rw[eall];exact SeqAt.RcAt.tuples h4 k4 (by omega) each
   .rw[eall];exact SeqAt.RcNeAt.tuples h4 k4 (by omega) each
  .by_cases t2:∃ds ds',x=.lst ds/\y=.lst ds'
   .obtain⟨xs,ys,rfl,rfl⟩:=t2
    obtain⟨l,vs,is,rfl,rfl,h1,h2,h3,h4,h5⟩:=aT I rx qa;obtain⟨m,us,js,rfl,rfl,k1,k2,k3,k4,k5⟩:=aT I ry qb;have hsx:=sx;have hsy:=sy;unfold aY at sx sy;have each:=vv (A:=A) ih' sx sy h2 k2 h3 k3
    by_cases hl:xs.length=ys.length
    .have hsz:is.toArray.size=js.toArray.size:=by simp only[List.size_toArray];omega
     have eall:cn (.lst xs) (.lst ys)=(List.range is.toArray.size).all (λj=>cn (xs.getD j .non) (ys.getD j .non)):=by
      rw[nh];simp only[List.size_toArray,←h5];exact jt xs ys hl
     refine⟨?_,?_,?_⟩
     .rw[eall];exact SeqAt.RcAt.lists h4 k4 hsz (by omega) each
     .by_cases hlm:l=m
      .subst hlm
       rw[Rep.inj I (n+1) _ _ _ hsx hsy rx ry,kU (n+1) _ hsy];exact SeqAt.EqAt.same _
      .refine SeqAt.EqAt.of_refs hlm ?_
       rw[eall];exact SeqAt.RcAt.lists h4 k4 hsz (by omega) each
     .rw[eall];exact SeqAt.RcNeAt.lists h4 k4 hsz (by omega) each
    .have hsz:(is.toArray.size != js.toArray.size)=true:=by simp only[List.size_toArray,bne_iff_ne,ne_eq];omega
     have eall:cn (.lst xs) (.lst ys)=false:=by rw[nh];exact ix xs ys hl
     rw[eall];refine⟨SeqAt.RcAt.lists_lengths h4 k4 hsz (by omega),?_,SeqAt.RcNeAt.lists_lengths h4 k4 hsz (by omega)⟩;refine SeqAt.EqAt.of_refs (λe=>?_) (SeqAt.RcAt.lists_lengths h4 k4 hsz (by omega));subst e;have:=Rep.inj I (n+1) _ _ _ hsx hsy rx ry;cases this;exact hl rfl
   .exact uN I (by omega) rx ry qa qb (λds ds' z=>t2 ⟨ds,ds',z⟩) (λds ds' z=>t1 ⟨ds,ds',z⟩) (λks ds z=>by rw[z]at sx;exact nd _ _ _ sx) (λks ds z=>by rw[z]at sy;exact nd _ _ _ sy) (λc z=>nx _ _ (z▸sx)) (λc z=>nx _ _ (z▸sy)) (λk c z=>nb _ _ _ (z▸sx)) (λk c z=>nb _ _ _ (z▸sy))
end
section
variable {X:Cx}{E:XK}
def lG(x y:D):ai D:=if aY 40 x=true/\aY 40 y=true then .ok (.bl (cn x y)) else .stuck
def iW(x y:D):ai D:=if aY 40 x=true/\aY 40 y=true then .ok (.bl (!(cn x y))) else .stuck
def Jn(K:W.Frag):R2:=λv u H Q=>∃x y,Rep K H x v/\Rep K H y u/\aY 40 x=true/\aY 40 y=true/\Q (.bl (cn x y)) H
def Ji(K:W.Frag):R2:=λv u H Q=>∃x y,Rep K H x v/\Rep K H y u/\aY 40 x=true/\aY 40 y=true/\Q (.bl (!(cn x y))) H
def dr(hu:X.A.units+64<cLine):dW X (compareOp .Eq) (Jn X.K):=by
 intro pins s σ H x y v u Q I rx ry h;obtain⟨d,d',h1,h2,s1,s2,q⟩:=h;exact(GN I 40 X.A (by omega) d d' x y v u s1 s2 h1 h2 rx ry).1 _ _ _ _ ⟨.bl _,H,I,rfl,q⟩
def gu(hu:X.A.units+64<cLine):dW X (compareOp .NotEq) (Ji X.K):=by
 intro pins s σ H x y v u Q I rx ry h;obtain⟨d,d',h1,h2,s1,s2,q⟩:=h;exact(GN I 40 X.A (by omega) d d' x y v u s1 s2 h1 h2 rx ry).2.2 _ _ _ _ ⟨.bl _,H,I,rfl,q⟩
def eX:qC X.K E (Jn X.K) lG:=by
 intro x y v u H Ha Q hs r1 r2 q;unfold lG at q
 by_cases c:aY 40 x=true/\aY 40 y=true
 .rw[if_pos c]at q
  exact⟨x,y,r1.mono hs,r2.mono hs,c.1,c.2,q _ H Ha (aS.refl hs) (aH.mpr rfl)⟩
 .rw[if_neg c]at q;exact q.elim
def jR:qC X.K E (Ji X.K) iW:=by
 intro x y v u H Ha Q hs r1 r2 q;unfold iW at q
 by_cases c:aY 40 x=true/\aY 40 y=true
 .rw[if_pos c]at q
  exact⟨x,y,r1.mono hs,r2.mono hs,c.1,c.2,q _ H Ha (aS.refl hs) (aH.mpr rfl)⟩
 .rw[if_neg c]at q;exact q.elim
open Classical in
noncomputable def i6(K:W.Frag) (H:Hp) (ds:ac) (x:D) (u:Value):Bool :=
 if h:∃d,d∈ds/\∃v,Rep K H d v/\bb v u then cn h.choose x else false
def zq(I:Inv X pins σ H s)(sd:ds.all (aY 40)=true)(hd:d∈ds)(r:Rep X.K H d v)(q:bb v u):i6 X.K H ds x u=cn d x:=by
 have h:∃d,d∈ds/\∃v,Rep X.K H d v/\bb v u:=⟨d,hd,v,r,q⟩
 unfold i6;rw[dif_pos h];obtain⟨h1,v',h2,h3⟩:=h.choose_spec;have e:v'=v:=h3.inj q;subst e;rw[Rep.inj I 40 _ _ _ (List.all_eq_true.mp sd _ h1) (List.all_eq_true.mp sd _ hd) h2 r]
def xg(K:W.Frag)(neg:Bool):R2:=λv u H Q=>∃x ds,Rep K H x v/\(Rep K H (.lst ds) u∨Rep K H (.tup ds) u)/\aY 40 x=true/\ds.all (aY 40)=true/\Q (.bl (if neg then !(ds.any λd=>cn d x) else ds.any λd=>cn d x)) H
theorem iH{pins:List (Addr×Obj)}{σ:L2.St}{H:Hp}{s:Shared}(I:Inv X pins σ H s){x:D}{es:ac}(se:es.all (aY 40)=true):∀{ds:ac}{vs:ad}{us:List Value},(∀d∈ds,d∈es)->Reps X.K H ds vs->ba vs us->us.any (i6 X.K H es x)=ds.any λd=>cn d x
 |[],_,_,_,h,q=>by
  rw[Reps.nil_iff.mp h]at q;cases q;rfl
 |d::ds,_,_,hm,h,q=>by
  obtain⟨v,r,rfl,h1,h2⟩:=aB.mp h;cases q with
  |cons q1 q2=>
   rw[List.any_cons,List.any_cons,zq I se (hm d List.mem_cons_self) h1 q1,iH I se (λx hx=>hm x (List.mem_cons_of_mem _ hx)) h2 q2]
theorem fT{pins:List (Addr×Obj)}{σ:L2.St}{H:Hp}{s:Shared}(I:Inv X pins σ H s)(hu:X.A.units+64<cLine){x:D}{v:V}{u:Value}(sx:aY 40 x=true)(rx:Rep X.K H x v)(qx:bb v u){es:ac}(se:es.all (aY 40)=true):∀{ds:ac}{vs:ad}{us:List Value},(∀d∈ds,d∈es)->Reps X.K H ds vs->ba vs us->∀y∈us,SeqAt.EqAt X.A.in1 s y u (i6 X.K H es x y)
 |[],_,_,_,h,q=>λy hy=>by
  rw[Reps.nil_iff.mp h]at q;cases q;cases hy
 |d::ds,_,_,hm,h,q=>λy hy=>by
  obtain⟨w,r,rfl,h1,h2⟩:=aB.mp h;cases q with
  |cons q1 q2=>
   rcases List.mem_cons.mp hy with rfl|hy
   .rw[zq I se (hm d List.mem_cons_self) h1 q1]
    exact(GN I 40 X.A.in1 (by show X.A.units+1+40<cLine;omega) d x w v _ u (List.all_eq_true.mp se _ (hm d List.mem_cons_self)) sx h1 rx q1 qx).2.1
   .exact fT I hu sx rx qx se (λx hx=>hm x (List.mem_cons_of_mem _ hx)) h2 q2 y hy
def Hg(hu:X.A.units+64<cLine):dW X (compareOp .In) (xg X.K false):=by
 intro pins s σ H x y v u Q I rx ry h;obtain⟨d,ds,h1,h2,s1,s2,q⟩:=h;rcases h2 with h2|h2
 .obtain⟨a,vs,its,rfl,rfl,k1,k2,k3,k4,k5⟩:=aT I h2 ry
  refine SeqAt.in_listAt (i6 X.K H ds d) k4 (λw hw=>fT I hu s1 h1 rx s2 (λ_ z=>z) k2 k3 w (by simpa using hw)) ⟨.bl _,H,I,rfl,?_⟩;rw[show its.toArray.any (i6 X.K H ds d)=its.any (i6 X.K H ds d) by simp,iH I s2 (λ_ z=>z) k2 k3];exact q
 .obtain⟨a,vs,its,rfl,rfl,k1,k2,k3,k4,k5⟩:=aU I h2 ry
  refine SeqAt.in_tupleAt (i6 X.K H ds d) k4 (λw hw=>fT I hu s1 h1 rx s2 (λ_ z=>z) k2 k3 w (by simpa using hw)) ⟨.bl _,H,I,rfl,?_⟩;rw[show its.toArray.any (i6 X.K H ds d)=its.any (i6 X.K H ds d) by simp,iH I s2 (λ_ z=>z) k2 k3];exact q
def Ar(hu:X.A.units+64<cLine):dW X (compareOp .NotIn) (xg X.K true):=by
 intro pins s σ H x y v u Q I rx ry h;obtain⟨d,ds,h1,h2,s1,s2,q⟩:=h;rcases h2 with h2|h2
 .obtain⟨a,vs,its,rfl,rfl,k1,k2,k3,k4,k5⟩:=aT I h2 ry
  refine SeqAt.notIn_listAt (i6 X.K H ds d) k4 (λw hw=>fT I hu s1 h1 rx s2 (λ_ z=>z) k2 k3 w (by simpa using hw)) ⟨.bl _,H,I,rfl,?_⟩;rw[show its.toArray.any (i6 X.K H ds d)=its.any (i6 X.K H ds d) by simp,iH I s2 (λ_ z=>z) k2 k3];exact q
 .obtain⟨a,vs,its,rfl,rfl,k1,k2,k3,k4,k5⟩:=aU I h2 ry
  refine SeqAt.notIn_tupleAt (i6 X.K H ds d) k4 (λw hw=>fT I hu s1 h1 rx s2 (λ_ z=>z) k2 k3 w (by simpa using hw)) ⟨.bl _,H,I,rfl,?_⟩;rw[show its.toArray.any (i6 X.K H ds d)=its.any (i6 X.K H ds d) by simp,iH I s2 (λ_ z=>z) k2 k3];exact q
def JG(i j:Str):Bool:=!(Builtin.Str.occurrences j i 0 j.length 1).isEmpty
noncomputable def DC(x y:D):Option Bool:=match y with
 |.lst ds=>if aY 40 x=true/\ds.all (aY 40)=true then some (ds.any λd=>cn d x) else none
 |.tup ds=>if aY 40 x=true/\ds.all (aY 40)=true then some (ds.any λd=>cn d x) else none
 |.str j=>match x with
  |.str i=>some (JG i j)
  |_=>none
 |_=>none
def DD(x y:D):ai D:=match DC x y with
 |some b=>.ok (.bl b)
 |none=>.stuck
def cX(x y:D):ai D:=match DC x y with
 |some b=>.ok (.bl (!b))
 |none=>.stuck
def BI(neg:Bool):R2:=λx y H Q=>∃i j,x=.str i/\y=.str j/\Q (.bl (if neg then !(JG i j) else JG i j)) H
def B8(hu:X.A.units+64<cLine):dW X (compareOp .In) (λv u H Q=>xg X.K false v u H Q∨BI false v u H Q):=dW.or (Hg hu) (by
 intro pins s σ H x y v u Q I rx ry h;obtain⟨i,j,rfl,rfl,q⟩:=h;exact As pins s σ H _ _ v u Q I rx ry ⟨i,j,rfl,rfl,q⟩)
def g7(hu:X.A.units+64<cLine):dW X (compareOp .NotIn) (λv u H Q=>xg X.K true v u H Q∨BI true v u H Q):=dW.or (Ar hu) (by
 intro pins s σ H x y v u Q I rx ry h;obtain⟨i,j,rfl,rfl,q⟩:=h;exact tm pins s σ H _ _ v u Q I rx ry ⟨i,j,rfl,rfl,q⟩)
def vd(hs:aA Ha H)(r1:Rep X.K Ha x v)(r2:Rep X.K Ha y u)
  (q:post X.K E H Ha (match DC x y with|some b=>.ok (.bl (if neg then !b else b))|none=>.stuck) Q):xg X.K neg v u H Q∨BI neg v u H Q:=by
 cases y with
 |lst ds=>
  simp only[DC]at q
  by_cases c:aY 40 x=true/\ds.all (aY 40)=true
  .rw[if_pos c]at q
   exact .inl ⟨x,ds,r1.mono hs,.inl (r2.mono hs),c.1,c.2,q _ H Ha (aS.refl hs) (aH.mpr rfl)⟩
  .rw[if_neg c]at q;exact q.elim
 |tup ds=>
  simp only[DC]at q
  by_cases c:aY 40 x=true/\ds.all (aY 40)=true
  .rw[if_pos c]at q
   exact .inl ⟨x,ds,r1.mono hs,.inr (r2.mono hs),c.1,c.2,q _ H Ha (aS.refl hs) (aH.mpr rfl)⟩
  .rw[if_neg c]at q;exact q.elim
 |str j=>
  cases x with|str i=>exact .inr ⟨i,j,Rep.str_iff.mp r1,Rep.str_iff.mp r2,q _ H Ha (aS.refl hs) (aH.mpr rfl)⟩| _=>exact q.elim
 |_=>exact q.elim
def Cd:qC X.K E (λv u H Q=>xg X.K false v u H Q∨BI false v u H Q) DD:=λx y v u H Ha Q hs r1 r2 q=>vd (neg:=false) (E:=E) hs r1 r2 (by
 unfold DD at q;cases e:DC x y with
 |none=>rw[e]at q;exact q
 |some b=>rw[e]at q;exact q)
def ib:qC X.K E (λv u H Q=>xg X.K true v u H Q∨BI true v u H Q) cX:=λx y v u H Ha Q hs r1 r2 q=>vd (neg:=true) (E:=E) hs r1 r2 (by
 unfold cX at q;cases e:DC x y with
 |none=>rw[e]at q;exact q
 |some b=>rw[e]at q;exact q)
end
@[irreducible] def B9:Nat:=2 ^ 9000
@[irreducible] def qD:Nat:=2 ^ 13500
@[irreducible] def A6:Nat:=2 ^ 60000
theorem zX:B9=2 ^ 9000:=by unfold B9;rfl
def ma:qD=2 ^ 13500:=by unfold qD;rfl
def l9:A6=2 ^ 60000:=by unfold A6;rfl
def oa{n k:Nat}(h:n<2 ^ k)(hk:0<k):n.log2<k:=by
 by_cases h0:n=0
 .rw[h0]
  have:Nat.log2 0=0:=by decide
  omega
 .exact(Nat.log2_lt h0).mpr h
def JI(h:y.natAbs<B9):Builtin.divisionGoesByPylong x y=false:=by
 rw[zX]at h;exact PyProof.noPylong_of_log2 (oa h (by omega))
def Hh(h:x.natAbs<qD):Builtin.divisionGoesByPylong x y=false:=by
 rw[ma]at h;have hx:x.natAbs.log2<13500:=oa h (by omega);show(decide ((if y==0 then 0 else y.natAbs.log2 / 30+1) > 300)&&decide ((if x==0 then 0 else x.natAbs.log2 / 30+1) > (if y==0 then 0 else y.natAbs.log2 / 30+1)+150))=false;have k:(if x==0 then 0 else x.natAbs.log2 / 30+1)<=450:=by
  by_cases hx0:(x==0)=true
  .rw[if_pos hx0];omega
  .rw[if_neg hx0];omega
 by_cases c:(if y==0 then 0 else y.natAbs.log2 / 30+1) > 300
 .rw[Bool.and_eq_false_iff];right;exact decide_eq_false (by omega)
 .rw[Bool.and_eq_false_iff];left;exact decide_eq_false c
def dZ(i j:Int):Bool:=decide (j≠0)&&(decide (j.natAbs<B9)||decide (i.natAbs<qD))
def dg(i j:Int):Bool:=decide (i.natAbs<A6)&&decide (j.natAbs<A6)
def dZ.ok(h:dZ i j=true):j≠0/\Builtin.divisionGoesByPylong i j=false:=by
 unfold dZ at h;rw[Bool.and_eq_true,Bool.or_eq_true]at h;refine⟨of_decide_eq_true h.1,?_⟩;rcases h.2 with h|h
 .exact JI (of_decide_eq_true h)
 .exact Hh (of_decide_eq_true h)
def dg.ok(h:dg i j=true):IntMulOk i j:=by
 unfold dg at h;rw[Bool.and_eq_true]at h;have h1:=of_decide_eq_true h.1;have h2:=of_decide_eq_true h.2;rw[l9]at h1 h2;exact PyProof.Rows.mulOk_of_bits (m:=60000) (n:=60000) (PySem.intBits_le_iff.mpr h1) (PySem.intBits_le_iff.mpr h2) (by decide)
section
variable {X:Cx}{E:XK}{e a b c:Expr}{es:List Expr}{f g k:al}{fa:Ev->ai (ac)}{pos:Pos}
def bh{K:W.Frag}(hs:aA Ha H)(q:post K E H Ha (.ok d) Q)(r:Rep K Ha d v):Q v H:=q v H Ha (aS.refl hs) r
def vx(c:Int->Int->Bool)(g:Int->Int->D)(x y:D):ai D:=match x,y with
 |.int i,.int j=>if c i j=true then .ok (g i j) else .stuck
 |_,_=>.stuck
def tI{c:Int->Int->Bool}{g:Int->Int->D}(hc:∀i j,c i j=true->C i j)(hg:∀K H i j,Rep K H (g i j) (gv i j)):qC X.K E (rI C gv) (vx c g):=by
 intro x y v u H Ha Q hs r1 r2 q;unfold vx at q;cases x with
 |int i=>
  cases y with
  |int j=>
   by_cases h:c i j=true
   .simp only[if_pos h]at q
    exact⟨i,j,ar.mp r1,ar.mp r2,hc i j h,bh hs q (hg _ _ i j)⟩
   .simp only[if_neg h]at q;exact q.elim
  |_=>exact q.elim
 |_=>exact q.elim
def dm{g:Int->Int->D}(hg:∀K H i j,Rep K H (g i j) (gv i j)):qC X.K E (Dz gv) (vx (λ_ _=>true) g):=by
 intro x y v u H Ha Q hs r1 r2 q;unfold vx at q;cases x with
 |int i=>
  cases y with|int j=>simp only[if_pos]at q;exact⟨i,j,ar.mp r1,ar.mp r2,bh hs q (hg _ _ i j)⟩| _=>exact q.elim
 |_=>exact q.elim
def ri{K:W.Frag}(n:Int):Rep K H (.int n) (.int n):=ar.mpr rfl
def rb{K:W.Frag}(n:Bool):Rep K H (.bl n) (.bl n):=aH.mpr rfl
abbrev gW:=vx (λ_ _=>true) λi j=>.int (i-j)
abbrev lj:=vx dZ λi j=>.int (i.fdiv j)
abbrev cN:=vx (λ_ j=>decide (j≠0)) λi j=>.int (i.fmod j)
abbrev qO:=vx (λi j=>decide (0<=j)&&decide (j<=1000000)&&decide (i.natAbs<18446744073709551616)) λi j=>.int (i ^ j.toNat)
abbrev ID:=vx (λ_ _=>true) λi j=>.bl (decide (i<j))
abbrev Kg:=vx (λ_ _=>true) λi j=>.bl (decide (i<=j))
abbrev HV:=vx (λ_ _=>true) λi j=>.bl (decide (j<i))
abbrev Lz:=vx (λ_ _=>true) λi j=>.bl (decide (j<=i))
def EE:dW X (binaryOp .Mult) (rI IntMulOk λi j=>.int (i*j)):=Kx λ_ _ _ _ _ _ _ hc q=>mul_int q hc
def EF:dW X (binaryOp .FloorDiv) (rI (λi j=>j≠0/\Builtin.divisionGoesByPylong i j=false) λi j=>.int (i.fdiv j)):=Kx λ_ _ _ _ _ _ _ hc q=>floordiv_int hc.1 q (.inl hc.2)
def jv(ha:DE X E a f)(hb:DE X E b g):DE X E (.BinOp a .Sub b pos) (aa f g gW):=so Hc (dm λ_ _ _ _=>ri _) ha hb
def iz(ha:DE X E a f)(hb:DE X E b g):DE X E (.BinOp a .FloorDiv b pos) (aa f g lj):=so EF (tI (λ_ _ h=>dZ.ok h) λ_ _ _ _=>ri _) ha hb
def eE(ha:DE X E a f)(hb:DE X E b g):DE X E (.BinOp a .Mod b pos) (aa f g cN):=so yH (tI (λ_ _ h=>of_decide_eq_true h) λ_ _ _ _=>ri _) ha hb
def xM(ha:DE X E a f)(hb:DE X E b g):DE X E (.BinOp a .Pow b pos) (aa f g qO):=so Hf (tI (λi j h=>by
 rw[Bool.and_eq_true,Bool.and_eq_true]at h;exact⟨of_decide_eq_true h.1.1,of_decide_eq_true h.1.2,of_decide_eq_true h.2⟩) λ_ _ _ _=>ri _) ha hb
def nm(h1:op≠.In:=by decide)(h2:op≠.NotIn:=by decide):behindInMarks op b=false:=Cf _ h1 h2
def Df(x:D):ai D:=match x with
 |.int i=>.ok (.int (-i))
 |_=>.stuck
def xN(ha:DE X E a f):DE X E (.UnaryOp .USub a pos) (cm f Df):=Kc Gk (by
 intro x v H Ha Q hs r q;cases x with
 |int i=>exact⟨i,ar.mp r,bh hs q (ri _)⟩
 |_=>exact q.elim) ha
def yK:dW X (binaryOp .Add) (λx y H Q=>∃l b xs zs,x=.ref l/\y=.ref b/\d9 X.K H l xs/\d9 X.K H b zs/\xs.length+zs.length<=sizeLine/\∀p,H p=none->Q (.ref p) (upd H p (.lst (xs++zs)))):=by
 intro pins s σ H x y v u Q I rx ry h;obtain⟨l,b,xs,zs,rfl,rfl,hH,hB,hz,q⟩:=h;cases rx;cases ry;obtain⟨its,r,pl,z⟩:=I.list hH;obtain⟨its2,r2,pl2,z2⟩:=I.list hB;obtain⟨⟨cls,dd,data,sl⟩,ho,hc,n,hd⟩:=pl.isList;obtain⟨⟨cls2,dd2,data2,sl2⟩,ho2,hc2,n2,hd2⟩:=pl2.isList;simp only at hc hd hc2 hd2;subst hc hd hc2 hd2;have e:its.toArray++its2.toArray=(its++its2).toArray:=by simp
 have l1:=r.length;have l2:=r2.length;refine concat_meets ⟨_,ho,rfl⟩ ⟨_,ho2,rfl⟩ noFill_list_add seq_list_add PySem.F.slot_list_add PySem.F.entry_list_add (PySem.F.args_list_add_2 _ _) (list_addW l b its.toArray its2.toArray n n2 dd dd2 sl sl2 (by simp only[List.size_toArray];omega)) ⟨ho,ho2,?_⟩;rw[e];exact⟨.ref _,_,I.lnew (t':=s.toks) (r.append r2) (by rw[List.length_append];omega),rfl,q _ I.fresh⟩
noncomputable def cb(x y:D):ai D:=match x,y with
 |.int i,.int j=>.ok (.int (i+j))
 |.str i,.str j=>if i.length+j.length<=line then .ok (.str (i++j)) else .stuck
 |.lst ds,.lst es=>if ds.length+es.length<=line then .ok (.lst (ds++es)) else .stuck
 |.tup ds,.tup es=>if ds.isEmpty=false/\ds.length+es.length<=line then .ok (.tup (ds++es)) else .stuck
 |_,_=>.stuck
def de(ha:DE X E a f)(hb:DE X E b g):DE X E (.BinOp a .Add b pos) (aa f g cb):=so (dW.or Cb (dW.or nU (dW.or yK yJ))) (by
 intro x y v u H Ha Q hs r1 r2 q;unfold cb at q;cases x with
 |int i=>
  cases y with|int j=>exact .inl ⟨i,j,ar.mp r1,ar.mp r2,bh hs q (ri _)⟩| _=>exact q.elim
 |str i=>
  cases y with
  |str j=>
   by_cases h:i.length+j.length<=line
   .simp only[if_pos h]at q
    exact .inr (.inl ⟨i,j,Rep.str_iff.mp r1,Rep.str_iff.mp r2,cE h,bh hs q (Rep.str_iff.mpr rfl)⟩)
   .simp only[if_neg h]at q;exact q.elim
  |_=>exact q.elim
 |lst ds=>
  cases y with
  |lst es=>
   by_cases h:ds.length+es.length<=line
   .simp only[if_pos h]at q
    obtain⟨l,vs,rfl,h1,h2⟩:=aE.mp r1;obtain⟨m,us,rfl,k1,k2⟩:=aE.mp r2;refine .inr (.inr (.inl ⟨l,m,vs,us,rfl,rfl,aA.sqL hs h1,aA.sqL hs k1,by rw[←h2.length,←k2.length];exact cE h,λp hp=>?_⟩));exact q _ _ _ (aV hs hp) (aE.mpr ⟨p,_,rfl,d9.of aC,(h2.app k2).mono (aV hs hp).z⟩)
   .simp only[if_neg h]at q;exact q.elim
  |_=>exact q.elim
 |tup ds=>
  cases y with
  |tup es=>
   by_cases h:ds.isEmpty=false/\ds.length+es.length<=line
   .simp only[if_pos h]at q
    obtain⟨l,vs,rfl,h1,h2⟩:=aI.mp r1;obtain⟨m,us,rfl,k1,k2⟩:=aI.mp r2;refine .inr (.inr (.inr ⟨l,m,vs,us,rfl,rfl,aA.sqT hs h1,aA.sqT hs k1,λz=>?_,by rw[←h2.length,←k2.length];exact cE h.2,λz=>?_,λz p hp=>?_⟩))
    .have:=h2.length
     rw[z]at this;have e:ds=[]:=List.length_eq_zero_iff.mp this;rw[e]at h;exact absurd h.1 (by decide)
    .have:=k2.length
     rw[z]at this;have e:es=[]:=List.length_eq_zero_iff.mp this;rw[e,List.append_nil]at q;exact bh hs q r1
    .exact q _ _ _ (aV hs hp) (aI.mpr ⟨p,_,rfl,i4.of aC,(h2.app k2).mono (aV hs hp).z⟩)
   .simp only[if_neg h]at q;exact q.elim
  |_=>exact q.elim
 |_=>exact q.elim) ha hb
noncomputable def aP(x y:D):ai D:=match y with
 |.int i=>match x with
  |.lst ds=>match atI ds i with
   |some d=>.ok d
   |none=>.stuck
  |.tup ds=>match atI ds i with
   |some d=>.ok d
   |none=>.stuck
  |.str z=>if z.length<=line then match atI z.cps.toList i with
   |some c=>.ok (.str ⟨#[c]⟩)
   |none=>.stuck else .stuck
  |_=>.stuck
 |_=>.stuck
def Reps.atI{K:W.Frag}(h:Reps K H ds vs)(e:atI ds i=some d):∃v,L2.atI vs i=some v/\Rep K H d v:=by
 unfold L2.atI at e ⊢;rw[←h.length];cases q:vt ds.length i with
 |none=>rw[q]at e;cases e
 |some j=>
  rw[q]at e;exact h.get e
def FJ:qC X.K E (LW X.K) aP:=by
 intro x y v u H Ha Q hs r1 r2 q;unfold aP at q;cases y with
 |int i=>
  cases x with
  |lst ds=>
   obtain⟨l,vs,rfl,h1,h2⟩:=aE.mp r1;cases e:atI ds i with
   |none=>simp only[e]at q;exact q.elim
   |some d=>
    simp only[e]at q;obtain⟨w,e1,e2⟩:=h2.atI e;exact .inl ⟨l,vs,i,w,rfl,ar.mp r2,aA.sqL hs h1,e1,bh hs q e2⟩
  |tup ds=>
   obtain⟨l,vs,rfl,h1,h2⟩:=aI.mp r1;cases e:atI ds i with
   |none=>simp only[e]at q;exact q.elim
   |some d=>
    simp only[e]at q;obtain⟨w,e1,e2⟩:=h2.atI e;exact .inr (.inl ⟨l,vs,i,w,rfl,ar.mp r2,aA.sqT hs h1,e1,bh hs q e2⟩)
  |str z=>
   by_cases hz:z.length<=line
   .simp only[if_pos hz]at q
    cases e:atI z.cps.toList i with
    |none=>simp only[e]at q;exact q.elim
    |some c=>
     simp only[e]at q;exact .inr (.inr ⟨z,i,c,Rep.str_iff.mp r1,ar.mp r2,cE hz,e,bh hs q (Rep.str_iff.mpr rfl)⟩)
   .simp only[if_neg hz]at q;exact q.elim
  |_=>exact q.elim
 |_=>exact q.elim
def aq(ha:DE X E a f)(hb:DE X E b g)(hs:gM b:=by intro _ _;rfl):DE X E (.Subscript a b pos) (aa f g aP):=Kf Cz FJ ha hb hs
def eG:Ev->ai (Option Int):=λ_=>.ok none
def er(f:al):Ev->ai (Option Int):=λρ=>(f ρ).bind λx=>match x with
 |.int i=>.ok (some i)
 |_=>.stuck
def Ld(K:W.Frag)(E:XK)(f:Ev->ai (Option Int)):TO:=λσ H Q=>∃Ha ρ,aA Ha H/\Reads K Ha σ ρ/\match f ρ with
 |.ok o=>∀H' Ha',aS H Ha H' Ha'->Q o H'
 |.exn x=>∀C ox H' Ha',aS H Ha H' Ha'->ye K Ha' x C ox->E C ox H'
 |.stuck=>False
structure DO (X:Cx) (E:XK) (e:Option Expr) (f:Ev->ai (Option Int)):Prop where
 o:PO X e (Ld X.K E f)
def yz(h:PO X eo t)(w:∀σ H Q,t' σ H Q->t σ H Q):PO X eo t':=λpins s σ H Q I q=>h pins s σ H Q I (w σ H Q q)
def nu:DO X E none eG:=⟨yz Et λσ H Q ⟨Ha,ρ,hs,hr,q⟩=>q H Ha (aS.refl hs)⟩
def nt(ha:DE X E a f):DO X E (some a) (er f):=by
 refine⟨?_⟩;refine yz (Es ha.o) λσ H Q z9=>?_;obtain⟨Ha,ρ,hs,hr,q⟩:=z9;refine⟨Ha,ρ,hs,hr,?_⟩
 unfold er at q;cases e1:f ρ with
 |stuck|exn x=>rw[e1]at q;exact q
 |ok d=>
  rw[e1]at q;intro v H1 H01 g1 r1;cases d with|int i=>exact⟨i,ar.mp r1,q H1 H01 g1⟩| _=>exact q.elim
def qP(xs:ac)(lo hi:Option Int):ac:=(xs.drop (HT.sIx xs.length 0 lo)).take (HT.sIx xs.length xs.length hi-HT.sIx xs.length 0 lo)
def Reps.cut{K:W.Frag}(h:Reps K H ds vs)(lo hi:Option Int):Reps K H (qP ds lo hi) (wt vs lo hi):=by
 unfold qP wt;rw[←h.length];exact(h.drop _).take _
def uF{lo hi:Ev->ai (Option Int)}{m:D->Option Int->Option Int->ai D}
  (ho:∀x v l h H Ha Q,aA Ha H->Rep X.K Ha x v->post X.K E H Ha (m x l h) Q->r v l h H Q)(σ:L2.St)(H:Hp)(Q:VK)
  (h:tD X.K E (λρ=>(f ρ).bind λx=>(lo ρ).bind λl=>(hi ρ).bind λh=>m x l h) σ H Q):LR r (tD X.K E f) (Ld X.K E lo) (Ld X.K E hi) σ H Q:=by
 obtain⟨Ha,ρ,hs,hr,q⟩:=h;refine⟨Ha,ρ,hs,hr,?_⟩;replace q:post X.K E H Ha ((f ρ).bind λx=>(lo ρ).bind λl=>(hi ρ).bind λh=>m x l h) Q:=q;cases e1:f ρ with
 |stuck|exn x=>rw[e1]at q;exact q
 |ok x=>
  rw[e1]at q;intro v H1 H01 g1 r1;refine⟨H01,ρ,g1.sub,hr.mono g1.z,?_⟩;replace q:post X.K E H Ha ((lo ρ).bind λl=>(hi ρ).bind λh=>m x l h) Q:=q;replace q:=q.grow g1;cases e2:lo ρ with
  |stuck|exn x=>rw[e2]at q;exact q
  |ok l=>
   rw[e2]at q;intro H2 H02 g2;refine⟨H02,ρ,g2.sub,(hr.mono g1.z).mono g2.z,?_⟩;replace q:post X.K E H1 H01 ((hi ρ).bind λh=>m x l h) Q:=q;replace q:=q.grow g2;cases e3:hi ρ with
   |stuck|exn x=>rw[e3]at q;exact q
   |ok h=>
    rw[e3]at q;intro H3 H03 g3;exact ho x v l h H3 H03 Q g3.sub ((r1.mono g2.z).mono g3.z) (post.grow (r:=m x l h) q g3)
def m1(m:D->ai D)(ds:ac):ai D:=match ds with
 |[x]=>m x
 |_=>.stuck
def m2(m:D->D->ai D)(ds:ac):ai D:=match ds with
 |[x,y]=>m x y
 |_=>.stuck
def wB(h:∀x v H Ha Q,aA Ha H->Rep X.K Ha x v->post X.K E H Ha (m x) Q->r [v] H Q):iK X E r (m1 m):=by
 intro ds vs H Ha Q hs hr q;unfold m1 at q
 match ds,hr,q with
 |[x],hr,q=>
  obtain⟨v,r',rfl,h1,h2⟩:=aB.mp hr;rw[Reps.nil_iff.mp h2];exact h x v H Ha Q hs h1 q
 |[],_,q=>exact q.elim
 |_::_::_,_,q=>exact q.elim
def F7(h:∀x y v u H Ha Q,aA Ha H->Rep X.K Ha x v->Rep X.K Ha y u->post X.K E H Ha (m x y) Q->r [v,u] H Q):iK X E r (m2 m):=by
 intro ds vs H Ha Q hs hr q;unfold m2 at q
 match ds,hr,q with
 |[x,y],hr,q=>
  obtain⟨v,r',rfl,h1,h2⟩:=aB.mp hr;obtain⟨u,r'',rfl,h3,h4⟩:=aB.mp h2;rw[Reps.nil_iff.mp h4];exact h x y v u H Ha Q hs h1 h3 q
 |[],_,q=>exact q.elim
 |[_],_,q=>exact q.elim
 |_::_::_::_,_,q=>exact q.elim
def AR(x:D):ai D:=match x with
 |.int i=>.ok (.int (if i<0 then -i else i))
 |_=>.stuck
def HS(x y:D):ai D:=match x,y with
 |.int i,.int j=>.ok (.int (if j > i then j else i))
 |_,_=>.stuck
def dE(x:D):ai D:=match x with
 |.lst ds=>.ok (.int ds.length)
 |.tup ds=>.ok (.int ds.length)
 |.str z=>if z.length<=line then .ok (.int z.length) else .stuck
 |_=>.stuck
def iB(x:D):ai D:=match x with
 |.int i=>.ok (.int i)
 |.bl b=>.ok (.int (if b then 1 else 0))
 |_=>.stuck
def xT:iK X E (λxs H Q=>∃i,xs=[.int i]/\Q (.int (if i<0 then -i else i)) H) (m1 AR):=wB λx v H Ha Q hs r q=>by
 cases x with|int i=>exact⟨i,by rw[ar.mp r],bh hs q (ri _)⟩| _=>exact q.elim
def HZ:iK X E (λxs H Q=>∃i j,xs=[.int i,.int j]/\Q (.int (if j > i then j else i)) H) (m2 HS):=F7 λx y v u H Ha Q hs r r' q=>by
 cases x with
 |int i=>
  cases y with|int j=>exact⟨i,j,by rw[ar.mp r,ar.mp r'],bh hs q (ri _)⟩| _=>exact q.elim
 |_=>exact q.elim
def df:iK X E (λxs H Q=>∃x n,xs=[x]/\Ko X.K x H n/\Q (.int n) H) (m1 dE):=wB λx v H Ha Q hs r q=>by
 cases x with
 |lst ds=>
  obtain⟨p,vs,rfl,h1,h2⟩:=aE.mp r;refine⟨_,vs.length,rfl,.inl ⟨vs,aA.sqL hs h1,rfl⟩,?_⟩;rw[←h2.length];exact bh hs q (ri _)
 |tup ds=>
  obtain⟨p,vs,rfl,h1,h2⟩:=aI.mp r;refine⟨_,vs.length,rfl,.inr ⟨vs,aA.sqT hs h1,rfl⟩,?_⟩;rw[←h2.length];exact bh hs q (ri _)
 |str z=>
  unfold dE at q
  by_cases hz:z.length<=line
  .simp only[if_pos hz]at q
   rw[Rep.str_iff.mp r];exact⟨_,z.length,rfl,⟨cE hz,rfl⟩,bh hs q (ri _)⟩
  .simp only[if_neg hz]at q;exact q.elim
 |_=>exact q.elim
def Dj:iK X E (λxs H Q=>(∃i,xs=[.int i]/\Q (.int i) H)∨∃k,xs=[.bl k]/\Q (.int (if k then 1 else 0)) H) (m1 iB):=wB λx v H Ha Q hs r q=>by
 cases x with|int i=>exact .inl ⟨i,by rw[ar.mp r],bh hs q (ri _)⟩|bl i=>exact .inr ⟨i,by rw[aH.mp r],bh hs q (ri _)⟩| _=>exact q.elim
def wm(hc:iJ X (.type T) r)(hd:iK X E r m)(hg:Gl X x)(hm:X.mg x=none)(hv:bootBuiltins x=some (.type T))(ha:DA X E (e::es) fa)(hn:x≠"__name__":=by decide)(hdb:(x==("__debug__":Str))=false:=by decide)
  (he:starEach (e::es) X.env=(false,eval e X.env)::starEach es X.env:=by exact aN rfl)(hpl:(backTo pos (starEach es X.env)).any (·.1)=false:=by exact bw rfl):DE X E (.Call (.Name x p) (e::es) [] pos) (au fa m) :=
 ⟨aQ (Ap hc hg hm hv ha.o hn hdb he hpl) (iZ hd)⟩
def rD:D->Bool
 |.non=>true
 |_=>false
def lh(x y:D):ai D:=match y with
 |.non=>.ok (.bl (rD x))
 |_=>.stuck
def iA(x y:D):ai D:=match y with
 |.non=>.ok (.bl (!(rD x)))
 |_=>.stuck
def Rep.is_non{K:W.Frag}(r:Rep K H x v):decide (v=.non)=rD x:=by
 cases x with|non=>rw[aL.mp r];rfl|bl b=>rw[aH.mp r];rfl|int b=>rw[ar.mp r];rfl|str b=>rw[Rep.str_iff.mp r];rfl|tup ds=>obtain⟨_,_,e,_⟩:=aI.mp r;rw[e];rfl|lst ds=>obtain⟨_,_,e,_⟩:=aE.mp r;rw[e];rfl|dic ks ds=>rw[Rep]at r;obtain⟨_,_,_,e,_⟩:=r;rw[e];rfl|exc x=>obtain⟨_,_,_,e,_⟩:=mM.mp r;rw[e];rfl|ob k x=>obtain⟨_,_,e,_⟩:=jE.mp r;rw[e];rfl
def jn:qC X.K E (λx y H Q=>y=.non/\Q (.bl (decide (x=.non))) H) lh:=by
 intro x y v u H Ha Q hs r1 r2 q;unfold lh at q;cases y with|non=>exact⟨aL.mp r2,by rw[r1.is_non];exact bh hs q (rb _)⟩| _=>exact q.elim
def tH:qC X.K E (λx y H Q=>y=.non/\Q (.bl (!decide (x=.non))) H) iA:=by
 intro x y v u H Ha Q hs r1 r2 q;unfold iA at q;cases y with
 |non=>
  refine⟨aL.mp r2,?_⟩;rw[r1.is_non];exact bh hs q (rb _)
 |_=>exact q.elim
def wK:D->String
 |.non=>"NoneType"
 |.bl _=>"bool"
 |.int _=>"int"
 |.str _=>"str"
 |.tup _=>"tuple"
 |.lst _=>"list"
 |.dic _ _=>"dict"
 |.exc _=>"<exc>"
 |.ob (.ins _ _) _=>"<exc>"
 |.ob (.dint _) _=>"dict"
 |.ob (.exf _ _) _=>"<exc>"
def fq(T:String)(x:D):ai D:=.ok (.bl (wK x==T||(wK x=="bool"&&T=="int")))
def qv(K:W.Frag)(T:String):Prop:=∀S,S∈["NoneType","bool","int","str","tuple","list","dict"]->W.kitOne K (.type S) (.type T)=some (S==T||(S=="bool"&&T=="int"))
def CA(I:Inv X pins σ H s)(r:Rep X.K H x v)(q:bb v u)(hk:qv X.K T)(hT:T∈gI)(h:∀tk,Q (.bool (wK x==T||(wK x=="bool"&&T=="int"))) { s with toks:=tk }) :
  wpAny (model X.prog X.w) A (call (.builtin "isinstance") [u,.type T]) Q X.xe s:=by
 cases x with
 |non=>rw[aL.mp r]at q;exact iQ I q .non (hk _ (by simp)) h|bl b=>rw[aH.mp r]at q;exact iQ I q (.bl b) (hk _ (by simp)) h|int b=>rw[ar.mp r]at q;exact iQ I q (.int b) (hk _ (by simp)) h|str b=>rw[Rep.str_iff.mp r]at q;exact iQ I q (.str b) (hk _ (by simp)) h
 |tup ds=>
  obtain⟨a,vs,its,rfl,rfl,h1,h2,h3,h4,_⟩:=aU I r q;obtain⟨o,k1,k2,_⟩:=h4;exact W.kia_one W.kitx_tuple I.kIn ⟨o,k1,k2⟩ (hk _ (by simp)) (λz=>nomatch z) h
 |lst ds=>
  obtain⟨a,vs,its,rfl,rfl,h1,h2,h3,h4,_⟩:=aT I r q;obtain⟨o,k1,k2,_⟩:=h4;exact W.kia_one W.kitx_list I.kIn ⟨o,k1,k2⟩ (hk _ (by simp)) (λz=>nomatch z) h
 |dic ks ds=>
  rw[Rep]at r;obtain⟨a,kvs,vs,rfl,h1,h2,_⟩:=r;cases (show u=Value.ref a from q);obtain⟨_,_,vs',_,p⟩:=h1.ok I.hok;obtain⟨o,es,ep,k1,k2,_⟩:=p;exact W.kia_one W.kitx_dict I.kIn ⟨o,k1,k2.1⟩ (hk _ (by simp)) (λz=>nomatch z) h
 |exc x=>
  obtain⟨a,C,dc,rfl,hc,h1⟩:=mM.mp r;cases (show u=Value.ref a from q);obtain⟨p,_,_⟩:=h1.ok I.hok;have e:(wK (.exc x)==T||(wK (.exc x)=="bool"&&T=="int"))=false:=by
   have:∀T∈gI,(wK (.exc x)==T||(wK (.exc x)=="bool"&&T=="int"))=false:=by show ∀T∈gI,("<exc>"==T||("<exc>"=="bool"&&T=="int"))=false;decide
   exact this T hT
  rw[e]at h;exact W.kia_one (vq hc.ek hc.ek.isCls) I.kIn p (hc.bt T hT) (λz=>nomatch z) h
 |ob k xs=>
  obtain⟨a,vs,rfl,h1,_⟩:=jE.mp r;cases (show u=Value.ref a from q);cases k with
  |exf c ks=>
   obtain⟨C,dx,fs,hc,h2,_⟩:=h1;obtain⟨p,_,_⟩:=h2.ok I.hok;have e:(wK (.ob (.exf c ks) xs)==T||(wK (.ob (.exf c ks) xs)=="bool"&&T=="int"))=false:=by
    have:∀T∈gI,("<exc>"==T||("<exc>"=="bool"&&T=="int"))=false:=by decide
    exact this T hT
   rw[e]at h;exact W.kia_one (vq hc.ek hc.ek.isCls) I.kIn p (hc.bt T hT) (λz=>nomatch z) h
  |ins c ks=>
   obtain⟨C,dx,_,hc,h2,_⟩:=h1;obtain⟨mA,O,_⟩:=za I.hok h2;obtain⟨od,O',_⟩:=O.look;have e:(wK (.ob (.ins c ks) xs)==T||(wK (.ob (.ins c ks) xs)=="bool"&&T=="int"))=false:=by
    have:∀T∈gI,(wK (.ob (.ins c ks) xs)==T||(wK (.ob (.ins c ks) xs)=="bool"&&T=="int"))=false:=by show ∀T∈gI,("<exc>"==T||("<exc>"=="bool"&&T=="int"))=false;decide
    exact this T hT
   rw[e]at h;exact W.kia_one (W.kitx_own (hc.cls.get _) hc.cls.hd hc.gc hc.gn hc.tk hc.mo) I.kIn O' (hc.bt T hT) (λz=>nomatch z) h
  |dint ks=>
   obtain⟨kvs,h2,_⟩:=h1;obtain⟨_,_,vs',_,p⟩:=h2.ok I.hok;obtain⟨o,es,ep,k1,k2,_⟩:=p;exact W.kia_one W.kitx_dict I.kIn ⟨o,k1,k2.1⟩ (hk _ (by simp)) (λz=>nomatch z) h
def bZ(hk:qv X.K T)(hgi:Gl X "isinstance")(hmi:X.mg "isinstance"=none)(hg:Gl X x)(hm:X.mg x=none)(hv:bootBuiltins x=some (.type T))(ha:DE X E a f)
  (hn:x≠"__name__":=by decide)(hdb:(x==("__debug__":Str))=false:=by decide)(hT:T∈gI:=by decide)
  (he:starEach [a,.Name x p2] X.env=(false,eval a X.env)::starEach [.Name x p2] X.env:=by exact aN rfl)(he2:starEach [.Name x p2] X.env=(false,eval (.Name x p2) X.env)::starEach [] X.env:=by exact aN rfl)(hpl:(backTo pos (starEach [.Name x p2] X.env)).any (·.1)=false:=by exact bw rfl) :
  DE X E (.Call (.Name "isinstance" p1) [a,.Name x p2] [] pos) (cm f (fq T)):=by
 refine⟨?_⟩;refine aQ (uS (r:=λvs H Q=>∃d v,vs=[v,.ty T]/\Rep X.K H d v/\Q (.bl (wK d==T||(wK d=="bool"&&T=="int"))) H) ?_ hgi hmi PyProof.Rows.Boot.«isinstance» (cx ha.o (cx (EC (v:=.ty T) hg hm hv rfl hn hdb) eW he2) he) (by decide) (by decide) he hpl) λσ H Q ⟨Ha,ρ,hs,hr,q⟩=>⟨Ha,ρ,hs,hr,?_⟩
 .intro pins s σ H xs us Q I r h
  obtain⟨d,v,rfl,h1,q⟩:=h;cases r with
  |cons r1 r2=>
   cases r2 with
   |cons r3 r4=>
    cases r4;rename_i u1 u2;obtain rfl:u2=Value.type T:=r3;exact CA I h1 r1 hk hT λtk=>⟨.bl _,H,I.tok _,rfl,q⟩
 .unfold cm at q
  cases e1:f ρ with
  |stuck|exn x=>rw[e1]at q;exact q
  |ok d=>
   rw[e1]at q;intro v H1 H01 g1 r1;exact⟨d,v,rfl,r1.mono g1.sub,q _ H1 H01 g1 (rb _)⟩
end
theorem rR{prog:Program}{w:World}{A:Around}{E:Value->Shared->Prop}{it t:Addr}{items:Array Value}(hne:t≠it):∀(n i:Nat) (s:Shared) (Q:List Value->Shared->Prop),s.heap.IsListIter it t i->s.heap.IsList t items->i+n<=items.size ->
  (∀h',h'.IsListIter it t (i+n)->Heap.SameBut it s.heap h'->Q ((items.toList.drop i).take n) { s with heap:=h' })->wpAny (model prog w) A (draw (.ref it) n) Q E s
 |0,i,s,Q,hit,_,_,hQ=>by
  show wpAny _ _ (pure []) Q E s;exact wpAny_pure (by simpa using hQ s.heap hit (Heap.SameBut.refl ..))
 |n+1,i,s,Q,hit,ht,hle,hQ=>by
  have hlt:i<items.size:=by omega
  show wpAny _ _ (pyNext (.ref it) >>= _) Q E s;refine wpAny_bind (wpAny_pyNext_list_item hit ht (x:=items[i]) (by simp[hlt]) λhE hit₁ hs₁=>?_);have ht₁:hE.IsList t items:=by
   obtain⟨o,k1,k2⟩:=ht;exact⟨o,(hs₁.2 t hne).trans k1,k2⟩
  refine wpAny_bind (wpAny_holding (rR hne n (i+1) _ _ hit₁ ht₁ (by omega) λhU hit₂ hs₂=>wpAny_pure ?_));have hd:items.toList.drop i=items[i]::items.toList.drop (i+1):=by simp[List.drop_eq_getElem_cons,hlt]
  have:=hQ hU (by rw[show i+(n+1)=i+1+n by omega];exact hit₂) (hs₁.trans hs₂);rw[hd,List.take_succ_cons]at this;exact this
def lH(hh:A.handled=none)(ht:s.heap.IsList t items)
  (hQ:∀h',Heap.ExtBut s.heap.objs.size s.heap h'->Q items.toList { s with heap:=h' }):wpAny (model prog w) A (unpackItems (.ref t) items.size none) Q E s:=by
 have hlt:t≠s.heap.objs.size:=by obtain⟨o,ho,_⟩:=ht;exact Nat.ne_of_lt (Heap.lt_size ho)
 unfold unpackItems;refine wpAny_bind ?_
 .unfold notIterableAtAll
  refine wpAny_bind (wpAny_specialOf ht.typeIs slot_list_iter.lookup ?_);refine wpAny_pure ?_;simp only[Bool.false_eq_true,if_false];refine wpAny_bind (wpAny_holding (wpAny_pyIter_list ht ?_));have ht0:(s.heap.push { cls:=.type "list_iterator",data:=.fields #[.ref t,.int 0 0] }).IsList t items:=by
   obtain⟨o,k1,k2⟩:=ht;exact⟨o,Heap.get?_push_of_some _ k1,k2⟩
  refine wpAny_bind (wpAny_holding (rR hlt items.size 0 _ _ ⟨_,Heap.get?_push_size _ rfl,rfl,rfl⟩ ht0 (by omega) λhE hit₁ hs₁=>?_));have hall:List.take items.size (List.drop 0 items.toList)=items.toList:=by
   rw[List.drop_zero];exact List.take_of_length_le (by simp)
  rw[hall];rw[if_neg (by simp)];have ht₁:hE.IsList t items:=by
   obtain⟨o,k1,k2⟩:=ht0;exact⟨o,(hs₁.2 t hlt).trans k1,k2⟩
  refine wpAny_bind (wpAny_holding (wpAny_pyNext_list_end hh hit₁ ht₁ (by simp) λhU he₂=>?_));simp only[Option.isSome_none,Bool.false_eq_true,if_false];refine wpAny_pure (hQ hU λb o hb e=>he₂ b o hb (hs₁.extBut b o hb (Heap.get?_push_of_some _ e)))
def wX(σ:L2.St):bi->ad->L2.St
 |i::is,v::vs=>wX (σ.set i (some v)) is vs
 |_,_=>σ
def eT(ρ:Ev):bi->ac->Ev
 |i::is,d::ds=>eT (ρ.set i (.sh d)) is ds
 |_,_=>ρ
theorem cO.putAll{K:W.Frag}{He H0e Ha H:Hp}:∀{is:bi}{ds:ac}{vs:ad}{σ:L2.St}{ρ:Ev},cO K He H0e Ha σ H ρ->Reps K Ha ds vs->cO K He H0e Ha (wX σ is vs) H (eT ρ is ds)
 |[],_,_,_,_,h,_=>by unfold wX eT;exact h
 |_::_,[],_,_,_,h,r=>by rw[Reps.nil_iff.mp r];unfold wX eT;exact h
 |i::is,d::ds,_,_,_,h,r=>by
  obtain⟨v,vs,rfl,h1,h2⟩:=aB.mp r;unfold wX eT;exact cO.putAll (h.put h1) h2
section
variable {X:Cx}{E:XK}{He H0e:Hp}{e a b:Expr}{es:List Expr}{f g:al}{fa:Ev->ai (ac)}{pos:Pos}{is:bi}
def IM(is:bi):IE:=λvs σ H Q=>vs.length=is.length/\Q (wX σ is vs) H
def uQ(h:A5 X es t)(w:∀vs σ H Q,t' vs σ H Q->t vs σ H Q):A5 X es t':=λpins s σ H vs us Q I r q=>h pins s σ H vs us Q I r (w vs σ H Q q)
def k9:A5 X [] (IM []):=uQ Ex λvs σ H Q z9=>by
 obtain⟨h,q⟩:=z9;have e:vs=[]:=List.length_eq_zero_iff.mp h;subst e;exact⟨rfl,q⟩
def cV(hN:X.N.Nodup)(hi:X.N[i]?=some x)(hx:A1 X.env.scope x)(h:A5 X es (IM is))(hf:X.fn x=true∨X.env.scope.names.lookup x=some .local := by first|exact .inl rfl|exact .inr rfl|assumption)
  (hs:(assignEach (.Name x p::es) X.env).map (·.2)=assign (.Name x p) X.env::(assignEach es X.env).map (·.2):=by rfl):A5 X (.Name x p::es) (IM (i::is)) :=
 uQ (BX (yC hN hi hx hf) h hs) λvs σ H Q z9=>by
  obtain⟨h,q⟩:=z9;cases vs with|nil=>simp at h|cons v vs=>exact⟨v,vs,rfl,by simpa using h,q⟩
def Ey{k:Nat}(hc:X.calm=true)(h:A5 X es t)
  (hn:(assignEach es X.env).length=n:=by rfl)(hst:(assignEach es X.env).findIdx? (·.1)=none:=by rfl):PG X (.Tuple es k pos) (λv σ H Q=>∃a xs,v=.ref a/\d9 X.K H a xs/\xs.length=n/\t xs σ H Q):=by
 intro pins s σ H v u Q I r hw;obtain⟨a,xs,e1,hq,hl,hw⟩:=hw;subst e1;cases r;obtain⟨its,rv,ht,hz⟩:=I.list hq;rw[assign_Tuple];refine wpAny_bind (wpAny_standAt ?_);unfold unpack;rw[hn,hst];have hsz:n=its.toArray.size:=by rw[List.size_toArray,←rv.length,hl]
 rw[hsz];refine wpAny_bind (wpAny_holding (lH (I.ok.hd hc) ht.isList λh' hx=>?_));have I1:Inv X pins σ H { s with heap:=h' }:=I.kept (t':=s.toks) λb o e=>hx b o (Nat.ne_of_lt (Heap.lt_size e)) e;exact h pins _ σ H xs _ Q I1 (by simpa using rv) hw
def Jv(h:PG X tgt t)(h':PG X tgt t'):PG X tgt (λv σ H Q=>t v σ H Q∨t' v σ H Q):=λpins s σ H v u Q I r q=>q.elim (h pins s σ H v u Q I r) (h' pins s σ H v u Q I r)
def G2{k:Nat}(hc:X.calm=true)(h:A5 X es (IM is))(hn:(assignEach es X.env).length=is.length:=by rfl)(hst:(assignEach es X.env).findIdx? (·.1)=none:=by rfl) :
  PG X (.Tuple es k pos) (λv σ H Q=>∃a xs,v=.ref a/\(i4 X.K H a xs∨d9 X.K H a xs)/\xs.length=is.length/\Q (wX σ is xs) H) :=
 sZ (Jv (G1 hc h hn hst) (Ey hc h hn hst)) λv σ H Q ⟨a,xs,e,hq,hl,q⟩=>hq.elim (λz=>.inl ⟨a,xs,e,z,hl,hl,q⟩) λz=>.inr ⟨a,xs,e,z,hl,hl,q⟩
def jN(n:Nat)(d:D):Option (ac):=match d with
 |.tup ds=>if ds.length=n then some ds else none
 |.lst ds=>if ds.length=n then some ds else none
 |_=>none
def uW{K:W.Frag}(h:jN n d=some ds)(r:Rep K H d v):∃a vs,v=.ref a/\(i4 K H a vs∨d9 K H a vs)/\vs.length=n/\Reps K H ds vs:=by
 unfold jN at h;cases d with
 |tup es=>
  by_cases c:es.length=n
  .simp only[if_pos c]at h;cases h
   obtain⟨a,vs,rfl,h1,h2⟩:=aI.mp r;exact⟨a,vs,rfl,.inl h1,by rw[←h2.length];exact c,h2⟩
  .simp only[if_neg c]at h;cases h
 |lst es=>
  by_cases c:es.length=n
  .simp only[if_pos c]at h;cases h
   obtain⟨a,vs,rfl,h1,h2⟩:=aE.mp r;exact⟨a,vs,rfl,.inr h1,by rw[←h2.length];exact c,h2⟩
  .simp only[if_neg c]at h;cases h
 |_=>cases h
def Bu{K:W.Frag}{a:Addr}(hs:aA H H')(h:i4 K H a vs∨d9 K H a vs):i4 K H' a vs∨d9 K H' a vs:=h.elim (λz=>.inl (aA.sqT hs z)) λz=>.inr (aA.sqL hs z)
def il(is:bi):Ev->D->ai Ev:=λρ d=>match jN is.length d with
 |some ds=>.ok (eT ρ is ds)
 |none=>.stuck
def fP:sO (il is):=λρ d=>by
 unfold il;cases jN is.length d with|none=>exact .inl rfl|some ds=>exact .inr ⟨_,rfl⟩
def pO{k:Nat}(hc:X.calm=true)(h:A5 X es (IM is))(hn:(assignEach es X.env).length=is.length:=by rfl)(hst:(assignEach es X.env).findIdx? (·.1)=none:=by rfl):DG X E He H0e (.Tuple es k pos) (il is) :=
 ⟨sZ (G2 hc h hn hst) λv σ H Q z9=>by
  obtain⟨Ha,ρ,d,h,rp,q⟩:=z9;unfold il at q;cases e1:jN is.length d with
  |none=>rw[e1]at q;exact q.elim
  |some ds=>
   rw[e1]at q;obtain⟨a,vs,rfl,k1,k2,k3⟩:=uW e1 rp;exact⟨a,vs,rfl,Bu h.g.sub k1,k2,q _ H Ha (aA.refl _) (h.putAll k3)⟩⟩
def qG(i j:Nat)(fa:Ev->ai (ac)):am:=λρ=>(fa ρ).bind λds=>match ds with
 |[x,y]=>.ok (.nx ((ρ.set i (.sh x)).set j (.sh y)))
 |_=>.stuck
def HH{px py pt pt2:Pos}{kt k2}(hc:X.calm=true)(hN:X.N.Nodup)(hi:X.N[i]?=some x)(hj:X.N[j]?=some y)(hij:i≠j)
  (hx:X.env.scope.names.lookup x=some .local)(hy:X.env.scope.names.lookup y=some .local)(ha:DA X E [a,b] fa)
  (hw:swappedStores [.Tuple [.Name x px,.Name y py] kt pt] (.Tuple [a,b] k2 pt2) X.env=pure (some [x,y]))
  (hs:swapsWithSole [.Tuple [.Name x px,.Name y py] kt pt] (.Tuple [a,b] k2 pt2) pos.line X.env=pure false:=by rfl) :
  DS X E He H0e (.Assign [.Tuple [.Name x px,.Name y py] kt pt] (.Tuple [a,b] k2 pt2) pos) (qG i j fa):=by
 refine⟨?_⟩;refine bz (GV hc hN hi hj hij hx hy ha.o hw hs) λD σ H z9=>?_;obtain⟨Ha,ρ,h,q⟩:=z9;refine⟨Ha,ρ,h.g.sub,h.rd,?_⟩
 unfold qG at q;cases e1:fa ρ with
 |stuck=>rw[e1]at q;exact q|exn x=>rw[e1]at q;exact λC ox H' Ha' g ex=>q C ox H' Ha' (h.g.trans g) ex
 |ok ds=>
  rw[e1]at q;intro vs H1 H01 g1 r1
  match ds,r1,q with
  |[x,y],r1,q=>
   obtain⟨v,r',rfl,h1,h2⟩:=aB.mp r1;obtain⟨u,r'',rfl,h3,h4⟩:=aB.mp h2;rw[Reps.nil_iff.mp h4];exact⟨v,u,rfl,q _ H1 H01 g1.z (((h.grow g1).put h1).put h3)⟩
  |[],_,q=>exact q.elim
  |[_],_,q=>exact q.elim
  |_::_::_::_,_,q=>exact q.elim
end
def og{K:W.Frag}:qv K "int":=by
 intro S hS;simp only[List.mem_cons,List.mem_nil_iff,or_false]at hS;rcases hS with rfl|rfl|rfl|rfl|rfl|rfl|rfl<;>first|rfl|decide +kernel
def mw{K:W.Frag}:qv K "bool":=by
 intro S hS;simp only[List.mem_cons,List.mem_nil_iff,or_false]at hS;rcases hS with rfl|rfl|rfl|rfl|rfl|rfl|rfl<;>first|rfl|decide +kernel
def jr{K:W.Frag}:qv K "str":=by
 intro S hS;simp only[List.mem_cons,List.mem_nil_iff,or_false]at hS;rcases hS with rfl|rfl|rfl|rfl|rfl|rfl|rfl<;>first|rfl|decide +kernel
def eN{K:W.Frag}:qv K "tuple":=by
 intro S hS;simp only[List.mem_cons,List.mem_nil_iff,or_false]at hS;rcases hS with rfl|rfl|rfl|rfl|rfl|rfl|rfl<;>first|rfl|decide +kernel
def mv{K:W.Frag}:qv K "list":=by
 intro S hS;simp only[List.mem_cons,List.mem_nil_iff,or_false]at hS;rcases hS with rfl|rfl|rfl|rfl|rfl|rfl|rfl<;>first|rfl|decide +kernel
section
variable {X:Cx}{E:XK}{He H0e:Hp}{e a b c:Expr}{f g h:al}{pos:Pos}
def dv(i:Nat)(hN:X.N[i]?=some x:=by rfl)(hv:A0 X.env.scope x:=by first|exact Or.inl rfl|exact Or.inr (Or.inl rfl)|exact Or.inr (Or.inr rfl))(hd:(x==("__debug__":Str))=false:=by decide)
  (hcd:(x==("__classdict__":Str))=false:=by decide):DE X E (.Name x pos) (ae i):=HN hN hv hd hcd
def uv(K:W.Frag)(mg:Str->Option Value)(x:Str)(d:D):Prop:=∃v u,mg x=some u/\bb v u/\∀H,Rep K H d v
def bf(k:uv X.K X.mg x d)(hg:Gl X x)(hd:(x==("__debug__":Str))=false:=by decide):DE X E (.Name x pos) (dC d):=by
 obtain⟨v,u,h1,h2,h3⟩:=k;exact Fb hg h1 h2 h3 hd
def c5{K:W.Frag}(h:mg x=some (.int i t)):uv K mg x (.int i):=⟨.int i,_,h,⟨t,rfl⟩,λ_=>ri _⟩
def EX{K:W.Frag}(h:mg x=some (.str i t)):uv K mg x (.str i):=⟨.str i,_,h,⟨t,rfl⟩,λ_=>Rep.str_iff.mpr rfl⟩
def EW{K:W.Frag}{a:Addr}(h:mg x=some (.ref a))(l:K.lookup a=some ⟨.type "tuple",od,.seq its n,sl⟩)
  (hv:ba vs its.toList)(hz:its.size<=sizeLine)(hd:∀H,Reps K H ds vs):uv K mg x (.tup ds):=⟨.ref a,_,h,rfl,λH=>aI.mpr ⟨a,vs,rfl,.inr ⟨_,its,n,l,rfl,rfl,hz,hv⟩,hd H⟩⟩
def fJ(op op':D->D->ai D)(f g h:al):al:=λρ=>(f ρ).bind λx=>(g ρ).bind λy=>(op x y).bind λz=>match z with
 |.bl true=>(h ρ).bind λw=>op' y w
 |.bl false=>.ok (.bl false)
 |_=>.stuck
def qr(r:R2)(o:D->D->ai D):Prop:=∀(K:W.Frag) (x y:D) (v u:V) (H Ha:Hp) (Q:VK) (d:D),aA Ha H->Rep K Ha x v->Rep K Ha y u->o x y=.ok d->(∀w,Rep K Ha d w->Q w H)->r v u H Q
def eQ{g:Int->Int->D}(hg:∀K H i j,Rep K H (g i j) (gv i j)):qr (Dz gv) (vx (λ_ _=>true) g):=by
 intro K x y v u H Ha Q d hs r1 r2 e q;unfold vx at e;cases x with
 |int i=>
  cases y with|int j=>simp only[if_pos]at e;cases e;exact⟨i,j,ar.mp r1,ar.mp r2,q _ (hg _ _ i j)⟩| _=>cases e
 |_=>cases e
def qt(o:D->D->ai D):Prop:=∀x y,∀z,o x y≠.exn z
def mH(p:qr r o)(p':qr r' o')(n:qt o)(n':qt o')(σ:L2.St)(H:Hp)(Q:VK)(q:tD X.K E (fJ o o' f g h) σ H Q) :
  wR r r' (tD X.K E f) (tD X.K E g) (tD X.K E h) σ H Q:=by
 obtain⟨Ha,ρ,hs,hr,q⟩:=q;refine⟨Ha,ρ,hs,hr,?_⟩;unfold fJ at q;cases e1:f ρ with
 |stuck|exn x=>rw[e1]at q;exact q
 |ok x=>
  rw[e1]at q;intro v H1 H01 g1 r1;refine⟨H01,ρ,g1.sub,hr.mono g1.z,?_⟩;replace q:=post.grow (r:=(g ρ).bind λy=>(o x y).bind λz=>match z with
   |.bl true=>(h ρ).bind λw=>o' y w
   |.bl false=>.ok (.bl false)
   |_=>.stuck) q g1
  cases e2:g ρ with
  |stuck|exn x=>rw[e2]at q;exact q
  |ok y=>
   rw[e2]at q;intro u H2 H02 g2 r2;replace q:=post.grow (r:=(o x y).bind λz=>match z with
    |.bl true=>(h ρ).bind λw=>o' y w
    |.bl false=>.ok (.bl false)
    |_=>.stuck) q g2
   cases e3:o x y with
   |stuck=>rw[e3]at q;exact q.elim|exn z=>exact absurd e3 (n x y z)
   |ok z=>
    rw[e3]at q;refine p X.K x y v u H2 H02 _ z g2.sub (r1.mono g2.z) r2 e3 λw rw'=>?_;cases z with
    |bl b=>
     rw[aH.mp rw'];refine⟨b,rfl,?_⟩;cases b with
     |false=>rw[if_neg Bool.false_ne_true];exact q _ H2 H02 (aS.refl g2.sub) (rb _)
     |true=>
      rw[if_pos rfl];refine⟨H02,ρ,g2.sub,(hr.mono g1.z).mono g2.z,?_⟩;replace q:post X.K E H2 H02 ((h ρ).bind λw=>o' y w) Q:=q;cases e4:h ρ with
      |stuck|exn x=>rw[e4]at q;exact q
      |ok w2=>
       rw[e4]at q;intro v3 H3 H03 g3 r3;replace q:=post.grow (r:=o' y w2) q g3;cases e5:o' y w2 with
       |stuck=>rw[e5]at q;exact q.elim|exn z=>exact absurd e5 (n' y w2 z)
       |ok d=>
        rw[e5]at q;exact p' X.K y w2 u v3 H3 H03 Q d g3.sub (r2.mono g3.z) r3 e5 λw3 r5=>q w3 H3 H03 (aS.refl g3.sub) r5
    |_=>exact q.elim
def De(ho:dW X (compareOp op) r)(ho':dW X (compareOp op') r')(p:qr r o)(p':qr r' o')(n:qt o)(n':qt o')(ha:DE X E a f)(hb:DE X E b g)(hc:DE X E c h)
  (hm:lastMarks [op,op'] [b,c]=false:=by with_unfolding_all rfl):DE X E (.Compare a [op,op'] [b,c] pos) (fJ o o' f g h):=⟨aQ (B6 ho ho' ha.o hb.o hc.o hm) (mH p p' n n')⟩
def vZ(ho:dW X (compareOp op) r)(ho':dW X (compareOp op') r')(p:qr r o)(p':qr r' o')(n:qt o)(n':qt o')(ha:DE X E a f)(hb:DE X E b g)(hc:DE X E c h)
  (hm:lastMarks [op,op'] [b,c]=false:=by with_unfolding_all rfl):DT X E (.Compare a [op,op'] [b,c] pos) (fJ o o' f g h):=by
 refine⟨?_⟩;refine iM (BN ho ho' ha.o hb.o hc.o hm) λσ H Q q=>?_;have w:tD X.K E (fJ o o' f g h) σ H λx H'=>∃k,x=.bl k/\Q k H':=by
  obtain⟨Ha,ρ,hs,hr,q⟩:=q;refine⟨Ha,ρ,hs,hr,?_⟩;cases e1:fJ o o' f g h ρ with
  |stuck|exn x=>rw[e1]at q;exact q
  |ok d=>
   rw[e1]at q;intro v H1 H01 g1 r1;cases d with|bl b=>rw[aH.mp r1];exact⟨b,rfl,q H1 H01 g1⟩| _=>exact q.elim
 exact mH p p' n n' σ H _ w
def eR{c:Int->Int->Bool}{g:Int->Int->D}:qt (vx c g):=by
 intro x y z;unfold vx;cases x<;>cases y<;>simp<;>split<;>simp
end
def iR(i:Nat):Ev->Nat:=λρ=>match ρ[i]? with
 |some (.sh (.int j))=>j.natAbs+1
 |_=>0
section
variable {X:Cx}{E:XK}{a b:Expr}{f g:al}{pos:Pos}
def bQ(x y:D):ai D:=match x,y with
 |.int i,.int j=>if dg i j=true then .ok (.int (i*j)) else .stuck
 |_,_=>.stuck
def cz(ha:DE X E a f)(hb:DE X E b g):DE X E (.BinOp a .Mult b pos) (aa f g bQ):=so EE (by
 intro x y v u H Ha Q hs r1 r2 q;unfold bQ at q;cases x with
 |int i=>
  cases y with
  |int j=>
   by_cases h:dg i j=true
   .simp only[if_pos h]at q
    exact⟨i,j,ar.mp r1,ar.mp r2,dg.ok h,bh hs q (ri _)⟩
   .simp only[if_neg h]at q;exact q.elim
  |_=>exact q.elim
 |_=>exact q.elim) ha hb
end
def HA(K:W.Frag)(tg:Ev->D->ai Ev):TG:=λv σ H Q=>∃He H0e,tG K He H0e tg v σ H Q
theorem Reps.rep{K:W.Frag}(h:Reps K H ds vs):∀k:Nat,Reps K H (List.replicate k ds).flatten (List.replicate k vs).flatten
 |0=>by simp;exact Reps.nil
 |k+1=>by
  rw[List.replicate_succ,List.replicate_succ,List.flatten_cons,List.flatten_cons];exact h.app (Reps.rep h k)
section
variable {X:Cx}{E:XK}{a b:Expr}{f g:al}{pos:Pos}
def wo(x y:D):ai D:=match x,y with
 |.lst ds,.int k=>if ds.length*k.toNat<=line/\-9223372036854775808<=k/\k<9223372036854775808 then .ok (.lst (List.replicate k.toNat ds).flatten) else .stuck
 |_,_=>.stuck
def Eg(f g:al):al:=λρ=>(f ρ).bind λx=>match x with
 |.lst ds=>(g ρ).bind λy=>wo (.lst ds) y
 |_=>.stuck
def HP(ha:DF X E a f)(hb:DE X E b g):DE X E (.BinOp a .Mult b pos) (Eg f g):=by
 refine⟨?_⟩;refine aQ (B0 Hd ha.o hb.o) λσ H Q z9=>?_;obtain⟨Ha,ρ,hs,hr,q⟩:=z9;refine⟨Ha,ρ,hs,hr,?_⟩
 unfold Eg at q;cases e1:f ρ with
 |stuck|exn x=>rw[e1]at q;exact q
 |ok x=>
  rw[e1]at q;cases x with
  |lst ds=>
   replace q:post X.K E H Ha ((g ρ).bind λy=>wo (.lst ds) y) Q:=q;intro p vs H1 H01 g1 hp h0 hv rp;refine⟨H01,ρ,g1.sub,hr.mono g1.z,?_⟩;replace q:=q.grow g1;cases e2:g ρ with
   |stuck|exn x=>rw[e2]at q;exact q
   |ok y=>
    rw[e2]at q;intro u H2 H02 g2 r2;replace q:=post.grow (r:=wo (.lst ds) y) q g2;cases y with
    |int k=>
     unfold wo at q
     by_cases c:ds.length*k.toNat<=line/\-9223372036854775808<=k/\k<9223372036854775808
     .simp only[if_pos c]at q
      refine⟨p,k,vs,rfl,ar.mp r2,g2.s _ _ hv,by omega,by omega,by rw[←rp.length];exact cE c.1,λn hn=>?_⟩;exact q _ _ _ (aV g2.sub hn) (aE.mpr ⟨n,_,rfl,d9.of aC,((rp.mono g2.z).rep _).mono (aV g2.sub hn).z⟩)
     .simp only[if_neg c]at q;exact q.elim
    |_=>exact q.elim
  |_=>exact q.elim
end
def fG:ac->Option (List Str)
 |[]=>some []
 |.str x::r=>(fG r).map (x::·)
 |_=>none
theorem uE{K:W.Frag}{H:Hp}:∀{ds:ac}{ys:List Str}{vs:ad}{us:List Value},fG ds=some ys->Reps K H ds vs->ba vs us->StrsAre us ys
 |[],ys,vs,us,h,r,q=>by
  cases h;rw[Reps.nil_iff.mp r]at q;cases q;exact .nil
 |d::ds,ys,vs,us,h,r,q=>by
  obtain⟨v,r',rfl,h1,h2⟩:=aB.mp r;cases q with
  |cons q1 q2=>
   cases d with
   |str x=>
    unfold fG at h;cases e:fG ds with
    |none=>rw[e]at h;cases h
    |some zs=>
     rw[e]at h;cases h;rw[Rep.str_iff.mp h1]at q1;obtain⟨t,rfl⟩:=q1;exact .cons _ _ (uE e h2 q2)
   |_=>cases h
section
variable {X:Cx}{E:XK}{o e:Expr}{fo:al}{fa:Ev->ai (ac)}
def fw(z:Str)(ys:List Str):Bool:=decide (z.length<=16)&&decide ((ys.map (·.length)).sum+ys.length<=1048576)
def Jj(K:W.Frag):V->ad->Hp->VK->Prop:=λx xs H Q=>∃z p ds ys,x=.str z/\xs=[.ref p]/\Rep K H (.lst ds) (.ref p)/\fG ds=some ys/\fw z ys=true/\Q (.str (Txt.join z ys)) H
def EL:Me X "str.join" (Jj X.K):=by
 intro pins s σ H x xs v us Q I rx rs h;obtain⟨z,p,ds,ys,rfl,rfl,hr,hy,hf,q⟩:=h;obtain⟨t,rfl⟩:=rx;obtain⟨u,rfl,ru⟩:=rs.one;obtain⟨a,vs,its,ea,rfl,h1,h2,h3,h4,_⟩:=aT I hr ru;unfold fw at hf;rw[Bool.and_eq_true]at hf;exact join_listW h4 (by simpa using uE hy h2 h3) (of_decide_eq_true hf.1) (of_decide_eq_true hf.2) λt' k=>⟨.str (Txt.join z ys),H,I.tok _,⟨_,rfl⟩,q⟩
def jW(z:Str)(xs:ac):ai D:=match xs with
 |[.lst ds]=>match fG ds with
  |some ys=>if fw z ys=true then .ok (.str (Txt.join z ys)) else .stuck
  |none=>.stuck
 |_=>.stuck
def sq(fo:al)(fa:Ev->ai (ac)):al:=λρ=>(fo ρ).bind λx=>match x with
 |.str z=>(fa ρ).bind λxs=>jW z xs
 |_=>.stuck
def E9(ho:DE X E o fo)(ha:DA X E [e] fa)
  (hbase:attributeBase o "join" X.env (eval o X.env)=eval o X.env:=by rfl)
  (hfew:((backTo cpos (starEach [e] X.env)).all (λx=>!x.1)&&(backToKw cpos (keywordEach [] X.env)).all (λx=>x.1.isSome)
  &&decide ([e].length+([]:List Keyword).length+(if([]:List Keyword).isEmpty then 0 else 1)<30))=true:=by exact e7 rfl)
  (hline:(apos.endLine==cpos.line)=true:=by rfl) (hs:starEach [e] X.env=(false,eval e X.env)::starEach [] X.env:=by exact aN rfl) (hplain:(backTo cpos (starEach [] X.env)).any (·.1)=false:=by exact bw rfl) :
  DE X E (.Call (.Attribute o "join" apos) [e] [] cpos) (sq fo fa):=by
 refine⟨?_⟩;refine aQ (uT PySem.F.plainAttrs_str PySem.F.slot_str_join PySem.F.type_str_join EL ho.o ha.o hbase hfew hline hs hplain) λσ H Q z9=>?_;obtain⟨Ha,ρ,hs,hr,q⟩:=z9;refine⟨Ha,ρ,hs,hr,?_⟩
 unfold sq at q;cases e1:fo ρ with
 |stuck|exn x=>rw[e1]at q;exact q
 |ok x=>
  rw[e1]at q;intro v H1 H01 g1 r1;cases x with
  |str z=>
   rw[Rep.str_iff.mp r1];refine⟨rfl,H01,ρ,g1.sub,hr.mono g1.z,?_⟩;replace q:=post.grow (r:=(fa ρ).bind λxs=>jW z xs) q g1;cases e2:fa ρ with
   |stuck|exn x=>rw[e2]at q;exact q
   |ok xs=>
    rw[e2]at q;intro us H2 H02 g2 r2;replace q:=post.grow (r:=jW z xs) q g2;unfold jW at q
    match xs,r2,q with
    |[.lst ds],r2,q=>
     obtain⟨w,r',rfl,k1,k2⟩:=aB.mp r2;rw[Reps.nil_iff.mp k2];obtain⟨p,vs,rfl,k3,k4⟩:=aE.mp k1;cases e3:fG ds with
     |none=>simp only[e3]at q;exact q.elim
     |some ys=>
      simp only[e3]at q
      by_cases c:fw z ys=true
      .rw[if_pos c]at q
       exact⟨z,p,ds,ys,rfl,rfl,k1.mono g2.sub,e3,c,bh g2.sub q (Rep.str_iff.mpr rfl)⟩
      .rw[if_neg c]at q;exact q.elim
    |[],_,q=>exact q.elim
    |d1::_::_,_,q=>cases d1<;>exact False.elim q
    |[.non],_,q=>exact q.elim
    |[.bl _],_,q=>exact q.elim
    |[.int _],_,q=>exact q.elim
    |[.str _],_,q=>exact q.elim
    |[.tup _],_,q=>exact q.elim
    |[.dic _ _],_,q=>exact q.elim
    |[.exc _],_,q=>exact q.elim
    |[.ob _ _],_,q=>exact q.elim
  |_=>exact q.elim
end
section
variable {X:Cx}{E:XK}{a:Expr}{f:al}{pos:Pos}
def Li:V->Option Int->Option Int->Hp->VK->Prop:=λx lo hi H Q=>∃z,x=.str z/\z.length<=sizeLine/\Q (.str (Txt.slice z lo hi)) H
def Gy:DH X Li:=by
 intro pins s σ H x v vl vu lo hi sl Q I rx hs pl pu h;obtain⟨z,rfl,hz,q⟩:=h;obtain⟨t,rfl⟩:=rx;have fin:∀t' k,EP X pins σ Q (.str (Txt.slice z lo hi) t') { s with toks:=k }:=λt' k=>⟨.str (Txt.slice z lo hi),H,I.tok _,⟨_,rfl⟩,q⟩
 refine⟨"str",_,PySem.F.slot_str_getitem.lookup,typeIs_str s z t,?_⟩;cases pl with
 |none=>
  cases pu with|none=>exact wpAny_getItem_str_slice (l:=none) (u:=none) (st:=none) hs rfl (post_val_or_str ⟨Nat.le_trans (Txt.slice_le z _ _) hz,fin⟩)|int j uj=>exact wpAny_getItem_str_slice (l:=none) (u:=some (j,uj)) (st:=none) hs rfl (post_val_or_str ⟨Nat.le_trans (Txt.slice_le z _ _) hz,fin⟩)
 |int i ui=>
  cases pu with|none=>exact wpAny_getItem_str_slice (l:=some (i,ui)) (u:=none) (st:=none) hs rfl (post_val_or_str ⟨Nat.le_trans (Txt.slice_le z _ _) hz,fin⟩)|int j uj=>exact wpAny_getItem_str_slice (l:=some (i,ui)) (u:=some (j,uj)) (st:=none) hs rfl (post_val_or_str ⟨Nat.le_trans (Txt.slice_le z _ _) hz,fin⟩)
noncomputable def nI(x:D) (l h:Option Int):ai D:=match x with
 |.lst ds=>.ok (.lst (qP ds l h))
 |.str z=>if z.length<=line then .ok (.str (Txt.slice z l h)) else .stuck
 |.tup ds=>if HT.sIx ds.length 0 l=0/\HT.sIx ds.length ds.length h=ds.length then .stuck else .ok (.tup (qP ds l h))
 |_=>.stuck
def AQ(f:al)(lo hi:Ev->ai (Option Int)):al:=λρ=>(f ρ).bind λx=>(lo ρ).bind λl=>(hi ρ).bind λh=>nI x l h
def rZ{lo hi:Option Expr}(ha:DE X E a f)(hl:DO X E lo fl)(hh:DO X E hi fh):DE X E (.Subscript a (.Slice lo hi none p2) pos) (AQ f fl fh) :=
 ⟨aQ (uR (DH.or yn (DH.or Gy Gx)) ha.o hl.o hh.o) (uF (m:=nI) λx v l h H Ha Q hs r q=>by
  cases x with
  |lst ds=>
   obtain⟨p,vs,rfl,h1,h2⟩:=aE.mp r;exact .inl ⟨p,vs,rfl,aA.sqL hs h1,λn hn=>q _ _ _ (aV hs hn) (aE.mpr ⟨n,_,rfl,d9.of aC,(h2.cut l h).mono (aV hs hn).z⟩)⟩
  |str z=>
   unfold nI at q
   by_cases c:z.length<=line
   .simp only[if_pos c]at q
    exact .inr (.inl ⟨z,Rep.str_iff.mp r,cE c,bh hs q (Rep.str_iff.mpr rfl)⟩)
   .simp only[if_neg c]at q;exact q.elim
  |tup ds=>
   unfold nI at q
   by_cases c:HT.sIx ds.length 0 l=0/\HT.sIx ds.length ds.length h=ds.length
   .simp only[if_pos c]at q;exact q.elim
   .simp only[if_neg c]at q
    obtain⟨p,vs,rfl,h1,h2⟩:=aI.mp r;exact .inr (.inr ⟨p,vs,rfl,aA.sqT hs h1,by rw[←h2.length];exact c,λn hn=>q _ _ _ (aV hs hn) (aI.mpr ⟨n,_,rfl,i4.of aC,(h2.cut l h).mono (aV hs hn).z⟩)⟩)
  |_=>exact q.elim)⟩
end
def LJ(z:Str):It:=⟨λi _=>i<z.cps.size,λi H x H'=>H'=H/\∃c,z.cps[i]?=some c/\x=.str ⟨#[c]⟩,λi _=>z.cps.size<=i⟩
def wO{P:Program}{w:World}{K:W.Frag}{tg:Expr}(z:Str)(t:Tok)(it:Addr):xZ P w K tg (LJ z) [it] it (λi h=>h.IsStrIter it "str_ascii_iterator" z t i) where
 mem:=by simp
 obj:=λi h st b hb=>by
  have e:b=it:=by simpa using hb
  subst e;obtain⟨o,e,c,d⟩:=st;exact⟨o,e,λv z=>by rw[d]at z;cases z⟩
 keep:=λi h h' st k=>let ⟨o,ho,r⟩:=st;⟨o,k it (by simp) o ho,r⟩
 item:=by
  intro X hP hw hK hc i pins s σ H E I hf st hg;subst hP hw hK;have hg':i<z.cps.size:=hg;obtain⟨f0,f1,f2,f3,f4,f5⟩:=hf it (by simp);refine wpAny_pyNext_ascii_item st (c:=z.cps[i]) (by simp[hg']) λh' st' sb=>?_;have I1:Inv X pins σ H { s with heap:=h',toks:=s.toks+1 }:=I.turned (t':=s.toks+1) (λb o hb e=>(sb.2 b hb).trans e) f0 f1 f3 f4 f5;obtain⟨o,e,c,d⟩:=id st';exact⟨_,rfl,vy (s:={ s with heap:=h',toks:=s.toks+1 }) e c d (by decide) ⟨.str ⟨#[z.cps[i]]⟩,H,I1,⟨_,rfl⟩,⟨rfl,_,by simp[hg'],rfl⟩,st',λb hb=>(hf b hb).1⟩⟩
 done:=by
  intro X hP hw hK hc i pins s σ H E I hf st hg;subst hP hw hK;have hg':z.cps.size<=i:=hg;obtain⟨f0,f1,f2,f3,f4,f5⟩:=hf it (by simp);exact wpAny_pyNext_ascii_end (I.ok.hd hc) st (by simp[hg']) λh' eb=>⟨rfl,I.turned (t':=s.toks) (λb o hb e=>eb b o hb e) f0 f1 f3 f4 f5⟩
 self:=λ_ _ _ _ _ st h=>wpAny_pyIter_striter_ascii st h
def Ab{P:Program}{w:World}{K:W.Frag}{tg:Expr}(z:Str)(t:Tok)(it:Addr):xZ P w K tg (LJ z) [it] it (λi h=>h.IsStrIter it "str_iterator" z t i) where
 mem:=by simp
 obj:=λi h st b hb=>by
  have e:b=it:=by simpa using hb
  subst e;obtain⟨o,e,c,d⟩:=st;exact⟨o,e,λv z=>by rw[d]at z;cases z⟩
 keep:=λi h h' st k=>let ⟨o,ho,r⟩:=st;⟨o,k it (by simp) o ho,r⟩
 item:=by
  intro X hP hw hK hc i pins s σ H E I hf st hg;subst hP hw hK;have hg':i<z.cps.size:=hg;obtain⟨f0,f1,f2,f3,f4,f5⟩:=hf it (by simp);refine wpAny_pyNext_wide_item st (c:=z.cps[i]) (by simp[hg']) λh' st' sb=>?_;have I1:Inv X pins σ H { s with heap:=h',toks:=s.toks+1 }:=I.turned (t':=s.toks+1) (λb o hb e=>(sb.2 b hb).trans e) f0 f1 f3 f4 f5;obtain⟨o,e,c,d⟩:=id st';exact⟨_,rfl,vy (s:={ s with heap:=h',toks:=s.toks+1 }) e c d (by decide) ⟨.str ⟨#[z.cps[i]]⟩,H,I1,⟨_,rfl⟩,⟨rfl,_,by simp[hg'],rfl⟩,st',λb hb=>(hf b hb).1⟩⟩
 done:=by
  intro X hP hw hK hc i pins s σ H E I hf st hg;subst hP hw hK;have hg':z.cps.size<=i:=hg;obtain⟨f0,f1,f2,f3,f4,f5⟩:=hf it (by simp);exact wpAny_pyNext_wide_end (I.ok.hd hc) st (by simp[hg']) λh' eb=>⟨rfl,I.turned (t':=s.toks) (λb o hb e=>eb b o hb e) f0 f1 f3 f4 f5⟩
 self:=λ_ _ _ _ _ st h=>wpAny_pyIter_striter_wide st h
def Ls(tl:TE):TI:=λσ H R=>tl σ H λx H1=>∃z,x=.str z/\R (LJ z) H1
def G0(hl:PE X l tl):PI X tg l (Ls tl):=by
 intro pins s σ H R I h;refine cu (hl pins s σ H _ I h) λv s1 ⟨x,H1,I1,r1,q1⟩=>?_;obtain⟨z,rfl,q⟩:=q1;obtain⟨t,rfl⟩:=r1;have fpo:∀b∈[s1.heap.objs.size],lF X pins H1 b:=λb hb=>by
  have e:b=s1.heap.objs.size:=by simpa using hb
  subst e;exact I1.fpOk (Nat.le_refl _) (I1.hok.fresh (Nat.le_refl _))
 cases ha:z.cps.all (· < 128) with|false=>exact wpAny_pyIter_wide ha ⟨s1.heap.objs.size,[s1.heap.objs.size],_,_,H1,rfl,I1.kept (t':=s1.toks) λb o e=>Heap.get?_push_of_some _ e,Ab z t _,⟨_,Heap.get?_push_size _ rfl,rfl,rfl⟩,fpo,q⟩|true=>exact wpAny_pyIter_ascii ha ⟨s1.heap.objs.size,[s1.heap.objs.size],_,_,H1,rfl,I1.kept (t':=s1.toks) λb o e=>Heap.get?_push_of_some _ e,wO z t _,⟨_,Heap.get?_push_size _ rfl,rfl,rfl⟩,fpo,q⟩
def g6(z:Str):ac:=z.cps.toList.map λc=>.str ⟨#[c]⟩
def jk(z:Str):(g6 z).length=z.cps.size:=by unfold g6;simp
section
variable {X:Cx}{E:XK}
def Jr(K:W.Frag):ad->Hp->VK->Prop:=λxs H Q=>∃(p:Addr) (bs:List Bool),xs=[.ref p]/\d9 K H p (bs.map V.bl)/\Q (.bl (bs.all id)) H
theorem sN:∀bs:List Bool,(List.range bs.length).all (λi=>bs.getD i false)=bs.all id
 |[]=>rfl
 |b::r=>by
  rw[List.length_cons,List.range_succ_eq_map,List.all_cons,List.all_map,List.all_cons,←sN r];rfl
def Dk(hc:X.calm=true):iJ X (.builtin "all") (Jr X.K):=by
 intro pins s σ H xs us Q I r h;obtain⟨p,bs,rfl,hq,q⟩:=h;obtain⟨u,rfl,rx⟩:=qX r;cases rx;obtain⟨its,rv,pl,hz⟩:=I.list hq;have hlen:=rv.length;rw[List.length_map]at hlen;have hne:p≠s.heap.objs.size:=Nat.ne_of_lt pl.lt;refine call_all_walk (wpAny_pyIter_list pl.isList ?_);have pl2:(s.heap.push { cls:=.type "list_iterator",data:=.fields #[.ref p,.int 0 0] }).IsList p its.toArray:=by
  obtain⟨o,k1,k2⟩:=pl.isList;exact⟨o,Heap.get?_push_of_some _ k1,k2⟩
 refine⟨s.heap.objs.size,_,_,_,_,_,λi=>bs.getD i false,rfl,Walks.list (A:=X.A.in1) (I.ok.hd hc) s.heap.objs.size p hne its.toArray,⟨⟨_,Heap.get?_push_size _ rfl,rfl,rfl⟩,pl2⟩,?_,λh' tk hk=>?_⟩
 .intro i v s' Q' E' hv hQ
  have hv':its[i]?=some v:=by simpa using hv
  have hi:i<its.length:=(List.getElem?_eq_some_iff.mp hv').1;obtain⟨w,e1,e2⟩:=rv.get (show(bs.map V.bl)[i]?=some (V.bl (bs.getD i false)) by
   rw[List.getElem?_map,List.getElem?_eq_getElem (by omega)];simp[List.getD,List.getElem?_eq_getElem (show i<bs.length by omega)])
  rw[hv']at e1;cases e1;obtain rfl:v=Value.bool _:=e2;exact wpAny_truthy_bool hQ
 .have hall:(List.range its.toArray.size).all (λi=>bs.getD i false)=bs.all id:=by
   rw[List.size_toArray,←hlen];exact sN bs
  rw[hall];exact⟨.bl _,H,I.kept (t':=tk) (λb o e=>hk b o (by simp only[List.mem_singleton];exact Nat.ne_of_lt (Heap.lt_size e)) (Heap.get?_push_of_some _ e)),rfl,q⟩
def fE:ac->Option (List Bool)
 |[]=>some []
 |.bl b::r=>(fE r).map (b::·)
 |_=>none
theorem sE{K:W.Frag}{H:Hp}:∀{ds:ac}{bs:List Bool}{vs:ad},fE ds=some bs->Reps K H ds vs->vs=bs.map V.bl
 |[],bs,vs,h,r=>by cases h;exact Reps.nil_iff.mp r
 |d::ds,bs,vs,h,r=>by
  obtain⟨v,r',rfl,h1,h2⟩:=aB.mp r;cases d with
  |bl x=>
   unfold fE at h;cases e:fE ds with
   |none=>rw[e]at h;cases h
   |some zs=>
    rw[e]at h;cases h;rw[aH.mp h1,sE e h2];rfl
  |_=>cases h
def Ff(x:D):ai D:=match x with
 |.lst ds=>match fE ds with
  |some bs=>.ok (.bl (bs.all id))
  |none=>.stuck
 |_=>.stuck
def Ia:iK X E (Jr X.K) (m1 Ff):=wB λx v H Ha Q hs r q=>by
 cases x with
 |lst ds=>
  unfold Ff at q;obtain⟨p,vs,rfl,h1,h2⟩:=aE.mp r;cases e:fE ds with
  |none=>simp only[e]at q;exact q.elim
  |some bs=>
   simp only[e]at q;exact⟨p,bs,rfl,by rw[←sE e h2];exact aA.sqL hs h1,bh hs q (rb _)⟩
 |_=>exact q.elim
end
end DL
namespace L2
open PySem PySem.Spec PyProof.Rows
section
variable {κ:Type}[DecidableEq κ]
def mO(kvs:List (κ×V))(k:κ):Option V:=(kvs.find? λkv=>decide (kv.1=k)).map (·.2)
def fQ(kvs:List (κ×V))(k:κ)(v:V):List (κ×V) :=
 if(kvs.any λkv=>decide (kv.1=k))=true then kvs.map (λkv=>if kv.1=k then(kv.1,v) else kv) else kvs++[(k,v)]
def jH{p:κ×V}{r:List (κ×V)}{k:κ}(e:p.1=k):mO (p::r) k=some p.2:=by simp[mO,List.find?_cons,e]
def gZ{p:κ×V}{r:List (κ×V)}{k:κ}(e:¬p.1=k):mO (p::r) k=mO r k:=by simp[mO,List.find?_cons,e]
theorem uC(k:κ):∀kvs:List (κ×V),(kvs.any λkv=>decide (kv.1=k))=(mO kvs k).isSome
 |[]=>rfl
 |p::r=>by
  rw[List.any_cons]
  by_cases e:p.1=k
  .simp only[jH e,decide_eq_true e,Bool.true_or,Option.isSome_some]
  .rw[gZ e,decide_eq_false e,Bool.false_or];exact uC k r
def ij(kvs:List (κ×V))(k:κ)(v:V):(fQ kvs k v).length<=kvs.length+1:=by
 unfold fQ;split
 .rw[List.length_map];omega
 .rw[List.length_append,List.length_cons,List.length_nil];omega
def qT.isSome_eq(r:qT o u):o.isSome=u.isSome:=by
 cases o with
 |none=>cases u with
  |none=>rfl
  |some _=>exact(show False from r).elim
 |some _=>cases u with
  |none=>exact(show False from r).elim
  |some _=>rfl
def qT.getD(r:qT o u)(rd:bb d d'):bb (o.getD d) (u.getD d'):=by
 cases o with
 |none=>cases u with
  |none=>exact rd
  |some _=>exact(show False from r).elim
 |some _=>cases u with
  |none=>exact(show False from r).elim
  |some _=>exact r
def KV.val{kvs:List (κ×V)}{vs:List (κ×Value)}(r:KV kvs vs)(k:κ):qT (mO kvs k) (valueAt vs k):=by
 unfold KV at r
 induction r with
 |nil=>exact True.intro
 |@cons p q ps qs h t ih=>
  obtain⟨h1,h2⟩:=h
  by_cases e:p.1=k
  .have e':q.1=k:=h1.symm.trans e
   have b:valueAt (q::qs) k=some q.2:=by simp[valueAt,List.find?_cons,e']
   rw[jH e,b];exact h2
  .have e':¬q.1=k:=λz=>e (h1.trans z)
   have b:valueAt (q::qs) k=valueAt qs k:=by simp[valueAt,List.find?_cons,e']
   rw[gZ e,b];exact ih
def KV.any{kvs:List (κ×V)}{vs:List (κ×Value)}(r:KV kvs vs)(k:κ):(kvs.any λkv=>decide (kv.1=k))=vs.any λkv=>decide (kv.1=k):=by
 unfold KV at r
 induction r with|nil=>rfl|cons h t ih=>rw[List.any_cons,List.any_cons,ih,h.1]
def KV.repl{kvs:List (κ×V)}{vs:List (κ×Value)}(r:KV kvs vs)(k:κ){y:V}{u:Value}(ry:bb y u) :
  KV (kvs.map λkv=>if kv.1=k then(kv.1,y) else kv) (vs.map λkv=>if kv.1=k then(kv.1,u) else kv):=by
 unfold KV at r ⊢
 induction r with
 |nil=>exact .nil
 |@cons p q ps qs h t ih=>
  rw[List.map_cons,List.map_cons];refine .cons ?_ ih;obtain⟨h1,h2⟩:=h
  by_cases e:p.1=k
  .rw[if_pos e,if_pos (h1.symm.trans e)];exact⟨h1,ry⟩
  .rw[if_neg e,if_neg (λz=>e (h1.trans z))];exact⟨h1,h2⟩
def KV.put{kvs:List (κ×V)}{vs:List (κ×Value)}(r:KV kvs vs)(k:κ){y:V}{u:Value}(ry:bb y u):KV (fQ kvs k y) (stored vs k u):=by
 unfold fQ stored;rw[r.any k]
 by_cases e:(vs.any λkv=>decide (kv.1=k))=true
 .rw[if_pos e,if_pos e];exact r.repl k ry
 .rw[if_neg e,if_neg e];exact Paired.snoc r ⟨rfl,ry⟩
def KV.length{kvs:List (κ×V)}{vs:List (κ×Value)}(r:KV kvs vs):kvs.length=vs.length:=Paired.length r
end
def oi{k:eC}(r:bb (kV k) u):(cc P w).is k u=true:=by
 cases k with|inl i=>obtain⟨t,e⟩:=(show ∃t,u=Value.int i t from r);subst e;exact vj P w i t|inr x=>obtain⟨t,e⟩:=(show ∃t,u=Value.str x t from r);subst e;exact vi P w x t
theorem rz:∀{ks:List eC}{us:List Value},ba (ks.map kV) us->ItemsAre (cc P w) ks us
 |[],_,r=>by rw[List.map_nil]at r;cases r;exact .nil
 |k::ks,_,r=>by
  rw[List.map_cons]at r;cases r with|cons h t=>exact .cons (oi h) (rz t)
abbrev KT(H:Hp):List (List eC×V)->List (List eC×Addr×Value)->Prop:=Paired λp q=>p.1=q.1/\H q.2.1=some (.tup (p.1.map kV))/\bb p.2 q.2.2
def KT.val(r:KT H kvs xs)(k:List eC):qT (mO kvs k) ((atKey xs k).map (·.2)):=by
 induction r with
 |nil=>exact True.intro
 |@cons p q ps qs h t ih=>
  obtain⟨h1,_,h2⟩:=h
  by_cases e:p.1=k
  .have e':q.1=k:=h1.symm.trans e
   have b:atKey (q::qs) k=some q.2:=by simp[atKey,List.find?_cons,e']
   rw[jH e,b];exact h2
  .have e':¬q.1=k:=λz=>e (h1.trans z)
   have b:atKey (q::qs) k=atKey qs k:=by simp[atKey,List.find?_cons,e']
   rw[gZ e,b];exact ih
def KT.repl(r:KT H kvs xs)(k:List eC)(ry:bb y u) :
  KT H (kvs.map λkv=>if kv.1=k then(kv.1,y) else kv) (xs.map (putAt k u)):=by
 induction r with
 |nil=>exact .nil
 |@cons p q ps qs h t ih=>
  rw[List.map_cons,List.map_cons];refine .cons ?_ ih;obtain⟨h1,h2,h3⟩:=h;unfold putAt
  by_cases e:p.1=k
  .rw[if_pos e,if_pos (h1.symm.trans e)];exact⟨h1,h2,ry⟩
  .rw[if_neg e,if_neg (λz=>e (h1.trans z))];exact⟨h1,h2,h3⟩
def KT.put(r:KT H kvs xs)(k:List eC)(hb:H b=some (.tup (k.map kV)))(ry:bb y u) :
  KT H (fQ kvs k y) (storedH xs k b u):=by
 have e:(kvs.any λkv=>decide (kv.1=k))=(atKey xs k).isSome:=by
  rw[uC,(r.val k).isSome_eq,Option.isSome_map]
 unfold fQ storedH;rw[e]
 by_cases q:(atKey xs k).isSome=true
 .rw[if_pos q,if_pos q];exact r.repl k ry
 .rw[if_neg q,if_neg q];exact Paired.snoc r ⟨rfl,hb,ry⟩
def KT.keeps(r:KT H kvs xs)(ht:∀b ys,H b=some (.tup ys)->H' b=some (.tup ys)):KT H' kvs xs :=
 iI r λ_ _ z=>⟨z.1,ht _ _ z.2.1,z.2.2⟩
section
variable {P:Program}{w:World}{H:Hp}{h:Heap}{a:Addr}
def FG(ok:jF P w H h)(e:Rd H a u):cw P w H h a u:=e.ok ok
def pL(ok:jF P w H h)(e:Rd H a (.dK kvs)):kvs.length<=sizeLine/\(a==sysModules)=false/\∃vs,KV kvs vs/\h.DictOf (cc P w) a vs :=
 show cw P w H h a (.dK kvs) from FG ok e
def F5(ok:jF P w H h)(e:H a=some (.dK kvs)):kvs.length<=sizeLine/\(a==sysModules)=false/\∃vs,KV kvs vs/\h.DictOf (cc P w) a vs:=pL ok (.inl e)
def lU(ok:jF P w H h)(e:H a=some (.tup (ks.map kV))):(tupleKind (cc P w)).is h ks a:=by
 obtain⟨_,its,r,o,h1,h2,n,h3⟩:=(show cw P w H h a (.tup (ks.map kV)) from ok a _ e)
 exact⟨o,its.toArray,n,h1,h2,h3,by simpa using rz r⟩
def pG(ok:jF P w H h)(e:Rd H a (.dT kvs)):kvs.length<=sizeLine/\(a==sysModules)=false /\
  ∃xs,KT H kvs xs/\h.DictOfH (tupleKind (cc P w)) a xs:=by
 obtain⟨z,y,xs,r,o,es,ep,h1,h2,h3,h4,h5⟩:=(show cw P w H h a (.dT kvs) from FG ok e)
 refine⟨z,y,xs,r,o,es,ep,h1,h2,h3,h4,λx hx=>?_,h5⟩;have all:∀{l:List (List eC×V)}{m:List (List eC×Addr×Value)},KT H l m->∀x∈m,(tupleKind (cc P w)).is h x.1 x.2.1:=by
  intro l m q
  induction q with
  |nil=>intro x hx;exact nomatch hx
  |@cons p q ps qs hq t ih=>
   intro x hx;rcases List.mem_cons.mp hx with e|hx
   .subst e
    exact lU ok (by rw[←hq.1];exact hq.2.1)
   .exact ih x hx
 exact all r x hx
def J9(ok:jF P w H h)(e:H a=some (.dT kvs)):kvs.length<=sizeLine/\(a==sysModules)=false /\
  ∃xs,KT H kvs xs/\h.DictOfH (tupleKind (cc P w)) a xs:=pG ok (.inl e)
end
def qA(H:Hp)(a:Addr)(y:V)(r:Option V):Prop :=
 (∃kvs k,Rd H a (.dK kvs)/\y=kV k/\r=mO kvs k)∨∃kvs k b,Rd H a (.dT kvs)/\y=.ref b/\H b=some (.tup (k.map kV))/\r=mO kvs k
noncomputable def A2(H:Hp) (a:Addr) (y v:V) (H':Hp):Prop :=
 (∃kvs k,H a=some (.dK kvs)/\y=kV k/\kvs.length<sizeLine/\H'=upd H a (.dK (fQ kvs k v))) ∨
 ∃kvs k b,H a=some (.dT kvs)/\y=.ref b/\H b=some (.tup (k.map kV))/\kvs.length<sizeLine/\H'=upd H a (.dT (fQ kvs k v))
theorem A2.k{k:eC}(e:H a=some (.dK kvs))(hl:kvs.length<sizeLine):A2 H a (kV k) v (upd H a (.dK (fQ kvs k v))):=.inl ⟨kvs,k,e,rfl,hl,rfl⟩
section
variable {X:Cx}{pins:List (Addr×Obj)}{σ:St}{H:Hp}{s:Shared}{a:Addr}{y v:V}{u r:Value}{o:Option V}{A:Around}{E:Value->Shared->Prop}
def Inv.big(I:Inv X pins σ H s):sysModules<s.heap.objs.size:=by
 have h:mainGlobals<s.heap.objs.size:=(I.mod.glob.keeps I.bk).lt;exact Nat.lt_trans (by decide) h
def AO(hu:A.units+1<cLine)(I:Inv X pins σ H s)(g:qA H a y (some v))(ry:bb y u)(h:∀w' s',Inv X pins σ H s'->bb v w'->Q w' s') :
  wpAny (model X.prog X.w) A (getItem (.ref a) u) Q E s:=by
 rcases g with⟨kvs,k,e,ey,l⟩|⟨kvs,k,b,e,ey,eb,l⟩
 .subst ey
  obtain⟨z,hd,vs,rel,dd⟩:=pL I.hok e;obtain⟨w',hw,rw'⟩:=lC (v:=v) (o:=valueAt vs k) (by rw[l];exact rel.val k);exact wpAny_getItem_of (oi ry) dd.mapOf hw (h w' _ (I.tok _) rw')
 .subst ey
  cases (show u=Value.ref b from ry);obtain⟨z,hd,xs,rel,dd⟩:=pG I.hok e;obtain⟨w',hw,rw'⟩:=lC (v:=v) (o:=(atKey xs k).map (·.2)) (by rw[l];exact rel.val k);obtain⟨p,hp,hp2⟩:=Option.map_eq_some_iff.mp hw;refine wpAny_getItem_heap (tupleKind_room_in1 hu) (lU I.hok eb) dd hp ?_;rw[hp2];exact h w' _ (I.tok _) rw'
def Ly(hu:A.units+1<cLine)(I:Inv X pins σ H s)(g:qA H a y o)(ry:bb y u)(h:∀s',Inv X pins σ H s'->Q (.bool o.isSome) s') :
  wpAny (model X.prog X.w) A (compareOp .In u (.ref a)) Q E s:=by
 rcases g with⟨kvs,k,e,ey,l⟩|⟨kvs,k,b,e,ey,eb,l⟩
 .subst ey
  obtain⟨z,hd,vs,rel,dd⟩:=pL I.hok e;refine wpAny_in_of (oi ry) hd dd.mapOf ?_;rw[←(rel.val k).isSome_eq,←l];exact h _ (I.tok _)
 .subst ey
  cases (show u=Value.ref b from ry);obtain⟨z,hd,xs,rel,dd⟩:=pG I.hok e;refine wpAny_in_heap (tupleKind_room_in1 hu) (lU I.hok eb) hd dd ?_;have q:=(rel.val k).isSome_eq;rw[Option.isSome_map]at q;rw[←q,←l];exact h _ (I.tok _)
def Fd(hu:A.units+1<cLine)(I:Inv X pins σ H s)(g:qA H a y o)(ry:bb y u)(h:∀s',Inv X pins σ H s'->Q (.bool (!o.isSome)) s') :
  wpAny (model X.prog X.w) A (compareOp .NotIn u (.ref a)) Q E s:=by
 rcases g with⟨kvs,k,e,ey,l⟩|⟨kvs,k,b,e,ey,eb,l⟩
 .subst ey
  obtain⟨z,hd,vs,rel,dd⟩:=pL I.hok e;refine wpAny_notIn_of (oi ry) hd dd.mapOf ?_;rw[←(rel.val k).isSome_eq,←l];exact h _ (I.tok _)
 .subst ey
  cases (show u=Value.ref b from ry);obtain⟨z,hd,xs,rel,dd⟩:=pG I.hok e;refine wpAny_notIn_heap (tupleKind_room_in1 hu) (lU I.hok eb) hd dd ?_;have q:=(rel.val k).isSome_eq;rw[Option.isSome_map]at q;rw[←q,←l];exact h _ (I.tok _)
def ug(I:Inv X pins σ H s)(mu:Km (H a))(hs:Heap.SameBut a s.heap h')(he:∃q,h'.get? a=some q)(new:cw X.prog X.w (upd H a ob) h' a ob) :
  Inv X pins σ (upd H a ob) { s with heap:=h',toks:=t' } :=
 I.write (x:=a) (e:=a) mu (.inl rfl) (λb q hb z=>(hs.2 b hb).trans z) he new
def C4(z:kvs.length<=sizeLine)(hd:(a==sysModules)=false)(rel:KV kvs vs)(dd:h'.DictOf (cc P w) a vs) :
  cw P w H' h' a (.dK kvs):=⟨z,hd,vs,rel,dd⟩
def AN(hu:A.units+1<cLine)(I:Inv X pins σ H s)(g:A2 H a y v H')(ry:bb y u)(rv:bb v r)(h:∀s',Inv X pins σ H' s'->Q () s') :
  wpAny (model X.prog X.w) A (setItem (.ref a) u r) Q E s:=by
 rcases g with⟨kvs,k,e,ey,l,eH⟩|⟨kvs,k,b,e,ey,eb,l,eH⟩
 .subst ey eH
  obtain⟨z,hd,vs,rel,dd⟩:=F5 I.hok e;have hz:vs.length<=sizeLine:=by rw[←rel.length];exact z
  have hl:(fQ kvs k v).length<=sizeLine:=by have:=ij kvs k v;omega
  refine wpAny_setItem_pairs (hsz:=hz) (oi ry) dd λh' dd' hs=>h _ ?_;have he:∃q,h'.get? a=some q:=let ⟨q,_,_,hq,_⟩:=dd';⟨q,hq⟩;exact ug I (by rw[e];exact True.intro) hs he (C4 hl hd (rel.put k rv) dd')
 .subst ey eH
  cases (show u=Value.ref b from ry);obtain⟨z,hd,xs,rel,dd⟩:=J9 I.hok e;have hz:xs.length<=sizeLine:=by rw[←Paired.length rel];exact z
  have hl:(fQ kvs k v).length<=sizeLine:=by have:=ij kvs k v;omega
  refine wpAny_setItem_heap (hsz:=hz) (tupleKind_room_in1 hu) (lU I.hok eb) dd λh' dd' hs=>h _ ?_;obtain⟨q,es,ep,hq,h2,h3,h4,_,h5⟩:=dd';refine ug I (by rw[e];exact True.intro) hs ⟨q,hq⟩ ⟨hl,hd,_,(rel.put k eb rv).keeps λc ys ec=>?_,q,es,ep,hq,h2,h3,h4,h5⟩;rw[av (JK ec e (λz=>nomatch z))];exact ec
end
def Io(i:Expr):Prop:=∀ov iv,subscripted i false ov iv=operate [ov,iv] (getItem ov iv)
def Eb{T id:String} 
  (hl:typeLookup (.type T) "__getitem__"=pure (some (.builtin id)))(hs:Io slice)
  (h:wpAny (model prog w) A (eval value env) (λo sg=>wpAny (model prog w) A (eval slice env) (λi si=>si.TypeIs o T/\wpAny (model prog w) A (getItem o i) Q E si) E sg) E s) :
  wpAny (model prog w) A (eval (.Subscript value slice pos) env) Q E s:=by
 refine Subscript_ (wpAny_mono h (λo sg hE=>wpAny_mono hE (λi si hU=>?_) λ_ _ x=>x) λ_ _ x=>x);obtain⟨hT,hU⟩:=hU;unfold subscriptTail;refine wpAny_bind ?_;rw[getitemInPython_of_ne hT.not_modules];refine wpAny_bind (wpAny_specialOf hT hl ?_);have fin:wpAny (model prog w) A (subscripted slice false o i) (λr sj=>wpAny (model prog w) A (letTemporaryGo value o r >>= λ_=>pure r) Q E sj) E si:=by
  rw[hs o i];exact wpAny_operating (wpAny_mono hU (λr sj hV=>wpAny_bind (wpAny_letTemporaryGo (wpAny_pure hV))) λ_ _ x=>x)
 first
  |exact wpAny_pure (wpAny_bind fin)
  |exact wpAny_bind (wpAny_pure (wpAny_bind fin))
  |exact wpAny_bind fin
def v9(I:Inv X pins σ H s)(g:qA H a y o):s.TypeIs (.ref a) "dict":=by
 rcases g with⟨kvs,k,e,_,_⟩|⟨kvs,k,b,e,_,_,_⟩
 .obtain⟨_,_,vs,_,dd⟩:=pL I.hok e
  exact dd.typeIs
 .obtain⟨_,_,xs,_,dd⟩:=pG I.hok e
  exact dd.typeIs
def IV(td ty:TE):TE:=λσ H Q=>td σ H λx H1=>ty σ H1 λy H2=>∃a v,x=.ref a/\qA H2 a y (some v)/\Q v H2
def Jc(td ty tv:TE):TS:=λD σ H=>tv σ H λv H1=>td σ H1 λx H2=>ty σ H2 λy H3=>∃a H4,x=.ref a/\A2 H3 a y v H4/\D.nx σ H4
section
variable {X:Cx}{o i e value:Expr}{pos pos' tpos:Pos}{td ty tv:TE}
def EB(hu:X.A.units+1<cLine)(ho:PE X o td)(hi:PE X i ty)(hs:Io i):PE X (.Subscript o i pos) (IV td ty):=by
 intro pins s σ H Q I h;refine Eb PySem.F.slot_dict_getitem.lookup hs (cu (ho pins s σ H _ I h) λu s1 ⟨x,H1,I1,rx,q1⟩=>cu (hi pins s1 σ H1 _ I1 q1) λiv s2 z9=>?_);obtain⟨y,H2,I2,ry,a,v,ex,g,q2⟩:=z9;subst ex;obtain rfl:u=Value.ref a:=rx;exact⟨v9 I2 g,AO hu I2 g ry λw' s3 I3 rw'=>⟨v,H2,I3,rw',q2⟩⟩
def Ep(hu:X.A.units+1<cLine)(ho:PE X o td)(hi:PE X i ty)(hv:PE X value tv)(hs:swapsWith value (some (.Subscript o i pos')) pos.line X.env=pure false) :
  PS X (.Assign [.Subscript o i pos'] value pos) (Jc td ty tv):=by
 intro pins s σ H D I h;refine wpAny_Assign_Subscript (cu (hv pins s σ H _ I h) λr s1 ⟨v,H1,I1,rv,q1⟩=>cu (ho pins s1 σ H1 _ I1 q1) λu s2 ⟨x,H2,I2,rx,q2⟩=>cu (hi pins s2 σ H2 _ I2 q2) λiv s3 z9=>?_) hs;obtain⟨y,H3,I3,ry,a,H4,ex,g,q3⟩:=z9;subst ex;obtain rfl:u=Value.ref a:=rx;exact AN hu I3 g ry rv λs4 I4=>⟨σ,H4,I4,q3⟩
end
def v8(h:Heap)(hb:sysModules<h.objs.size):cw P w H (h.push { cls:=.type "dict",data:=.dict #[] }) h.objs.size (.dK []) :=
 ⟨Nat.zero_le _,beq_eq_false_iff_ne.mpr (Ne.symm (Nat.ne_of_lt hb)),[],.nil,Heap.DictOf.new h⟩
def Gu:TE:=λ_ H Q=>∀p,H p=none->Q (.ref p) (upd H p (.dK []))
section
variable {X:Cx}{pos:Pos}
def B4:PE X (.Dict [] [] pos) Gu:=λpins s σ H Q I h=>
 wpAny_Dict_empty ⟨.ref s.heap.objs.size,_,I.laid (a:=s.heap.objs.size) (o:=.dK []) (t':=s.toks) (λ_ _ q=>Heap.get?_push_of_some _ q) (Nat.le_refl _) (v8 s.heap I.big),rfl,h _ (I.hok.fresh (Nat.le_refl _))⟩
end
def wQ:List (TE×TE)->St->Hp->(List (V×V)->Hp->Prop)->Prop
 |[],_,H,Q=>Q [] H
 |(tk,tv)::r,σ,H,Q=>tk σ H λx H1=>tv σ H1 λy H2=>wQ r σ H2 λps H3=>Q ((x,y)::ps) H3
abbrev VV:List (V×V)->List (Value×Value)->Prop:=Paired λp q=>bb p.1 q.1/\bb p.2 q.2
noncomputable def KI(X:Cx) (pos:Pos) (keys:List (Option Expr)) (values:List Expr) (trs:List (TE×TE)):Prop :=
 ∀(pins:List (Addr×Obj)) (s:Shared) (σ:St) (H:Hp) (Q:List (V×V)->Hp->Prop),Inv X pins σ H s->wQ trs σ H Q ->
  wpAny (model X.prog X.w) X.A (evalPairs (pairTrees keys values X.env pos)) (λvs s'=>∃ps H',Inv X pins σ H' s'/\VV ps vs/\Q ps H') X.xe s
def Er:KI X pos [] [] []:=λpins s σ H Q I h=>pairTrees_nil_walk ⟨[],H,I,.nil,h⟩
def BV{k v:Expr}(hk:PE X k tk)(hv:PE X v tv)(hr:KI X pos ks vs trs) :
  KI X pos (some k::ks) (v::vs) ((tk,tv)::trs):=λpins s σ H Q I h=>
 pairTrees_cons_walk (cu (hk pins s σ H _ I h) λu s1 ⟨x,H1,I1,rx,q1⟩=>cu (hv pins s1 σ H1 _ I1 q1) λw2 s2 ⟨y,H2,I2,ry,q2⟩ =>
  cu (hr pins s2 σ H2 _ I2 q2) λws s3 ⟨ps,H3,I3,rel,q3⟩=>⟨(x,y)::ps,H3,I3,.cons ⟨rx,ry⟩ rel,q3⟩)
def n6(kvs more:List (eC×V)):List (eC×V):=more.foldl (λacc kv=>fQ acc kv.1 kv.2) kvs
def KV.merge:∀{more:List (eC×V)}{rs:List (eC×Value)}{kvs:List (eC×V)}{vs:List (eC×Value)},KV more rs->KV kvs vs->KV (n6 kvs more) (merged vs rs):=by
 intro more rs kvs vs r;unfold KV at r
 induction r generalizing kvs vs with
 |nil=>intro q;exact q
 |@cons p q ps qs h t ih=>
  intro r0;have e:KV (fQ kvs p.1 p.2) (stored vs q.1 q.2):=by
   have:=r0.put p.1 h.2;rw[←h.1];exact this
  exact ih e
theorem je:∀(more kvs:List (eC×V)),(n6 kvs more).length<=kvs.length+more.length
 |[],kvs=>by show kvs.length<=kvs.length+0;omega
 |p::r,kvs=>by
  have h1:=je r (fQ kvs p.1 p.2);have h2:=ij kvs p.1 p.2;show(n6 (fQ kvs p.1 p.2) r).length<=_;rw[List.length_cons];omega
theorem p8:∀{kvs:List (eC×V)}{ws:List (Value×Value)},VV (kvs.map λkv=>(kV kv.1,kv.2)) ws->∃rs,Carries (cc P w) ws rs/\KV kvs rs
 |[],_,r=>by rw[List.map_nil]at r;cases r;exact⟨[],True.intro,.nil⟩
 |p::kvs,_,r=>by
  rw[List.map_cons]at r;cases r with
  |@cons a b as bs h t=>
   obtain⟨rs,c,q⟩:=p8 (P:=P) (w:=w) t;obtain⟨b1,b2⟩:=b;exact⟨(p.1,b2)::rs,⟨oi h.1,rfl,c⟩,.cons ⟨rfl,h.2⟩ q⟩
def IU(trs:List (TE×TE)):TE:=λσ H Q=>∀p,H p=none->wQ trs σ (upd H p (.dK [])) λps H2=>H2 p=some (.dK [])/\∃kvs:List (eC×V),ps=kvs.map (λkv=>(kV kv.1,kv.2))/\kvs.length<=15/\Q (.ref p) (upd H2 p (.dK (n6 [] kvs)))
def EA(h:KI X pos keys values trs)(hall:keys.all (·.isSome)=true)(hl:keys.length=values.length)(h0:keys≠[])
  (h15:keys.length<=15):PE X (.Dict keys values pos) (IU trs):=by
 intro pins s σ H Q I q;have hn:=I.hok.fresh (Nat.le_refl s.heap.objs.size);have I1:=I.laid (a:=s.heap.objs.size) (o:=.dK []) (h':=s.heap.push { cls:=.type "dict",data:=.dict #[] }) (t':=s.toks) (λ_ _ q=>Heap.get?_push_of_some _ q) (Nat.le_refl _) (v8 s.heap I.big);refine wpAny_Dict_walk (knd:=cc X.prog X.w) hall hl h0 h15 (cu (h pins _ σ _ _ I1 (q _ hn)) λws s2 ⟨ps,H2,I2,rel,e,kvs,ep,lk,q2⟩=>?_);subst ep;obtain⟨rs,c,rk⟩:=p8 (P:=X.prog) (w:=X.w) rel;obtain⟨z,hd,vs0,r0,dd⟩:=F5 I2.hok e;cases r0;refine⟨rs,c,dd,λh' dd' hs=>⟨.ref s.heap.objs.size,_,?_,rfl,q2⟩⟩;have hz:(n6 [] kvs).length<=sizeLine:=by
  have h1:=je kvs [];rw[List.length_nil]at h1;rw[sizeLine_eq];omega
 have he:∃q,h'.get? s.heap.objs.size=some q:=let ⟨q,_,_,hq,_⟩:=dd';⟨q,hq⟩;exact ug I2 (by rw[e];exact True.intro) hs he (C4 hz hd (rk.merge .nil) dd')
structure M1 (X:Cx) (o:Expr) (m:Str) (apos:Pos) (e:Expr) (cpos:Pos):Prop where
 base:attributeBase o m X.env (eval o X.env)=eval o X.env
 few:((backTo cpos (starEach [e] X.env)).all (λx=>!x.1)&&(backToKw cpos (keywordEach [] X.env)).all (λx=>x.1.isSome)
 &&decide (([e]:List Expr).length+([]:List Keyword).length+(if([]:List Keyword).isEmpty then 0 else 1)<30))=true
 line:(apos.endLine==cpos.line)=true
 trees:backTo cpos (starEach [e] X.env)=[(false,eval e X.env)]
def Mi(H:Hp)(a:Addr):Prop:=(∃kvs,Rd H a (.dK kvs))∨∃kvs,Rd H a (.dT kvs)
def Hv(I:Inv X pins σ H s)(d:Mi H a) :
  s.TypeIs (.ref a) "dict"/\(∀b,Value.ref a=.ref b->∃ob,s.heap.get? b=some ob/\ob.dict=none)/\(a==sysModules)=false:=by
 rcases d with⟨kvs,e⟩|⟨kvs,e⟩
 .obtain⟨_,hd,vs,_,dd⟩:=pL I.hok e
  refine⟨dd.typeIs,λb q=>?_,hd⟩;cases q;obtain⟨ob,_,_,h1,h2,_⟩:=dd;exact⟨ob,h1,h2.2.1⟩
 .obtain⟨_,hd,xs,_,dd⟩:=pG I.hok e
  refine⟨dd.typeIs,λb q=>?_,hd⟩;cases q;obtain⟨ob,_,_,h1,h2,_⟩:=dd;exact⟨ob,h1,h2.2.1⟩
section
variable {X:Cx}{pins:List (Addr×Obj)}{σ:St}{H:Hp}{s:Shared}{a:Addr}{y d:V}{u r:Value}{o:Option V}{A:Around}{E:Value->Shared->Prop}
def HR(hu:A.units+1<cLine)(I:Inv X pins σ H s)(g:qA H a y o)(ry:bb y u)(h:∀w' s',Inv X pins σ H s'->bb (o.getD .non) w'->Q w' s') :
  wpAny (model X.prog X.w) A (call (.builtin "dict.get") [.ref a,u]) Q E s:=by
 rcases g with⟨kvs,k,e,ey,l⟩|⟨kvs,k,b,e,ey,eb,l⟩
 .subst ey
  obtain⟨z,hd,vs,rel,dd⟩:=pL I.hok e;refine call_meetsIn PySem.F.slot_dict_get dd.typeIs PySem.F.entry_dict_get (PySem.F.args_dict_get_2 _ _) (meets_dict_get (cc X.prog X.w) a (oi ry) hd) ⟨_,dd.mapOf,h _ _ (I.tok _) ?_⟩;rw[l];exact(rel.val k).getD rfl
 .subst ey
  cases (show u=Value.ref b from ry);obtain⟨z,hd,xs,rel,dd⟩:=pG I.hok e;refine call_meetsIn PySem.F.slot_dict_get dd.typeIs PySem.F.entry_dict_get (PySem.F.args_dict_get_2 _ _) (meetsH_dict_get (tupleKind (cc X.prog X.w)) a b hd) ⟨tupleKind_room_in1 hu,k,xs,lU I.hok eb,dd,h _ _ (I.tok _) ?_⟩;rw[l];exact(rel.val k).getD rfl
end
def Gv(td ty:TE):TE:=λσ H Q=>td σ H λx H1=>∃a,x=.ref a/\Mi H1 a/\ty σ H1 λy H2=>∃o,qA H2 a y o/\Q (o.getD .non) H2
section
variable {X:Cx}{o e f:Expr}{apos cpos:Pos}{td ty tx:TE}
def B5(hu:X.A.units+1<cLine)(ho:PE X o td)(he:PE X e ty)(m:M1 X o "get" apos e cpos):PE X (.Call (.Attribute o "get" apos) [e] [] cpos) (Gv td ty):=by
 intro pins s σ H Q I h;refine wpAny_Call_method m.base m.few m.line PySem.F.plainAttrs_dict PySem.F.slot_dict_get PySem.F.type_dict_get (cu (ho pins s σ H _ I h) λu s1 ⟨x,H1,I1,rx,a,ex,d,q1⟩=>?_);subst ex;obtain rfl:u=Value.ref a:=rx;obtain⟨t1,t2,_⟩:=Hv I1 d;refine⟨t1,t2,?_⟩;rw[m.trees];refine Calls.callWith_builtin rfl (Calls.evalArgs_plain (Calls.spliced_cons (cu (he pins s1 σ H1 _ I1 q1) λiv s2 ⟨y,H2,I2,ry,ov,g,q2⟩=>Calls.spliced_nil ?_)));exact HR hu I2 g ry λw' s3 I3 rw'=>⟨_,H2,I3,rw',q2⟩
end
end L2
namespace DL
open PySem PySem.Spec PyProof.Rows L2
section
variable {X:Cx}{E:XK}{e:Expr}{f:al}{pos p1:Pos}
def dOne(x:Str)(d:D):ai D:=.ok (.dic [x] [d])
end
def fb(cells:List (Str×Addr)):List (Str×NameKind)->List (Str×Addr)->List (Str×Addr)
 |[],acc=>acc
 |(n,k)::r,acc=>if(k==NameKind.free)=true then fb cells r ((n,(cells.lookup n).getD 0)::acc) else fb cells r acc
def jg(h:∀x∈scope.names,x.2=.free->∃c,env.cells.lookup x.1=some c):closureFor scope env=pure (fb env.cells scope.names []):=by
 simp only[closureFor];have key:∀(names:List (Str×NameKind)) (acc:List (Str×Addr)),(∀x∈names,x.2=.free->∃c,env.cells.lookup x.1=some c) ->
   (forIn names acc λ(x:Str×NameKind) (z:List (Str×Addr))=>
      if(x.snd==NameKind.free)=true then do
       let y ←cellOf env x.fst
       pure (ForInStep.yield ((x.fst,y)::z))
      else(pure (ForInStep.yield z):Sem _))=pure (fb env.cells names acc):=by
  intro names
  induction names with
  |nil=>intro acc _;rfl
  |cons x r ih=>
   intro acc hh;obtain⟨n,k⟩:=x;rw[List.forIn_cons]
   by_cases hk:(k==NameKind.free)=true
   .obtain⟨c,hc⟩:=hh (n,k) List.mem_cons_self (by simpa using hk)
    have hcell:cellOf env n=pure c:=by unfold cellOf;rw[show env.cells.lookup n=some c from hc]
    simp only[hk,if_true];rw[hcell];have:=ih ((n,c)::acc) (λy hy=>hh y (List.mem_cons_of_mem _ hy));rw[show fb env.cells ((n,k)::r) acc=fb env.cells r ((n,c)::acc) by
     show(if(k==NameKind.free)=true then _ else _)=_;rw[if_pos hk,show env.cells.lookup n=some c from hc];rfl]
    rw[←this];rfl
   .have:=ih acc (λy hy=>hh y (List.mem_cons_of_mem _ hy))
    rw[if_neg hk];rw[show fb env.cells ((n,k)::r) acc=fb env.cells r acc by
     show(if(k==NameKind.free)=true then _ else _)=_;rw[if_neg hk]]
    rw[←this];rfl
 rw[key _ _ h];rfl
theorem pY{cells:List (Str×Addr)}:∀{names:List (Str×NameKind)}{acc:List (Str×Addr)}{x:Str}{c:Addr},(∀y∈names,y.2=.free->∃c,cells.lookup y.1=some c) ->
  (fb cells names acc).lookup x=some c->acc.lookup x=some c∨cells.lookup x=some c
 |[],acc,x,c,_,h=>.inl h
 |(n,k)::r,acc,x,c,hh,h=>by
  unfold fb at h
  by_cases hk:(k==NameKind.free)=true
  .rw[if_pos hk]at h
   obtain⟨d,hd⟩:=hh (n,k) List.mem_cons_self (by simpa using hk);rcases pY (λy hy=>hh y (List.mem_cons_of_mem _ hy)) h with h|h
   .rw[List.lookup_cons]at h
    cases e:x==n with
    |true=>
     rw[e]at h;rw[show cells.lookup n=some d from hd]at h;cases h;rw[eq_of_beq e];exact .inr hd
    |false=>rw[e]at h;exact .inl h
   .exact .inr h
  .rw[if_neg hk]at h
   exact pY (λy hy=>hh y (List.mem_cons_of_mem _ hy)) h
theorem mr{α:Type}:∀{l:List (Str×α)},(∃v,(x,v)∈l)->∃v,l.lookup x=some v
 |[],⟨v,h⟩=>by cases h
 |(n,w)::r,⟨v,h⟩=>by
  rw[List.lookup_cons];cases e:x==n with
  |true=>exact⟨w,rfl⟩
  |false=>
   rcases List.mem_cons.mp h with h|h
   .cases h;simp at e
   .exact mr ⟨v,h⟩
theorem p7:∀{names:List (Str×NameKind)}{acc:List (Str×Addr)},(x,c)∈acc->(x,c)∈fb cells names acc
 |[],acc,h=>h
 |(n,k)::r,acc,h=>by
  unfold fb
  by_cases hk:(k==NameKind.free)=true
  .rw[if_pos hk];exact p7 (List.mem_cons_of_mem _ h)
  .rw[if_neg hk];exact p7 h
def pZ:∀{names:List (Str×NameKind)}{acc:List (Str×Addr)},(x,NameKind.free)∈names->∃c,(fb cells names acc).lookup x=some c:=by
 intro names
 induction names with
 |nil=>intro acc h;cases h
 |cons y r ih=>
  intro acc h;obtain⟨n,k⟩:=y;unfold fb;rcases List.mem_cons.mp h with h|h
  .cases h
   rw[if_pos (by rfl)];exact mr ⟨_,p7 List.mem_cons_self⟩
  .by_cases hk:(k==NameKind.free)=true
   .rw[if_pos hk];exact ih h
   .rw[if_neg hk];exact ih h
noncomputable def cv(X:Cx) (N:List Str) (scope:Scope) (s:Shared) (H:Hp) (C:Addr) (fp:List Addr) (pn:List (Addr×Obj)):Cx :=
 { X with N:=N,sf:=s,Ha:=H,env:=compEnvC scope (fb X.env.cells scope.names []) C X.env,outer:=X.stack,stack:=X.stack,ex:=fp,fn:=λ_=>false,pn:=pn,xe:=λ_ _=>False }
def gR(n:Nat)(fr:bi)(σ:L2.St):L2.St:=List.replicate n none++fr.map λ(i:Nat)=>(σ[i]?).getD none
noncomputable def yd(X:Cx) (N:List Str) (n:Nat) (fr:bi) (scope:Scope):Prop :=
 N.length=n+fr.length/\((N.drop n).zip fr).all (λp=>X.N[p.2]?==some p.1&&X.env.scope.names.lookup p.1==some .cell&&scope.names.lookup p.1==some .free&&(relabel scope X.env).names.lookup p.1==some .cell)=true
theorem yd.at{fr:bi}(h:yd X N n fr scope){k:Nat}(hx:N[k]?=some x)(hv:(gR n fr σ)[k]?=some (some v)) :
  ∃i:Nat,X.N[i]?=some x/\σ[i]?=some (some v)/\X.env.scope.names.lookup x=some .cell/\scope.names.lookup x=some .free/\(relabel scope X.env).names.lookup x=some .cell:=by
 unfold gR at hv
 by_cases hk:k<n
 .rw[List.getElem?_append_left (by simpa using hk),List.getElem?_replicate,if_pos hk]at hv
  cases hv
 .rw[List.getElem?_append_right (by simpa using hk),List.length_replicate,List.getElem?_map]at hv
  cases hi:fr[k-n]? with
  |none=>rw[hi]at hv;cases hv
  |some i=>
   rw[hi]at hv;have hz:((N.drop n).zip fr)[k-n]?=some (x,i):=by
    rw[List.getElem?_zip_eq_some];exact⟨by rw[List.getElem?_drop,show n+(k-n)=k by omega];exact hx,hi⟩
   have:=List.all_eq_true.mp h.2 _ (List.mem_of_getElem? hz);simp only[Bool.and_eq_true,beq_iff_eq]at this;refine⟨i,this.1.1.1,?_,this.1.1.2,this.1.2,this.2⟩;simp only[Option.map_some,Option.some.injEq]at hv;cases hs:σ[i]? with|none=>rw[hs]at hv;cases hv|some u=>rw[hs]at hv;exact congrArg some hv
noncomputable def IF(X:Cx) (ifs:List Expr) (t:TT):Prop :=
 ∀(pins:List (Addr×Obj)) (s:Shared) (σ:L2.St) (H:Hp) (Q:Bool->Hp->Prop),Inv X pins σ H s->t σ H Q ->
  wpAny (model X.prog X.w) X.A (forIn ifs true λc r=>if r=true then do let ok ←isTrue c X.env (eval c X.env);pure (ForInStep.yield ok) else pure (ForInStep.yield r)) (TP X pins σ Q) X.xe s
def Bj:TT:=λ_ H Q=>Q true H
def yA:IF X [] Bj:=λ_ _ _ H _ I h=>wpAny_tests_nil ⟨H,I,h⟩
def Eu(h:PT X c t):IF X [c] t:=λpins s σ H Q I q=>wpAny_tests_one (h pins s σ H Q I q)
theorem pV(I:Nat->Shared->Prop)
  (turn:∀n s,I n s->wpAny (model prog w) A (pyNext it) (λr sg=>match r with
   |none=>R (.ok .next) sg
   |some v=>wpAny (model prog w) A (letOwnedTupleGo target it v) (λ_ sg'=>wpAny (model prog w) A (assign target env v) (λ_ si=>
     wpAny (model prog w) A (forIn ifs true λc r=>if r=true then do let ok ←isTrue c env (eval c env);pure (ForInStep.yield ok) else pure (ForInStep.yield r)) (λok sj=>
      if ok=true then wpAny (model prog w) A (eval elt env) (λx sk=>
       wpAny (model prog w) A (call (.builtin "list.append") [acc,x]) (λ_ sn=>∃m,m<n/\I m sn) (λ_ _=>False) sk) (λ_ _=>False) sj
      else ∃m,m<n/\I m sj) (λ_ _=>False) si) (λ_ _=>False) sg') (λ_ _=>False) sg) (λ_ _=>False) s)
  (n:Nat) (h:I n s) :
  codeAny (model prog w) A (.compLoop (.ListComp elt [⟨target,iter,ifs,0⟩] scope pos) 0 it acc env) R s:=by
 refine codeAny_loop rfl I (λn s hI=>?_) n h;show wpAny _ A ((compTurn (.ListComp elt [⟨target,iter,ifs,0⟩] scope pos) 0 it acc env).onRaise (λx=>do noteFrame x env;theTreesLotGoes x)) _ _ s;refine wpAny_noted ?_;rw[compTurn_list];refine wpAny_bind (wpAny_standAt (wpAny_bind (wpAny_mono (turn n s hI) (λr sg hE=>?_) λ_ _ h'=>h'.elim)));cases r with
 |none=>exact wpAny_pure hE
 |some v=>
  refine wpAny_bind (wpAny_mono hE (λ_ sg' hE'=>?_) λ_ _ h'=>h'.elim);refine wpAny_bind (wpAny_mono hE' (λ_ si hU=>wpAny_bind (wpAny_mono hU (λok sj hV=>?_) λ_ _ h'=>h'.elim)) λ_ _ h'=>h'.elim);cases ok with
  |false=>exact wpAny_pure ⟨rfl,hV⟩
  |true=>
   exact wpAny_bind (wpAny_bind (wpAny_mono hV (λx sk hX=>wpAny_bind (wpAny_mono hX (λ_ sn hZ=>wpAny_pure (wpAny_pure ⟨rfl,hZ⟩)) λ_ _ h'=>h'.elim)) λ_ _ h'=>h'.elim))
noncomputable def nF(n:Nat) (fr:bi) (g:TG) (tt:TT) (te:TE) (J:It) (σ:L2.St) (H1:Hp) (Q:VK):Prop:=∀D,H1 D=none->∃W:Nat->Nat->ad->L2.St->Hp->Prop,(∃m,W 0 m [] (gR n fr σ) (upd H1 D (.lst []))) /\
 ∀i m ys σ' H',W i m ys σ' H'->H' D=some (.lst ys)/\((J.stop i H'/\Q (.ref D) H')∨(J.go i H'/\ys.length<sizeLine/\∀x H2,J.yld i H' x H2->g x σ' H2 λσ3 H3=>tt σ3 H3 λb H4=>
  if b=true then te σ3 H4 λy H5=>H5 D=some (.lst ys)/\∃m',m' < m/\W (i+1) m' (ys++[y]) σ3 (upd H5 D (.lst (ys++[y])))
  else ∃m',m' < m/\W (i+1) m' ys σ3 H4))
def sr{fr:bi}(hc:X.calm=true)(hfr:yd X N n fr scope)
  (hcell:∀x∈scope.names,x.2≠.cell)(hfree:∀x∈scope.names,x.2=.free->X.env.scope.names.lookup x.1=some .cell)(hkind:scope.kind=.function)
  (blk:∀s H C fp pn,PG (cv X N scope s H C fp pn) tg g/\IF (cv X N scope s H C fp pn) ifs tt/\PE (cv X N scope s H C fp pn) elt te)
  {RR:Value->Addr->Result->Shared->Prop}
  (h2:LG X pins σ tg (λJ H1=>nF n fr g tt te J σ H1 Q) itv s2)
  (fin:∀(Da C:Addr) (s6:Shared) (H5:Hp) (m:Str->Option Value),Inv X pins σ H5 s6->s6.heap.Ns C m->lF X pins H5 C->Q (.ref Da) H5->RR (.ref Da) C (.ok .next) s6) :
  wpAny (model X.prog X.w) X.A (newList []) (λacc sj=>wpAny (model X.prog X.w) X.A (newFunctionEnv scope X.env.globals (fb X.env.cells scope.names []) [] X.env.qual none .none (some X.env)) (λcenv sk=>
   codeAny (model X.prog X.w) X.A (.compStart (.ListComp elt [⟨tg,iter,ifs,0⟩] scope pos) 0 itv acc { cenv with scope:=relabel scope X.env }) (RR acc cenv.locals) sk) X.xe sj) X.xe s2:=by
 obtain⟨it,fp,tn,J,H2,e,I2,T,st2,f2,q⟩:=h2;subst e;have hD:H2 s2.heap.objs.size=none:=I2.fresh;refine wpAny_newObj_type ?_;have I3:Inv X pins σ (upd H2 s2.heap.objs.size (.lst [])) { s2 with heap:=s2.heap.push { cls:=.type "list",data:=.seq ([]:List Value).toArray } }:=I2.lnew (t':=s2.toks) (its:=[]) .nil (Nat.zero_le _);obtain⟨W,⟨m0,w0⟩,turn⟩:=q s2.heap.objs.size hD;generalize hs3:({ s2 with heap:=s2.heap.push { cls:=.type "list",data:=.seq ([]:List Value).toArray } }:Shared)=s3 at I3 ⊢;have hs3h:s3.heap=s2.heap.push { cls:=.type "list",data:=.seq ([]:List Value).toArray }:=by rw[←hs3]
 have hDs:s2.heap.objs.size<s3.heap.objs.size:=by rw[hs3h,Heap.size_push];exact Nat.lt_succ_self _
 have fpl:∀b∈fp,b<s2.heap.objs.size:=λb hb=>by
  obtain⟨o,ho,_⟩:=T.obj _ _ st2 b hb;exact Heap.lt_size ho
 have kept3:∀b o,s2.heap.get? b=some o->s3.heap.get? b=some o:=λb o e=>by rw[hs3h];exact Heap.get?_push_of_some _ e
 have st3:tn 0 s3.heap:=T.keep _ _ _ st2 λb _ o e=>kept3 b o e;generalize hDa:s2.heap.objs.size=Da at *;generalize hH3:upd H2 Da (.lst [])=H3 at *;have fr3:∀b∈fp,H3 b=none:=λb hb=>by rw[←hH3,av (Nat.ne_of_lt (fpl b hb))];exact(f2 b hb).1
 have cls:∀x c,(fb X.env.cells scope.names []).lookup x=some c->X.env.cells.lookup x=some c:=λx c e=>by
  rcases pY (λy hy hf=>I3.ok.has y.1 (.inl (hfree y hy hf))) e with e|e
  .cases e
  .exact e
 refine wpAny_newFunctionEnv hcell (by intro y hy;simp at hy) (λh4 ns4 sb4=>?_) hkind;have k4:∀b o,s3.heap.get? b=some o->h4.get? b=some o:=λb o e=>(sb4.2 b (Nat.ne_of_lt (Heap.lt_size e))).trans (Heap.get?_push_of_some _ e);generalize hC:s3.heap.objs.size=C at *;have hCn:H3 C=none:=I3.hok.fresh (by rw[hC];exact Nat.le_refl _);have ltC:∀b o,s3.heap.get? b=some o->b≠C:=λb o e=>by rw[←hC];exact Nat.ne_of_lt (Heap.lt_size e)
 have cellC:∀x c,X.env.cells.lookup x=some c->c≠C:=λx c e=>by
  obtain⟨v,o,ho,_⟩:=I3.cell x c e;exact ltC c o ho
 have fpC:∀b∈fp,b≠C:=λb hb=>by
  have:=fpl b hb;exact Nat.ne_of_lt (Nat.lt_trans this hDs)
 show codeAny (model X.prog X.w) X.A (.compStart (.ListComp elt [⟨tg,iter,ifs,0⟩] scope pos) 0 (.ref it) (.ref Da) (compEnvC scope (fb X.env.cells scope.names []) C X.env)) _ _;generalize hs4:({ s3 with heap:=h4,toks:=s3.toks+([]:List (Str×Value)).length }:Shared)=s4;have hs4h:s4.heap=h4:=by rw[←hs4]
 have ok:(cv X N scope s3 H3 C fp (X.pn++pins)).Ok:=by
  refine⟨I3.ok.mod,hkind,I3.ok.glob,I3.ok.blt,Nat.le_of_eq hC,λx y c e1 e2=>I3.ok.inj x y c (cls x c e1) (cls y c e2),λx e=>?_,λx c e=>?_,λ_=>I3.ok.hd hc,I3.ok.frames,.inl rfl,λb hb=>⟨fpC b hb,λx c e=>(f2 b hb).2.2.2.2.1 x c (cls x c e)⟩,I3.bs,Nat.le_trans I3.ok.bsz I3.sz,λb o e hb=>?_,λb hb z=>?_,I3.stack,I3.stkFree⟩
  .have mm:∀k:NameKind,(relabel scope X.env).names.lookup x=some k->(k=.cell∨k=.free)->(x,NameKind.free)∈scope.names:=λk hk hk2=>by
    have hm:=PySem.mem_of_lookup hk;obtain⟨⟨n',k'⟩,hm1,hm2⟩:=List.mem_map.mp hm;dsimp only at hm2;split at hm2
    .rename_i hcnd
     cases hm2;simp only[Bool.and_eq_true,beq_iff_eq]at hcnd;rw[hcnd.1.1]at hm1;exact hm1
    .cases hm2
     rcases hk2 with rfl|rfl
     .exact absurd rfl (hcell _ hm1)
     .exact hm1
   rcases e with e|e
   .exact pZ (mm _ e (.inl rfl))
   .exact pZ (mm _ e (.inr rfl))
  .cases e
  .rcases(f2 b hb).2.2.2.1 with z|z
   .exact I3.ok.noex b o e z
   .exact absurd (Nat.lt_of_lt_of_le (Heap.lt_size e) (Nat.le_trans I3.ok.bsz z)) (Nat.lt_irrefl _)
  .rcases List.mem_cons.mp (I3.stkSub b z) with z|z
   .exact(f2 b hb).2.1 z
   .exact(f2 b hb).2.2.1 z
 have I4:Inv (cv X N scope s3 H3 C fp (X.pn++pins)) [] (gR n fr σ) H3 s4:=by
  refine⟨ok,by rw[←hs4];rfl,by rw[←hs4];exact I3.bare,by rw[hs4h];exact Un.kept k4,⟨_,by rw[hs4h];exact ns4,λi x v h1 h2 h3=>?_⟩,λx c e=>?_,hCn,λx c e=>I3.freeC x c (cls x c e),λp hp=>?_,by rw[hs4h];exact I3.hok.kept k4,?_⟩
  .obtain⟨j,j1,j2,j3,j4,j5⟩:=hfr.at h1 h2
   obtain⟨m,hn,hl⟩:=I3.loc;obtain⟨u,ru,l⟩:=hl j x v j1 j2 (.inr (.inl j3));refine⟨u,ru,.inr ⟨.inl j5,?_⟩⟩;rcases l with⟨z,_⟩|⟨_,c,z1,z2⟩
   .rw[show X.env.kindOf x=X.env.scope.names.lookup x from rfl,j3]at z;cases z
   .obtain⟨c',hc'⟩:=pZ (cells:=X.env.cells) (names:=scope.names) (acc:=[]) (PySem.mem_of_lookup j4)
    have:=cls x c' hc';rw[z1]at this;cases this;obtain⟨oc,q1,q2⟩:=z2;exact⟨c,hc',oc,by rw[hs4h];exact k4 _ _ q1,q2⟩
  .obtain⟨v,oc,q1,q2⟩:=I3.cell x c (cls x c e)
   exact⟨v,oc,by rw[hs4h];exact k4 _ _ q1,q2⟩
  .rw[List.append_nil]at hp
   obtain⟨p1,p2,p3,p4,p5⟩:=I3.pin p hp;refine⟨by rw[hs4h];exact k4 _ _ p1,p2,ltC _ _ p1,λz=>?_,p5⟩;rcases List.mem_cons.mp (I3.stkSub _ z) with z|z
   .exact p3 z
   .exact p4 z
  .show(gR n fr σ).length=N.length
   unfold gR;rw[List.length_append,List.length_replicate,List.length_map,hfr.1]
 have st4:tn 0 s4.heap:=by rw[hs4h];exact T.keep _ _ _ st3 λb _ o e=>k4 b o e
 have stat:∀{H':Hp},(∀b∈fp,H' b=none)->∀b∈fp,lF (cv X N scope s3 H3 C fp (X.pn++pins)) [] H' b:=λhn b hb=>by
  refine⟨hn b hb,fpC b hb,λz=>?_,.inl hb,λx c e=>(f2 b hb).2.2.2.2.1 x c (cls x c e),λp hp=>?_⟩
  .rcases List.mem_cons.mp (I3.stkSub b z) with z|z
   .exact(f2 b hb).2.1 z
   .exact(f2 b hb).2.2.1 z
  .rw[List.append_nil]at hp
   exact(f2 b hb).2.2.2.2.2 p hp
 have loop:codeAny (model X.prog X.w) X.A (.compLoop (.ListComp elt [⟨tg,iter,ifs,0⟩] scope pos) 0 (.ref it) (.ref Da) (compEnvC scope (fb X.env.cells scope.names []) C X.env)) (RR (.ref Da) C) s4:=by
  refine pV (λn s'=>∃i ys σ' H',Inv (cv X N scope s3 H3 C fp (X.pn++pins)) [] σ' H' s'/\tn i s'.heap/\(∀b∈fp,H' b=none)/\W i n ys σ' H') ?_ m0 ⟨0,[],_,H3,I4,st4,fr3,w0⟩;rintro k s5 ⟨i,ys,σ5,H5,I5,st5,fr5,w5⟩;obtain⟨hDl,ways⟩:=turn i k ys σ5 H5 w5;rcases ways with⟨stop,fin'⟩|⟨go,hz,step⟩
  .refine cu (T.done (cv X N scope s3 H3 C fp (X.pn++pins)) rfl rfl rfl hc i [] s5 σ5 H5 (λ_ _=>False) I5 (stat fr5) st5 stop) λr s6 ⟨hr,I6⟩=>?_
   subst hr;obtain⟨mm,nsm,_⟩:=I6.loc;have free6:H5 C=none:=I6.free;have hok:jF X.prog X.w H5 s6.heap:=I6.hok;have un:Un (A4 X.stack) fp H3 H5 s3.heap s6.heap:=I6.base;have IX:Inv X pins σ H5 s6:=I3.call' (s':=s6) (ch:=fp) I6.os un hok I6.bare (λb hb=>⟨(f2 b hb).2.2.2.1,(f2 b hb).2.1,(f2 b hb).2.2.2.2.1,(f2 b hb).2.2.2.2.2⟩);have fC:lF X pins H5 C:=I3.fpOk (b:=C) (H':=H5) (by rw[hC];exact Nat.le_refl _) free6;exact fin Da C s6 H5 mm IX nsm fC fin'
  .refine cu (T.item (cv X N scope s3 H3 C fp (X.pn++pins)) rfl rfl rfl hc i [] s5 σ5 H5 (λ_ _=>False) I5 (stat fr5) st5 go) λr s6 ⟨u,hr,h6⟩=>?_
   subst hr;refine cu h6 λ_ s7 ⟨x,H7,I7,r7,y7,st7,fr7⟩=>?_;have I7':=I7.pinned (stat fr7) (T.obj _ _ st7);refine cu ((blk s3 H3 C fp (X.pn++pins)).1 _ s7 σ5 H7 x u _ I7' r7 (step x H7 y7)) λ_ s8 ⟨σ8,H8,I8,q8⟩=>?_;refine cu ((blk s3 H3 C fp (X.pn++pins)).2.1 _ s8 σ8 H8 _ I8 q8) λb s8b ⟨H8b,I8b,q8b⟩=>?_;have back:∀{σ':L2.St}{H':Hp}{s':Shared},L2.Inv (cv X N scope s3 H3 C fp (X.pn++pins)) (([]:List (Addr×Obj))++nT fp s7.heap) σ' H' s'->tn (i+1) s'.heap/\∀b∈fp,H' b=none:=λ{σ' H' s'} I'=>by
    refine⟨T.keep _ _ _ st7 λb hb o e=>(I'.pin (b,o) (List.mem_append_right _ (List.mem_append_right _ (gB hb e)))).1,λb hb=>?_⟩;obtain⟨o,e,d⟩:=T.obj _ _ st7 b hb;exact(I'.pin (b,o) (List.mem_append_right _ (List.mem_append_right _ (gB hb e)))).2.1
   cases b with
   |false=>
    rw[if_neg Bool.false_ne_true]at q8b ⊢;obtain⟨m',hm,w9⟩:=q8b;exact⟨m',hm,i+1,ys,σ8,_,I8b.unpinned,(back I8b).1,(back I8b).2,w9⟩
   |true=>
    rw[if_pos rfl]at q8b ⊢;refine cu ((blk s3 H3 C fp (X.pn++pins)).2.2 _ s8b σ8 H8b _ I8b q8b) λy s9 ⟨yv,H9,I9,r9,hD9,m',hm,w9⟩=>?_;refine cu (iP (X:=cv X N scope s3 H3 C fp (X.pn++pins)) _ s9 σ8 H9 (.ref Da) [yv] (.ref Da) [y] (λv H'=>H'=upd H9 Da (.lst (ys++[yv]))) I9 rfl (.cons r9 .nil) ⟨Da,ys,yv,rfl,rfl,hD9,hz,rfl⟩) λ_ s10 ⟨v10,H10,I10,_,e10⟩=>?_;subst e10;exact⟨m',hm,i+1,ys++[yv],σ8,_,I10.unpinned,(back I10).1,(back I10).2,w9⟩
 exact codeAny_compStart_list loop (T.self _ 0 _ _ _ st4 loop)
structure Iu (K:W.Frag) (ds:ac) (J:It) (Ha:Hp):Prop where
 go:∀(i:Nat) (H' Ha':Hp),aA Ha Ha'->aA Ha' H'->i<ds.length->J.go i H'
 yld:∀(i:Nat) (H' Ha':Hp) (x:V) (H2:Hp) (d:D),aA Ha Ha'->aA Ha' H'->ds[i]?=some d->J.yld i H' x H2->∃H₀2,aS H' Ha' H2 H₀2/\Rep K H₀2 d x
 stop:∀(i:Nat) (H' Ha':Hp),aA Ha Ha'->aA Ha' H'->ds.length<=i->J.stop i H'
noncomputable def Mv(K:W.Frag) (E:XK) (src:Ev->ai (ac)):TI:=λσ H R=>∃Ha ρ,aA Ha H/\Reads K Ha σ ρ/\match src ρ with
 |.ok ds=>∀J H' Ha',aS H Ha H' Ha'->Iu K ds J Ha'->R J H'
 |.exn x=>∀C ox H' Ha',aS H Ha H' Ha'->ye K Ha' x C ox->E C ox H'
 |.stuck=>False
structure DI (X:Cx) (E:XK) (tg iter:Expr) (src:Ev->ai (ac)):Prop where
 o:PI X tg iter (Mv X.K E src)
def gs(h:PI X tg iter t)(w:∀σ H R,t' σ H R->t σ H R):PI X tg iter t':=λpins s σ H R I q=>h pins s σ H R I (w σ H R q)
def sU(f:al):Ev->ai (ac):=λρ=>(f ρ).bind λd=>match d with
 |.lst ds=>.ok ds
 |_=>.stuck
def Ae(f:al):Ev->ai (ac):=λρ=>(f ρ).bind λd=>match d with
 |.tup ds=>.ok ds
 |_=>.stuck
def Ec(f:al):Ev->ai (ac):=λρ=>(f ρ).bind λd=>match d with
 |.str z=>.ok (g6 z)
 |_=>.stuck
def i8(f:al):Ev->ai (ac):=λρ=>(f ρ).bind λd=>match d with
 |.int j=>if -4611686018427387904<=j/\j<4611686018427387904 then .ok (intsFrom 0 j.toNat) else .stuck
 |_=>.stuck
section
variable {X:Cx}{E:XK}{tg e a b:Expr}{f g:al}
def nv(h:DE X E e f):DI X E tg e (sU f):=by
 refine⟨gs (yB h.o) λσ H R z9=>?_⟩;obtain⟨Ha,ρ,hs,hr,q⟩:=z9;refine⟨Ha,ρ,hs,hr,?_⟩;unfold sU at q;cases e1:f ρ with
 |stuck|exn x=>rw[e1]at q;exact q
 |ok d=>
  rw[e1]at q;intro v H1 H01 g1 r1;cases d with
  |lst ds=>
   obtain⟨p,vs,rfl,hv,hrv⟩:=aE.mp r1;refine⟨p,rfl,⟨vs,aA.sqL g1.sub hv⟩,q _ H1 H01 g1 ⟨λi H' Ha' s1 s2 hi=>?_,λi H' Ha' x H2 d s1 s2 hd hy=>?_,λi H' Ha' s1 s2 hi=>?_⟩⟩
   .exact⟨vs,vs[i]'(by rw[←hrv.length];exact hi),aA.sqL (s1.trans s2) hv,by simp⟩
   .obtain⟨rfl,hy⟩:=hy
    obtain⟨u,k1,k2⟩:=hrv.get hd;have:=hy vs (aA.sqL (s1.trans s2) hv);rw[k1]at this;cases this;exact⟨Ha',aS.refl s2,k2.mono s1⟩
   .exact⟨vs,aA.sqL (s1.trans s2) hv,by rw[←hrv.length];exact hi⟩
  |_=>exact q.elim
def C9(h:DE X E e f):DI X E tg e (Ae f):=by
 refine⟨gs (GZ h.o) λσ H R z9=>?_⟩;obtain⟨Ha,ρ,hs,hr,q⟩:=z9;refine⟨Ha,ρ,hs,hr,?_⟩;unfold Ae at q;cases e1:f ρ with
 |stuck|exn x=>rw[e1]at q;exact q
 |ok d=>
  rw[e1]at q;intro v H1 H01 g1 r1;cases d with
  |tup ds=>
   obtain⟨p,vs,rfl,hv,hrv⟩:=aI.mp r1;refine⟨p,rfl,⟨vs,aA.sqT g1.sub hv⟩,q _ H1 H01 g1 ⟨λi H' Ha' s1 s2 hi=>?_,λi H' Ha' x H2 d s1 s2 hd hy=>?_,λi H' Ha' s1 s2 hi=>?_⟩⟩
   .exact⟨vs,vs[i]'(by rw[←hrv.length];exact hi),aA.sqT (s1.trans s2) hv,by simp⟩
   .obtain⟨rfl,hy⟩:=hy
    obtain⟨u,k1,k2⟩:=hrv.get hd;have:=hy vs (aA.sqT (s1.trans s2) hv);rw[k1]at this;cases this;exact⟨Ha',aS.refl s2,k2.mono s1⟩
   .exact⟨vs,aA.sqT (s1.trans s2) hv,by rw[←hrv.length];exact hi⟩
  |_=>exact q.elim
def HM(h:DE X E e f):DI X E tg e (Ec f):=by
 refine⟨gs (G0 h.o) λσ H R z9=>?_⟩;obtain⟨Ha,ρ,hs,hr,q⟩:=z9;refine⟨Ha,ρ,hs,hr,?_⟩;unfold Ec at q;cases e1:f ρ with
 |stuck|exn x=>rw[e1]at q;exact q
 |ok d=>
  rw[e1]at q;intro v H1 H01 g1 r1;cases d with
  |str z=>
   refine⟨z,Rep.str_iff.mp r1,q _ H1 H01 g1 ⟨λi H' Ha' s1 s2 hi=>?_,λi H' Ha' x H2 d s1 s2 hd hy=>?_,λi H' Ha' s1 s2 hi=>?_⟩⟩
   .rw[jk]at hi;exact hi
   .obtain⟨rfl,c,hc,rfl⟩:=hy
    have:d=.str ⟨#[c]⟩:=by
     unfold g6 at hd;rw[List.getElem?_map]at hd;have h2:z.cps.toList[i]?=some c:=by simpa using hc
     rw[h2]at hd;cases hd;rfl
    subst this;exact⟨Ha',aS.refl s2,Rep.str_iff.mpr rfl⟩
   .rw[jk]at hi;exact hi
  |_=>exact q.elim
def rA{K:W.Frag}{lo:Int}:Iu K (intsFrom lo n) (Ir lo n) H:=by
 have hl:(intsFrom lo n).length=n:=by unfold intsFrom;simp
 refine⟨λi H' Ha' _ _ hi=>?_,λi H' Ha' x H2 d s1 s2 hd hy=>?_,λi H' Ha' _ _ hi=>?_⟩
 .rw[hl]at hi;exact hi
 .obtain⟨rfl,rfl⟩:=hy
  have:d=.int (lo+i):=by
   unfold intsFrom at hd;rw[List.getElem?_map]at hd;cases e:(List.range n)[i]? with
   |none=>rw[e]at hd;cases hd
   |some k=>
    rw[e]at hd;have hk:k=i:=by
     obtain⟨h1,h2⟩:=List.getElem?_eq_some_iff.mp e;simpa using h2.symm
    subst hk;cases hd;rfl
  subst this;exact⟨Ha',aS.refl s2,ar.mpr rfl⟩
 .rw[hl]at hi;exact hi
def lY(hg:Gl X "range")(hm:X.mg "range"=none)(h:DE X E a f)(hn:IA a=true:=by exact rfl):DI X E tg (.Call (.Name "range" p) [a] [] pos) (i8 f):=by
 refine⟨gs (lN hg hm (cx h.o eW (dF hn)) (dF hn)) λσ H R z9=>?_⟩;obtain⟨Ha,ρ,hs,hr,q⟩:=z9;refine⟨Ha,ρ,hs,hr,?_⟩;unfold i8 at q;cases e1:f ρ with
 |stuck|exn x=>rw[e1]at q;exact q
 |ok d=>
  rw[e1]at q;intro v H1 H01 g1 r1;cases d with
  |int j=>
   replace q:match (if -4611686018427387904<=j/\j<4611686018427387904 then ai.ok (intsFrom 0 j.toNat) else .stuck) with
    |.ok ds=>∀J H' Ha',aS H Ha H' Ha'->Iu X.K ds J Ha'->R J H'
    |.exn x=>∀C ox H' Ha',aS H Ha H' Ha'->ye X.K Ha' x C ox->E C ox H'
    |.stuck=>False:=q
   by_cases hj:-4611686018427387904<=j/\j<4611686018427387904
   .rw[if_pos hj]at q
    rw[ar.mp r1];exact⟨j,rfl,hj.1,hj.2,q _ H1 H01 g1 rA⟩
   .rw[if_neg hj]at q;exact q.elim
  |_=>exact q.elim
end
def i9(src:Ev->ai (ac))(tg:Ev->D->ai Ev)(s:am):am:=λρ=>(src ρ).bind λds=>bK tg s ds ρ
section
variable {X:Cx}{E:XK}{He H0e:Hp}{st:Stmt}{s:am}{pos:Pos}
def eK.step2{K:W.Frag}(z:aA Hb Ha)(h:cO K He H0e Ha σ H ρ)(q:bL K E He H0e Ha (bK tg s (ds.drop i) ρ) D')(hd:ds[i]?=some d)(rv:Rep K Ha d v)
  (he:∀ρ,tg ρ d=.stuck∨∃ρ',tg ρ d=.ok ρ') :
  tG K He H0e tg v σ H λσ2 H2=>tS K E He H0e s { D' with nx:=eK K E He H0e Hb tg s ds D' (i+1),ct:=eK K E He H0e Hb tg s ds D' (i+1),bk:=D'.nx } σ2 H2:=by
 have hi:i<ds.length:=(List.getElem?_eq_some_iff.mp hd).1;have hdr:ds.drop i=d::ds.drop (i+1):=by
  rw[List.drop_eq_getElem_cons hi];rw[List.getElem?_eq_getElem hi]at hd;cases hd;rfl
 rw[hdr]at q;refine⟨Ha,ρ,d,h,rv,?_⟩;unfold bK at q;rcases he ρ with e1|⟨ρ1,e1⟩
 .rw[e1]at q;exact q.elim
 .rw[e1]at q ⊢
  intro σ' H' Ha' z' h';refine⟨Ha',ρ1,h',?_⟩;replace q:=bL.grow (r:=(s ρ1).bind λx=>match x with
   |.nx ρ2=>bK tg s (ds.drop (i+1)) ρ2
   |.ct ρ2=>bK tg s (ds.drop (i+1)) ρ2
   |.bk ρ2=>.ok (.nx ρ2)
   |.rt d=>.ok (.rt d)) q z'
  cases e2:s ρ1 with
  |stuck|exn x=>rw[e2]at q;exact q
  |ok r=>
   rw[e2]at q;cases r with|nx ρ2=>exact λσ3 H3 H03 z3 h3=>⟨H03,ρ2,(z.trans z').trans z3,h3,bL.grow (r:=bK tg s (ds.drop (i+1)) ρ2) q z3⟩|ct ρ2=>exact λσ3 H3 H03 z3 h3=>⟨H03,ρ2,(z.trans z').trans z3,h3,bL.grow (r:=bK tg s (ds.drop (i+1)) ρ2) q z3⟩|bk ρ2|rt d=>exact q
def nr(hp:PassesOwn (model X.prog X.w) X.A X.env X.xe)(hc:X.calm=true)(hi:DI X E tgt iter src)(hg:DG X E He H0e tgt tg)(ht:sO tg)(hb:yf X E He H0e body s)
  (hs:∀x,foldedSetIterable iter X.env x=pure x:=by intro _;rfl):DS X E He H0e (.For tgt iter body [] pos) (i9 src tg s):=by
 refine⟨bz (sX hp hc hi.o hg.o hb.o hs) λD' σ H z9=>?_⟩;obtain⟨Ha,ρ,h,q⟩:=z9;refine⟨Ha,ρ,h.g.sub,h.rd,?_⟩;unfold i9 at q;cases e1:src ρ with
 |stuck=>rw[e1]at q;exact q|exn x=>rw[e1]at q;exact λC ox H' Ha' g r=>q C ox H' Ha' (h.g.trans g) r
 |ok ds=>
  rw[e1]at q;intro J H1 H01 g it;have q1:bL X.K E He H0e H01 (bK tg s ds ρ) D':=bL.grow (r:=bK tg s ds ρ) q g.z;refine⟨λi m σ' H'=>m+i=ds.length/\eK X.K E He H0e H01 tg s ds D' i σ' H',⟨ds.length,rfl,H01,ρ,aA.refl _,h.grow g,q1⟩,?_⟩;rintro i m σ' H' ⟨hm,Ha',ρ',z,h',hq⟩
  by_cases hlt:i<ds.length
  .refine .inr ⟨it.go i H' Ha' z h'.g.sub hlt,λσ2 H2=>eK X.K E He H0e H01 tg s ds D' (i+1) σ2 H2,λσ2 H2 hl=>⟨m-1,by omega,by omega,hl⟩,λx H2 hy=>?_⟩
   obtain⟨H₀2,g2,rp⟩:=it.yld i H' Ha' x H2 ds[i] z h'.g.sub (List.getElem?_eq_getElem hlt) hy;exact eK.step2 (z.trans g2.z) (h'.grow g2) (bL.grow (r:=bK tg s (ds.drop i) ρ') hq g2.z) (List.getElem?_eq_getElem hlt) rp λρ=>ht ρ _
  .have e:i=ds.length:=by omega
   refine .inl ⟨it.stop i H' Ha' z h'.g.sub (by omega),?_⟩;subst e;exact eK.done ⟨Ha',ρ',z,h',hq⟩
end
def qu(f:al):Prop:=∀ρ d,f ρ=.ok d->∃ds,d=.lst ds
def Bl{K:W.Frag}(hf:qu f)(h:tD K E f σ H Q):tF K E f σ H Q:=by
 obtain⟨Ha,ρ,hs,hr,q⟩:=h;refine⟨Ha,ρ,hs,hr,?_⟩;cases e1:f ρ with
 |stuck|exn x=>rw[e1]at q;exact q
 |ok d=>
  obtain⟨ds,rfl⟩:=hf ρ d e1;rw[e1]at q;intro p vs H' Ha' g hp h0 hv rp;have n0:Ha p=none:=hs.free hp;refine q (.ref p) H' (upd Ha' p (.lst vs)) ⟨g.s,λb o e=>?_,λb o e=>?_,λb k1 k2=>?_⟩ (aE.mpr ⟨p,vs,rfl,d9.of aC,rp.mono λb o e=>?_⟩)
  .rw[av (by intro z;subst z;rw[n0]at e;cases e)];exact g.z _ _ e
  .by_cases hb:b=p
   .subst hb;rw[aC]at e;cases e;exact hv
   .rw[av hb]at e;exact g.sub _ _ e
  .by_cases hb:b=p
   .subst hb;exact hp
   .rw[av hb]at k1;exact g.nw b k1 k2
  .rw[av (by intro z;subst z;rw[h0]at e;cases e)];exact e
def Dc(hf:qu f)(h:DF X E e f):DE X E e f:=⟨aQ h.o λσ H Q q=>Bl hf q⟩
def cA(n:Nat)(fr:bi)(ρ:Ev):Ev:=List.replicate n .no++fr.map λ(i:Nat)=>match ρ[i]? with
 |some (.sh d)=>.sh d
 |_=>.no
noncomputable def bG(b:Ev) (tg:Ev->D->ai Ev) (tt fe:al):ac->ai (ac)
 |[]=>.ok []
 |d::r=>(tg b d).bind λρ1=>(tt ρ1).bind λt=>match t with
  |.bl true=>(fe ρ1).bind λx=>(bG b tg tt fe r).bind λxs=>.ok (x::xs)
  |.bl false=>bG b tg tt fe r
  |_=>.stuck
def dA(n:Nat)(fr:bi)(src:Ev->ai (ac))(tg:Ev->D->ai Ev)(tt fe:al):al:=λρ=>(src ρ).bind λds=>
 if ds.length<=line then match bG (cA n fr ρ) tg tt fe ds with
  |.ok es=>.ok (.lst es)
  |_=>.stuck
 else .stuck
def AS{fr:bi}:qu (dA n fr src tg tt fe):=λρ d h=>by
 unfold dA at h;cases e1:src ρ with
 |stuck|exn x=>rw[e1]at h;cases h
 |ok ds=>
  rw[e1]at h;replace h:(if ds.length<=line then match bG (cA n fr ρ) tg tt fe ds with
   |.ok es=>ai.ok (D.lst es)
   |_=>.stuck else .stuck)=.ok d:=h
  split at h
  .split at h
   .cases h;exact⟨_,rfl⟩
   .cases h
  .cases h
def gG(h:bG b tg tt fe (d::r)=.ok es) :
  ∃ρ1 t,tg b d=.ok ρ1/\tt ρ1=.ok (.bl t)/\((t=true/\∃x xs,fe ρ1=.ok x/\bG b tg tt fe r=.ok xs/\es=x::xs)∨(t=false/\bG b tg tt fe r=.ok es)):=by
 unfold bG at h;cases e1:tg b d with
 |stuck|exn z=>rw[e1]at h;cases h
 |ok ρ1=>
  rw[e1]at h;replace h:((tt ρ1).bind λt=>match t with
   |.bl true=>(fe ρ1).bind λx=>(bG b tg tt fe r).bind λxs=>ai.ok (x::xs)
   |.bl false=>bG b tg tt fe r
   |_=>.stuck)=.ok es:=h
  cases e2:tt ρ1 with
  |stuck|exn z=>rw[e2]at h;cases h
  |ok t=>
   rw[e2]at h;cases t with
   |bl t=>
    cases t with
    |true=>
     replace h:((fe ρ1).bind λx=>(bG b tg tt fe r).bind λxs=>ai.ok (x::xs))=.ok es:=h;cases e3:fe ρ1 with
     |stuck|exn z=>rw[e3]at h;cases h
     |ok x=>
      rw[e3]at h;replace h:((bG b tg tt fe r).bind λxs=>ai.ok (x::xs))=.ok es:=h;cases e4:bG b tg tt fe r with|stuck|exn z=>rw[e4]at h;cases h|ok xs=>rw[e4]at h;cases h;exact⟨ρ1,true,rfl,e2,.inl ⟨rfl,x,xs,e3,rfl,rfl⟩⟩
    |false=>exact⟨ρ1,false,rfl,e2,.inr ⟨rfl,h⟩⟩
   |_=>cases h
def fX(h1:tg b d=.ok ρ1)(h2:tt ρ1=.ok (.bl true))(h3:fe ρ1=.ok x):bG b tg tt fe (d::r)=(bG b tg tt fe r).bind λxs=>.ok (x::xs):=by
 rw[bG,h1];simp only[ai.bind,h2,h3]
def pW(h1:tg b d=.ok ρ1)(h2:tt ρ1=.ok (.bl false)):bG b tg tt fe (d::r)=bG b tg tt fe r:=by
 rw[bG,h1];simp only[ai.bind,h2]
theorem lZ:∀{r q es:ac},bG b tg tt fe (r++q)=.ok es->∃e1 e2,bG b tg tt fe r=.ok e1/\bG b tg tt fe q=.ok e2/\es=e1++e2
 |[],q,es,h=>⟨[],es,rfl,h,rfl⟩
 |d::r,q,es,h=>by
  obtain⟨ρ1,t,h1,h2,h3⟩:=gG h;rcases h3 with⟨rfl,x,xs,h3,h4,rfl⟩|⟨rfl,h4⟩
  .obtain⟨e1,e2,k1,k2,rfl⟩:=lZ h4
   refine⟨x::e1,e2,?_,k2,rfl⟩;rw[fX h1 h2 h3,k1];rfl
  .obtain⟨e1,e2,k1,k2,rfl⟩:=lZ h4
   refine⟨e1,e2,?_,k2,rfl⟩;rw[pW h1 h2];exact k1
theorem gF{b:Ev}{tg:Ev->D->ai Ev}{tt fe:al}:∀{r q e1 e2:ac},bG b tg tt fe r=.ok e1->bG b tg tt fe q=.ok e2->bG b tg tt fe (r++q)=.ok (e1++e2)
 |[],q,e1,e2,h,h'=>by cases h;exact h'
 |d::r,q,e1,e2,h,h'=>by
  obtain⟨ρ1,t,h1,h2,h3⟩:=gG h;show bG b tg tt fe (d::(r++q))=_;rcases h3 with⟨rfl,x,xs,h3,h4,rfl⟩|⟨rfl,h4⟩
  .rw[fX h1 h2 h3,gF h4 h'];rfl
  .rw[pW h1 h2];exact gF h4 h'
theorem pX:∀{r es:ac},bG b tg tt fe r=.ok es->es.length<=r.length
 |[],es,h=>by cases h;exact Nat.le_refl _
 |d::r,es,h=>by
  obtain⟨ρ1,t,h1,h2,h3⟩:=gG h;rcases h3 with⟨rfl,x,xs,h3,h4,rfl⟩|⟨rfl,h4⟩
  .exact Nat.succ_le_succ (pX h4)
  .exact Nat.le_succ_of_le (pX h4)
def ya(n:Nat)(tg:Ev->D->ai Ev):Prop:=∀ρ d ρ',tg ρ d=.ok ρ'->ρ'.length=ρ.length/\∀(k:Nat),n<=k->ρ'[k]?=ρ[k]?
def eg(h:i<n):ya n (bF i):=λρ d ρ' e=>by
 cases e;exact⟨by simp,λk hk=>by rw[List.getElem?_set_ne (by omega)]⟩
def xV{K:W.Frag}{fr:bi}(h:Reads K Ha σ ρ):Reads K Ha (gR n fr σ) (cA n fr ρ):=λi d e=>by
 unfold cA at e;unfold gR
 by_cases hi:i<n
 .rw[List.getElem?_append_left (by simpa using hi),List.getElem?_replicate,if_pos hi]at e
  cases e
 .rw[List.getElem?_append_right (by simpa using hi),List.length_replicate,List.getElem?_map]at e ⊢
  cases hf:fr[i-n]? with
  |none=>rw[hf]at e;cases e
  |some j=>
   rw[hf]at e;simp only[Option.map_some,Option.some.injEq]at e ⊢;cases hj:ρ[j]? with
   |none=>rw[hj]at e;cases e
   |some s=>
    rw[hj]at e;cases s with
    |sh d'=>
     cases e;obtain⟨v,h1,h2⟩:=h j d hj;exact⟨v,by rw[h1];rfl,h2⟩
    |_=>cases e
def Fm{fr:bi}{k:Nat}(h:k<n):(cA n fr ρ)[k]?=some .no:=by
 unfold cA;rw[List.getElem?_append_left (by simpa using h),List.getElem?_replicate,if_pos h]
def Dq{fr:bi}(i j:Nat)(es:ac):(cA n fr ρ)[i]?≠some (.ox j es):=λe=>by
 unfold cA at e
 by_cases hj:i<n
 .rw[List.getElem?_append_left (by simpa using hj),List.getElem?_replicate,if_pos hj]at e;cases e
 .rw[List.getElem?_append_right (by simpa using hj),List.getElem?_map]at e
  cases hf:fr[i-(List.replicate n Sl.no).length]? with
  |none=>rw[hf]at e;cases e
  |some z=>
   rw[hf]at e;simp only[Option.map_some,Option.some.injEq]at e;split at e<;>cases e
def AY{fr:bi}{σ:L2.St}(i:Nat)(a:Addr)(e:(cA n fr ρ)[i]?=some (.pt a)):σ[i]?=some (some (.ref a)):=by
 unfold cA at e
 by_cases hj:i<n
 .rw[List.getElem?_append_left (by simpa using hj),List.getElem?_replicate,if_pos hj]at e;cases e
 .rw[List.getElem?_append_right (by simpa using hj),List.getElem?_map]at e
  cases hf:fr[i-(List.replicate n Sl.no).length]? with
  |none=>rw[hf]at e;cases e
  |some z=>
   rw[hf]at e;simp only[Option.map_some,Option.some.injEq]at e;split at e<;>cases e
def wD{fr:bi}:(cA n fr ρ).length=n+fr.length:=by unfold cA;simp
def xQ{K:W.Frag}{fr:bi}(hsame:aA Ha H)(g1:aS H Ha H1 H01)(it:Iu K ds J H01)(hl:ds.length<=line)
  (e2:bG (cA n fr ρ) tg tt fe ds=.ok es)(hr:Reads K H01 σ ρ)(hok:ya n tg)
  (q:∀p vs H' Ha',aS H Ha H' Ha'->H p=none->Ha' p=none->H' p=some (.lst vs)->Reps K Ha' es vs->Q (.ref p) H') :
  nF n fr (HA K tg) (Iz K E tt) (tD K E fe) J σ H1 Q:=by
 intro Da hDa;have h0D:H01 Da=none:=g1.sub.free hDa;refine⟨λi m ys σ' H'=>m=ds.length-i/\i<=ds.length/\σ'.length=n+fr.length/\∃Ha',aS H1 H01 H' Ha'/\Ha' Da=none/\H' Da=some (.lst ys)/\Reads K Ha' σ' (cA n fr ρ)/\∃es1,bG (cA n fr ρ) tg tt fe (ds.take i)=.ok es1/\Reps K Ha' es1 ys,
  ⟨ds.length,by simp,Nat.zero_le _,by unfold gR;simp,H01,?_,h0D,aC,xV hr,[],rfl,Reps.nil⟩,?_⟩
 .refine⟨λb o e=>by rw[av (bj e hDa)];exact e,aA.refl _,λb o e=>?_,λb k1 k2=>absurd k2 k1⟩
  rw[av (by intro z;subst z;rw[h0D]at e;cases e)];exact g1.sub _ _ e
 .rintro i m ys σ' H' ⟨rfl,hile,hsl,Ha',gg,hD0,hDl,hrd,es1,hes1,hys⟩
  refine⟨hDl,?_⟩
  by_cases hlt:i<ds.length
  .refine .inr ⟨it.go i H' Ha' gg.z gg.sub hlt,?_,?_⟩
   .rw[←hys.length]
    have:=pX hes1;rw[List.length_take]at this;have h2:line<sizeLine:=by decide
    omega
   .intro x H2 hy
    obtain⟨H₀2,g2,rp⟩:=it.yld i H' Ha' x H2 ds[i] gg.z gg.sub (List.getElem?_eq_getElem hlt) hy;have hsplit:ds=ds.take i++(ds[i]::ds.drop (i+1)):=by rw[←List.drop_eq_getElem_cons hlt,List.take_append_drop]
    rw[hsplit]at e2;obtain⟨a1,a2,k1,k2,k3⟩:=lZ e2;rw[hes1]at k1;cases k1;obtain⟨ρ1,t,t1,t2,t3⟩:=gG k2;have hn2:H₀2 Da=none:=by
     cases qq:H₀2 Da with|none=>rfl|some o=>have:=g2.nw Da (by rw[qq];simp) hD0;rw[hDl]at this;cases this
    have hD2:H2 Da=some (.lst ys):=g2.s _ _ hDl;refine⟨H2,H₀2,H₀2,cA n fr ρ,ds[i],⟨aS.refl g2.sub,hrd.mono g2.z,λj d' e=>?_,λj k d1 d2 _ e=>?_,by rw[wD,hsl],OX.none Dq AY⟩,rp,?_⟩
    .unfold cA at e
     by_cases hj:j<n
     .rw[List.getElem?_append_left (by simpa using hj),List.getElem?_replicate,if_pos hj]at e;cases e
     .rw[List.getElem?_append_right (by simpa using hj),List.getElem?_map]at e
      cases hf:fr[j-(List.replicate n Sl.no).length]? with
      |none=>rw[hf]at e;cases e
      |some z=>
       rw[hf]at e;simp only[Option.map_some,Option.some.injEq]at e;split at e<;>cases e
    .unfold cA at e
     by_cases hj:j<n
     .rw[List.getElem?_append_left (by simpa using hj),List.getElem?_replicate,if_pos hj]at e;cases e
     .rw[List.getElem?_append_right (by simpa using hj),List.getElem?_map]at e
      cases hf:fr[j-(List.replicate n Sl.no).length]? with
      |none=>rw[hf]at e;cases e
      |some z=>
       rw[hf]at e;simp only[Option.map_some,Option.some.injEq]at e;split at e<;>cases e
    .rw[t1]
     intro σ3 H3 H03 z3 s3;have hrl:=hok _ _ _ t1;have hσ3:σ3.length=n+fr.length:=by rw[←s3.ln,hrl.1,wD]
     have back:∀{Hx:Hp},aA H03 Hx->Reads K Hx σ3 (cA n fr ρ):=λ{Hx} sx k d e=>by
      by_cases hk:k<n
      .rw[Fm hk]at e;cases e
      .rw[←hrl.2 k (by omega)]at e
       obtain⟨v,h1,h2⟩:=s3.rd k d e;exact⟨v,h1,h2.mono sx⟩
     have n3:H03 Da=none:=by
      cases qq:H03 Da with|none=>rfl|some o=>have:=s3.g.nw Da (by rw[qq];simp) hn2;rw[hD2]at this;cases this
     have hD3:H3 Da=some (.lst ys):=s3.g.s _ _ hD2;refine⟨H03,ρ1,s3.g.sub,s3.rd,?_⟩;rw[t2];intro H4 H04 g4;have hD4:H4 Da=some (.lst ys):=g4.s _ _ hD3;have n4:H04 Da=none:=by
      cases qq:H04 Da with|none=>rfl|some o=>have:=g4.nw Da (by rw[qq];simp) n3;rw[hD3]at this;cases this
     have htake:ds.take (i+1)=ds.take i++[ds[i]]:=by rw[List.take_add_one,List.getElem?_eq_getElem hlt];rfl
     have g04:=(gg.trans g2).trans (s3.g.trans g4);rcases t3 with⟨rfl,y,xs,t3,t4,_⟩|⟨rfl,t4⟩
     .rw[if_pos rfl]
      refine⟨H04,ρ1,g4.sub,s3.rd.mono g4.z,?_⟩;rw[t3];intro yv H5 H05 g5 ry;have hD5:H5 Da=some (.lst ys):=g5.s _ _ hD4;have n5:H05 Da=none:=by
       cases qq:H05 Da with|none=>rfl|some o=>have:=g5.nw Da (by rw[qq];simp) n4;rw[hD4]at this;cases this
      have gall:=g04.trans g5;refine⟨hD5,ds.length-(i+1),by omega,rfl,hlt,hσ3,H05,⟨λb o e=>?_,gall.z,λb o e=>?_,gall.nw⟩,n5,aC,back (g4.z.trans g5.z),es1++[y],?_,?_⟩
      .rw[av (bj e hDa)];exact gall.s _ _ e
      .rw[av (by intro z;subst z;rw[n5]at e;cases e)];exact gall.sub _ _ e
      .rw[htake]
       refine gF hes1 ?_;rw[fX t1 t2 t3];rfl
      .exact(hys.mono ((g2.z.trans s3.g.z).trans (g4.z.trans g5.z))).app (Reps.cons ry Reps.nil)
     .rw[if_neg Bool.false_ne_true]
      refine⟨ds.length-(i+1),by omega,rfl,hlt,hσ3,H04,g04,n4,hD4,back g4.z,es1,?_,hys.mono ((g2.z.trans s3.g.z).trans g4.z)⟩;rw[htake];rw[show es1=es1++[] by simp];refine gF hes1 ?_;rw[pW t1 t2];rfl
  .have hi2:i=ds.length:=by omega
   refine .inl ⟨it.stop i H' Ha' gg.z gg.sub (by omega),?_⟩;rw[hi2,List.take_length]at hes1;rw[e2]at hes1;cases hes1;exact q Da ys H' Ha' (g1.trans gg) (g1.s.free hDa) hD0 hDl hys
structure KL (X:Cx) (E:XK) (ifs:List Expr) (f:al):Prop where
 o:IF X ifs (Iz X.K E f)
def mYes:al:=λ_=>.ok (.bl true)
def k8:KL X E [] mYes:=⟨λpins s σ H Q I ⟨Ha,ρ,hs,hr,q⟩=>yA pins s σ H Q I (q H Ha (aS.refl hs))⟩
def zL(h:DT X E c f):KL X E [c] f:=⟨Eu h.o⟩
structure KN (X:Cx) (E:XK) (e:Expr) (f:al):Prop where
 ev:PE X e (tF X.K E f)
 st:∀{i:Nat}{x:Str}{pos' spos:Pos},X.N.Nodup->X.N[i]?=some x->X.env.scope.names.lookup x=some .local -> swapsWith e (some (.Name x pos')) spos.line X.env=pure true->PS X (.Assign [.Name x pos'] e spos) (Ea (tF X.K E f) (zg i))
def MC(N:List Str)(n:Nat)(fr:bi)(hc:X.calm=true)(hi:DI X E tgt iter src)(hok:ya n tg)
  (blk:∀s H C fp pn,(∀He H0e,DG (cv X N scope s H C fp pn) E He H0e tgt tg)/\KL (cv X N scope s H C fp pn) E ifs tt/\DE (cv X N scope s H C fp pn) E elt fe)
  (hfr:yd X N n fr scope)(hcell:∀x∈scope.names,x.2≠.cell)(hfree:∀x∈scope.names,x.2=.free->X.env.scope.names.lookup x.1=some .cell)(hkind:scope.kind=.function)(hnames:∀x∈scope.names,x.2=.local -> scope.names.lookup x.1=some .local)
  (hs:∀x,foldedSetIterable iter X.env x=pure x:=by intro _;rfl):KN X E (.ListComp elt [⟨tgt,iter,ifs,0⟩] scope pos) (dA n fr src tg tt fe):=by
 have blk':∀s H C fp pn,PG (cv X N scope s H C fp pn) tgt (HA X.K tg)/\IF (cv X N scope s H C fp pn) ifs (Iz X.K E tt)/\PE (cv X N scope s H C fp pn) elt (tD X.K E fe):=λs H C fp pn=>
  ⟨λpins s' σ' H' v u Q' I r ⟨He,H0e,q'⟩=>((blk s H C fp pn).1 He H0e).o pins s' σ' H' v u Q' I r q',(blk s H C fp pn).2.1.o,(blk s H C fp pn).2.2.o⟩
 have first:∀{pins:List (Addr×Obj)}{s:Shared}{σ:L2.St}{H:Hp}{Q:VK}{RR:Value->Addr->Result->Shared->Prop},L2.Inv X pins σ H s->tF X.K E (dA n fr src tg tt fe) σ H Q ->
   (∀(Da C:Addr) (s6:Shared) (H5:Hp) (m:Str->Option Value),L2.Inv X pins σ H5 s6->s6.heap.Ns C m->lF X pins H5 C->Q (.ref Da) H5->RR (.ref Da) C (.ok .next) s6) ->
   wpAny (model X.prog X.w) X.A (eval iter X.env) (λx sg=>wpAny (model X.prog X.w) X.A (pyIter x) (λit si=>wpAny (model X.prog X.w) X.A (newList []) (λacc sj=>
    wpAny (model X.prog X.w) X.A (newFunctionEnv scope X.env.globals (fb X.env.cells scope.names []) [] X.env.qual none .none (some X.env)) (λcenv sk=>
     codeAny (model X.prog X.w) X.A (.compStart (.ListComp elt [⟨tgt,iter,ifs,0⟩] scope pos) 0 it acc { cenv with scope:=relabel scope X.env }) (RR acc cenv.locals) sk) X.xe sj) X.xe si) X.xe sg) X.xe s:=by
  intro pins s σ H Q RR I ⟨Ha,ρ,hsame,hr,q⟩ fin;refine cu (hi.o pins s σ H (λJ H1=>nF n fr (HA X.K tg) (Iz X.K E tt) (tD X.K E fe) J σ H1 Q) I ⟨Ha,ρ,hsame,hr,?_⟩) λv s1 h1=>cu h1 λitv s2 h2=>sr (N:=N) hc hfr hcell hfree hkind blk' h2 fin;unfold dA at q;cases e1:src ρ with
  |stuck|exn x=>rw[e1]at q;exact q
  |ok ds=>
   rw[e1]at q;intro J H1 H01 g1 it;replace q:match (if ds.length<=line then match bG (cA n fr ρ) tg tt fe ds with
     |.ok es=>ai.ok (D.lst es)
     |_=>.stuck else .stuck) with
    |.ok (.lst ds)=>∀p vs H' Ha',aS H Ha H' Ha'->H p=none->Ha' p=none->H' p=some (.lst vs)->Reps X.K Ha' ds vs->Q (.ref p) H'
    |.ok _=>False
    |.exn x=>∀C ox H' Ha',aS H Ha H' Ha'->ye X.K Ha' x C ox->E C ox H'
    |.stuck=>False:=q
   by_cases hl:ds.length<=line
   .rw[if_pos hl]at q
    cases e2:bG (cA n fr ρ) tg tt fe ds with
    |stuck|exn x=>rw[e2]at q;exact q.elim
    |ok es=>
     rw[e2]at q;exact xQ hsame g1 it hl e2 (hr.mono g1.z) hok q
   .rw[if_neg hl]at q;exact q.elim
 have hcl:∀{pins:List (Addr×Obj)}{s:Shared}{σ:L2.St}{H:Hp},L2.Inv X pins σ H s->closureFor scope X.env=pure (fb X.env.cells scope.names []):=λ{pins s σ H} I=>jg λy hy hf=>I.ok.has y.1 (.inl (hfree y hy hf));refine⟨λpins s σ H Q I h=>?_,λ{i x pos' spos} hN hi' hx hsw pins s σ H D' I h=>?_⟩
 .rw[eval_ListComp]
  refine wpAny_comprehension_free (use:=none) rfl hs (hcl I) hkind hnames (first (RR:=λacc C=>compPost (model X.prog X.w) X.A X.xe none (EP X pins σ Q) acc C) I h λDa C s6 H5 m I6 ns fC q=>?_);refine⟨m,ns,λh' sb=>⟨.ref Da,H5,?_,rfl,q⟩⟩;exact I6.turned (t':=s6.toks) (it:=C) (λb o hb e=>(sb.2 b hb).trans e) fC.1 fC.2.1 fC.2.2.2.1 fC.2.2.2.2.1 fC.2.2.2.2.2
 .rw[exec_Assign_Name_used _ _ _ _ hsw]
  refine wpAny_bind (wpAny_standAt (wpAny_bind ?_));show wpAny _ X.A (do let _ ←comprehension (.ListComp elt [⟨tgt,iter,ifs,0⟩] scope pos) scope X.env _ (newList []) false (eval iter X.env) (some (assign (.Name x pos') X.env))) _ _ s;refine wpAny_bind (wpAny_mono (wpAny_comprehension_free (use:=some (assign (.Name x pos') X.env)) (Q:=λ_ s'=>SP X pins D' .next s') rfl hs (hcl I) hkind hnames
   (first (RR:=λacc C=>compPost (model X.prog X.w) X.A X.xe (some (assign (.Name x pos') X.env)) (λ_ s'=>SP X pins D' .next s') acc C) I h λDa C s6 H5 m I6 ns fC q=>?_)) (λ_ s' hq=>wpAny_pure (wpAny_pure hq)) λ_ _ e=>e)
  show wpAny _ X.A (assign (.Name x pos') X.env (.ref Da)) _ _ _;refine wpAny_assign_Name (lK (v:=.ref Da) I6 hN hi' (.inl hx) rfl (λs' I' z9=>?_) (.inr hx));obtain⟨a,sb,ha⟩:=z9;have hCa:C≠a:=by
   rcases ha with rfl|ha
   .exact fC.2.1
   .exact λz=>fC.2.2.2.2.1 x a ha z.symm
  refine⟨m,ns.sameBut sb hCa,λh' sb'=>⟨_,H5,?_,q⟩⟩;exact I'.turned (t':=s'.toks) (it:=C) (λb o hb e=>(sb'.2 b hb).trans e) fC.1 fC.2.1 fC.2.2.2.1 fC.2.2.2.2.1 fC.2.2.2.2.2
def Kb(h:KN X E e f):DF X E e f:=⟨h.ev⟩
def pQ{fr:bi}(h:KN X E e (dA n fr src tg tt fe)):DE X E e (dA n fr src tg tt fe):=Dc AS (Kb h)
section
variable {X:Cx}{E:XK}{He H0e:Hp}{e:Expr}{f:al}{s:am}{pos:Pos}{st:Stmt}
def unown(i:Nat)(ρ:Ev):Ev:=match ρ[i]? with
 |some (.ow d)=>ρ.set i (.sh d)
 |_=>ρ
def Bz(i:Nat)(s:am):am:=λρ=>s (unown i ρ)
def cO.unown{K:W.Frag}(h:cO K He H0e Ha σ H ρ)(i:Nat):∃Ha',aA Ha Ha'/\cO K He H0e Ha' σ H (DL.unown i ρ):=by
 unfold DL.unown;cases e:ρ[i]? with
 |none=>exact⟨Ha,aA.refl _,h⟩
 |some s=>
  cases s with
  |no|sh d|ox j ds|pt a=>exact⟨Ha,aA.refl _,h⟩
  |ow d=>
   obtain⟨a,k1,k2,k3,k4⟩:=h.ow i d e;obtain⟨o,h5,hrep⟩:∃o,H a=some o/\∀Hb,aA Ha Hb->Hb a=some o->Rep K Hb d (.ref a):=by
    cases d with
    |lst ds=>obtain⟨vs,h5,h6⟩:=k4;exact⟨_,h5,λHb z e=>aE.mpr ⟨a,vs,rfl,d9.of e,h6.mono z⟩⟩
    |dic ks ds=>obtain⟨vs,h5,hl,h6⟩:=k4;exact⟨_,h5,λHb z e=>by rw[Rep];exact⟨a,_,vs,rfl,.inl e,rfl,hl,h6.mono z⟩⟩
    |_=>exact k4.elim
   have z:aA Ha (upd Ha a o):=λb o' q=>by rw[av (by intro z;subst z;rw[k3]at q;cases q)];exact q
   have h':cO K He H0e (upd Ha a o) σ H (ρ.set i .no):=by
    have nset:∀(j:Nat) (s:Sl),(ρ.set i .no)[j]?=some s->s≠.no->j≠i/\ρ[j]?=some s:=λj s q hs=>by
     by_cases hj:i=j
     .subst hj
      rw[List.getElem?_set_self']at q;rw[e]at q;cases q;exact absurd rfl hs
     .rw[List.getElem?_set_ne hj]at q;exact⟨λz=>hj z.symm,q⟩
    refine⟨⟨h.g.s,h.g.z.trans z,λb o' q=>?_,λb q1 q2=>?_⟩,λj d' q=>?_,λj d' q=>?_,λj k d1 d2 hn q1 q2=>?_,by simp[h.ln],h.ex.upd (λj s q=>?_) z (λb us _ eb=>eb) λq us _ q0 hq hd=>?_⟩
    rotate_left 5
    .by_cases hs:s=.no
     .exact .inr (.inr (.inl hs))
     .exact .inl ⟨(nset j s q hs).2,rfl⟩
    .have hq':q≠a:=by
      intro zz;subst zz;exact hd i _ e k1
     exact⟨hq,by rw[av hq'];exact q0⟩
    .by_cases hb:b=a
     .subst hb;rw[aC]at q;cases q;exact h5
     .rw[av hb]at q;exact h.g.sub _ _ q
    .by_cases hb:b=a
     .subst hb;exact k2
     .rw[av hb]at q1;exact h.g.nw b q1 q2
    .obtain⟨hj,q⟩:=nset j _ q (λz=>nomatch z)
     obtain⟨v,q1,q2⟩:=h.rd j d' q;exact⟨v,q1,q2.mono z⟩
    .obtain⟨hj,q⟩:=nset j _ q (λz=>nomatch z)
     obtain⟨b,q1,q2,q3,q4⟩:=h.ow j d' q;have hb:b≠a:=by
      intro zz;subst zz;exact h.ap j i d' d hj q e (by rw[q1,k1])
     refine⟨b,q1,q2,by rw[av hb];exact q3,?_⟩;cases d' with|lst ds'=>obtain⟨vs',h7,h8⟩:=q4;exact⟨vs',h7,h8.mono z⟩|dic ks' ds'=>obtain⟨vs',h7,hl,h8⟩:=q4;exact⟨vs',h7,hl,h8.mono z⟩| _=>exact q4.elim
    .obtain⟨_,q1⟩:=nset j _ q1 (λz=>nomatch z)
     obtain⟨_,q2⟩:=nset k _ q2 (λz=>nomatch z);exact h.ap j k d1 d2 hn q1 q2
   refine⟨_,z,?_⟩;have hp:=h'.put (i:=i) (d:=d) (v:=.ref a) (hrep _ z aC);rw[List.set_set]at hp;have hσ:σ.set i (some (V.ref a))=σ:=by
    apply List.ext_getElem?;intro k
    by_cases hk:i=k
    .subst hk
     obtain⟨hil,_⟩:=List.getElem?_eq_some_iff.mp k1;rw[List.getElem?_set_self hil,k1]
    .rw[List.getElem?_set_ne hk]
   rw[hσ]at hp;exact hp
def HI(i:Nat)(h:DS X E He H0e st s):DS X E He H0e st (Bz i s):=⟨bz h.o λD' σ H z9=>by
 obtain⟨Ha,ρ,hr,q⟩:=z9;obtain⟨Ha',z,hr'⟩:=hr.unown i;exact⟨Ha',DL.unown i ρ,hr',bL.grow (r:=s (DL.unown i ρ)) q z⟩⟩
end
def xO(N:List Str)(n:Nat)(fr:bi)(hc:X.calm=true)(hi:DI X E tgt iter src)(hok:ya n tg)
  (blk:∀s H C fp pn,(∀He H0e,DG (cv X N scope s H C fp pn) E He H0e tgt tg)/\KL (cv X N scope s H C fp pn) E ifs tt/\DE (cv X N scope s H C fp pn) E elt fe)
  (hfr:yd X N n fr scope)(hcell:(scope.names.all λx=>!(x.2==.cell))=true)(hfree:(scope.names.all λx=>!(x.2==.free)||(X.env.scope.names.lookup x.1==some .cell))=true)(hkind:scope.kind=.function)
  (hnames:(scope.names.all λx=>!(x.2==.local)||(scope.names.lookup x.1==some .local))=true)
  (hs:∀x,foldedSetIterable iter X.env x=pure x:=by intro _;rfl):KN X E (.ListComp elt [⟨tgt,iter,ifs,0⟩] scope pos) (dA n fr src tg tt fe):=by
 refine MC N n fr hc hi hok blk hfr (λx hx z=>?_) (λx hx z=>?_) hkind (λx hx z=>?_) hs
 .have:=List.all_eq_true.mp hcell x hx
  rw[z]at this;simp at this
 .have:=List.all_eq_true.mp hfree x hx
  rw[z]at this;simpa using this
 .have:=List.all_eq_true.mp hnames x hx
  rw[z]at this;simpa using this
end DL
namespace Com
open PySem L2 DL
def dR:am :=
 (aw (gq (iR 1) (aa (ae 1) (dC (.int 0)) iW)
 (aw (qG 0 1 (ah (ae 1) (ah (aa (ae 0) (ae 1) cN) aG)))
 ao))
 (aw (bB (au (ah (ae 0) aG) (m1 AR)))
 ao))
def ig:ac->ai D:=ck 2 dR
def qQ:am :=
 (aw (bE 2 (au (ah (ae 0) (ah (ae 1) aG)) ig))
 (aw (bB (au (ah (aa (ae 0) (ae 2) lj) (ah (aa (ae 1) (ae 2) lj) aG)) fR))
 ao))
def DB:ac->ai D:=ck 3 qQ
def xW:am :=
 (aw (bB (gE (cm (ae 0) (fq "int")) (cF (cm (ae 0) (fq "bool")))))
 ao)
def m_is_whole:ac->ai D:=ck 1 xW
noncomputable def c7:am :=
 (aw (bE 2 (au (ah (ae 0) aG) (m1 AR)))
 (aw (bE 3 (au (ah (ae 1) aG) (m1 AR)))
 (aw (gq (iR 3) (aa (ae 3) (dC (.int 0)) iW)
 (aw (bE 4 (aa (ae 2) (ae 3) cN))
 (aw (bE 2 (ae 3))
 (aw (bE 3 (ae 4))
 ao))))
 (aw (bB (ae 2))
 ao))))
def m_common_divisor:ac->ai D:=ck 5 c7
noncomputable def ny:am :=
 (aw (dH (jf (cF (au (ah (ae 0) aG) m_is_whole)) (cF (au (ah (ae 1) aG) m_is_whole)))
 (aw dG
 ao)
 ao)
 (aw (dH (aa (ae 1) (dC (.int 0)) lG)
 (aw dG
 ao)
 ao)
 (aw (bE 2 (au (ah (ae 0) (ah (ae 1) aG)) m_common_divisor))
 (aw (dH (aa (ae 1) (dC (.int 0)) ID)
 (aw (bE 2 (cm (ae 2) Df))
 ao)
 ao)
 (aw (bB (au (ah (aa (ae 0) (ae 2) lj) (ah (aa (ae 1) (ae 2) lj) aG)) fR))
 ao)))))
def m_ratio:ac->ai D:=ck 3 ny
def AX{f:α->ai β}:(ai.ok a).bind f=f a:=rfl
def gp(h:s ρ=.ok (.nx ρ')):aw s t ρ=t ρ':=by unfold aw;rw[h];rfl
def wY(h:s ρ=.ok (.rt d)):aw s t ρ=.ok (.rt d):=by unfold aw;rw[h];rfl
def Bt(h:s ρ=.ok (.nx ρ')):aw s ao ρ=.ok (.nx ρ'):=by unfold aw;rw[h];rfl
def Bs(h:f ρ=.ok d):bE i f ρ=.ok (.nx (ρ.set i (.sh d))):=by unfold bE;rw[h];rfl
def w6(h:f (gO ρ)=.ok d):bB f ρ=.ok (.rt d):=by unfold bB;rw[h];rfl
def Hy(h:c (gO ρ)=.ok (.bl false)):dH c s t ρ=t ρ:=by unfold dH;rw[h];rfl
def jo:iW (.int i) (.int j)=.ok (.bl (!(i==j))):=by unfold iW;rw[if_pos ⟨rfl,rfl⟩,cn]
def lX:lG (.int i) (.int j)=.ok (.bl (i==j)):=by unfold lG;rw[if_pos ⟨rfl,rfl⟩,cn]
def lA(h:f ρ=.ok x)(h':fa ρ=.ok xs):ah f fa ρ=.ok (x::xs):=by unfold ah;rw[h,AX,h'];rfl
def qf(h:f ρ=.ok x)(h':g ρ=.ok y):aa f g op ρ=op x y:=by unfold aa;rw[h,AX,h'];rfl
def wC(h:fa ρ=.ok xs):au fa m ρ=m xs:=by unfold au;rw[h];rfl
def xv(h:b≠0):cN (.int a) (.int b)=.ok (.int (a.fmod b)):=by
 show(if decide (b≠0)=true then ai.ok (D.int (a.fmod b)) else .stuck)=_;rw[if_pos (decide_eq_true h)]
def C5(h:dZ a b=true):lj (.int a) (.int b)=.ok (.int (a.fdiv b)):=by
 show(if dZ a b=true then ai.ok (D.int (a.fdiv b)) else .stuck)=_;rw[if_pos h]
def oq(a b:Int):Int.gcd b (a.fmod b)=Int.gcd a b:=by
 rw[Int.fmod_def,Int.gcd_sub_mul_left_right,Int.gcd_comm]
def zk{a b:Int}(h:b≠0):(a.fmod b).natAbs<b.natAbs:=by
 rcases Int.lt_or_gt_of_ne h with hb|hb
 .have h1:=Int.fmod_lt_of_pos (-a) (show 0 < -b by omega)
  have h2:=Int.fmod_nonneg_of_pos (-a) (show 0 < -b by omega);rw[Int.neg_fmod_neg]at h1 h2;omega
 .have h1:=Int.fmod_lt_of_pos a hb
  have h2:=Int.fmod_nonneg_of_pos a hb;omega
theorem k7:∀(n:Nat) (a b:Int),b.natAbs<n->∃g:Int,g.natAbs=Int.gcd a b /\
  b6 (aa (ae 1) (dC (.int 0)) iW) (aw (qG 0 1 (ah (ae 1) (ah (aa (ae 0) (ae 1) cN) aG))) ao) n [.sh (.int a),.sh (.int b)]=.ok (.nx [.sh (.int g),.sh (.int 0)])
 |0,a,b,h=>absurd h (Nat.not_lt_zero _)
 |n+1,a,b,h=>by
  unfold b6;have c:(aa (ae 1) (dC (.int 0)) iW) (gO [.sh (.int a),.sh (.int b)])=.ok (.bl (!(b==0))):=jo;rw[c]
  by_cases hb:b=0
  .subst hb
   exact⟨a,by simp,rfl⟩
  .have e:(!(b==0))=true:=by simp[hb]
   obtain⟨g,h1,h2⟩:=k7 n b (a.fmod b) (by have:=zk (a:=a) hb;omega);refine⟨g,by rw[h1,oq],?_⟩;rw[←h2];rw[e];have st:(aw (qG 0 1 (ah (ae 1) (ah (aa (ae 0) (ae 1) cN) aG))) ao) [.sh (.int a),.sh (.int b)]=.ok (.nx [.sh (.int b),.sh (.int (a.fmod b))]):=by
    refine Bt ?_;unfold qG;have:(ah (ae 1) (ah (aa (ae 0) (ae 1) cN) aG)) [.sh (.int a),.sh (.int b)]=.ok [.int b,.int (a.fmod b)]:=by
     exact lA rfl (lA (xv hb) rfl)
    rw[this];rfl
   show(ai.bind _ _)=_;rw[st];rfl
def HK(a b:Int):ig [.int a,.int b]=.ok (.int (Int.gcd a b)):=by
 obtain⟨g,h1,h2⟩:=k7 (b.natAbs+1) a b (Nat.lt_succ_self _);have w:gq (iR 1) (aa (ae 1) (dC (.int 0)) iW) (aw (qG 0 1 (ah (ae 1) (ah (aa (ae 0) (ae 1) cN) aG))) ao) [.sh (.int a),.sh (.int b)]=.ok (.nx [.sh (.int g),.sh (.int 0)]):=h2;have r:dR [.sh (.int a),.sh (.int b)]=.ok (.rt (.int (if g<0 then -g else g))):=by
  unfold dR;rw[gp w];exact wY (w6 rfl)
 show(dR [.sh (.int a),.sh (.int b)]).bind _=_;rw[r];show ai.ok (D.int (if g<0 then -g else g))=_
 congr 2
 rw[←h1];split<;>omega
theorem mF:∀(n:Nat) (x y:D) (a b:Int) (r:Sl),0<=a->0<=b->b.natAbs<n->∃r',
  b6 (aa (ae 3) (dC (.int 0)) iW) (aw (bE 4 (aa (ae 2) (ae 3) cN)) (aw (bE 2 (ae 3)) (aw (bE 3 (ae 4)) ao))) n [.sh x,.sh y,.sh (.int a),.sh (.int b),r]=.ok (.nx [.sh x,.sh y,.sh (.int (Int.gcd a b)),.sh (.int 0),r'])
 |0,_,_,a,b,_,_,_,h=>absurd h (Nat.not_lt_zero _)
 |n+1,x,y,a,b,r,ha,hb0,h=>by
  unfold b6;have c:∀r,(aa (ae 3) (dC (.int 0)) iW) (gO [.sh x,.sh y,.sh (.int a),.sh (.int b),r])=.ok (.bl (!(b==0))):=λr=>jo;rw[c]
  by_cases hb:b=0
  .subst hb
   refine⟨r,?_⟩;have e:((Int.gcd a 0:Nat):Int)=a:=by simp;omega
   rw[e];rfl
  .have e:(!(b==0))=true:=by simp[hb]
   have hp:0<b:=by omega
   obtain⟨r',h2⟩:=mF n x y b (a.fmod b) (.sh (.int (a.fmod b))) hb0 (Int.fmod_nonneg_of_pos a hp) (by have:=zk (a:=a) hb;omega);refine⟨r',?_⟩;rw[oq]at h2;rw[←h2,e];have st:(aw (bE 4 (aa (ae 2) (ae 3) cN)) (aw (bE 2 (ae 3)) (aw (bE 3 (ae 4)) ao))) [.sh x,.sh y,.sh (.int a),.sh (.int b),r]=.ok (.nx [.sh x,.sh y,.sh (.int b),.sh (.int (a.fmod b)),.sh (.int (a.fmod b))]):=by
    have m:(aa (ae 2) (ae 3) cN) [.sh x,.sh y,.sh (.int a),.sh (.int b),r]=.ok (.int (a.fmod b)):=by
     exact xv hb
    rw[gp (Bs m)];rfl
   show(ai.bind _ _)=_;rw[st];rfl
def iX(a b:Int):m_common_divisor [.int a,.int b]=.ok (.int (Int.gcd a b)):=by
 have e:∀i:Int,(if i<0 then -i else i)=(i.natAbs:Int):=λi=>by split<;>omega
 obtain⟨r',h⟩:=mF ((b.natAbs:Int).natAbs+1) (.int a) (.int b) a.natAbs b.natAbs .no (Int.natCast_nonneg _) (Int.natCast_nonneg _) (Nat.lt_succ_self _);have hg:Int.gcd (a.natAbs:Int) (b.natAbs:Int)=Int.gcd a b:=by simp[Int.gcd]
 rw[hg]at h;have r:c7 [.sh (.int a),.sh (.int b),.no,.no,.no]=.ok (.rt (.int (Int.gcd a b))):=by
  unfold c7;rw[gp (ρ':=[.sh (.int a),.sh (.int b),.sh (.int (a.natAbs:Int)),.no,.no]) (by rw[←e a];rfl)];rw[gp (ρ':=[.sh (.int a),.sh (.int b),.sh (.int (a.natAbs:Int)),.sh (.int (b.natAbs:Int)),.no]) (by rw[←e b];rfl)];have w:gq (iR 3) (aa (ae 3) (dC (.int 0)) iW) (aw (bE 4 (aa (ae 2) (ae 3) cN)) (aw (bE 2 (ae 3)) (aw (bE 3 (ae 4)) ao))) [.sh (.int a),.sh (.int b),.sh (.int (a.natAbs:Int)),.sh (.int (b.natAbs:Int)),.no]=.ok (.nx [.sh (.int a),.sh (.int b),.sh (.int (Int.gcd a b)),.sh (.int 0),r']):=h;rw[gp w];exact wY (w6 rfl)
 show(c7 [.sh (.int a),.sh (.int b),.no,.no,.no]).bind _=_;rw[r];rfl
def xh:(2:Nat) ^ 64<=A6:=by rw[l9];exact Nat.pow_le_pow_right (by decide) (by decide)
def JS{i:Int}(h:i.natAbs<18446744073709551616):i.natAbs<A6:=Nat.lt_of_lt_of_le h xh
def eY(h:i.natAbs<18446744073709551616)(h':j.natAbs<18446744073709551616):dg i j=true:=by
 unfold dg;rw[Bool.and_eq_true];exact⟨decide_eq_true (JS h),decide_eq_true (JS h')⟩
def dM(h:i.natAbs<A6)(h':j.natAbs<A6):dg i j=true:=by
 unfold dg;rw[Bool.and_eq_true];exact⟨decide_eq_true h,decide_eq_true h'⟩
def C7(h0:j≠0)(h:j.natAbs<B9):dZ i j=true:=by
 unfold dZ;rw[Bool.and_eq_true,Bool.or_eq_true];exact⟨decide_eq_true h0,.inl (decide_eq_true h)⟩
def pM(h0:j≠0)(h:i.natAbs<qD):dZ i j=true:=by
 unfold dZ;rw[Bool.and_eq_true,Bool.or_eq_true];exact⟨decide_eq_true h0,.inr (decide_eq_true h)⟩
def oj{k:Nat}(h:ds[k]?=some d):aP (.lst ds) (.int (k:Int))=.ok d:=by
 unfold aP;simp only[dS h]
def dY{a b:Int}(hb:0<b):0<=a.fmod b/\a.fmod b<b:=⟨Int.fmod_nonneg_of_pos a hb,Int.fmod_lt_of_pos a hb⟩
def AG{n k:Nat}(h:k<n):(DL.intsFrom 0 n).drop k=.int (k:Int)::(DL.intsFrom 0 n).drop (k+1):=by
 have hl:(DL.intsFrom 0 n).length=n:=by unfold DL.intsFrom;simp
 rw[List.drop_eq_getElem_cons (by rw[hl];exact h)]
 congr 1
 unfold DL.intsFrom;simp
def CB:(DL.intsFrom 0 n).drop n=[]:=by
 have hl:(DL.intsFrom 0 n).length=n:=by unfold DL.intsFrom;simp
 exact List.drop_eq_nil_of_le (by omega)
def c6(h1:tg ρ d=.ok ρ1)(h2:s ρ1=.ok (.nx ρ2)):bK tg s (d::r) ρ=bK tg s r ρ2:=by
 rw[bK,h1,AX,h2,AX]
def IC:D->Bool
 |.int _=>true
 |_=>false
def eu(d:D):m_is_whole [d]=.ok (.bl (IC d)):=by cases d<;>first|rfl|(rename_i k _;cases k<;>rfl)
def fS{a g:Int}(hg:0<g):a.fdiv g=a / g:=Int.fdiv_eq_ediv_of_nonneg a (by omega)
def jX(h:b≠0):0<(Int.gcd a b:Int):=by
 have:=Int.gcd_pos_of_ne_zero_right a h;omega
def BF(hb:0<b)(h1:a.natAbs<qD)(h2:b.natAbs<qD):m_ratio [.int a,.int b]=.ok (.tup [.int (a / Int.gcd a b),.int (b / Int.gcd a b)]):=by
 have hg:=jX (a:=a) (b:=b) (by omega);have r:ny [.sh (.int a),.sh (.int b),.no]=.ok (.rt (.tup [.int (a / Int.gcd a b),.int (b / Int.gcd a b)])):=by
  unfold ny;rw[gp (ρ':=[.sh (.int a),.sh (.int b),.no]) (Hy (t:=ao) rfl)];rw[gp (ρ':=[.sh (.int a),.sh (.int b),.no]) (Hy (t:=ao) ((qf (x:=.int b) (y:=.int 0) rfl rfl).trans (lX.trans (by rw[beq_eq_false_iff_ne.mpr (by omega)]))))];rw[gp (ρ':=[.sh (.int a),.sh (.int b),.sh (.int (Int.gcd a b))]) (Bs ((wC (xs:=[.int a,.int b]) rfl).trans (iX a b)))];rw[gp (ρ':=[.sh (.int a),.sh (.int b),.sh (.int (Int.gcd a b))]) (Hy (t:=ao) (by
   show ai.ok (D.bl (decide (b<0)))=_;rw[decide_eq_false (by omega)]))]
  refine wY (w6 ?_);refine(wC (xs:=[.int (a / Int.gcd a b),.int (b / Int.gcd a b)]) (lA ?_ (lA ?_ rfl))).trans rfl
  .rw[←fS hg]
   exact(qf (x:=.int a) (y:=.int (Int.gcd a b)) rfl rfl).trans (C5 (pM (by omega) h1))
  .rw[←fS hg]
   exact(qf (x:=.int b) (y:=.int (Int.gcd a b)) rfl rfl).trans (C5 (pM (by omega) h2))
 show(ny [.sh (.int a),.sh (.int b),.no]).bind _=_;rw[r];rfl
def J1(p q:Int):D:=.tup [.int p,.int q]
end Com
open Com
namespace Com
open PySem L2 DL
abbrev gN:=Int×Int
def fr(x:gN):D:=J1 x.1 x.2
def yc:Nat:=1000000000000000000000000000000000000000000000000000000000000
def Iq:yc<=B9:=by rw[zX];exact Nat.le_trans (show yc<=2 ^ 200 by decide) (Nat.pow_le_pow_right (by decide) (by decide))
def Fv:yc<=qD:=by rw[ma];exact Nat.le_trans (show yc<=2 ^ 200 by decide) (Nat.pow_le_pow_right (by decide) (by decide))
def zV:yc<=A6:=by rw[l9];exact Nat.le_trans (show yc<=2 ^ 200 by decide) (Nat.pow_le_pow_right (by decide) (by decide))
def nA:qD<=A6:=by rw[ma,l9];exact Nat.pow_le_pow_right (by decide) (by decide)
structure Low (x:gN):Prop where
 q1:1<=x.2
 g1:Int.gcd x.1 x.2=1
structure gf (x:gN):Prop extends Low x where
 pN:x.1.natAbs<yc
 qN:x.2.natAbs<yc
def bT(a b:Int):gN:=(a / Int.gcd a b,b / Int.gcd a b)
def cQ(hb:0<b):Low (bT a b):=by
 have hg:=jX (a:=a) (b:=b) (by omega);refine⟨?_,Int.gcd_ediv_gcd_ediv_gcd (by omega)⟩;have:=Int.ediv_gcd_ne_zero_if_ne_zero_right a (show b≠0 by omega);have h2:0<=b / (Int.gcd a b:Int):=Int.ediv_nonneg (by omega) (by omega);show 1<=b / (Int.gcd a b:Int);omega
def ET:(bT a b).1*b=a*(bT a b).2:=by
 unfold bT;obtain⟨x,hx⟩:=Int.gcd_dvd_left a b;obtain⟨y,hy⟩:=Int.gcd_dvd_right a b
 by_cases hg:(Int.gcd a b:Int)=0
 .simp only[hg,Int.ediv_zero,Int.zero_mul,Int.mul_zero]
 .generalize hG:(Int.gcd a b:Int)=G at *
  have e1:a / G=x:=by rw[hx];exact Int.mul_ediv_cancel_left x hg
  have e2:b / G=y:=by rw[hy];exact Int.mul_ediv_cancel_left y hg
  show a / G*b=a*(b / G);rw[e1,e2]
  calc x*b=x*(G*y):=by rw[←hy]
   _=G*x*y:=by grind
   _=a*y:=by rw[←hx]
def tL:(bT a b).1.natAbs<=a.natAbs:=Int.natAbs_ediv_le_natAbs _ _
def tK:(bT a b).2.natAbs<=b.natAbs:=Int.natAbs_ediv_le_natAbs _ _
def vn(hx:Low x)(hy:Low y)(h:x.1*y.2=y.1*x.2):x=y:=by
 have d1:x.2∣y.2:=by
  have:x.2∣x.1*y.2:=⟨y.1,by rw[h];exact Int.mul_comm _ _⟩
  rw[←Int.dvd_gcd_mul_iff_dvd_mul,Int.gcd_comm,hx.g1]at this;simpa using this
 have d2:y.2∣x.2:=by
  have:y.2∣y.1*x.2:=⟨x.1,by rw[←h];exact Int.mul_comm _ _⟩
  rw[←Int.dvd_gcd_mul_iff_dvd_mul,Int.gcd_comm,hy.g1]at this;simpa using this
 have e:x.2=y.2:=Int.dvd_antisymm (by have:=hx.q1;omega) (by have:=hy.q1;omega) d1 d2;have e1:x.1=y.1:=by
  rw[e]at h;exact Int.eq_of_mul_eq_mul_right (by have:=hy.q1;omega) h
 exact Prod.ext e1 e
def uO(hb:0<b)(h1:a.natAbs<qD)(h2:b.natAbs<qD):m_ratio [.int a,.int b]=.ok (fr (bT a b)):=BF hb h1 h2
def JU(hb:0<b)(h1:a.natAbs<yc)(h2:b.natAbs<yc):gf (bT a b):=⟨cQ hb,Nat.lt_of_le_of_lt tL h1,Nat.lt_of_le_of_lt tK h2⟩
def yo(x:gN):aY (n+1) (fr x)=true:=by
 cases n<;>rfl
def J4:cn (fr x) (fr y)=(x.1==y.1&&x.2==y.2):=by
 unfold fr J1;simp[cn,eqDs]
def xJ:cn (fr x) (fr x)=true:=by rw[J4];simp
def flt(x y:gN):Bool:=decide (x.1*y.2<y.1*x.2)
theorem zj{tg:Ev->D->ai Ev}{body:am}(P:Ev->Prop):∀{ds:ac},(∀d∈ds,∀ρ,P ρ->∃ρ1 ρ2,tg ρ d=.ok ρ1/\body ρ1=.ok (.nx ρ2)/\P ρ2)->∀ρ,P ρ->∃ρ',bK tg body ds ρ=.ok (.nx ρ')/\P ρ'
 |[],_,ρ,h=>⟨ρ,rfl,h⟩
 |d::r,hs,ρ,h=>by
  obtain⟨ρ1,ρ2,h1,h2,h3⟩:=hs d List.mem_cons_self ρ h;obtain⟨ρ',h4,h5⟩:=zj P (λe he=>hs e (List.mem_cons_of_mem _ he)) ρ2 h3;exact⟨ρ',by rw[c6 h1 h2];exact h4,h5⟩
def aF{α:Type}{a b:α}(h:a=b):a=b:=h
def GC(t:am)(r:Fl):ai Fl:=match r with
 |.nx ρ'=>t ρ'
 |r=>.ok r
def Jb(i:Nat)(ρ:Ev)(d:D):ai Fl:=.ok (.nx (ρ.set i (.sh d)))
def Jg(d:D):ai Fl:=.ok (.rt d)
def F3(ρ:Ev)(_:D):ai Fl:=.ok (.nx ρ)
def Lq(s t:am)(ρ:Ev)(x:D):ai Fl:=match x with
 |.bl b=>if b=true then s ρ else t ρ
 |_=>.stuck
def JC(i:Nat)(ρ:Ev)(d:D):ai Fl:=match d with
 |.lst ds=>.ok (.nx (ρ.set i (.ow (.lst ds))))
 |_=>.stuck
def G8(s:Option Sl)(k:ac->ai Fl):ai Fl:=match s with
 |some (.ow (.lst ds))=>k ds
 |_=>.stuck
def Kh(i:Nat)(ρ:Ev)(ds:ac)(d:D):ai Fl:=if ds.length<line then .ok (.nx (ρ.set i (.ow (.lst (ds++[d]))))) else .stuck
def fQ(i:Nat)(ρ:Ev)(k:al)(ds:ac)(d:D):ai Fl:=(k ρ).bind (DL.putAt ρ i ds d)
def JA(i j:Nat)(ρ:Ev)(ds:ac):ai Fl:=match ds with
 |[x,y]=>.ok (.nx ((ρ.set i (.sh x)).set j (.sh y)))
 |_=>.stuck
def k2(g:al)(op:D->D->ai D)(ρ:Ev)(x:D):ai D:=(g ρ).bind (op x)
def xP(x:D)(xs:ac):ai (ac):=.ok (x::xs)
def F6(fa:Ev->ai (ac))(ρ:Ev)(x:D):ai (ac):=(fa ρ).bind (xP x)
def Ic(g:al)(ρ:Ev)(x:D):ai D:=match x with
 |.bl true=>g ρ
 |.bl false=>.ok (.bl false)
 |_=>.stuck
def Ll(g:al)(ρ:Ev)(x:D):ai D:=match x with
 |.bl true=>.ok (.bl true)
 |.bl false=>g ρ
 |_=>.stuck
def JH(x:D):ai D:=match x with
 |.bl b=>.ok (.bl (!b))
 |_=>.stuck
def Hw(f g:al)(ρ:Ev)(x:D):ai D:=match x with
 |.bl true=>f ρ
 |.bl false=>g ρ
 |_=>.stuck
def IJ(s:Option Sl):ai D:=match s with
 |some (.sh d)=>.ok d
 |_=>.stuck
def Ah(s:Sl):Sl:=match s with
 |.ow d=>.sh d
 |.ox _ ds=>.sh (.tup ds)
 |x=>x
def GH(r:Fl):ai D:=match r with
 |.nx _=>.ok .non
 |.rt d=>.ok d
 |_=>.stuck
def LX(x:D):ai (Option Int):=match x with
 |.int i=>.ok (some i)
 |_=>.stuck
def Br(x:D)(l:Option Int)(h:Option Int):ai D:=nI x l h
def Lg(hi:Ev->ai (Option Int))(ρ:Ev)(x:D)(l:Option Int):ai D:=(hi ρ).bind (Br x l)
def Ja(lo hi:Ev->ai (Option Int))(ρ:Ev)(x:D):ai D:=(lo ρ).bind (Lg hi ρ x)
def J2(tg:Ev->D->ai Ev)(s:am)(ρ:Ev)(d:D):ai Fl:=match d with
 |.lst ds=>bK tg s ds ρ
 |_=>.stuck
def Fi(op':D->D->ai D)(h:al)(ρ:Ev)(y z:D):ai D:=match z with
 |.bl true=>(h ρ).bind (op' y)
 |.bl false=>.ok (.bl false)
 |_=>.stuck
def HX(op op':D->D->ai D)(h:al)(ρ:Ev)(x y:D):ai D:=(op x y).bind (Fi op' h ρ y)
def Mb(op op':D->D->ai D)(g h:al)(ρ:Ev)(x:D):ai D:=(g ρ).bind (HX op op' h ρ x)
section
variable {s t:am}{f g h:al}{fa:Ev->ai (ac)}{ρ r:Ev}{i j:Nat}{d x y:D}{ds xs:ac}{op op':D->D->ai D}{a b:Int}
def fz{a:α}{k:α->ai β}:(ai.ok a).bind k=k a:=aF rfl
def oJ:aw s t ρ=(s ρ).bind (GC t):=aF rfl
def kj:GC t (.nx ρ)=t ρ:=aF rfl
def ki:GC t (.rt d)=.ok (.rt d):=aF rfl
def kC:ao ρ=.ok (.nx ρ):=aF rfl
def oI:bE i f ρ=(f ρ).bind (Jb i ρ):=aF rfl
def kh:Jb i ρ d=.ok (.nx (ρ.set i (.sh d))):=aF rfl
def oO:bB f ρ=(f (gO ρ)).bind Jg:=aF rfl
def ko:Jg d=.ok (.rt d):=aF rfl
def kQ:nL f ρ=(f (gO ρ)).bind (F3 ρ):=aF rfl
def iq:F3 ρ d=.ok (.nx ρ):=aF rfl
def vM:dH f s t ρ=(f (gO ρ)).bind (Lq s t ρ):=aF rfl
def o8:Lq s t ρ (.bl true)=s ρ:=aF rfl
def o7:Lq s t ρ (.bl false)=t ρ:=aF rfl
def oT:mQ i f ρ=(f ρ).bind (JC i ρ):=aF rfl
def kA:JC i ρ (.lst ds)=.ok (.nx (ρ.set i (.ow (.lst ds)))):=aF rfl
def pq:gr i f ρ=G8 ρ[i]? λds=>(f ρ).bind (Kh i ρ ds):=aF rfl
def kz{k:ac->ai Fl}:G8 (some (.ow (.lst ds))) k=k ds:=aF rfl
def fA(h:decide (ds.length<=999)=true):Kh i ρ ds d=.ok (.nx (ρ.set i (.ow (.lst (ds++[d]))))):=if_pos (Nat.lt_of_le_of_lt (of_decide_eq_true h) (by decide))
def oQ:By i f g ρ=G8 ρ[i]? λds=>(f ρ).bind (fQ i ρ g ds):=aF rfl
def kr:fQ i ρ g ds d=(g ρ).bind (DL.putAt ρ i ds d):=aF rfl
def o9:Bz i s ρ=s (unown i ρ):=aF rfl
def oR:qG i j fa ρ=(fa ρ).bind (JA i j ρ):=aF rfl
def ku:JA i j ρ [x,y]=.ok (.nx ((ρ.set i (.sh x)).set j (.sh y))):=aF rfl
def vT:cm f o ρ=(f ρ).bind o:=aF rfl
def vS:aa f g op ρ=(f ρ).bind (k2 g op ρ):=aF rfl
def pj:k2 g op ρ x=(g ρ).bind (op x):=aF rfl
def vR:au fa m ρ=(fa ρ).bind m:=aF rfl
def oY:aG ρ=.ok []:=aF rfl
def kR:ah f fa ρ=(f ρ).bind (F6 fa ρ):=aF rfl
def iu:F6 fa ρ x=(fa ρ).bind (xP x):=aF rfl
def ir:xP x xs=.ok (x::xs):=aF rfl
def pv:gE f g ρ=(f ρ).bind (Ic g ρ):=aF rfl
def kT:Ic g ρ (.bl true)=g ρ:=aF rfl
def kS:Ic g ρ (.bl false)=.ok (.bl false):=aF rfl
def vI:jf f g ρ=(f ρ).bind (Ll g ρ):=aF rfl
def oW:Ll g ρ (.bl true)=.ok (.bl true):=aF rfl
def oV:Ll g ρ (.bl false)=g ρ:=aF rfl
def oX:cF f ρ=(f ρ).bind JH:=aF rfl
def kB:JH (.bl c)=.ok (.bl (!c)):=aF rfl
def o6:HU h f g ρ=(h ρ).bind (Hw f g ρ):=aF rfl
def kM:Hw f g ρ (.bl true)=f ρ:=aF rfl
def kL:Hw f g ρ (.bl false)=g ρ:=aF rfl
def ou:ae i ρ=IJ ρ[i]?:=aF rfl
def jZ:IJ (some (.sh d))=.ok d:=aF rfl
def CJ:dC d ρ=.ok d:=aF rfl
def kg:gO []=[]:=aF rfl
def oH:gO (c::r)=Ah c::gO r:=aF rfl
def ke:Ah (.ow d)=.sh d:=aF rfl
def nc:Ah (.ox j ds)=.sh (.tup ds):=aF rfl
def kc:Ah (.sh d)=.sh d:=aF rfl
def ka:Ah .no=.no:=aF rfl
def oN:ck n s ds=(s (ds.map Sl.sh++List.replicate (n-ds.length) .no)).bind GH:=aF rfl
def kn:GH (.rt d)=.ok d:=aF rfl
def km:GH (.nx ρ)=.ok .non:=aF rfl
def vH:er f ρ=(f ρ).bind LX:=aF rfl
def oU:LX (.int a)=.ok (some a):=aF rfl
def vJ:eG ρ=.ok none:=aF rfl
def vE:AQ f lo hi ρ=(f ρ).bind (Ja lo hi ρ):=aF rfl
def oG:Ja lo hi ρ x=(lo ρ).bind (Lg hi ρ x):=aF rfl
def oE:Lg hi ρ x l=(hi ρ).bind (Br x l):=aF rfl
def oC:Br (.lst ds) l l'=.ok (.lst (qP ds l l')):=aF rfl
def pb:qH f tg s ρ=(f ρ).bind (J2 tg s ρ):=aF rfl
def kP:J2 tg s ρ (.lst ds)=bK tg s ds ρ:=aF rfl
def iw:fJ op op' f g h ρ=(f ρ).bind (Mb op op' g h ρ):=aF rfl
def vN:Mb op op' g h ρ x=(g ρ).bind (HX op op' h ρ x):=aF rfl
def ph:HX op op' h ρ x y=(op x y).bind (Fi op' h ρ y):=aF rfl
def pe:Fi op' h ρ y (.bl true)=(h ρ).bind (op' y):=aF rfl
def pd:Fi op' h ρ y (.bl false)=.ok (.bl false):=aF rfl
def o5:vx (λ_ _=>true) o (.int a) (.int b)=.ok (o a b):=aF rfl
def pw:cb (.int a) (.int b)=.ok (.int (a+b)):=aF rfl
def iV(h:decide (ds.length+es.length<=1000)=true):cb (.lst ds) (.lst es)=.ok (.lst (ds++es)):=if_pos (Nat.le_trans (of_decide_eq_true h) (by decide))
def vL:m1 m [x]=m x:=aF rfl
def vK:m2 m [x,y]=m x y:=aF rfl
def dq:dE (.lst ds)=.ok (.int ds.length):=aF rfl
def kD:dE (.tup ds)=.ok (.int ds.length):=aF rfl
def oz(h:decide (ds.length<=1000)=true):fR ds=.ok (.tup ds):=if_pos (Nat.le_trans (of_decide_eq_true h) (by decide))
def o4(h:decide (ds.length<=1000)=true):du ds=.ok (.lst ds):=if_pos (Nat.le_trans (of_decide_eq_true h) (by decide))
def dj:fq "str" (.str z)=.ok (.bl true):=aF rfl
def cI:fq "tuple" (.tup ds)=.ok (.bl true):=aF rfl
def cT:fq "list" (.lst ds)=.ok (.bl true):=aF rfl
def e9:lh (.non) .non=.ok (.bl true):=aF rfl
def eA:iA (.non) .non=.ok (.bl false):=aF rfl
def e8:lh (.tup ds) .non=.ok (.bl false):=aF rfl
def ez:iA (.tup ds) .non=.ok (.bl true):=aF rfl
def bW(h:dg a b=true):bQ (.int a) (.int b)=.ok (.int (a*b)):=if_pos h
def oZ(h:(b==0)=false):cN (.int a) (.int b)=.ok (.int (a.fmod b)):=xv (λz=>by rw[z]at h;cases h)
def lW(h:dZ a b=true):lj (.int a) (.int b)=.ok (.int (a.fdiv b)):=if_pos h
def vF:eT ρ (i::is) (d::ds)=eT (ρ.set i (.sh d)) is ds:=aF rfl
def oK:eT ρ [] ds=ρ:=aF rfl
def LO(i:Nat)(ρ:Ev)(s:Option Sl):Ev:=match s with
 |some (.ow d)=>ρ.set i (.sh d)
 |_=>ρ
def vC:unown i ρ=LO i ρ ρ[i]?:=aF rfl
def oy:LO i ρ (some (.ow d))=ρ.set i (.sh d):=aF rfl
def vG{j:Int}(h:vt ds.length j=some n):DL.putAt ρ i ds d (.int j)=.ok (.nx (ρ.set i (.ow (.lst (ds.set n d))))):=by
 unfold DL.putAt;simp only[h]
def iT:aP (.lst (x0::xs)) (.int 0)=.ok x0:=by
 unfold aP;simp only[show atI (x0::xs) 0=some x0 from dS (j:=0) rfl]
def kJ:aP (.tup (x0::xs)) (.int 0)=.ok x0:=by
 unfold aP;simp only[show atI (x0::xs) 0=some x0 from dS (j:=0) rfl]
def iS:aP (.lst (x0::x1::xs)) (.int 1)=.ok x1:=by
 unfold aP;simp only[show atI (x0::x1::xs) 1=some x1 from dS (j:=1) rfl]
def kI:aP (.tup (x0::x1::xs)) (.int 1)=.ok x1:=by
 unfold aP;simp only[show atI (x0::x1::xs) 1=some x1 from dS (j:=1) rfl]
def kK:aP (.lst (x0::x1::x2::xs)) (.int 2)=.ok x2:=by
 unfold aP;simp only[show atI (x0::x1::x2::xs) 2=some x2 from dS (j:=2) rfl]
def kH:aP (.tup (x0::x1::x2::xs)) (.int 2)=.ok x2:=by
 unfold aP;simp only[show atI (x0::x1::x2::xs) 2=some x2 from dS (j:=2) rfl]
def kG:aP (.tup (x0::x1::x2::x3::xs)) (.int 3)=.ok x3:=by
 unfold aP;simp only[show atI (x0::x1::x2::x3::xs) 3=some x3 from dS (j:=3) rfl]
def kF:aP (.tup (x0::x1::x2::x3::x4::xs)) (.int 4)=.ok x4:=by
 unfold aP;simp only[show atI (x0::x1::x2::x3::x4::xs) 4=some x4 from dS (j:=4) rfl]
def vQ:((2:Nat):Int)=2:=aF rfl
def vP:((4:Nat):Int)=4:=aF rfl
def vO:((5:Nat):Int)=5:=aF rfl
end
def FN(fa:Ev->ai (ac))(ρ:Ev)(x:D):ai D:=match x with
 |.str z=>(fa ρ).bind (jW z)
 |_=>.stuck
def kE:sq f fa ρ=(f ρ).bind (FN fa ρ):=aF rfl
def ip:FN fa ρ (.str z)=(fa ρ).bind (jW z):=aF rfl
def Jh(g:al)(ρ:Ev)(x:D):ai D:=match x with
 |.lst ds=>(g ρ).bind (wo (.lst ds))
 |_=>.stuck
def oP:Eg f g ρ=(f ρ).bind (Jh g ρ):=aF rfl
def kq:Jh g ρ (.lst ds)=(g ρ).bind (wo (.lst ds)):=aF rfl
end Com
local macro_rules|`(tactic|open_line with[$xs,*])=>`(tactic|simp only[fz,oJ,kj,ki,kC,oI,kh,oO,ko,kQ,iq,vM,o8,o7,oT,kA,pq,kz,oQ,kr,o9,oR,ku,vT,vS,pj,vR,oY,kR,iu,ir,pv,kT,kS,vI,oW,oV,oX,kB,o6,kM,kL,ou,jZ,CJ,kg,oH,ke,kc,ka,oN,kn,km,vH,oU,vJ,vE,oG,oE,oC,pb,kP,iw,vN,ph,pe,pd,o5,pw,vL,vK,dq,kD,lX,jo,List.map_cons,List.map_nil,List.length_cons,List.length_nil,List.replicate_succ,List.replicate_zero,List.nil_append,List.cons_append,List.getElem?_cons_zero,List.getElem?_cons_succ,List.set_cons_zero,List.set_cons_succ,Nat.sub_zero,Nat.reduceSub,Nat.reduceAdd,Nat.add_zero,Nat.zero_add,Bool.not_true,Bool.not_false,oz,o4,iV,fA,oZ,vF,oK,vC,oy,iT,iS,kK,kJ,kI,kH,kG,kF,decide_true,decide_false,Nat.reduceLeDiff,Nat.reduceBEq,Int.reduceBEq,beq_self_eq_true,DL.dOne,DL.mYes,dj,cI,cT,e9,eA,e8,ez,vQ,vP,vO,Int.reduceLT,Int.reduceLE,Int.reduceSub,Int.reduceAdd,Int.reduceMul,Int.reduceNeg,kE,ip,oP,kq,Int.reduceToNat,Bool.and_self,$[$xs:term],*])
namespace Com
open PySem L2 DL
noncomputable def f9:am :=
 (aw (dH (jf (cF (cm (ae 0) (fq "str"))) (cF (fJ Kg Kg (dC (.int 1)) (au (ah (ae 0) aG) (m1 dE)) (dC (.int 8)))))
 (aw (bB (dC (.bl false)))
 ao)
 ao)
 (aw (bB (au (ah (dA 1 [] (Ec (ae 0)) (bF 0) mYes (aa (ae 0) (dC (.str "abcdefghijklmnopqrstuvwxyz")) DD)) aG) (m1 Ff)))
 ao))
def m_is_name:ac->ai D:=ck 1 f9
noncomputable def cY:am :=
 (aw (dH (jf (cF (cm (ae 0) (fq "tuple"))) (aa (au (ah (ae 0) aG) (m1 dE)) (dC (.int 2)) iW))
 (aw (bB (dC (.bl false)))
 ao)
 ao)
 (aw (dH (jf (cF (au (ah (aa (ae 0) (dC (.int 0)) aP) aG) m_is_whole)) (cF (au (ah (aa (ae 0) (dC (.int 1)) aP) aG) m_is_whole)))
 (aw (bB (dC (.bl false)))
 ao)
 ao)
 (aw (bB (gE (aa (aa (ae 0) (dC (.int 1)) aP) (dC (.int 1)) Lz) (aa (au (ah (aa (ae 0) (dC (.int 0)) aP) (ah (aa (ae 0) (dC (.int 1)) aP) aG)) m_common_divisor) (dC (.int 1)) lG)))
 ao)))
def m_is_ratio:ac->ai D:=ck 1 cY
def Ik:Str:="abcdefghijklmnopqrstuvwxyz"
def mx(c:Nat):Bool:=JG ⟨#[c]⟩ Ik
def nameB(z:Str):Bool:=decide (1<=z.length)&&(decide (z.length<=8)&&z.cps.toList.all mx)
def JN:D->Bool
 |.str z=>nameB z
 |_=>false
def Kz:D->Bool
 |.str z=>decide (z.length<=line)
 |_=>true
theorem sA:∀{ds:ac},(∀d∈ds,∃ρ1,tg b d=.ok ρ1/\tt ρ1=.ok (.bl true)/\fe ρ1=.ok (F d))->bG b tg tt fe ds=.ok (ds.map F)
 |[],_=>rfl
 |d::r,h=>by
  obtain⟨ρ1,h1,h2,h3⟩:=h d List.mem_cons_self;rw[fX h1 h2 h3,sA (λe he=>h e (List.mem_cons_of_mem _ he))];rfl
theorem mI{α:Type}(F:α->Bool):∀(cs:List α),fE (cs.map λc=>D.bl (F c))=some (cs.map F)
 |[]=>rfl
 |c::r=>by
  show(fE (r.map λc=>D.bl (F c))).map (F c::·)=_;rw[mI F r];rfl
def xt(hz:z.length<=line):dA 1 [] (Ec (ae 0)) (bF 0) mYes (aa (ae 0) (dC (.str "abcdefghijklmnopqrstuvwxyz")) DD) [.sh (.str z)]=.ok (.lst (z.cps.toList.map λc=>.bl (mx c))):=by
 have hl:(g6 z).length<=line:=by rw[jk];exact hz
 unfold dA;show(if(g6 z).length<=line then _ else _)=_;rw[if_pos hl];have:bG (cA 1 [] [.sh (.str z)]) (bF 0) mYes (aa (ae 0) (dC (.str "abcdefghijklmnopqrstuvwxyz")) DD) (g6 z)=.ok (z.cps.toList.map λc=>D.bl (mx c)):=by
  unfold g6
  induction z.cps.toList with
  |nil=>rfl
  |cons c r ih=>
   rw[List.map_cons,fX (x:=.bl (mx c)) rfl rfl rfl,ih];rfl
 rw[this]
def xE(h:Kz d=true):m_is_name [d]=.ok (.bl (JN d)):=by
 cases d with
 |str z=>
  have hz:z.length<=line:=of_decide_eq_true h;have hlen:dE (.str z)=.ok (.int z.length):=if_pos hz;show ck 1 f9 _=.ok (.bl (nameB z));unfold nameB
  by_cases h1:1<=z.length
  .by_cases h8:z.length<=8
   .have e1:decide ((1:Int)<=(z.length:Int))=true:=decide_eq_true (by omega)
    have e2:decide ((z.length:Int)<=8)=true:=decide_eq_true (by omega);open_line with[f9,hlen,e1,e2,xt hz,Ff,mI,decide_eq_true h1,decide_eq_true h8,Bool.true_and]
    simp[List.all_map,Function.comp_def]
   .have e1:decide ((1:Int)<=(z.length:Int))=true:=decide_eq_true (by omega)
    have e2:decide ((z.length:Int)<=8)=false:=decide_eq_false (by omega);open_line with[f9,hlen,e1,e2,decide_eq_true h1,decide_eq_false h8,Bool.false_and,Bool.and_false]
  .have e1:decide ((1:Int)<=(z.length:Int))=false:=decide_eq_false (by omega)
   open_line with[f9,hlen,e1,decide_eq_false h1,Bool.false_and]
 |ob k _=>cases k<;>rfl
 |_=>rfl
def nP:D->Bool
 |.tup [.int p,.int q]=>decide (1<=q)&&(Int.gcd p q==1)
 |_=>false
def HD{g:Nat}:((g:Int)==1)=(g==1):=by
 cases h:(g==1) with
 |true=>rw[eq_of_beq h];rfl
 |false=>
  have:g≠1:=λz=>by rw[z]at h;cases h
  exact beq_eq_false_iff_ne.mpr (by omega)
def Gn{xs:ac}:(∃x y,xs=[x,y])∨xs.length≠2:=by
 match xs with
 |[]=>exact .inr (by decide)
 |[x]=>exact .inr (by simp)
 |[x,y]=>exact .inl ⟨x,y,rfl⟩
 |x::y::z::r=>exact .inr (by simp)
theorem BE:∀{xs:ac},xs.length≠2->nP (.tup xs)=false
 |[],_=>rfl
 |[x],_=>by cases x<;>rfl
 |[x,y],h=>absurd rfl h
 |x::y::z::r,_=>by cases x<;>cases y<;>rfl
def xf:nP (.tup [x,y])=(IC x&&(IC y&&nP (.tup [x,y]))):=by
 cases x<;>cases y<;>rfl
def tO(d:D):m_is_ratio [d]=.ok (.bl (nP d)):=by
 cases d with
 |tup xs=>
  rcases Gn (xs:=xs) with⟨x,y,rfl⟩|h
  .rw[xf]
   show ck 1 cY _=_;cases hx:IC x with
   |false=>open_line with[cY,eu,hx,Bool.false_and]
   |true=>
    cases hy:IC y with
    |false=>open_line with[cY,eu,hx,hy,Bool.false_and,Bool.true_and]
    |true=>
     cases x<;>first|(cases hx;done)|skip
     cases y<;>first|(cases hy;done)|skip
     rename_i p q;show _=ai.ok (D.bl (decide (1<=q)&&(Int.gcd p q==1)))
     by_cases hq:1<=q
     .open_line with[cY,eu,hx,hy,iX,Bool.true_and,decide_eq_true hq,HD]
     .open_line with[cY,eu,hx,hy,iX,Bool.true_and,decide_eq_false hq,Bool.false_and]
  .have e2:((xs.length:Int)==2)=false:=beq_eq_false_iff_ne.mpr (by omega)
   rw[BE h];show ck 1 cY _=_;open_line with[cY,e2]
 |ob k _=>cases k<;>rfl
 |_=>rfl
def Fg{α:Type}{F:α->D}{xs:List α}:qP (xs.map F) lo hi=((xs.drop (HT.sIx xs.length 0 lo)).take (HT.sIx xs.length xs.length hi-HT.sIx xs.length 0 lo)).map F:=by
 unfold qP;rw[List.length_map,←List.map_drop,←List.map_take]
end Com
namespace DL
open PySem PySem.Spec PyProof.Rows L2
structure Gb (k:Nat) (A:Around):Prop where
 dp:A.depth+3*k+5<recursionLimit
 un:A.units+16*k+200<cLine
def cB.h{k:Nat}(r:cB k A):Gb k A:=⟨r.dp,r.un⟩
structure Mj (P:Program) (w:World) (K:W.Frag) (mg:Str->Option Value) (base:Heap) (k:Nat) (f:Addr) (fd:FuncData) (ps:List Str) (sp:Sp):Prop where
 len:∀vs H Q E,sp vs H Q E->vs.length=ps.length
 run:∀(A:Around) (outer:List PySem.Env) (s:Shared) (H:Hp) (args:Args) (us:List Value) (vs:ad) (Q:VK) (E:XK),Gb k A->Dw P w K mg base A outer s H->BindsTo s fd args (ps.zip us)->ba vs us->sp vs H Q E ->
  codeAny (model P w) A (.call (.ref f) args) (CR CX0 outer P w H s Q E) s
def Mj.ok{K:W.Frag}{k:Nat}{ps:List Str}(F:Mj P w K mg base k f fd ps sp):fM P w K mg base CX0 k f fd ps sp :=
 ⟨F.len,λA outer s H args us vs Q E hr=>F.run A outer s H args us vs Q E (cB.h hr)⟩
section
variable {X:Cx}{pins:List (Addr×Obj)}{σ:L2.St}{H:Hp}{s:Shared}{h':Heap}
def Aa{fp:List Addr}(I:Inv X pins σ H s)(k:∀b o,b∉fp->s.heap.get? b=some o->h'.get? b=some o)(hf:∀b∈fp,lF X pins H b)(hT:s.heap.objs.size<=T)
  (new:cw X.prog X.w (upd H T (.tup xs)) h' T (.tup xs)):Inv X pins σ (upd H T (.tup xs)) { s with heap:=h',toks:=t' }:=by
 have hn:H T=none:=I.hok.fresh hT;have nit:∀b u,H b=some u->b∉fp:=λb u e z=>by rw[(hf b z).1]at e;cases e
 refine I.step (g':=s.gens) (d':=s.drawn) (ch:=fp) (λb hb=>?_) (λb o _ _ hc e _=>k b o hc e) (λb o _ _ hc e _=>⟨o.slots,k b o hc e⟩) (λb o _ e n=>?_)
  (λb o hc e=>⟨o,k b o hc e⟩) (λb xs e=>by rw[av (bj e hn)];exact e) (λb o u e=>by rw[av (bj e hn)];exact e) (λb ps e=>⟨#[],by rw[av (bj e hn),e];simp⟩) (λm hm=>?_) (λb u e=>?_) I.bare
 .obtain⟨_,f1,_,f3,f4,f5⟩:=hf b hb
  exact⟨f3,f1,f4,f5⟩
 .rw[av (Nat.ne_of_lt (Nat.lt_of_lt_of_le (Heap.lt_size e) hT))];exact n
 .obtain⟨o,es,ep,ho,r⟩:=hm
  exact⟨o,es,ep,k _ o (λz=>(hf _ z).2.1 rfl) ho,r⟩
 .by_cases hb:b=T
  .subst hb;rw[aC]at e;cases e;exact new
  .rw[av hb]at e
   refine(I.hok b u e).stay (λc v hc q=>k c v ?_ q) (λc q=>by rw[av (bj q hn)];exact q) λc xs q=>by rw[av (bj q hn)];exact q
   rcases hc with z|z
   .rw[z];exact nit b u e
   .exact nit c _ z
def D5{fp:List Addr}(I:Inv X pins σ H s)(k:∀b o,b∉fp->s.heap.get? b=some o->h'.get? b=some o)(hf:∀b∈fp,lF X pins H b):Inv X pins σ H { s with heap:=h',toks:=t' }:=by
 have nit:∀b u,H b=some u->b∉fp:=λb u e z=>by rw[(hf b z).1]at e;cases e
 refine I.step (g':=s.gens) (d':=s.drawn) (ch:=fp) (λb hb=>?_) (λb o _ _ hc e _=>k b o hc e) (λb o _ _ hc e _=>⟨o.slots,k b o hc e⟩) (λb o _ e n=>n)
  (λb o hc e=>⟨o,k b o hc e⟩) (λb xs e=>e) (λb o u e=>e) (λb ps e=>⟨#[],by rw[e];simp⟩) (λm hm=>?_) (λb u e=>?_) I.bare
 .obtain⟨_,f1,_,f3,f4,f5⟩:=hf b hb
  exact⟨f3,f1,f4,f5⟩
 .obtain⟨o,es,ep,ho,r⟩:=hm
  exact⟨o,es,ep,k _ o (λz=>(hf _ z).2.1 rfl) ho,r⟩
 .refine(I.hok b u e).stay (λc v hc q=>k c v ?_ q) (λ_ q=>q) λ_ _ q=>q
  rcases hc with z|z
  .rw[z];exact nit b u e
  .exact nit c _ z
end
def Mh(K:W.Frag)(a:Addr):It :=
 ⟨λi H=>∃xs x,d9 K H a xs/\xs[i]?=some x,λi H x H'=>∃p y,H p=none/\x=.ref p/\(∀xs,d9 K H a xs->xs[i]?=some y)/\H'=upd H p (.tup [.int i,y]),λi H=>∃xs,d9 K H a xs/\xs.length<=i⟩
def Ad{P:Program}{w:World}{K:W.Frag}{elts:List Expr}{k:Nat}{pos:Pos}(a it e:Addr)(hne:e≠it)(hae:a≠e)(hai:a≠it) :
  xZ P w K (.Tuple elts k pos) (Mh K a) [e,it] e (λi h=>(∃old,IsEnum h e it i old)/\h.IsListIter it a i) where
 mem:=by simp
 obj:=λi h st b hb=>by
  obtain⟨⟨old,he⟩,o,h1,h2,h3⟩:=st;rcases List.mem_cons.mp hb with rfl|hb
  .exact⟨_,he,λv z=>by cases z⟩
  .rcases List.mem_cons.mp hb with rfl|hb
   .exact⟨o,h1,λv z=>by rw[h3]at z;cases z⟩
   .cases hb
 keep:=λi h h' st k=>by
  obtain⟨⟨old,he⟩,hi⟩:=st;exact⟨⟨old,k e (by simp) _ he⟩,hi.at λo y=>k it (by simp) o y⟩
 item:=by
  intro X hP hw hK hc i pins s σ H E I hf st hg;subst hP hw hK;obtain⟨xs,x,hq,hx⟩:=hg;obtain⟨its,rv,p,hz⟩:=I.list hq;obtain⟨u,hu,ru⟩:=rv.get hx;have W:=WalksT.enumerate (prog:=X.prog) (w:=X.w) (I.ok.hd hc) e it a hne hae hai its.toArray;have hil:i<its.toArray.size:=by simpa using (List.getElem?_eq_some_iff.mp hu).1
  refine W.item i s _ _ hil ⟨st.1,st.2,p.isList⟩ λT vals h' tk hPt hT hTup hMid hk=>?_;refine⟨_,rfl,W.go elts k pos i T _ _ _ hMid λh'' st'' hk''=>?_⟩;obtain⟨t,y,hy,rfl⟩:=hPt;have hyu:y=u:=by
   have:its[i]?=some y:=by simpa using hy
   rw[hu]at this;cases this;rfl
  subst hyu;obtain⟨o,ho,hr⟩:=hTup;have ho':=hk'' T o (W.apart i T _ hMid) ho;refine⟨.ref T,upd H T (.tup [.int i,x]),Aa (s:=s) (h':=h'') (t':=tk) I (λb o hb e=>hk'' b o hb (hk b o hb e)) hf hT ⟨by show 2<=sizeLine;decide,[.int i t,y],.cons ⟨t,rfl⟩ (.cons ru .nil),o,ho',hr⟩,rfl,⟨T,x,I.hok.fresh hT,rfl,λys hy=>by rw[I.list_inj hy hq];exact hx,rfl⟩,⟨st''.1,st''.2.1⟩,λb hb=>?_⟩;have hb0:=(hf b hb).1;obtain⟨ob,hob,_⟩:∃o,s.heap.get? b=some o/\∀v,o.data≠.cell v:=by
   obtain⟨⟨old,he⟩,o,h1,h2,h3⟩:=st;rcases List.mem_cons.mp hb with rfl|hb
   .exact⟨_,he,λv z=>by cases z⟩
   .rcases List.mem_cons.mp hb with rfl|hb
    .exact⟨o,h1,λv z=>by rw[h3]at z;cases z⟩
    .cases hb
  rw[av (Nat.ne_of_lt (Nat.lt_of_lt_of_le (Heap.lt_size hob) hT))];exact hb0
 done:=by
  intro X hP hw hK hc i pins s σ H E I hf st hg;subst hP hw hK;obtain⟨xs,hq,hx⟩:=hg;obtain⟨its,rv,p,hz⟩:=I.list hq;have hl:=rv.length;obtain⟨⟨old,he⟩,hi⟩:=st;exact wpAny_pyNext_enum_end (I.ok.hd hc) he hi p.isList (by simp;omega) λh' hx=>⟨rfl,D5 (t':=s.toks) I (λb o hb e=>hx b o (λz=>hb (by simp[z])) e) hf⟩
 self:=λ_ _ _ _ _ st h=>by
  obtain⟨⟨old,he⟩,_⟩:=st;exact wpAny_pyIter_enum he h
section
variable {X:Cx}{E:XK}{elts:List Expr}{k:Nat}{tp:Pos}{e a b:Expr}{f g:al}
def JY(K:W.Frag)(ta:TA):TI:=λσ H R=>ta σ H λvs H1=>∃a,vs=[.ref a]/\(∃xs,d9 K H1 a xs)/\R (Mh K a) H1
def Ew(hg:Gl X "enumerate")(hm:X.mg "enumerate"=none)(ha:PA X [a] ta)(hs:starEach [a] X.env=[(false,eval a X.env)]:=by rfl):PI X (.Tuple elts k tp) (.Call (.Name "enumerate" p) [a] [] pos) (JY X.K ta):=by
 intro pins s σ H R I h;refine Call_ (jq I hg hm PyProof.Rows.Boot.«enumerate» (PyProof.Rows.callWith_type1 (cu (ha pos pins s σ H _ I h) λus s1 z9=>?_) hs rfl));obtain⟨vs,H1,I1,r1,q1⟩:=z9;obtain⟨l,e,⟨xs,hq⟩,q⟩:=q1;subst e;cases r1 with
 |cons r rr=>
  cases rr;cases r;obtain⟨its,rv,p,hz⟩:=I1.list hq;have hlt:l<s1.heap.objs.size:=by obtain⟨o,n,e,_⟩:=p;exact Heap.lt_size e
  refine call_enumerate_list p.isList λh' he hi hsz hk=>?_;refine wpAny_pyIter_enum he ?_;refine⟨s1.heap.objs.size+1,[s1.heap.objs.size+1,s1.heap.objs.size],_,_,H1,rfl,I1.kept (t':=s1.toks) hk,Ad l s1.heap.objs.size (s1.heap.objs.size+1) (Nat.succ_ne_self _) (Nat.ne_of_lt (Nat.lt_succ_of_lt hlt)) (Nat.ne_of_lt hlt),⟨⟨_,he⟩,hi⟩,λb hb=>?_,q⟩;have hb':s1.heap.objs.size<=b:=by
   rcases List.mem_cons.mp hb with rfl|hb
   .omega
   .rcases List.mem_cons.mp hb with rfl|hb
    .exact Nat.le_refl _
    .cases hb
  exact I1.fpOk hb' (I1.hok.fresh hb')
def numbered(n:Nat):ac->ac
 |[]=>[]
 |d::ds=>.tup [.int n,d]::numbered (n+1) ds
theorem gz:∀(ds:ac) (n:Nat),(numbered n ds).length=ds.length
 |[],_=>rfl
 |d::ds,n=>by simp[numbered,gz ds]
theorem gA:∀(ds:ac) (n i:Nat),(numbered n ds)[i]?=(ds[i]?).map λd=>D.tup [.int (n+i:Nat),d]
 |[],_,_=>by simp[numbered]
 |d::ds,n,0=>by simp[numbered]
 |d::ds,n,i+1=>by simp only[numbered,List.getElem?_cons_succ];rw[gA ds (n+1) i,show n+1+i=n+(i+1) by omega]
def Af(f:al):Ev->ai (ac):=λρ=>(f ρ).bind λd=>match d with
 |.lst ds=>.ok (numbered 0 ds)
 |_=>.stuck
def D6{K:W.Frag}(hs:aA Ha H)(hp:H p=none)(r:Reps K Ha ds vs):∃H₀2,aS H Ha (upd H p (.tup vs)) H₀2/\Rep K H₀2 (.tup ds) (.ref p) :=
 ⟨upd Ha p (.tup vs),aV hs hp,aI.mpr ⟨p,vs,rfl,i4.of aC,r.mono (aV (o:=.tup vs) hs hp).z⟩⟩
def uf(hg:Gl X "enumerate")(hm:X.mg "enumerate"=none)(h:DE X E a f)(hn:IA a=true:=by exact rfl):DI X E (.Tuple elts k tp) (.Call (.Name "enumerate" p) [a] [] pos) (Af f):=by
 refine⟨gs (Ew hg hm (cx h.o eW (dF hn)) (dF hn)) λσ H R z9=>?_⟩;obtain⟨Ha,ρ,hs,hr,q⟩:=z9;refine⟨Ha,ρ,hs,hr,?_⟩;unfold Af at q;cases e1:f ρ with
 |stuck|exn x=>rw[e1]at q;exact q
 |ok d=>
  rw[e1]at q;intro v H1 H01 g1 r1;cases d with
  |lst ds=>
   obtain⟨l,vs,rfl,hv,hrv⟩:=aE.mp r1;refine⟨l,rfl,⟨vs,aA.sqL g1.sub hv⟩,q _ H1 H01 g1 ⟨λi H' Ha' s1 s2 hi=>?_,λi H' Ha' x H2 d s1 s2 hd hy=>?_,λi H' Ha' s1 s2 hi=>?_⟩⟩
   .rw[gz]at hi
    exact⟨vs,vs[i]'(by rw[←hrv.length];exact hi),aA.sqL (s1.trans s2) hv,by simp⟩
   .obtain⟨p,y,hp,rfl,hy,rfl⟩:=hy
    rw[gA]at hd;cases ei:ds[i]? with
    |none=>rw[ei]at hd;cases hd
    |some d'=>
     rw[ei]at hd;cases hd;obtain⟨u,k1,k2⟩:=hrv.get ei;have:=hy vs (aA.sqL (s1.trans s2) hv);rw[k1]at this;cases this;exact D6 s2 hp (Reps.cons (ar.mpr (by simp)) (Reps.cons (k2.mono s1) Reps.nil))
   .rw[gz]at hi
    exact⟨vs,aA.sqL (s1.trans s2) hv,by rw[←hrv.length];exact hi⟩
  |_=>exact q.elim
end
section
variable {X:Cx}{E:XK}{He H0e:Hp}{e:Expr}{es:List Expr}{f:al}{fa:Ev->ai (ac)}{pos:Pos}
noncomputable def tX(K:W.Frag) (E:XK) (j:Nat) (fa:Ev->ai (ac)):TA:=λσ H Q=>∃Ha ρ,aA Ha H/\Reads K Ha σ ρ/\match fa ρ with
 |.ok ds=>(∃es,ds[j]?=some (.lst es))/\∀vs p es us H' Ha',aS H Ha H' Ha'->H p=none->Ha' p=none->H' p=some (.lst us)->ds[j]?=some (.lst es)->vs[j]?=some (.ref p)->Reps K Ha' es us->ds.length=vs.length->(∀k d v,k≠j->ds[k]?=some d->vs[k]?=some v->Rep K Ha' d v)->Q vs H'
 |.exn x=>∀C ox H' Ha',aS H Ha H' Ha'->ye K Ha' x C ox->E C ox H'
 |.stuck=>False
structure DX (X:Cx) (E:XK) (j:Nat) (es:List Expr) (fa:Ev->ai (ac)):Prop where
 o:PA X es (tX X.K E j fa)
def rl{K:W.Frag}(h:Reps K H ds vs){k:Nat}(e1:ds[k]?=some d)(e2:vs[k]?=some v):Rep K H d v:=by
 obtain⟨u,h1,h2⟩:=h.get e1;rw[e2]at h1;cases h1;exact h2
def aS.keeps(g:aS H Ha H1 H01)(h:H p=some o)(h0:Ha p=none):H01 p=none:=by
 cases q:H01 p with|none=>rfl|some u=>have:=g.nw p (by rw[q];simp) h0;rw[h]at this;cases this
def Ds(f:al)(fa:Ev->ai (ac)):Ev->ai (ac):=λρ=>(f ρ).bind λx=>match x with
 |.lst ds=>(fa ρ).bind λxs=>.ok (.lst ds::xs)
 |_=>.stuck
def E4(he:DF X E e f)(ha:DA X E es fa)(hs:starEach (e::es) X.env=(false,eval e X.env)::starEach es X.env:=by exact aN rfl):DX X E 0 (e::es) (Ds f fa):=by
 refine⟨?_⟩;refine jO (cx he.o ha.o hs) λσ H Q z9=>?_;obtain⟨Ha,ρ,hs,hr,q⟩:=z9;refine⟨Ha,ρ,hs,hr,?_⟩
 unfold Ds at q;cases e1:f ρ with
 |stuck|exn x=>rw[e1]at q;exact q
 |ok x=>
  rw[e1]at q;cases x with
  |lst ds0=>
   intro p vs H1 H01 g1 hp h0 hv rp;refine⟨H01,ρ,g1.sub,hr.mono g1.z,?_⟩;cases e2:fa ρ with
   |stuck=>simp only[ai.bind,e2]at q
   |exn y=>
    simp only[ai.bind,e2]at q;exact λC ox H' Ha' g ex=>q C ox H' Ha' (g1.trans g) ex
   |ok ds=>
    simp only[ai.bind,e2]at q;intro vs' H2 H02 g2 r2;refine q.2 (.ref p::vs') p ds0 vs H2 H02 (g1.trans g2) hp (g2.keeps hv h0) (g2.s _ _ hv) rfl rfl (rp.mono g2.z) (by simp[r2.length]) λk d v hk x1 x2=>?_;cases k with|zero=>exact absurd rfl hk|succ k=>exact rl r2 x1 x2
  |_=>exact q.elim
def Lp:Sl->Bool
 |.ox _ _=>true
 |_=>false
def Aw(i:Nat)(ρ:Ev):Bool:=(ρ.set i .no).all λs=>!(Lp s)
def cO.putX{K:W.Frag}(h:cO K He H0e Ha σ H ρ)(r:Im K He Ha H a j ds p)(hn:Aw i ρ=true)(hp:∀(k:Nat) (d:D),ρ[k]?=some (.ow d)->σ[k]?≠some (some (.ref p))) :
  cO K He H0e Ha (σ.set i (some (.ref a))) H (ρ.set i (.ox j ds)):=by
 have key:∀(k:Nat) (s:Sl),(ρ.set i (.ox j ds))[k]?=some s->(k=i/\s=.ox j ds/\i<σ.length)∨(k≠i/\ρ[k]?=some s):=λk s e=>by
  by_cases hj:i=k
  .subst hj
   rw[List.getElem?_set_self']at e;cases q:ρ[i]? with
   |none=>rw[q]at e;cases e
   |some s'=>
    rw[q]at e;cases e;refine .inl ⟨rfl,rfl,?_⟩;rw[←h.ln];exact(List.getElem?_eq_some_iff.mp q).1
  .rw[List.getElem?_set_ne hj]at e
   exact .inr ⟨λz=>hj z.symm,e⟩
 have nox:∀(k j':Nat) (ds':ac),k≠i->ρ[k]?≠some (.ox j' ds'):=λk j' ds' hk e=>by
  unfold Aw at hn;have:(ρ.set i .no)[k]?=some (.ox j' ds'):=by rw[List.getElem?_set_ne (Ne.symm hk)];exact e
  have:=List.all_eq_true.mp hn _ (List.mem_of_getElem? this);cases this
 refine⟨h.g,λk d' e=>?_,λk d' e=>?_,λk l d1 d2 hn e1 e2=>?_,by simp[h.ln],⟨λk j' ds' e=>?_,λk b e=>by
  rcases key k _ e with⟨_,e',_⟩|⟨hj,e'⟩
  .cases e'
  .rw[List.getElem?_set_ne (Ne.symm hj)];exact h.ex.2 k b e'⟩⟩
 .rcases key k _ e with⟨_,e',_⟩|⟨hj,e'⟩
  .cases e'
  .obtain⟨v',h1,h2⟩:=h.rd k d' e'
   exact⟨v',by rw[List.getElem?_set_ne (Ne.symm hj)];exact h1,h2⟩
 .rcases key k _ e with⟨_,e',_⟩|⟨hj,e'⟩
  .cases e'
  .obtain⟨a,h1,h2⟩:=h.ow k d' e'
   exact⟨a,by rw[List.getElem?_set_ne (Ne.symm hj)];exact h1,h2⟩
 .rcases key k _ e1 with⟨_,e',_⟩|⟨hj,e1'⟩
  .cases e'
  rcases key l _ e2 with⟨_,e',_⟩|⟨hk,e2'⟩
  .cases e'
  rw[List.getElem?_set_ne (Ne.symm hj),List.getElem?_set_ne (Ne.symm hk)];exact h.ap k l d1 d2 hn e1' e2'
 .rcases key k _ e with⟨rfl,e',hl⟩|⟨hj,e'⟩
  .cases e'
   refine⟨a,p,by rw[List.getElem?_set_self hl],r,λm d em=>?_,λm j'' ds'' em=>?_⟩
   .rcases key m _ em with⟨_,e',_⟩|⟨hm,e'⟩
    .cases e'
    .rw[List.getElem?_set_ne (Ne.symm hm)];exact hp m d e'
   .rcases key m _ em with⟨rfl,_⟩|⟨hm,e'⟩
    .rfl
    .exact absurd e' (nox m _ _ hm)
  .exact absurd e' (nox k _ _ hj)
def cO.writeX{K:W.Frag}(h:cO K He H0e Ha σ H ρ)(e:ρ[i]?=some (.ox j ds))(e1:σ[i]?=some (some (.ref a)))(r:Im K He Ha H a j ds p){es:ac}(hes:Reps K Ha es us)(hd:∀(k:Nat) (d:D),ρ[k]?=some (.ow d)->σ[k]?≠some (some (.ref p)))(h1:∀(k j':Nat) (ds':ac),ρ[k]?=some (.ox j' ds')->k=i) :
  cO K He H0e Ha σ (upd H p (.lst us)) (ρ.set i (.ox j (ds.set j (.lst es)))):=by
 obtain⟨vs,es0,us0,r1,r2,r3,r4,r5,r6,r7,r8,r9,r10⟩:=r;have hil:i<ρ.length:=(List.getElem?_eq_some_iff.mp e).1;have hjl:j<ds.length:=(List.getElem?_eq_some_iff.mp r5).1;have key:∀(k:Nat) (s:Sl),(ρ.set i (.ox j (ds.set j (.lst es))))[k]?=some s->(k=i/\s=.ox j (ds.set j (.lst es)))∨(k≠i/\ρ[k]?=some s):=λk s e=>by
  by_cases hj:i=k
  .subst hj
   rw[List.getElem?_set_self hil]at e;cases e;exact .inl ⟨rfl,rfl⟩
  .rw[List.getElem?_set_ne hj]at e
   exact .inr ⟨λz=>hj z.symm,e⟩
 have hap:a≠p:=by intro z;subst z;rw[r2]at r7;cases r7
 refine⟨⟨λb o eb=>?_,h.g.z,λb o eb=>?_,h.g.nw⟩,λk d' e'=>?_,λk d' e'=>?_,λk l d1 d2 hn e1 e2=>?_,by simp[h.ln],⟨λk j' ds' e'=>?_,λk b e'=>by
  rcases key k _ e' with⟨_,e''⟩|⟨_,e''⟩
  .cases e''
  .exact h.ex.2 k b e''⟩⟩
 .rw[av (by intro z;subst z;rw[r3]at eb;cases eb)];exact h.g.s _ _ eb
 .rw[av (by intro z;subst z;rw[r4]at eb;cases eb)];exact h.g.sub _ _ eb
 .rcases key k _ e' with⟨_,e''⟩|⟨_,e''⟩
  .cases e''
  .exact h.rd k d' e''
 .rcases key k _ e' with⟨_,e''⟩|⟨_,e''⟩
  .cases e''
  .obtain⟨b,k1,k2,k3,k4⟩:=h.ow k d' e''
   refine⟨b,k1,k2,k3,?_⟩;have hb:b≠p:=by
    intro z;subst z;exact hd k d' e'' k1
   cases d' with
   |lst ds'=>
    obtain⟨vs',h5,h6⟩:=k4;exact⟨vs',by rw[av hb];exact h5,h6⟩
   |dic ks ds'=>
    obtain⟨vs',h5,hl,h6⟩:=k4;exact⟨vs',by rw[av hb];exact h5,hl,h6⟩
   |_=>exact k4.elim
 .rcases key k _ e1 with⟨_,e''⟩|⟨_,e1'⟩
  .cases e''
  rcases key l _ e2 with⟨_,e''⟩|⟨_,e2'⟩
  .cases e''
  exact h.ap k l d1 d2 hn e1' e2'
 .rcases key k _ e' with⟨rfl,e''⟩|⟨hk,e''⟩
  .cases e''
   refine⟨a,p,e1,⟨vs,es,us,r1,by rw[av hap];exact r2,r3,r4,by rw[List.getElem?_set_self hjl],r6,aC,hes,by rw[List.length_set];exact r9,λm d v hm y1 y2=>r10 m d v hm (by rw[List.getElem?_set_ne (Ne.symm hm)]at y1;exact y1) y2⟩,λm d em=>?_,λm j'' ds'' em=>?_⟩
   .rcases key m _ em with⟨_,e''⟩|⟨_,e''⟩
    .cases e''
    .exact hd m d e''
   .rcases key m _ em with⟨hm,_⟩|⟨_,e''⟩
    .exact hm
    .exact h1 m _ _ e''
  .exact absurd (h1 k _ _ e'') hk
end
end DL
namespace Com
open PySem L2 DL
def FO(tg:Ev->D->ai Ev)(s:am)(ρ:Ev)(ds:ac):ai Fl:=bK tg s ds ρ
def FD(d:D):ai (ac):=match d with
 |.lst ds=>.ok (numbered 0 ds)
 |_=>.stuck
def FC(d:D):ai (ac):=match d with
 |.lst ds=>.ok ds
 |_=>.stuck
def Bm(d:D):ai (ac):=match d with
 |.tup ds=>.ok ds
 |_=>.stuck
def fB(n:Nat)(fr:bi)(tg:Ev->D->ai Ev)(tt fe:al)(ρ:Ev)(ds:ac):ai D:=if ds.length<=line then match bG (cA n fr ρ) tg tt fe ds with
  |.ok es=>.ok (.lst es)
  |_=>.stuck
 else .stuck
def CI(tg:Ev->D->ai Ev)(s:am)(ρ:Ev)(d:D):ai Fl:=match d with
 |.int j=>if -4611686018427387904<=j/\j<4611686018427387904 then bK tg s (intsFrom 0 j.toNat) ρ else .stuck
 |_=>.stuck
section
variable {s t:am}{f g h:al}{src:Ev->ai (ac)}{fa:Ev->ai (ac)}{ρ r:Ev}{i j n:Nat}{d x y:D}{ds es xs:ac}{a b:Int}{tg:Ev->D->ai Ev}{tt fe:al}{fr:bi}
def ng:i9 src tg s ρ=(src ρ).bind (FO tg s ρ):=aF rfl
def kO:FO tg s ρ ds=bK tg s ds ρ:=aF rfl
def m9:Af f ρ=(f ρ).bind FD:=aF rfl
def j9:FD (.lst ds)=.ok (numbered 0 ds):=aF rfl
def m8:sU f ρ=(f ρ).bind FC:=aF rfl
def j8:FC (.lst ds)=.ok ds:=aF rfl
def j7:Ae f ρ=(f ρ).bind Bm:=aF rfl
def j0:Bm (.tup ds)=.ok ds:=aF rfl
def iU:dA n fr src tg tt fe ρ=(src ρ).bind (fB n fr tg tt fe ρ):=aF rfl
def rL(h:(ds.length==is.length)=true):il is ρ (.tup ds)=.ok (eT ρ is ds):=by
 show(match (if ds.length=is.length then some ds else none) with|some ds=>ai.ok (eT ρ is ds)|none=>.stuck)=_;rw[if_pos (eq_of_beq h)]
def kN:nK f tg s ρ=(f (gO ρ)).bind (CI tg s ρ):=aF rfl
def jY{k:Nat}(h:k<=1000000):CI tg s ρ (.int (k:Int))=bK tg s (intsFrom 0 k) ρ:=by
 unfold CI;dsimp only;rw[if_pos ⟨by omega,by omega⟩,Int.toNat_natCast]
def oA{l h:Option Int}(c:(HT.sIx ds.length 0 l==0&&HT.sIx ds.length ds.length h==ds.length)=false):Br (.tup ds) l h=.ok (.tup (qP ds l h)):=by
 show(if _ then _ else _)=_;rw[if_neg (λz=>by rw[z.1,z.2]at c;simp at c)]
def zl:HS (.int a) (.int b)=.ok (.int (if b > a then b else a)):=aF rfl
def zm:iB (.bl true)=.ok (.int 1):=aF rfl
def tV:iB (.bl false)=.ok (.int 0):=aF rfl
def lV:qO (.int 10) (.int 18)=.ok (.int 1000000000000000000):=aF rfl
def wx(hl:ds.length<=1000000)(h:∀d∈ds,∃ρ1,tg (cA n fr ρ) d=.ok ρ1/\tt ρ1=.ok (.bl true)/\fe ρ1=.ok (F d)):fB n fr tg tt fe ρ ds=.ok (.lst (ds.map F)):=by
 unfold fB;rw[if_pos (show ds.length<=line from hl),sA h]
theorem mG:∀{ds:ac},(∀d∈ds,∃ρ1,tg B d=.ok ρ1/\tt ρ1=.ok (.bl (p d))/\(p d=true->fe ρ1=.ok (F d)))->bG B tg tt fe ds=.ok ((ds.filter p).map F)
 |[],_=>rfl
 |d::ds,h=>by
  obtain⟨ρ1,h1,h2,h3⟩:=h d List.mem_cons_self;have ih:=mG (ds:=ds) λd hd=>h d (List.mem_cons_of_mem _ hd);unfold bG;rw[h1,AX,h2,AX];cases hp:p d with
  |true=>
   show(fe ρ1).bind _=_;rw[h3 hp,AX,ih,AX,List.filter_cons_of_pos hp];rfl
  |false=>
   show bG B tg tt fe ds=_;rw[ih,List.filter_cons_of_neg (by rw[hp];decide)]
def mD(hl:ds.length<=1000000)(h:∀d∈ds,∃ρ1,tg (cA n fr ρ) d=.ok ρ1/\tt ρ1=.ok (.bl (p d))/\(p d=true->fe ρ1=.ok (F d))):fB n fr tg tt fe ρ ds=.ok (.lst ((ds.filter p).map F)):=by
 unfold fB;rw[if_pos (show ds.length<=line from hl),mG h]
end
def Fw:yc<=2 ^ 200:=by decide
def un(s x:gN):gN:=(s.1*x.2+x.1*s.2,s.2*x.2)
end Com
local macro_rules|`(tactic|open_line with[$xs,*])=>`(tactic|simp only[fz,oJ,kj,ki,kC,oI,kh,oO,ko,kQ,iq,vM,o8,o7,oT,kA,pq,kz,oQ,kr,o9,oR,ku,vT,vS,pj,vR,oY,kR,iu,ir,pv,kT,kS,vI,oW,oV,oX,kB,o6,kM,kL,ou,jZ,CJ,kg,oH,ke,kc,ka,nc,oN,kn,km,vH,oU,vJ,vE,oG,oE,oC,pb,kP,iw,vN,ph,pe,pd,o5,pw,vL,vK,dq,kD,lX,jo,List.map_cons,List.map_nil,List.length_cons,List.length_nil,List.replicate_succ,List.replicate_zero,List.nil_append,List.cons_append,List.getElem?_cons_zero,List.getElem?_cons_succ,List.set_cons_zero,List.set_cons_succ,Nat.sub_zero,Nat.reduceSub,Nat.reduceAdd,Nat.add_zero,Nat.zero_add,Bool.not_true,Bool.not_false,oz,o4,iV,fA,oZ,vF,oK,vC,oy,iT,iS,kK,kJ,kI,kH,kG,kF,decide_true,decide_false,Nat.reduceLeDiff,Nat.reduceBEq,Int.reduceBEq,beq_self_eq_true,DL.dOne,DL.mYes,dj,cI,cT,e9,eA,e8,ez,vQ,vP,vO,Int.reduceLT,Int.reduceLE,Int.reduceSub,Int.reduceAdd,Int.reduceMul,Int.reduceNeg,kE,ip,oP,kq,Int.reduceToNat,Bool.and_self,ng,kO,m9,j9,m8,j8,j7,j0,iU,rL,kN,oA,zl,zm,tV,lV,$[$xs:term],*])
local macro_rules|`(tactic|open_line with[$xs,*] seeing $h)=>`(tactic|simp only[fz,oJ,kj,ki,kC,oI,kh,oO,ko,kQ,iq,vM,o8,o7,oT,kA,pq,kz,oQ,kr,o9,oR,ku,vT,vS,pj,vR,oY,kR,iu,ir,pv,kT,kS,vI,oW,oV,oX,kB,o6,kM,kL,ou,jZ,CJ,kg,oH,ke,kc,ka,nc,oN,kn,km,vH,oU,vJ,vE,oG,oE,oC,pb,kP,iw,vN,ph,pe,pd,o5,pw,vL,vK,dq,kD,lX,jo,List.map_cons,List.map_nil,List.length_cons,List.length_nil,List.replicate_succ,List.replicate_zero,List.nil_append,List.cons_append,List.getElem?_cons_zero,List.getElem?_cons_succ,List.set_cons_zero,List.set_cons_succ,Nat.sub_zero,Nat.reduceSub,Nat.reduceAdd,Nat.add_zero,Nat.zero_add,Bool.not_true,Bool.not_false,oz,o4,iV,fA,oZ,vF,oK,vC,oy,iT,iS,kK,kJ,kI,kH,kG,kF,decide_true,decide_false,Nat.reduceLeDiff,Nat.reduceBEq,Int.reduceBEq,beq_self_eq_true,DL.dOne,DL.mYes,dj,cI,cT,e9,eA,e8,ez,vQ,vP,vO,Int.reduceLT,Int.reduceLE,Int.reduceSub,Int.reduceAdd,Int.reduceMul,Int.reduceNeg,kE,ip,oP,kq,Int.reduceToNat,Bool.and_self,ng,kO,m9,j9,m8,j8,j7,j0,iU,rL,kN,oA,zl,zm,tV,lV,$[$xs:term],*] at $(⟨h⟩):ident)
namespace Com
open PySem L2 DL
def n9(ha:0<=a)(hb:0<b):0<=(bT a b).1:=Int.ediv_nonneg ha (by omega)
def EU(ha:0<a)(hb:0<b):0<(bT a b).1:=by
 have hg:0<(Int.gcd a b:Int):=jX (by omega);have hd:(Int.gcd a b:Int)∣a:=Int.gcd_dvd_left ..;exact Int.ediv_pos_of_pos_of_dvd ha (by omega) hd
def JT(h0:0<=a)(h1:a<(yc:Int)):a.natAbs<qD:=Nat.lt_of_lt_of_le (show a.natAbs<yc by omega) Fv
def zh(P:Nat->Ev->Prop)(h:∀k,k<n->∀ρ,P k ρ->∃ρ2,body (ρ.set i (.sh (.int (k:Int))))=.ok (.nx ρ2)/\P (k+1) ρ2)(h0:P 0 ρ):∃ρ',bK (bF i) body (intsFrom 0 n) ρ=.ok (.nx ρ')/\P n ρ':=by
 have key:∀(m k:Nat) (ρ:Ev),k+m=n->P k ρ->∃ρ',bK (bF i) body ((intsFrom 0 n).drop k) ρ=.ok (.nx ρ')/\P n ρ':=by
  intro m
  induction m with
  |zero=>
   intro k ρ hk hp;have:k=n:=by omega
   subst this;rw[CB];exact⟨ρ,rfl,hp⟩
  |succ m ih=>
   intro k ρ hk hp;obtain⟨ρ2,h1,h2⟩:=h k (by omega) ρ hp;rw[AG (by omega),c6 (tg:=bF i) rfl h1];exact ih (k+1) ρ2 (by omega) h2
 exact key n 0 ρ (by omega) h0
def zi(P:Nat->Ev->Prop)(h:∀k d,ds[k]?=some d->∀ρ,P k ρ->∃ρ1 ρ2,tg ρ d=.ok ρ1/\body ρ1=.ok (.nx ρ2)/\P (k+1) ρ2)(h0:P 0 ρ):∃ρ',bK tg body ds ρ=.ok (.nx ρ')/\P ds.length ρ':=by
 have key:∀(m k:Nat) (ρ:Ev),k+m=ds.length->P k ρ->∃ρ',bK tg body (ds.drop k) ρ=.ok (.nx ρ')/\P ds.length ρ':=by
  intro m
  induction m with
  |zero=>
   intro k ρ hk hp;have:k=ds.length:=by omega
   subst this;rw[List.drop_length];exact⟨ρ,rfl,hp⟩
  |succ m ih=>
   intro k ρ hk hp;have hlt:k<ds.length:=by omega
   obtain⟨ρ1,ρ2,h1,h2,h3⟩:=h k ds[k] (List.getElem?_eq_getElem hlt) ρ hp;rw[List.drop_eq_getElem_cons hlt,c6 h1 h2];exact ih (k+1) ρ2 (by omega) h3
 exact key ds.length 0 ρ (by omega) h0
def uu:("abcdefghijklmnopqrstuvwxyz":Str).cps.toList=(List.range 26).map (97 + ·):=by decide +kernel
def Ij:∀n,n<26->mx (97+n)=true:=by decide +kernel
def Ii(h0:0<=v)(h1:v<26):aP (.str "abcdefghijklmnopqrstuvwxyz") (.int v)=.ok (.str ⟨#[97+v.toNat]⟩):=by
 obtain⟨n,rfl⟩:=Int.eq_ofNat_of_zero_le h0;have hn:n<26:=by omega
 have e:atI ("abcdefghijklmnopqrstuvwxyz":Str).cps.toList ((n:Nat):Int)=some (97+n):=dS (by rw[uu];simp[hn]);show(if("abcdefghijklmnopqrstuvwxyz":Str).length<=line then(match atI ("abcdefghijklmnopqrstuvwxyz":Str).cps.toList ((n:Nat):Int) with|some c=>ai.ok (D.str ⟨#[c]⟩)|none=>.stuck) else .stuck)=_;rw[if_pos (by decide),e];rfl
theorem yY:∀cs:bi,Str.join "" (cs.map λc=>(⟨#[c]⟩:Str))=⟨cs.toArray⟩
 |[]=>rfl
 |[c]=>rfl
 |c::d::cs=>by
  show(⟨#[c]⟩:Str)++""++Str.join "" ((d::cs).map λc=>(⟨#[c]⟩:Str))=_;rw[yY (d::cs)];apply Str.ext';show(#[c]++("":Str).cps)++(d::cs).toArray=_;have:("":Str).cps=#[]:=rfl;rw[this];simp
theorem yk:∀cs:bi,fG (cs.map λc=>D.str ⟨#[c]⟩)=some (cs.map λc=>(⟨#[c]⟩:Str))
 |[]=>rfl
 |c::cs=>by
  show(fG (cs.map λc=>D.str ⟨#[c]⟩)).map _=_;rw[yk cs];rfl
def xC{cs:bi}(h:cs.length<=1000):jW "" [.lst (cs.map λc=>D.str ⟨#[c]⟩)]=.ok (.str ⟨cs.toArray⟩):=by
 have Kz:fw "" (cs.map λc=>(⟨#[c]⟩:Str))=true:=by
  unfold fw;have e:((cs.map λc=>(⟨#[c]⟩:Str)).map (·.length)).sum=cs.length:=by
   clear h
   induction cs with
   |nil=>rfl
   |cons c cs ih=>
    simp only[List.map_cons,List.sum_cons,List.length_cons,ih];show 1+cs.length=_;omega
  rw[e,Bool.and_eq_true];exact⟨by decide,decide_eq_true (by rw[List.length_map];omega)⟩
 show(match fG (cs.map λc=>D.str ⟨#[c]⟩) with|some ys=>if fw "" ys=true then ai.ok (D.str (Txt.join "" ys)) else .stuck|none=>.stuck)=_;rw[yk];show(if fw "" _=true then ai.ok (D.str (Txt.join "" _)) else .stuck)=_;rw[if_pos Kz];show ai.ok (D.str (Builtin.Str.glued "" _))=_;rw[StrLaws.glued_eq_join,yY]
structure lD (zs:List Str):Prop where
 nd:zs.Nodup
 nm:∀z∈zs,nameB z=true
def HW(a:bi):(⟨a.toArray⟩:Str).length=a.length:=by show a.toArray.size=_;simp
structure wG where
 a:Str
 b:Str
 w:Str
 l:gN
 o:Option gN
def br:Option gN->D
 |none=>.non
 |some x=>fr x
def bu(t:wG):D:=.tup [.str t.a,.str t.b,.str t.w,fr t.l,br t.o]
structure qp (zs:List Str) (t:wG):Prop where
 a:t.a∈zs
 b:t.b∈zs
 ne:t.a≠t.b
 w:t.w="one"∨t.w="both"
 l:gf t.l
 l0:0<=t.l.1
 o:∀x,t.o=some x->gf x/\0<x.1
def lJ{zs:List Str}{k:Int}(h0:0<=k)(h1:k<zs.length):∃z,zs[k.toNat]?=some z/\aP (.lst (zs.map D.str)) (.int k)=.ok (.str z):=by
 obtain⟨n,rfl⟩:=Int.eq_ofNat_of_zero_le h0;have hn:n<zs.length:=by omega
 refine⟨zs[n],by simp[hn],oj ?_⟩;rw[List.getElem?_map,List.getElem?_eq_getElem hn];rfl
def DZ{k:Int}(h0:0<=k)(h1:k<2):∃z:Str,(z="one"∨z="both")/\aP (.lst [.str "one",.str "both"]) (.int k)=.ok (.str z):=by
 have:k=0∨k=1:=by omega
 rcases this with rfl|rfl
 .exact⟨_,.inl rfl,iT⟩
 .exact⟨_,.inr rfl,iS⟩
def sL{n d e:Int}(h2:2<=n)(d0:0<=d)(d1:d<n)(e0:0<=e)(e1:e<n-1):(0<=(d+1+e).fmod n/\(d+1+e).fmod n<n)/\(d+1+e).fmod n≠d:=by
 refine⟨dY (by omega),?_⟩;rw[Int.fmod_eq_emod_of_nonneg _ (by omega)]
 by_cases h:d+1+e<n
 .rw[Int.emod_eq_of_lt (by omega) h];omega
 .have:(d+1+e) % n=d+1+e-n:=by
   rw[←Int.sub_emod_right (d+1+e) n,Int.emod_eq_of_lt (by omega) (by omega)]
  rw[this];omega
def jT{α:Type}{zs:List α}(nd:zs.Nodup){i j:Nat}{x y:α}(hi:zs[i]?=some x)(hj:zs[j]?=some y)(hij:i≠j):x≠y:=by
 intro e;subst e;obtain⟨h1,e1⟩:=List.getElem?_eq_some_iff.mp hi;obtain⟨h2,e2⟩:=List.getElem?_eq_some_iff.mp hj;exact hij ((List.getElem_inj nd).mp (e1.trans e2.symm))
def mJ:am :=
 (aw (bB (gE (au (ah (ae 0) aG) m_is_ratio) (aa (aa (ae 0) (dC (.int 0)) aP) (dC (.int 0)) Lz)))
 ao)
def m_is_length:ac->ai D:=ck 1 mJ
def qj:am :=
 (aw (bB (jf (aa (ae 0) (dC (.non)) lh) (gE (au (ah (ae 0) aG) m_is_ratio) (aa (aa (ae 0) (dC (.int 0)) aP) (dC (.int 0)) HV))))
 ao)
def m_is_worth:ac->ai D:=ck 1 qj
noncomputable def wF:am :=
 (aw (dH (jf (cF (cm (ae 0) (fq "tuple"))) (aa (au (ah (ae 0) aG) (m1 dE)) (dC (.int 5)) iW))
 (aw (bB (dC (.bl false)))
 ao)
 ao)
 (aw (dH (jf (cF (au (ah (aa (ae 0) (dC (.int 0)) aP) aG) m_is_name)) (jf (cF (au (ah (aa (ae 0) (dC (.int 1)) aP) aG) m_is_name)) (aa (aa (ae 0) (dC (.int 0)) aP) (aa (ae 0) (dC (.int 1)) aP) lG)))
 (aw (bB (dC (.bl false)))
 ao)
 ao)
 (aw (dH (jf (cF (cm (aa (ae 0) (dC (.int 2)) aP) (fq "str"))) (aa (aa (ae 0) (dC (.int 2)) aP) (dC (.tup [(.str "one"),(.str "both")])) cX))
 (aw (bB (dC (.bl false)))
 ao)
 ao)
 (aw (bB (gE (au (ah (aa (ae 0) (dC (.int 3)) aP) aG) m_is_length) (au (ah (aa (ae 0) (dC (.int 4)) aP) aG) m_is_worth)))
 ao))))
def m_is_tie:ac->ai D:=ck 1 wF
noncomputable def fZ:am :=
 (aw (dH (jf (cF (cm (ae 0) (fq "list"))) (cF (fJ Kg Kg (dC (.int 2)) (au (ah (ae 0) aG) (m1 dE)) (dC (.int 7)))))
 (aw dG
 ao)
 ao)
 (aw (i9 (Af (ae 0)) (il [1,2])
 (aw (dH (jf (cF (au (ah (ae 2) aG) m_is_name)) (aa (ae 2) (AQ (ae 0) eG (er (ae 1))) DD))
 (aw dG
 ao)
 ao)
 ao))
 ao))
def m_look_at_places:ac->ai D:=ck 3 fZ
noncomputable def iF:am :=
 (aw (dH (jf (cF (cm (ae 0) (fq "list"))) (aa (au (ah (ae 0) aG) (m1 dE)) (dC (.int 14)) HV))
 (aw dG
 ao)
 ao)
 (aw (i9 (Af (ae 0)) (il [2,3])
 (aw (dH (jf (cF (au (ah (ae 3) aG) m_is_tie)) (jf (aa (aa (ae 3) (dC (.int 0)) aP) (ae 1) cX) (aa (aa (ae 3) (dC (.int 1)) aP) (ae 1) cX)))
 (aw dG
 ao)
 ao)
 ao))
 ao))
def m_look_at_ties:ac->ai D:=ck 4 iF
def qk:am :=
 (aw (bB (gE (au (ah (ae 0) aG) m_is_name) (aa (ae 0) (ae 1) DD)))
 ao)
def m_is_place:ac->ai D:=ck 2 qk
noncomputable def jh:am :=
 (aw (dH (jf (cF (cm (ae 0) (fq "tuple"))) (aa (au (ah (ae 0) aG) (m1 dE)) (dC (.int 4)) iW))
 (aw dG
 ao)
 ao)
 (aw (nL (au (ah (aa (ae 0) (dC (.int 0)) aP) aG) m_look_at_places))
 (aw (nL (au (ah (aa (ae 0) (dC (.int 1)) aP) (ah (aa (ae 0) (dC (.int 0)) aP) aG)) m_look_at_ties))
 (aw (dH (cF (au (ah (aa (ae 0) (dC (.int 2)) aP) (ah (aa (ae 0) (dC (.int 0)) aP) aG)) m_is_place))
 (aw dG
 ao)
 ao)
 (aw (dH (jf (cF (au (ah (aa (ae 0) (dC (.int 3)) aP) (ah (aa (ae 0) (dC (.int 0)) aP) aG)) m_is_place)) (aa (aa (ae 0) (dC (.int 3)) aP) (aa (ae 0) (dC (.int 2)) aP) lG))
 (aw dG
 ao)
 ao)
 ao)))))
def m_look_at_web:ac->ai D:=ck 1 jh
def gT:am :=
 (aw (bB (gE (au (ah (ae 1) aG) m_is_whole) (fJ Kg ID (dC (.int 0)) (ae 1) (au (ah (aa (ae 0) (dC (.int 1)) aP) aG) (m1 dE)))))
 ao)
def m_is_tie_number:ac->ai D:=ck 2 gT
structure gh where
 ps:List Str
 ts:List wG
 fi:Str
 la:Str
def bA(w:gh):D:=.tup [.lst (w.ps.map D.str),.lst (w.ts.map bu),.str w.fi,.str w.la]
structure cK (w:gh):Prop where
 n2:2<=w.ps.length
 n7:w.ps.length<=7
 nm:lD w.ps
 t14:w.ts.length<=14
 ts:∀t∈w.ts,qp w.ps t
 fi:w.fi∈w.ps
 la:w.la∈w.ps
 ne:w.fi≠w.la
def iO(h:nameB z=true):m_is_name [.str z]=.ok (.bl true):=by
 have hl:z.length<=8:=by
  unfold nameB at h;simp only[Bool.and_eq_true,decide_eq_true_eq]at h;exact h.2.1
 rw[xE (show Kz (.str z)=true from decide_eq_true (Nat.le_trans hl (by decide)))];show ai.ok (D.bl (nameB z))=_;rw[h]
def nO(h:Low x):m_is_ratio [fr x]=.ok (.bl true):=by
 rw[tO];show ai.ok (D.bl (nP (.tup [.int x.1,.int x.2])))=_;have h1:=h.q1;have h2:=h.g1;show ai.ok (D.bl (decide (1<=x.2)&&(Int.gcd x.1 x.2==1)))=_;rw[decide_eq_true h1,h2];rfl
def vp(h:Low x)(h0:0<=x.1):m_is_length [fr x]=.ok (.bl true):=by
 have e:fr x=.tup [.int x.1,.int x.2]:=rfl;have h1:=nO h;rw[e]at h1 ⊢;open_line with[m_is_length,mJ,h1,decide_eq_true h0,decide_eq_true (show x.1≥0 from h0)]
def wL(h:∀x,o=some x->Low x/\0<x.1):m_is_worth [br o]=.ok (.bl true):=by
 cases o with
 |none=>rfl
 |some x=>
  obtain⟨hx,h0⟩:=h x rfl;have e:br (some x)=.tup [.int x.1,.int x.2]:=rfl;have h1:=nO hx;rw[show fr x=.tup [.int x.1,.int x.2] from rfl]at h1;rw[e];open_line with[m_is_worth,qj,h1,decide_eq_true h0]
def zp:lG (.str x) (.str y)=.ok (.bl (x==y)):=by unfold lG;rw[if_pos ⟨rfl,rfl⟩,cn]
def Bh(nm:lD zs)(h:qp zs t):m_is_tie [bu t]=.ok (.bl true):=by
 obtain⟨a,b,w,l,o⟩:=t;obtain⟨ha,hb,hne,hw,hl,hl0,ho⟩:=h;have h1:=iO (nm.nm a ha);have h2:=iO (nm.nm b hb);have h3:=vp hl.toLow hl0;have h4:=wL (o:=o) λx hx=>⟨(ho x hx).1.toLow,(ho x hx).2⟩
 have h5:(a==b)=false:=beq_eq_false_iff_ne.mpr hne;have h6:cX (.str w) (.tup [.str "one",.str "both"])=.ok (.bl false):=by
  rcases hw with rfl|rfl<;>rfl
 have e:bu ⟨a,b,w,l,o⟩=.tup [.str a,.str b,.str w,fr l,br o]:=rfl;rw[e];open_line with[m_is_tie,wF,h1,h2,zp,h5,h6,h3,h4]
def zR{zs:List Str}:(zs.map D.str).any (λd=>cn d (.str z))=decide (z∈zs):=by
 induction zs with
 |nil=>rfl
 |cons y zs ih=>
  rw[List.map_cons,List.any_cons,ih];show((y==z)||decide (z∈zs))=_
  by_cases h:y=z
  .subst h;simp
  .have:(y==z)=false:=beq_eq_false_iff_ne.mpr h
   rw[this,Bool.false_or];have:z∈y::zs↔z∈zs:=by simp[Ne.symm h]
   exact decide_eq_decide.mpr this.symm
def qZ{zs:List Str}:(zs.map D.str).all (aY n)=true:=List.all_eq_true.mpr λd hd=>by
 obtain⟨z,_,rfl⟩:=List.mem_map.mp hd;cases n<;>rfl
def zb{zs:List Str}:DD (.str z) (.lst (zs.map D.str))=.ok (.bl (decide (z∈zs))):=by
 have e:DC (.str z) (.lst (zs.map D.str))=some (decide (z∈zs)):=(if_pos ⟨rfl,qZ⟩).trans (congrArg some zR);unfold DD;rw[e]
def xp{zs:List Str}:cX (.str z) (.lst (zs.map D.str))=.ok (.bl (!(decide (z∈zs)))):=by
 have e:DC (.str z) (.lst (zs.map D.str))=some (decide (z∈zs)):=(if_pos ⟨rfl,qZ⟩).trans (congrArg some zR);unfold cX;rw[e]
def nS{zs:List Str}(h:nameB z=true)(hz:z∈zs):m_is_place [.str z,.lst (zs.map D.str)]=.ok (.bl true):=by
 open_line with[m_is_place,qk,iO h,zb,decide_eq_true hz]
def jS{α:Type}{F:α->D}{xs:List α}{k:Nat}(h:(numbered 0 (xs.map F))[k]?=some d):∃x,xs[k]?=some x/\d=.tup [.int (k:Int),F x]:=by
 rw[gA,List.getElem?_map]at h;cases e:xs[k]? with
 |none=>rw[e]at h;cases h
 |some x=>
  rw[e]at h;cases h;exact⟨x,rfl,by simp⟩
def Dg{α:Type}{F:α->D}{xs:List α}{k:Nat}(h:k<=xs.length):qP (xs.map F) none (some (k:Int))=(xs.take k).map F:=by
 rw[Fg,HT.sIx_none,HT.sIx_nat,Nat.min_eq_left h,List.drop_zero,Nat.sub_zero]
def Ao(h2:2<=zs.length)(h7:zs.length<=7)(nm:lD zs):m_look_at_places [.lst (zs.map D.str)]=.ok .non:=by
 obtain⟨ρ',hl,_⟩:=zi (ds:=numbered 0 (zs.map D.str)) (tg:=il [1,2]) (ρ:=[.sh (.lst (zs.map D.str)),.no,.no])
  (body:=(aw (dH (jf (cF (au (ah (ae 2) aG) m_is_name)) (aa (ae 2) (AQ (ae 0) eG (er (ae 1))) DD)) (aw dG ao) ao) ao))
  (λk ρ=>∃a b,ρ=[.sh (.lst (zs.map D.str)),a,b]) (by
   rintro k d hd ρ ⟨a,b,rfl⟩;obtain⟨z,hz,rfl⟩:=jS hd;refine⟨_,[.sh (.lst (zs.map D.str)),.sh (.int (k:Int)),.sh (.str z)],rL rfl,?_,_,_,rfl⟩;have hk:k<zs.length:=(List.getElem?_eq_some_iff.mp hz).1;have hnot:decide (z∈zs.take k)=false:=decide_eq_false λhm=>by
    obtain⟨j,hj⟩:=List.mem_iff_getElem?.mp hm;have hjk:j<k:=by have:=(List.getElem?_eq_some_iff.mp hj).1;simp at this;omega
    rw[List.getElem?_take_of_lt hjk]at hj;exact jT nm.nd hj hz (by omega) rfl
   open_line with[iO (nm.nm z (List.mem_of_getElem? hz)),Dg (Nat.le_of_lt hk),zb,hnot]) ⟨.no,.no,rfl⟩
 have e1:decide ((2:Int)<=(zs.length:Int))=true:=decide_eq_true (by omega);have e2:decide ((zs.length:Int)<=7)=true:=decide_eq_true (by omega);open_line with[m_look_at_places,fZ,List.length_map,e1,e2,hl]
def mZ{ts:List wG}(h14:ts.length<=14)(nm:lD zs)(ht:∀t∈ts,qp zs t):m_look_at_ties [.lst (ts.map bu),.lst (zs.map D.str)]=.ok .non:=by
 obtain⟨ρ',hl,_⟩:=zi (ds:=numbered 0 (ts.map bu)) (tg:=il [2,3]) (ρ:=[.sh (.lst (ts.map bu)),.sh (.lst (zs.map D.str)),.no,.no])
  (body:=(aw (dH (jf (cF (au (ah (ae 3) aG) m_is_tie)) (jf (aa (aa (ae 3) (dC (.int 0)) aP) (ae 1) cX) (aa (aa (ae 3) (dC (.int 1)) aP) (ae 1) cX))) (aw dG ao) ao) ao))
  (λk ρ=>∃a b,ρ=[.sh (.lst (ts.map bu)),.sh (.lst (zs.map D.str)),a,b]) (by
   rintro k d hd ρ ⟨a,b,rfl⟩;obtain⟨t,ht',rfl⟩:=jS hd;refine⟨_,[.sh (.lst (ts.map bu)),.sh (.lst (zs.map D.str)),.sh (.int (k:Int)),.sh (bu t)],rL rfl,?_,_,_,rfl⟩;have hT:=ht t (List.mem_of_getElem? ht');have h1:=Bh nm hT;rw[show bu t=.tup [.str t.a,.str t.b,.str t.w,fr t.l,br t.o] from rfl]at h1 ⊢;open_line with[h1,xp,decide_eq_true hT.a,decide_eq_true hT.b]) ⟨.no,.no,rfl⟩
 have e1:decide ((14:Int)<(ts.length:Int))=false:=decide_eq_false (by omega);open_line with[m_look_at_ties,iF,List.length_map,e1,decide_eq_false (show ¬(ts.length:Int) > 14 by omega),hl]
def Gh(h:cK w):m_look_at_web [bA w]=.ok .non:=by
 obtain⟨ps,ts,fi,la⟩:=w;have h1:=Ao h.n2 h.n7 h.nm;have h2:=mZ h.t14 h.nm h.ts;have h3:=nS (h.nm.nm fi h.fi) h.fi;have h4:=nS (h.nm.nm la h.la) h.la;have h5:(la==fi)=false:=beq_eq_false_iff_ne.mpr (Ne.symm h.ne);rw[show bA ⟨ps,ts,fi,la⟩=.tup [.lst (ps.map D.str),.lst (ts.map bu),.str fi,.str la] from rfl];open_line with[m_look_at_web,jh,h1,h2,h3,h4,zp,h5]
noncomputable def gS:am :=
 (aw (bE 1 (dC (.int 1)))
 (aw (qH (ae 0) (bF 2)
 (aw (bE 1 (aa (aa (ae 1) (au (ah (ae 1) (ah (aa (ae 2) (dC (.int 1)) aP) aG)) m_common_divisor) lj) (aa (ae 2) (dC (.int 1)) aP) bQ))
 ao))
 (aw (bB (ae 1))
 ao)))
def m_shared_bottom:ac->ai D:=ck 3 gS
def ql:am :=
 (aw (bB (aa (aa (ae 0) (dC (.int 0)) aP) (aa (ae 1) (aa (ae 0) (dC (.int 1)) aP) lj) bQ))
 ao)
def m_as_whole:ac->ai D:=ck 2 ql
noncomputable def iD:am :=
 (aw (bE 1 (au (ah (dA 1 [] (sU (ae 0)) (bF 0) (aa (ae 0) (dC (.non)) iA) (ae 0)) aG) m_shared_bottom))
 (aw (bB (au (ah (dA 1 [1] (sU (ae 0)) (bF 0) mYes (HU (aa (ae 0) (dC (.non)) lh) (dC (.non)) (au (ah (ae 0) (ah (ae 1) aG)) m_as_whole))) (ah (ae 1) aG)) fR))
 ao))
def m_on_one_scale:ac->ai D:=ck 2 iD
def cH(ks:bi):D:=.lst (ks.map λ(k:Nat)=>D.int (k:Int))
def Gq{w:gh}{k:Nat}(h:w.ts[k]?=some t):aP (.lst (w.ts.map bu)) (.int (k:Int))=.ok (bu t):=oj (by rw[List.getElem?_map,h];rfl)
def ve{k:Nat}(h:k<w.ts.length):m_is_tie_number [bA w,.int (k:Int)]=.ok (.bl true):=by
 rw[show bA w=.tup [.lst (w.ps.map D.str),.lst (w.ts.map bu),.str w.fi,.str w.la] from rfl];open_line with[m_is_tie_number,gT,eu,IC,List.length_map,decide_eq_true (show(0:Int)<=(k:Int) by omega),decide_eq_true (show(k:Int)<(w.ts.length:Int) by omega)]
def eB(b:Int)(x:gN):Int:=b / (Int.gcd b x.2:Int)*x.2
def Fj(xs:List gN):Int:=xs.foldl eB 1
structure sR (k:Nat) (b:Int):Prop where
 pos:0<b
 bd:b.natAbs<=2 ^ (200*k)
def sY{k:Nat}(h:k<=60):2 ^ (200*k)<qD:=by rw[ma];exact Nat.pow_lt_pow_right (by decide) (by omega)
def ot(h:b≠0):0<(Int.gcd a b:Int):=jX h
def sR.step{k:Nat}(h:sR k b)(hx:gf x):sR (k+1) (eB b x)/\b∣eB b x/\x.2∣eB b x:=by
 have q1:=hx.q1;have hg:0<(Int.gcd b x.2:Int):=ot (by omega);have hd:(Int.gcd b x.2:Int)∣b:=Int.gcd_dvd_left ..;have hd2:(Int.gcd b x.2:Int)∣x.2:=Int.gcd_dvd_right ..;have hq:0<b / (Int.gcd b x.2:Int):=Int.ediv_pos_of_pos_of_dvd h.pos (by omega) hd;refine⟨⟨Int.mul_pos hq (by omega),?_⟩,?_,⟨b / (Int.gcd b x.2:Int),by unfold eB;rw[Int.mul_comm]⟩⟩
 .unfold eB
  rw[Int.natAbs_mul,show 200*(k+1)=200*k+200 by omega,Nat.pow_add];refine Nat.mul_le_mul (Nat.le_trans (Int.natAbs_ediv_le_natAbs _ _) h.bd) (Nat.le_trans (Nat.le_of_lt hx.qN) Fw)
 .obtain⟨c,hc⟩:=hd
  obtain⟨d,hd'⟩:=hd2;refine⟨d,?_⟩;unfold eB;generalize (Int.gcd b x.2:Int)=g at *;have e1:b / g=c:=by rw[hc];exact Int.mul_ediv_cancel_left c (by omega)
  rw[e1,hd',hc,←Int.mul_assoc,Int.mul_comm c g]
def Dl{xs:List gN}(hx:∀x∈xs,gf x):∀(b:Int) (k:Nat),sR k b->sR (k+xs.length) (xs.foldl eB b)/\b∣xs.foldl eB b/\∀x∈xs,x.2∣xs.foldl eB b:=by
 induction xs with
 |nil=>intro b k h;exact⟨h,Int.dvd_refl b,λx hx=>nomatch hx⟩
 |cons x xs ih=>
  intro b k h;obtain⟨h1,h2,h3⟩:=h.step (hx x List.mem_cons_self);obtain⟨k1,k2,k3⟩:=ih (λy hy=>hx y (List.mem_cons_of_mem _ hy)) _ _ h1;refine⟨?_,Int.dvd_trans h2 k2,λy hy=>?_⟩
  .rw[List.length_cons,show k+(xs.length+1)=k+1+xs.length by omega];exact k1
  .rcases List.mem_cons.mp hy with rfl|hy
   .exact Int.dvd_trans h3 k2
   .exact k3 y hy
def Dm{L:Sl}:∀(xs:List gN) (k:Nat) (b:Int) (z:Sl),sR k b->k+xs.length<=60->(∀x∈xs,gf x)->∃z',bK (bF 2) (aw (bE 1 (aa (aa (ae 1) (au (ah (ae 1) (ah (aa (ae 2) (dC (.int 1)) aP) aG)) m_common_divisor) lj) (aa (ae 2) (dC (.int 1)) aP) bQ)) ao) (xs.map fr) [L,.sh (.int b),z] =
  .ok (.nx [L,.sh (.int (xs.foldl eB b)),z']):=by
 intro xs
 induction xs with
 |nil=>intro k b z _ _ _;exact⟨z,rfl⟩
 |cons x xs ih=>
  intro k b z h hk hx;have hxx:=hx x List.mem_cons_self;have q1:=hxx.q1;obtain⟨h1,h2,h3⟩:=h.step hxx;simp only[List.length_cons]at hk;obtain⟨z',hz'⟩:=ih (k+1) _ (.sh (fr x)) h1 (by omega) (λy hy=>hx y (List.mem_cons_of_mem _ hy));refine⟨z',?_⟩;have hg:0<(Int.gcd b x.2:Int):=ot (by omega);have hdiv:dZ b (Int.gcd b x.2:Int)=true:=pM (by omega) (Nat.lt_of_le_of_lt h.bd (sY (by omega)));have hb13:(b / (Int.gcd b x.2:Int)).natAbs<qD:=Nat.lt_of_le_of_lt (Nat.le_trans (Int.natAbs_ediv_le_natAbs _ _) h.bd) (sY (by omega));have hmul:dg (b / (Int.gcd b x.2:Int)) x.2=true:=dM (Nat.lt_of_lt_of_le hb13 nA) (Nat.lt_of_lt_of_le hxx.qN zV);rw[List.map_cons,c6 (ρ1:=[L,.sh (.int b),.sh (fr x)]) (ρ2:=[L,.sh (.int (eB b x)),.sh (fr x)]) rfl ?_]
  .exact hz'
  .rw[show fr x=.tup [.int x.1,.int x.2] from rfl]
   open_line with[iX,lW hdiv,fS hg,bW hmul]
   rfl
def AW(hl:xs.length<=60)(hx:∀x∈xs,gf x):m_shared_bottom [.lst (xs.map fr)]=.ok (.int (Fj xs)):=by
 obtain⟨z',hz⟩:=Dm (L:=.sh (.lst (xs.map fr))) xs 0 1 .no ⟨by decide,by decide⟩ (by omega) hx;open_line with[m_shared_bottom,gS,hz]
 rfl
def wI(b:Int):Option gN->D
 |none=>.non
 |some x=>.int (x.1*(b / x.2))
def eS(os:List (Option gN)):List gN:=os.filterMap id
def AA{os:List (Option gN)}:x∈eS os↔some x∈os:=by unfold eS;simp
def Be(hx:gf x)(hb:b.natAbs<qD):m_as_whole [fr x,.int b]=.ok (.int (x.1*(b / x.2))):=by
 have q1:=hx.q1;have hdiv:dZ b x.2=true:=C7 (by omega) (Nat.lt_of_lt_of_le hx.qN Iq);have hmul:dg x.1 (b / x.2)=true:=dM (Nat.lt_of_lt_of_le hx.pN zV) (Nat.lt_of_lt_of_le (Nat.lt_of_le_of_lt (Int.natAbs_ediv_le_natAbs _ _) hb) nA);rw[show fr x=.tup [.int x.1,.int x.2] from rfl];open_line with[m_as_whole,ql,lW hdiv,fS (show 0<x.2 by omega),bW hmul]
theorem gj:∀os:List (Option gN),(os.map br).filter (λd=>!(rD d))=(eS os).map fr
 |[]=>rfl
 |none::os=>by
  rw[List.map_cons,List.filter_cons_of_neg (by decide),gj os];rfl
 |some x::os=>by
  have:rD (br (some x))=false:=rfl;rw[List.map_cons,List.filter_cons_of_pos (by rw[this];rfl),gj os];rfl
def Bw{os:List (Option gN)}(hl:os.length<=60)(hx:∀x,some x∈os->gf x):m_on_one_scale [.lst (os.map br)]=.ok (.tup [.lst (os.map (wI (Fj (eS os)))),.int (Fj (eS os))]):=by
 have hxs:∀x∈eS os,gf x:=λx h=>hx x (AA.mp h);have hls:(eS os).length<=60:=Nat.le_trans (List.length_filterMap_le _ _) hl;have h1:=AW hls hxs;obtain⟨B,_,_⟩:=Dl hxs 1 0 ⟨by decide,by decide⟩;have hb:(Fj (eS os)).natAbs<qD:=Nat.lt_of_le_of_lt B.bd (sY (by omega));have c1:fB 1 [] (bF 0) (aa (ae 0) (dC (.non)) iA) (ae 0) [.sh (.lst (os.map br)),.no] (os.map br)=.ok (.lst ((eS os).map fr)):=by
  rw[mD (F:=id) (p:=λd=>!(rD d)) (by rw[List.length_map];omega)]
  .rw[List.map_id,gj]
  .intro d hd
   exact⟨[.sh d],rfl,rfl,λ_=>rfl⟩
 have c2:fB 1 [1] (bF 0) mYes (HU (aa (ae 0) (dC (.non)) lh) (dC (.non)) (au (ah (ae 0) (ah (ae 1) aG)) m_as_whole)) [.sh (.lst (os.map br)),.sh (.int (Fj (eS os)))] (os.map br)=.ok (.lst (os.map (wI (Fj (eS os))))):=by
  rw[wx (F:=λd=>match d with|.tup [.int p,.int q]=>.int (p*(Fj (eS os) / q))|_=>.non) (by rw[List.length_map];omega)]
  .congr 2
   rw[List.map_map];apply List.map_congr_left;intro o _;cases o<;>rfl
  .intro d hd
   obtain⟨o,ho,rfl⟩:=List.mem_map.mp hd;refine⟨[.sh (br o),.sh (.int (Fj (eS os)))],rfl,rfl,?_⟩;cases o with
   |none=>rfl
   |some x=>
    have hw:=Be (hx x ho) hb;rw[show fr x=.tup [.int x.1,.int x.2] from rfl]at hw;rw[show br (some x)=.tup [.int x.1,.int x.2] from rfl];open_line with[hw]
 open_line with[m_on_one_scale,iD,c1,h1,c2]
def JL:iW (fr x) (fr x)=.ok (.bl false):=by
 unfold iW;rw[if_pos ⟨yo x,yo x⟩,xJ];rfl
def uz(h1:c (gO ρ)=.ok (.bl true))(h2:s ρ=.ok (.nx ρ2)):b6 c s (n+1) ρ=b6 c s n ρ2:=by
 conv=>lhs;unfold b6
 rw[h1,h2];rfl
def qV(h1:c (gO ρ)=.ok (.bl false)):b6 c s (n+1) ρ=.ok (.nx ρ):=by
 conv=>lhs;unfold b6
 rw[h1];rfl
end Com
namespace DL
open PySem PySem.Spec PyProof.Rows L2
noncomputable def Ju(K:W.Frag) (E:XK) (He H0e Ha:Hp) (r:ai Fl) (D:jG):Prop:=match r with
 |.ok (.rt (.lst es))=>∀p us H Ha',aS He H0e H Ha'->He p=none->Ha' p=none->H p=some (.lst us)->Reps K Ha' es us->D.rt (.ref p) H
 |.exn x=>∀C ox H Ha',aS He H0e H Ha'->ye K Ha' x C ox->E C ox H
 |_=>False
def Mn(K:W.Frag)(E:XK)(He H0e:Hp)(g:am):TS:=λD σ H=>∃Ha ρ,cO K He H0e Ha σ H ρ/\Ju K E He H0e Ha (g ρ) D
structure Dx (X:Cx) (E:XK) (He H0e:Hp) (st:List Stmt) (g:am):Prop where
 o:ux X st (Mn X.K E He H0e g)
section
variable {X:Cx}{E:XK}{He H0e:Hp}{st:Stmt}{rest:List Stmt}{e:Expr}{es:List Expr}{f:al}{fa:Ev->ai (ac)}{s t:am}{pos:Pos}
def GD(t:am)(r:Fl):ai Fl:=match r with
 |.nx ρ=>t ρ
 |_=>.stuck
def rf(s t:am):am:=λρ=>(s ρ).bind (GD t)
def rP(h1:DS X E He H0e st s)(h2:Dx X E He H0e rest t):Dx X E He H0e (st::rest) (rf s t):=by
 refine⟨?_⟩;refine dI (eU h1.o h2.o) λD σ H z9=>?_;obtain⟨Ha,ρ,h,q⟩:=z9;refine⟨Ha,ρ,h,?_⟩
 unfold rf at q;cases e1:s ρ with
 |stuck|exn x=>rw[e1]at q;exact q
 |ok r=>
  rw[e1]at q;cases r with|nx ρ'=>exact λσ' H' Ha' s' h'=>⟨Ha',ρ',h',q⟩|rt d|bk ρ'|ct ρ'=>exact q.elim
end
def G9(r:Fl):ai D:=match r with
 |.rt (.lst es)=>.ok (.lst es)
 |_=>.stuck
def Am(n:Nat)(s:am)(ds:ac):ai D:=(s (ds.map Sl.sh++List.replicate (n-ds.length) .no)).bind G9
noncomputable def Jt(K:W.Frag) (E:XK) (H Ha:Hp) (r:ai D) (Q:VK):Prop:=match r with
 |.ok (.lst es)=>∀p us H' Ha',aS H Ha H' Ha'->H p=none->Ha' p=none->H' p=some (.lst us)->Reps K Ha' es us->Q (.ref p) H'
 |.exn x=>∀C ox H' Ha',aS H Ha H' Ha'->ye K Ha' x C ox->E C ox H'
 |_=>False
def I0(K:W.Frag)(n:Nat)(m:ac->ai D):Sp:=λvs H Q E=>vs.length=n/\∃Ha ds,aA Ha H/\Reps K Ha ds vs/\Jt K E H Ha (m ds) Q
def xG{K:W.Frag}{st:Stmt}{N ps:List Str}{k:Nat}(F:DJ K x qual st f fd)(S:eP N ps (defScope st))
  (hbody:∀(cdv:Value) (A:Around) (outer:List PySem.Env) (s0:Shared) (H Ha:Hp) (E:XK),cB k (A.deeper (envOfC qual (defScope st) s0.heap.objs.size f cdv)) ->
   Dx (ll CX0 P w K mg base N qual (defScope st) f cdv A outer s0 H E).nox E H Ha (defBody st) s):fM P w K mg base CX0 (k+1) f fd ps (I0 K ps.length (Am N.length s)):=by
 have hpl:ps.length<=N.length:=by have:=congrArg List.length S.pre;rw[List.length_take]at this;omega
 refine F.ok S (λvs H Q E h=>h.1) λcdv A outer s0 H vs Q E hr h=>?_;obtain⟨hn,Ha,ds,hs,hv,q⟩:=h;refine⟨_,(hbody cdv A outer s0 H Ha E hr).o,Ha,ds.map Sl.sh++List.replicate (N.length-ds.length) .no,?_,?_⟩
 .refine⟨aS.refl hs,md hv,λi d e=>?_,λi j d d' hij e=>?_,?_,OX.none qY nG⟩
  .by_cases hi:i<ds.length
   .rw[List.getElem?_append_left (by simpa using hi),List.getElem?_map]at e
    cases q:ds[i]? with|none|some d'=>rw[q]at e;cases e
   .rw[List.getElem?_append_right (by simpa using hi),List.getElem?_replicate]at e
    split at e<;>cases e
  .by_cases hi:i<ds.length
   .rw[List.getElem?_append_left (by simpa using hi),List.getElem?_map]at e
    cases q:ds[i]? with|none|some d'=>rw[q]at e;cases e
   .rw[List.getElem?_append_right (by simpa using hi),List.getElem?_replicate]at e
    split at e<;>cases e
  .unfold L2.start
   have:=hv.length;simp only[List.length_append,List.length_map,List.length_replicate];omega
 .unfold Am at q
  cases e1:s (ds.map Sl.sh++List.replicate (N.length-ds.length) .no) with
  |stuck|exn x=>rw[e1]at q;exact q
  |ok r=>
   rw[e1]at q;cases r with
   |rt d=>
    cases d with|lst es=>exact λp us H' Ha' g hp h0 hv' rr=>q p us H' Ha' g hp h0 hv' rr| _=>exact q.elim
   |_=>exact q.elim
section
variable {X:Cx}{E:XK}{He H0e:Hp}{e:Expr}{es:List Expr}{f:al}{fa:Ev->ai (ac)}{pos:Pos}
def E8{k n:Nat}{ps:List Str}(F:fM X.prog X.w X.K X.mg X.base CX k fn fd ps (I0 X.K n m))(hr:cB k X.A)(hg:Gl X x)(hm:X.mg x=some (.ref fn))
  (hk:W.keepIn X.K (.ref fn)=true)(hb:iL X.K fd ps [])(hx:ee CX X E)(ha:DA X E (e::es) fa)(hn:(e::es).length=n:=by rfl)(hl:∀ρ ds,fa ρ=.ok ds->ds.length=(e::es).length)
  (hdb:(x==("__debug__":Str))=false:=by decide)(he:starEach (e::es) X.env=(false,eval e X.env)::starEach es X.env:=by exact aN rfl)(hpl:(backTo pos (starEach es X.env)).any (·.1)=false:=by exact bw rfl) :
  DF X E (.Call (.Name x p) (e::es) [] pos) (au fa m):=by
 refine⟨?_⟩;refine aQ (jM F hr hg hm hk hb .nil hx ha.o hdb he hpl) λσ H Q h=>?_;obtain⟨Ha,ρ,hs,hr,q⟩:=h;refine⟨Ha,ρ,hs,hr,?_⟩;unfold au at q;cases e1:fa ρ with
 |stuck|exn x=>rw[e1]at q;exact q
 |ok ds=>
  rw[e1]at q;intro v H1 H01 g1 r1;refine⟨?_,H01,ds,g1.sub,by simpa using r1,?_⟩
  .have:=r1.length
   have:=hl ρ ds e1;simp only[List.append_nil];omega
  .replace q:match m ds with
    |.ok (.lst ds)=>∀p vs H' Ha',aS H Ha H' Ha'->H p=none->Ha' p=none->H' p=some (.lst vs)->Reps X.K Ha' ds vs->Q (.ref p) H'
    |.ok _=>False
    |.exn x=>∀C ox H' Ha',aS H Ha H' Ha'->ye X.K Ha' x C ox->E C ox H'
    |.stuck=>False:=q
   cases e2:m ds with
   |stuck=>rw[e2]at q;exact q|exn x=>rw[e2]at q;exact λC ox H' Ha' g ex=>q C ox H' Ha' (g1.trans g) ex
   |ok d=>
    rw[e2]at q;cases d with|lst es=>exact λp us H' Ha' g hp h0 hv rr=>q p us H' Ha' (g1.trans g) (g1.s.free hp) h0 hv rr| _=>exact q.elim
end
section
variable {X:Cx}{E:XK}{He H0e:Hp}{e a b:Expr}{es:List Expr}{f g:al}{fa:Ev->ai (ac)}{pos:Pos}
def Fe(x y:D):ai D:=match x,y with
 |.int i,.int j=>.ok (.int (if j<i then j else i))
 |_,_=>.stuck
def HY:iK X E (λxs H Q=>∃i j,xs=[.int i,.int j]/\Q (.int (if j<i then j else i)) H) (m2 Fe):=F7 λx y v u H Ha Q hs r r' q=>by
 cases x with
 |int i=>
  cases y with|int j=>exact⟨i,j,by rw[ar.mp r,ar.mp r'],bh hs q (ri _)⟩| _=>exact q.elim
 |_=>exact q.elim
end
end DL
namespace Cod
open PySem L2 DL Com
def Ig:AR (.int c)=.ok (.int (c.natAbs:Int)):=by
 show ai.ok (D.int (if c<0 then -c else c))=_
 congr 2
 split<;>omega
noncomputable def qm:am :=
 (aw (bE 2 (au (ah (ae 0) aG) (m1 AR)))
 (aw (bE 3 (ae 1))
 (aw (gq (iR 3) (aa (ae 3) (dC (.int 0)) iW)
 (aw (qG 2 3 (ah (ae 3) (ah (aa (ae 2) (ae 3) cN) aG)))
 ao))
 (aw (bB (au (ah (aa (ae 0) (ae 2) lj) (ah (aa (ae 1) (ae 2) lj) aG)) fR))
 ao))))
def aX:ac->ai D:=ck 4 qm
theorem vo{A B:Sl}:∀(n:Nat) (a b:Int),0<=a->0<=b->b.natAbs<n->b6 (aa (ae 3) (dC (.int 0)) iW) (aw (qG 2 3 (ah (ae 3) (ah (aa (ae 2) (ae 3) cN) aG))) ao) n [A,B,.sh (.int a),.sh (.int b)]=.ok (.nx [A,B,.sh (.int (Int.gcd a b:Int)),.sh (.int 0)])
 |0,a,b,_,_,h=>absurd h (Nat.not_lt_zero _)
 |n+1,a,b,ha,hb,h=>by
  by_cases h0:b=0
  .subst h0
   have hc:(aa (ae 3) (dC (.int 0)) iW) (gO [A,B,.sh (.int a),.sh (.int 0)])=.ok (.bl false):=by
    cases A<;>cases B<;>rfl
   rw[qV hc];have:((Int.gcd a 0:Nat):Int)=a:=by rw[Int.gcd_zero_right];omega
   rw[this]
  .have hc:(aa (ae 3) (dC (.int 0)) iW) (gO [A,B,.sh (.int a),.sh (.int b)])=.ok (.bl true):=by
    have:(b==0)=false:=beq_eq_false_iff_ne.mpr h0;cases A<;>cases B<;>open_line with[this]
   have f:=dY (a:=a) (b:=b) (by omega);have hb0:(b==0)=false:=beq_eq_false_iff_ne.mpr h0;rw[uz (ρ2:=[A,B,.sh (.int b),.sh (.int (a.fmod b))]) hc ?_,vo n b (a.fmod b) (by omega) f.1 (by omega)]
   .rw[oq]
   .cases A<;>cases B<;>open_line with[hb0]
def low_ok(hb:0<b)(h1:a.natAbs<qD)(h2:b.natAbs<qD):aX [.int a,.int b]=.ok (fr (bT a b)):=by
 have hg:0<(Int.gcd a b:Int):=jX (by omega);have hgn:(Int.gcd (a.natAbs:Int) b:Int)=(Int.gcd a b:Int):=by
  congr 1
 have hl:=vo (A:=.sh (.int a)) (B:=.sh (.int b)) (b.natAbs+1) (a.natAbs:Int) b (by omega) (by omega) (Nat.lt_succ_self _);rw[hgn]at hl;have hwh:∀(c:al) (s:am),gq (iR 3) c s [.sh (.int a),.sh (.int b),.sh (.int (a.natAbs:Int)),.sh (.int b)]=b6 c s (b.natAbs+1) [.sh (.int a),.sh (.int b),.sh (.int (a.natAbs:Int)),.sh (.int b)]:=λ_ _=>rfl;have d1:(Int.gcd a b:Int)∣a:=Int.gcd_dvd_left ..;have d2:(Int.gcd a b:Int)∣b:=Int.gcd_dvd_right ..;have q1:dZ a (Int.gcd a b:Int)=true:=pM (by omega) h1;have q2:dZ b (Int.gcd a b:Int)=true:=pM (by omega) h2;have e1:a.fdiv (Int.gcd a b:Int)=a / (Int.gcd a b:Int):=fS hg;have e2:b.fdiv (Int.gcd a b:Int)=b / (Int.gcd a b:Int):=fS hg;open_line with[aX,qm,Ig,hwh,hl,lW q1,lW q2,e1,e2]
 rfl
def S(cs:bi):Str:=⟨cs.toArray⟩
def S_inj(h:S a=S b):a=b:=by
 have:=congrArg (λs:Str=>s.cps.toList) h;simpa[S] using this
def Kj(a:bi):(S a).length=a.length:=HW a
structure IsNm (cs:bi):Prop where
 l1:1<=cs.length
 l8:cs.length<=8
 ab:∀x∈cs,mx x=true
def IsNm.nameB(h:IsNm cs):Com.nameB (S cs)=true:=by
 unfold Com.nameB;rw[Kj];simp only[Bool.and_eq_true,decide_eq_true_eq];exact⟨h.l1,h.l8,List.all_eq_true.mpr λx hx=>h.ab x (by simpa[S] using hx)⟩
def nmsD(css:List (bi)):ac:=css.map λcs=>D.str (S cs)
theorem nodup_le{α:Type}[DecidableEq α]:∀{l m:List α},l.Nodup->(∀x∈l,x∈m)->l.length<=m.length
 |[],_,_,_=>Nat.zero_le _
 |a::l,m,nd,h=>by
  rw[List.nodup_cons]at nd;have ha:=h a List.mem_cons_self;have:=nodup_le (l:=l) (m:=m.erase a) nd.2 λx hx=>by
   have hne:x≠a:=λz=>nd.1 (z▸hx);exact(List.mem_erase_of_ne hne).mpr (h x (List.mem_cons_of_mem _ hx))
  rw[List.length_erase_of_mem ha]at this;have:=List.length_pos_of_mem ha;simp only[List.length_cons];omega
def first(es:List Int)(m:Nat):bi:=(List.range m).map λj=>97+((es[2+j]?).getD 0).toNat
end Cod
namespace DL
open PySem PySem.Spec PyProof.Rows L2
def MD(x:D):ai D:=match x with
 |.lst ds=>.ok (.lst ds.reverse)
 |_=>.stuck
def mW(f:al)(lo hi:Ev->ai (Option Int)):al:=λρ=>(f ρ).bind λx=>(lo ρ).bind λl=>(hi ρ).bind λh=>match x with
 |.lst ds=>.ok (.lst (qP ds l h))
 |_=>.stuck
section
variable {X:Cx}{E:XK}{a:Expr}{f:al}{pos p2:Pos}
def we{lo hi:Option Expr}(ha:DE X E a f)(hl:DO X E lo fl)(hh:DO X E hi fh):DF X E (.Subscript a (.Slice lo hi none p2) pos) (mW f fl fh):=by
 refine⟨aQ (uR yn ha.o hl.o hh.o) λσ H Q z9=>?_⟩;obtain⟨Ha,ρ,hs,hr,q⟩:=z9;refine⟨Ha,ρ,hs,hr,?_⟩;unfold mW at q;cases e1:f ρ with
 |stuck|exn x=>rw[e1]at q;exact q
 |ok x=>
  rw[e1]at q;intro v H1 H01 g1 r1;refine⟨H01,ρ,g1.sub,hr.mono g1.z,?_⟩;simp only[ai.bind]at q;cases e2:fl ρ with
  |stuck=>rw[e2]at q;exact q|exn x=>rw[e2]at q;exact λC ox H' Ha' g' ex=>q C ox H' Ha' (g1.trans g') ex
  |ok l=>
   rw[e2]at q;intro H2 H02 g2;refine⟨H02,ρ,g2.sub,(hr.mono g1.z).mono g2.z,?_⟩;simp only[ai.bind]at q;cases e3:fh ρ with
   |stuck=>rw[e3]at q;exact q|exn x=>rw[e3]at q;exact λC ox H' Ha' g' ex=>q C ox H' Ha' ((g1.trans g2).trans g') ex
   |ok h=>
    rw[e3]at q;intro H3 H03 g3;simp only[ai.bind]at q;have g:=(g1.trans g2).trans g3;cases x with
    |lst ds=>
     simp only at q;obtain⟨b,vs,rfl,h1,h2⟩:=aE.mp ((r1.mono g2.z).mono g3.z);refine⟨b,vs,rfl,aA.sqL g3.sub h1,λp hp=>?_⟩;have h0:H03 p=none:=g3.sub.free hp;refine q p _ _ H03 (g.trans ⟨λb o q=>by rw[av (bj q hp)];exact q,aA.refl _,λb o q=>?_,λa h1 h2=>absurd h2 h1⟩) (g.s.free hp) h0 aC (h2.cut l h);rw[av (by intro z;subst z;rw[h0]at q;cases q)];exact g3.sub _ _ q
    |_=>exact q.elim
end
def L9{α:Type}{us:List α}(h:us.length=1):∃a,us=[a]:=List.length_eq_one_iff.mp h
def L8{α:Type}{us:List α}(h:us.length=2):∃a b,us=[a,b]:=by
 cases us with|nil=>cases h|cons a us=>obtain⟨b,rfl⟩:=L9 (Nat.succ.inj h);exact⟨a,b,rfl⟩
def MB{α:Type}{us:List α}(h:us.length=3):∃a b c,us=[a,b,c]:=by
 cases us with|nil=>cases h|cons a us=>obtain⟨b,c,rfl⟩:=L8 (Nat.succ.inj h);exact⟨a,b,c,rfl⟩
def xI(a:Addr)(H:Hp):Hp:=λb=>if b=a then none else H b
def cU(h:b≠a):xI a H b=H b:=if_neg h
def cJ:xI a H a=none:=if_pos rfl
structure fF (K:W.Frag) (He H0e Ha:Hp) (σ:L2.St) (H:Hp) (ρ:Ev) (a:Addr) (st:ac) (vs:ad):Prop where
 ha:He a=none
 h0:H0e a=none
 hl:H a=some (.lst vs)
 r:Reps K Ha st vs
 s:cO K (upd He a (.lst vs)) H0e Ha σ H ρ
def OX.he{K:W.Frag}(hn:∀b,He b=Option.none->He' b=Option.none)(h:OX K He Ha σ H ρ):OX K He' Ha σ H ρ:=⟨λi j ds e=>by
 obtain⟨a,p,h1,⟨vs,es,us,r1,r2,r3,r⟩,h2⟩:=h.1 i j ds e;exact⟨a,p,h1,⟨vs,es,us,hn _ r1,r2,hn _ r3,r⟩,h2⟩,h.2⟩
section
variable {K:W.Frag}{He H0e Ha H:Hp}{σ:L2.St}{ρ:Ev}{a:Addr}{st st':ac}{vs us:ad}
def fF.n0(h:fF K He H0e Ha σ H ρ a st vs):Ha a=none:=by
 cases q:Ha a with
 |none=>rfl
 |some o=>
  have:=h.s.g.nw a (by rw[q];simp) h.h0;rw[aC]at this;cases this
def fF.back(h:fF K He H0e Ha σ H ρ a st vs)(z:aA Ha Ha')(s':cO K (upd He a (.lst vs)) H0e Ha' σ' H' ρ'):fF K He H0e Ha' σ' H' ρ' a st vs :=
 ⟨h.ha,h.h0,s'.g.s _ _ aC,h.r.mono z,s'⟩
def fF.change(h:fF K He H0e Ha σ H ρ a st vs)(g:aS (xI a H) Ha H' Ha')(n:Ha' a=none)(hl:H' a=some (.lst us))(r:Reps K Ha' st' us):fF K He H0e Ha' σ H' ρ a st' us:=by
 have hne:∀b,upd He a (.lst us) b=none->b≠a/\He b=none:=λb e=>by
  by_cases c:b=a
  .subst c;rw[aC]at e;cases e
  .rw[av c]at e;exact⟨c,e⟩
 have hnn:∀b,upd He a (.lst vs) b=none->upd He a (.lst us) b=none:=λb e=>by
  by_cases c:b=a
  .subst c;rw[aC]at e;cases e
  .rw[av c]at e ⊢;exact e
 have gone:∀b o,b≠a->H b=some o->H' b=some o:=λb o c e=>g.s _ _ (by rw[cU c];exact e);have n':∀b,Ha b=none->(∃o,H b=some o/\b≠a)->Ha' b=none:=λb e ⟨o,e1,c⟩=>by
  cases q:Ha' b with
  |none=>rfl
  |some u=>
   have:=g.nw b (by rw[q];simp) e;rw[cU c,e1]at this;cases this
 refine⟨h.ha,h.h0,hl,r,⟨⟨λb o e=>?_,h.s.g.z.trans g.z,g.sub,λb h1 h2=>?_⟩,h.s.rd.mono g.z,λi d e=>?_,h.s.ap,h.s.ln,(h.s.ex.he hnn).upd (λj s e=>.inl ⟨e,rfl⟩) g.z (λb ws hb e=>gone b _ (hne b hb).1 e) λp ws hp q0 hq _=>⟨gone p _ (hne p hp).1 hq,n' p q0 ⟨_,hq,(hne p hp).1⟩⟩⟩⟩
 .by_cases c:b=a
  .subst c;rw[aC]at e;cases e;exact hl
  .rw[av c]at e
   exact gone b o c (h.s.g.s _ _ (by rw[av c];exact e))
 .by_cases c:b=a
  .subst c;exact absurd n h1
  .rw[av c]
   cases q:Ha b with
   |some u=>
    have:=h.s.g.nw b (by rw[q];simp) h2;rw[av c]at this;exact this
   |none=>
    have:=g.nw b h1 q;rw[cU c]at this;cases q2:He b with|none=>rfl|some u=>rw[h.s.g.s b u (by rw[av c];exact q2)]at this;cases this
 .obtain⟨b,k1,k2,k3,k4⟩:=h.s.ow i d e
  cases d with
  |lst ds=>
   obtain⟨ws,k5,k6⟩:=k4;have c:b≠a:=(hne b (hnn b k2)).1;exact⟨b,k1,hnn b k2,n' b k3 ⟨_,k5,c⟩,ws,gone b _ c k5,k6.mono g.z⟩
  |dic ks ds=>
   obtain⟨ws,k5,kl,k6⟩:=k4;have c:b≠a:=(hne b (hnn b k2)).1;exact⟨b,k1,hnn b k2,n' b k3 ⟨_,k5,c⟩,ws,gone b _ c k5,kl,k6.mono g.z⟩
  |_=>exact k4.elim
end
noncomputable def tM(K:W.Frag) (He H0e:Hp) (a:Addr) (f:Ev->ac->ai (D×ac)):TE:=λσ H Q=>∃Ha ρ st vs,fF K He H0e Ha σ H ρ a st vs/\match f ρ st with
 |.ok (d,st')=>∀v H' Ha' us,aA Ha Ha'->fF K He H0e Ha' σ H' ρ a st' us->Rep K Ha' d v->Q v H'
 |.exn _=>False
 |.stuck=>False
noncomputable def Mr(K:W.Frag) (He H0e:Hp) (a:Addr) (f:Ev->ac->ai (ac×ac)):TA:=λσ H Q=>∃Ha ρ st vs,fF K He H0e Ha σ H ρ a st vs/\match f ρ st with
 |.ok (ds,st')=>∀xs H' Ha' us,aA Ha Ha'->fF K He H0e Ha' σ H' ρ a st' us->Reps K Ha' ds xs->Q xs H'
 |.exn _=>False
 |.stuck=>False
noncomputable def Mp(K:W.Frag) (He H0e:Hp) (a:Addr) (f:Ev->ac->ai (D×ac)):TT:=λσ H Q=>∃Ha ρ st vs,fF K He H0e Ha σ H ρ a st vs/\match f ρ st with
 |.ok (.bl b,st')=>∀H' Ha' us,aA Ha Ha'->fF K He H0e Ha' σ H' ρ a st' us->Q b H'
 |.ok _=>False
 |.exn _=>False
 |.stuck=>False
structure DM (X:Cx) (He H0e:Hp) (a:Addr) (e:Expr) (f:Ev->ac->ai (D×ac)):Prop where
 o:PE X e (tM X.K He H0e a f)
structure Iv (X:Cx) (He H0e:Hp) (a:Addr) (es:List Expr) (f:Ev->ac->ai (ac×ac)):Prop where
 o:PA X es (Mr X.K He H0e a f)
structure LL (X:Cx) (He H0e:Hp) (a:Addr) (e:Expr) (f:Ev->ac->ai (D×ac)):Prop where
 o:PT X e (Mp X.K He H0e a f)
def mP(f:al):Ev->ac->ai (D×ac):=λρ st=>(f ρ).bind λd=>.ok (d,st)
def rJ(st:ac)(d:D):ai (D×ac):=if tT d=true then .ok (d,st) else .stuck
def ik(s:Option Sl)(a:Addr):Bool:=match s with
 |some (.pt b)=>b==a
 |_=>false
def vw(i:Nat)(ρ:Ev)(st:ac):Ev:=(gO ρ).set i (.sh (.lst st))
def mV(i:Nat)(a:Addr)(f:al):Ev->ac->ai (D×ac):=λρ st=>if ik ρ[i]? a=true then(f (vw i ρ st)).bind (rJ st) else .stuck
section
variable {X:Cx}{E:XK}{He H0e:Hp}{a:Addr}{e b:Expr}{es:List Expr}{pos:Pos}{f:al}{fm gm:Ev->ac->ai (D×ac)}{fa:Ev->ac->ai (ac×ac)}
def aO(he:DE X E e f):DM X He H0e a e (mP f):=⟨aQ he.o λσ H Q ⟨Ha,ρ,st,vs,h,q⟩=>⟨Ha,ρ,h.s.g.sub,h.s.rd,by
 unfold mP at q;cases e1:f ρ with
 |stuck=>rw[e1]at q;exact q|exn x=>rw[e1]at q;exact q.elim
 |ok d=>
  rw[e1]at q;exact λv H' Ha' g rp=>q v H' Ha' vs g.z (h.back g.z (h.s.grow g)) rp⟩⟩
def fF.view{K:W.Frag}{st:ac}(h:fF K He H0e Ha σ H ρ a st vs)(hp:ik ρ[i]? a=true):aA (upd (frz (upd He a (.lst vs)) Ha H) a (.lst vs)) H/\aA (frz (upd He a (.lst vs)) Ha H) (upd (frz (upd He a (.lst vs)) Ha H) a (.lst vs))/\Reads K (upd (frz (upd He a (.lst vs)) Ha H) a (.lst vs)) σ (vw i ρ st):=by
 have hz:frz (upd He a (.lst vs)) Ha H a=none:=by unfold frz;rw[aC];exact h.n0
 have z:aA (frz (upd He a (.lst vs)) Ha H) (upd (frz (upd He a (.lst vs)) Ha H) a (.lst vs)):=λb o e=>by rw[av (by intro z;subst z;rw[hz]at e;cases e)];exact e
 refine⟨λb o e=>?_,z,λj d e=>?_⟩
 .by_cases c:b=a
  .subst c;rw[aC]at e;cases e;exact h.hl
  .rw[av c]at e;exact h.s.frz_le _ _ e
 .unfold vw at e
  by_cases c:i=j
  .subst c
   unfold ik at hp;cases q:ρ[i]? with
   |none=>rw[q]at hp;cases hp
   |some s=>
    rw[q]at hp;cases s with
    |pt b=>
     have hb:b=a:=eq_of_beq hp;subst hb;have hil:i<(gO ρ).length:=by unfold gO;rw[List.length_map];exact(List.getElem?_eq_some_iff.mp q).1
     rw[List.getElem?_set_self hil]at e;cases e;exact⟨_,h.s.ex.2 i b q,aE.mpr ⟨b,vs,rfl,d9.of aC,(h.r.mono h.s.frz_sub).mono z⟩⟩
    |_=>cases hp
  .rw[List.getElem?_set_ne c]at e
   obtain⟨v,h1,h2⟩:=h.s.looks j d e;exact⟨v,h1,h2.mono z⟩
def fF.behind{K:W.Frag}{st:ac}(h:fF K He H0e Ha σ H ρ a st vs)(g:aS H (upd (frz (upd He a (.lst vs)) Ha H) a (.lst vs)) H' J):aA Ha J/\aA Ha (gb Ha J)/\fF K He H0e (gb Ha J) σ H' ρ a st vs:=by
 have hz:frz (upd He a (.lst vs)) Ha H a=none:=by unfold frz;rw[aC];exact h.n0
 have z0:aA (frz (upd He a (.lst vs)) Ha H) (upd (frz (upd He a (.lst vs)) Ha H) a (.lst vs)):=λb o e=>by rw[av (by intro z;subst z;rw[hz]at e;cases e)];exact e
 have hJ:aA Ha J:=h.s.frz_sub.trans (z0.trans g.z);have z:aA Ha (gb Ha J):=λb o e=>by unfold gb;rw[e]
 refine⟨hJ,z,h.back z ?_⟩;have ja:J a=some (.lst vs):=g.z _ _ aC;have g':aS H (frz (upd He a (.lst vs)) Ha H) H' (xI a J):=⟨g.s,λb o e=>by
   have c:b≠a:=by intro c;subst c;rw[hz]at e;cases e
   rw[cU c];exact g.z _ _ (z0 _ _ e),λb o e=>by
   by_cases c:b=a
   .subst c;rw[cJ]at e;cases e
   .rw[cU c]at e;exact g.sub _ _ e,λb h1 h2=>by
   by_cases c:b=a
   .subst c;exact absurd cJ h1
   .rw[cU c]at h1;exact g.nw b h1 (by rw[av c];exact h2)⟩
 have hs:=h.s.behind g';have e:gb Ha (xI a J)=gb Ha J:=by
  funext b;unfold gb
  by_cases c:b=a
  .subst c;rw[h.n0,cJ,ja]
  .rw[cU c]
 rw[e]at hs;exact hs
def kZ(he:DE X E e f):DM X He H0e a e (mV i a f):=⟨aQ he.o λσ H Q z9=>by
 obtain⟨Ha,ρ,st,vs,h,q⟩:=z9;unfold mV at q
 by_cases hp:ik ρ[i]? a=true
 .rw[if_pos hp]at q
  obtain⟨v1,v2,v3⟩:=h.view hp;refine⟨_,vw i ρ st,v1,v3,?_⟩;cases e1:f (vw i ρ st) with
  |stuck=>rw[e1]at q;exact q|exn x=>rw[e1]at q;exact q.elim
  |ok d=>
   rw[e1]at q;intro v H' J g rp;obtain⟨hJ,z,hm⟩:=h.behind g;replace q:match rJ st d with
    |.ok (d,st')=>∀v H' Ha' us,aA Ha Ha'->fF X.K He H0e Ha' σ H' ρ a st' us->Rep X.K Ha' d v->Q v H'
    |.exn _=>False
    |.stuck=>False:=q
   unfold rJ at q
   by_cases fl:tT d=true
   .rw[if_pos fl]at q
    exact q v H' (gb Ha J) vs z hm (rp.flat_to (Fo hJ) fl)
   .rw[if_neg fl]at q;exact q.elim
 .rw[if_neg hp]at q;exact q.elim⟩
def mB(f g:Ev->ac->ai (D×ac))(op:D->D->ai D):Ev->ac->ai (D×ac):=λρ st=>(f ρ st).bind λp=>(g ρ p.2).bind λq=>(op p.1 q.1).bind λd=>.ok (d,q.2)
def gi(ho:qC X.K E r op)(σ:L2.St)(H:Hp)(Q:VK)(h:tM X.K He H0e a (mB fm gm op) σ H Q):Iy r (tM X.K He H0e a fm) (tM X.K He H0e a gm) σ H Q:=by
 obtain⟨Ha,ρ,st,vs,h,q⟩:=h;refine⟨Ha,ρ,st,vs,h,?_⟩;unfold mB at q;cases e1:fm ρ st with
 |stuck|exn x=>rw[e1]at q;exact q
 |ok p=>
  obtain⟨x,s1⟩:=p;rw[e1]at q;intro v H1 H01 us z1 h1 r1;refine⟨H01,ρ,s1,us,h1,?_⟩;simp only[ai.bind]at q;cases e2:gm ρ s1 with
  |stuck|exn x=>rw[e2]at q;exact q
  |ok p2=>
   obtain⟨y,s2⟩:=p2;rw[e2]at q;intro u H2 H02 us2 z2 h2 r2;refine ho x y v u H2 H02 Q h2.s.g.sub (r1.mono z2) r2 ?_;simp only at q;cases e3:op x y with
   |stuck=>rw[e3]at q;exact q|exn x=>rw[e3]at q;exact q.elim
   |ok d=>
    rw[e3]at q;exact λv' H' Ha' g rp=>q v' H' Ha' us2 ((z1.trans z2).trans g.z) (h2.back g.z (h2.s.grow g)) rp
def F4(h:dW X (binaryOp op) r)(ho:qC X.K E r o)(ha:DM X He H0e a l fm)(hb:DM X He H0e a b gm):DM X He H0e a (.BinOp l op b pos) (mB fm gm o):=⟨aQ (B0 h ha.o hb.o) (gi ho)⟩
def HJ(h:dW X (compareOp op) r)(ho:qC X.K E r o)(ha:DM X He H0e a l fm)(hb:DM X He H0e a b gm)(hm:behindInMarks op b=false):DM X He H0e a (.Compare l [op] [b] pos) (mB fm gm o):=⟨aQ (yE h ha.o hb.o hm) (gi ho)⟩
def Ka(h:Dv X r)(ho:qC X.K E r o)(ha:DM X He H0e a l fm)(hb:DM X He H0e a b gm)(hs:gM b:=by intro _ _;rfl):DM X He H0e a (.Subscript l b pos) (mB fm gm o):=⟨aQ (yD h ha.o hb.o hs) (gi ho)⟩
def dh:Ev->ac->ai (ac×ac):=λ_ st=>.ok ([],st)
def bO(f:Ev->ac->ai (D×ac))(fa:Ev->ac->ai (ac×ac)):Ev->ac->ai (ac×ac):=λρ st=>(f ρ st).bind λp=>(fa ρ p.2).bind λq=>.ok (p.1::q.1,q.2)
def bD:Iv X He H0e a [] dh:=⟨jO eW λσ H Q ⟨Ha,ρ,st,vs,h,q⟩=>q [] H Ha vs (aA.refl _) h Reps.nil⟩
def bc(ha:DM X He H0e a e fm)(hr:Iv X He H0e a es fa)(hs:starEach (e::es) X.env=(false,eval e X.env)::starEach es X.env:=by exact aN rfl):Iv X He H0e a (e::es) (bO fm fa):=⟨jO (cx ha.o hr.o hs) λσ H Q ⟨Ha,ρ,st,vs,h,q⟩=>⟨Ha,ρ,st,vs,h,by
 unfold bO at q;cases e1:fm ρ st with
 |stuck|exn x=>rw[e1]at q;exact q
 |ok p=>
  obtain⟨x,s1⟩:=p;rw[e1]at q;intro v H1 H01 us z1 h1 r1;refine⟨H01,ρ,s1,us,h1,?_⟩;simp only[ai.bind]at q;cases e2:fa ρ s1 with
  |stuck|exn x=>rw[e2]at q;exact q
  |ok p2=>
   obtain⟨ys,s2⟩:=p2;rw[e2]at q;exact λxs H2 H02 us2 z2 h2 r2=>q _ H2 H02 us2 (z1.trans z2) h2 (Reps.cons (r1.mono z2) r2)⟩⟩
def mA(fa:Ev->ac->ai (ac×ac))(m:ac->ai D):Ev->ac->ai (D×ac):=λρ st=>(fa ρ st).bind λp=>(m p.1).bind λd=>.ok (d,p.2)
end
inductive c8 where
 |nx (ρ:Ev) (st:ac)|rt (d:D) (st:ac)|bk (ρ:Ev) (st:ac)|ct (ρ:Ev) (st:ac)
structure Kn (K:W.Frag) (He H0e Ha H:Hp) (a:Addr) (st:ac):Prop where
 g:aS He H0e H Ha
 n:Ha a=none
 l:∃us,H a=some (.lst us)/\Reps K Ha st us
noncomputable def dX(K:W.Frag) (He H0e:Hp) (a:Addr) (Ha:Hp) (r:ai c8) (D:jG):Prop:=match r with
 |.ok (.nx ρ st)=>∀σ H Ha' vs,aA Ha Ha'->fF K He H0e Ha' σ H ρ a st vs->D.nx σ H
 |.ok (.rt d st)=>∀v H Ha',aA Ha Ha'->Kn K He H0e Ha' H a st->Rep K Ha' d v->D.rt v H
 |.ok (.bk ρ st)=>∀σ H Ha' vs,aA Ha Ha'->fF K He H0e Ha' σ H ρ a st vs->D.bk σ H
 |.ok (.ct ρ st)=>∀σ H Ha' vs,aA Ha Ha'->fF K He H0e Ha' σ H ρ a st vs->D.ct σ H
 |.exn _=>False
 |.stuck=>False
def dX.grow{K:W.Frag}{D:jG}(h:dX K He H0e a Ha r D)(s:aA Ha Hb):dX K He H0e a Hb r D:=by
 cases r with
 |ok f=>
  cases f with|nx ρ st=>exact λσ H Ha' vs s'=>h σ H Ha' vs (s.trans s')|rt d st=>exact λv H Ha' s'=>h v H Ha' (s.trans s')|bk ρ st=>exact λσ H Ha' vs s'=>h σ H Ha' vs (s.trans s')|ct ρ st=>exact λσ H Ha' vs s'=>h σ H Ha' vs (s.trans s')
 |exn x=>exact h
 |stuck=>exact h
def K2(K:W.Frag)(He H0e:Hp)(a:Addr)(g:Ev->ac->ai c8):TS:=λD σ H=>∃Ha ρ st vs,fF K He H0e Ha σ H ρ a st vs/\dX K He H0e a Ha (g ρ st) D
structure SM (X:Cx) (He H0e:Hp) (a:Addr) (st:Stmt) (g:Ev->ac->ai c8):Prop where
 o:PS X st (K2 X.K He H0e a g)
structure Ga (X:Cx) (He H0e:Hp) (a:Addr) (st:List Stmt) (g:Ev->ac->ai c8):Prop where
 o:ux X st (K2 X.K He H0e a g)
section
variable {X:Cx}{E:XK}{He H0e:Hp}{a:Addr}{st:Stmt}{rest:List Stmt}{e b:Expr}{es:List Expr}{pos:Pos}{f:al}{fm gm:Ev->ac->ai (D×ac)}{s t:Ev->ac->ai c8}
def dN:Ev->ac->ai c8:=λρ st=>.ok (.nx ρ st)
def yT(t:Ev->ac->ai c8)(r:c8):ai c8:=match r with
 |.nx ρ st=>t ρ st
 |r=>.ok r
def b7(s t:Ev->ac->ai c8):Ev->ac->ai c8:=λρ st=>(s ρ st).bind (yT t)
def cP:Ga X He H0e a [] dN:=⟨dI m6 λD σ H ⟨Ha,ρ,st,vs,h,q⟩=>q σ H Ha vs (aA.refl _) h⟩
def aK(h1:SM X He H0e a st s)(h2:Ga X He H0e a rest t):Ga X He H0e a (st::rest) (b7 s t):=by
 refine⟨?_⟩;refine dI (eU h1.o h2.o) λD σ H z9=>?_;obtain⟨Ha,ρ,st,vs,h,q⟩:=z9;refine⟨Ha,ρ,st,vs,h,?_⟩
 unfold b7 at q;cases e1:s ρ st with
 |stuck|exn x=>rw[e1]at q;exact q
 |ok r=>
  rw[e1]at q;cases r with|nx ρ' st'=>exact λσ' H' Ha' vs' s' h'=>⟨Ha',ρ',st',vs',h',dX.grow (r:=t ρ' st') q s'⟩|rt d st'|bk ρ' st'|ct ρ' st'=>exact q
def xy(st:ac)(r:Fl):ai c8:=match r with
 |.nx ρ=>.ok (.nx ρ st)
 |.bk ρ=>.ok (.bk ρ st)
 |.ct ρ=>.ok (.ct ρ st)
 |.rt _=>.stuck
def eI(g:am):Ev->ac->ai c8:=λρ st=>(g ρ).bind (xy st)
def cZ(h:∀vs,DS X E (upd He a (.lst vs)) H0e st g):SM X He H0e a st (eI g):=by
 refine⟨?_⟩;rintro pins sh σ H D I ⟨Ha,ρ,st,vs,hm,q⟩;refine(h vs).o pins sh σ H D I ⟨Ha,ρ,hm.s,?_⟩;unfold eI at q;cases e1:g ρ with
 |stuck=>rw[e1]at q;exact q|exn x=>rw[e1]at q;exact q.elim
 |ok r=>
  rw[e1]at q;cases r with|nx ρ'=>exact λσ' H' Ha' z h'=>q σ' H' Ha' vs z (hm.back z h')|bk ρ'=>exact λσ' H' Ha' z h'=>q σ' H' Ha' vs z (hm.back z h')|ct ρ'=>exact λσ' H' Ha' z h'=>q σ' H' Ha' vs z (hm.back z h')|rt d=>exact q.elim
def Ct(i:Nat)(ρ:Ev)(p:D×ac):ai c8:=.ok (.nx (ρ.set i (.sh p.1)) p.2)
def eD(i:Nat)(f:Ev->ac->ai (D×ac)):Ev->ac->ai c8:=λρ st=>(f ρ st).bind (Ct i ρ)
def cR(hN:X.N.Nodup)(hi:X.N[i]?=some x)(hx:A1 X.env.scope x)(he:DM X He H0e a e fm)(hs:swapsWith e (some (.Name x pos')) pos.line X.env=pure false:=by rfl)
  (hf:X.fn x=true∨X.env.scope.names.lookup x=some .local := by first|exact .inl rfl|exact .inr rfl|assumption):SM X He H0e a (.Assign [.Name x pos'] e pos) (eD i fm):=by
 refine⟨?_⟩;refine bz (lM hN hi hx he.o hs hf) λD σ H z9=>?_;obtain⟨Ha,ρ,st,vs,h,q⟩:=z9;refine⟨Ha,ρ,st,vs,h,?_⟩
 unfold eD at q;cases e1:fm ρ st with
 |stuck|exn x=>rw[e1]at q;exact q
 |ok p=>
  obtain⟨d,st'⟩:=p;rw[e1]at q;exact λv H' Ha' us z h' rp=>q _ H' Ha' us z (h'.back (aA.refl _) (h'.s.put rp))
def Cu(p:D×ac):ai c8:=.ok (.rt p.1 p.2)
def EM(f:Ev->ac->ai (D×ac)):Ev->ac->ai c8:=λρ st=>(f ρ st).bind Cu
def fF.out{K:W.Frag}{st:ac}(h:fF K He H0e Ha σ H ρ a st vs)(z:aA Ha J)(hs:aA J H)(hw:∀b,J b≠none->Ha b=none->upd He a (.lst vs) b=none)(n:J a=none):Kn K He H0e J H a st :=
 ⟨⟨λb o e=>h.s.g.s _ _ (by rw[av (by intro c;subst c;rw[h.ha]at e;cases e)];exact e),h.s.g.z.trans z,hs,λb h1 h2=>by
  have key:upd He a (.lst vs) b=none:=by
   cases q:Ha b with|none=>exact hw b h1 q|some o=>exact h.s.g.nw b (by rw[q];simp) h2
  by_cases c:b=a
  .subst c;exact h.ha
  .rw[av c]at key;exact key⟩,n,vs,h.hl,h.r.mono z⟩
def Gw(he:DM X He H0e a e fm):SM X He H0e a (.Return (some e) pos) (EM fm):=by
 refine⟨?_⟩;refine bz (nQ he.o) λD σ H z9=>?_;obtain⟨Ha,ρ,st,vs,h,q⟩:=z9;refine⟨Ha,ρ,st,vs,h,?_⟩
 unfold EM at q;cases e1:fm ρ st with
 |stuck|exn x=>rw[e1]at q;exact q
 |ok p=>
  obtain⟨d,st'⟩:=p;rw[e1]at q;exact λv H' Ha' us z h' rp=>q v H' Ha' z (h'.out (aA.refl _) h'.s.g.sub (λb h1 h2=>absurd h2 h1) h'.n0) rp
def n8(f:al):Ev->ac->ai c8:=λρ st=>(f (gO ρ)).bind λd=>.ok (.rt d st)
def m4(he:DE X E e f):SM X He H0e a (.Return (some e) pos) (n8 f):=by
 refine⟨?_⟩;refine bz (nQ he.o) λD σ H z9=>?_;obtain⟨Ha,ρ,st,vs,h,q⟩:=z9;refine⟨frz (upd He a (.lst vs)) Ha H,gO ρ,h.s.frz_le,h.s.looks,?_⟩
 unfold n8 at q;cases e1:f (gO ρ) with
 |stuck=>rw[e1]at q;exact q|exn x=>rw[e1]at q;exact q.elim
 |ok d=>
  rw[e1]at q;intro v H' J g rp;have hz:frz (upd He a (.lst vs)) Ha H a=none:=by unfold frz;rw[aC];exact h.n0
  have z:aA Ha J:=h.s.frz_sub.trans g.z;have n:J a=none:=by
   cases qq:J a with|none=>rfl|some o=>have:=g.nw a (by rw[qq];simp) hz;rw[h.hl]at this;cases this
  have hg:=h.s.frz_grow.trans g;refine q v H' J z ⟨⟨λb o e=>hg.s _ _ (by rw[av (by intro c;subst c;rw[h.ha]at e;cases e)];exact e),hg.z,hg.sub,λb h1 h2=>?_⟩,n,vs,g.s _ _ h.hl,h.r.mono z⟩ rp;have key:=hg.nw b h1 h2
  by_cases c:b=a
  .subst c;exact h.ha
  .rw[av c]at key;exact key
def EN(s t:Ev->ac->ai c8)(ρ:Ev)(p:D×ac):ai c8:=match p.1 with
 |.bl b=>if b=true then s ρ p.2 else t ρ p.2
 |_=>.stuck
def Hj(c:Ev->ac->ai (D×ac))(s t:Ev->ac->ai c8):Ev->ac->ai c8:=λρ st=>(c ρ st).bind (EN s t ρ)
def yl(hc:LL X He H0e a c fm)(ha:Ga X He H0e a sa s)(hb:Ga X He H0e a sb t):SM X He H0e a (.If c sa sb pos) (Hj fm s t):=by
 refine⟨?_⟩;refine bz (FI hc.o ha.o hb.o) λD σ H z9=>?_;obtain⟨Ha,ρ,st,vs,h,q⟩:=z9;refine⟨Ha,ρ,st,vs,h,?_⟩
 unfold Hj at q;cases e1:fm ρ st with
 |stuck|exn x=>rw[e1]at q;exact q
 |ok p=>
  obtain⟨d,st'⟩:=p;rw[e1]at q;cases d with
  |bl b=>
   intro H' Ha' us z h';replace q:dX X.K He H0e a Ha (if b=true then s ρ st' else t ρ st') D:=q;cases b with|true=>rw[if_pos rfl]at q ⊢;exact⟨Ha',ρ,st',us,h',q.grow z⟩|false=>rw[if_neg Bool.false_ne_true]at q ⊢;exact⟨Ha',ρ,st',us,h',q.grow z⟩
  |_=>exact q.elim
end
section
variable {X:Cx}{E:XK}{He H0e:Hp}{a:Addr}{st:Stmt}{e l b:Expr}{rest es:List Expr}{pos:Pos}{f:al}{fm gm:Ev->ac->ai (D×ac)}{s t:Ev->ac->ai c8}
def uc(h:dW X (compareOp op) r)(ho:qC X.K E r o)(ha:DM X He H0e a l fm)(hb:DM X He H0e a b gm)(hm:behindInMarks op b=false):LL X He H0e a (.Compare l [op] [b] pos) (mB fm gm o):=by
 refine⟨?_⟩;refine iM (yy h ha.o hb.o hm) λσ H Q h=>?_;have w:tM X.K He H0e a (mB fm gm o) σ H λx H'=>∃k,x=.bl k/\Q k H':=by
  obtain⟨Ha,ρ,st,vs,h,q⟩:=h;refine⟨Ha,ρ,st,vs,h,?_⟩;cases e1:mB fm gm o ρ st with
  |stuck|exn x=>rw[e1]at q;exact q
  |ok p=>
   obtain⟨d,st'⟩:=p;rw[e1]at q;intro v H1 H01 us z h1 r1;cases d with|bl b=>rw[aH.mp r1];exact⟨b,rfl,q H1 H01 us z h1⟩| _=>exact q.elim
 exact gi ho σ H _ w
def Ky(i:Nat)(a:Addr)(f:al):Ev->ac->ai (D×ac):=λρ st=>if ik ρ[i]? a=true then(f (vw i ρ st)).bind λd=>.ok (d,st) else .stuck
def C1(h:DT X E e f):LL X He H0e a e (Ky i a f):=⟨iM h.o λσ H Q z9=>by
 obtain⟨Ha,ρ,st,vs,h,q⟩:=z9;unfold Ky at q
 by_cases hp:ik ρ[i]? a=true
 .rw[if_pos hp]at q
  obtain⟨v1,v2,v3⟩:=h.view hp;refine⟨_,vw i ρ st,v1,v3,?_⟩;cases e1:f (vw i ρ st) with
  |stuck=>rw[e1]at q;exact q|exn x=>rw[e1]at q;exact q.elim
  |ok d=>
   rw[e1]at q;cases d with|bl b=>exact λH' J g=>q H' Ha vs (aA.refl _) (h.back (aA.refl _) (h.s.same g.s))| _=>exact q.elim
 .rw[if_neg hp]at q;exact q.elim⟩
noncomputable def forM(tg:Ev->D->ai Ev) (body:Ev->ac->ai c8):ac->Ev->ac->ai c8
 |[],ρ,st=>.ok (.nx ρ st)
 |d::r,ρ,st=>(tg ρ d).bind λρ1=>(body ρ1 st).bind λx=>match x with
  |.nx ρ2 s2=>forM tg body r ρ2 s2
  |.ct ρ2 s2=>forM tg body r ρ2 s2
  |.bk ρ2 s2=>.ok (.nx ρ2 s2)
  |.rt d s=>.ok (.rt d s)
def Lb(K:W.Frag)(He H0e:Hp)(a:Addr)(tg:Ev->D->ai Ev):TG:=λv σ H Q=>∃Ha ρ st vs d,fF K He H0e Ha σ H ρ a st vs/\Rep K Ha d v/\match tg ρ d with
  |.ok ρ'=>∀σ' H' Ha',aA Ha Ha'->fF K He H0e Ha' σ' H' ρ' a st vs->Q σ' H'
  |_=>False
def Jw(hg:∀vs,DG X E (upd He a (.lst vs)) H0e tgt tg):PG X tgt (Lb X.K He H0e a tg):=by
 rintro pins sh σ H v u Q I r ⟨Ha,ρ,st,vs,d,h,rp,q⟩;refine(hg vs).o pins sh σ H v u Q I r ⟨Ha,ρ,d,h.s,rp,?_⟩;cases e1:tg ρ d with
 |stuck|exn x=>rw[e1]at q;exact q
 |ok ρ'=>
  rw[e1]at q;exact λσ' H' Ha' z h'=>q σ' H' Ha' z (h.back z h')
def lE(K:W.Frag)(He H0e:Hp)(a:Addr)(Hb:Hp)(tg:Ev->D->ai Ev)(s:Ev->ac->ai c8)(ds:ac)(D':jG)(i:Nat)(σ:L2.St)(H:Hp):Prop :=
 ∃Ha ρ st vs,aA Hb Ha/\fF K He H0e Ha σ H ρ a st vs/\dX K He H0e a Ha (forM tg s (ds.drop i) ρ st) D'
def lE.done{K:W.Frag}(h:lE K He H0e a Hb tg s ds D' ds.length σ H):D'.nx σ H:=by
 obtain⟨Ha,ρ,st,vs,z,h,q⟩:=h;rw[List.drop_length]at q;unfold forM at q;exact q σ H Ha vs (aA.refl _) h
end
section
variable {X:Cx}{E:XK}{He H0e:Hp}{a:Addr}{st:Stmt}{e l b:Expr}{rest es:List Expr}{pos:Pos}{f:al}{fm gm:Ev->ac->ai (D×ac)}{fa:Ev->ac->ai (ac×ac)}{s t:Ev->ac->ai c8}
def rn(i:Nat)(ρ:Ev)(ds:ac)(p:D×ac):ai c8:=if ds.length<line then .ok (.nx (ρ.set i (.ow (.lst (ds++[p.1])))) p.2) else .stuck
def ED(s:Option Sl)(k:ac->ai c8):ai c8:=match s with
 |some (.ow (.lst ds))=>k ds
 |_=>.stuck
def Cv(i:Nat)(f:Ev->ac->ai (D×ac)):Ev->ac->ai c8:=λρ st=>ED ρ[i]? λds=>(f ρ st).bind (rn i ρ ds)
def Ag(hN:X.N[i]?=some x)(hv:A0 X.env.scope x)(he:DM X He H0e a e fm)
  (hd:(x==("__debug__":Str))=false:=by decide)(hcd:(x==("__classdict__":Str))=false:=by decide)
  (hbase:attributeBase (.Name x p1) "append" X.env (eval (.Name x p1) X.env)=eval (.Name x p1) X.env:=by rfl)
  (hfew:((backTo p3 (starEach [e] X.env)).all (λx=>!x.1)&&(backToKw p3 (keywordEach [] X.env)).all (λx=>x.1.isSome)
  &&decide ([e].length+([]:List Keyword).length+(if([]:List Keyword).isEmpty then 0 else 1)<30))=true:=by exact e7 rfl)
  (hline:(p2.endLine==p3.line)=true:=by rfl) (hs:starEach [e] X.env=(false,eval e X.env)::starEach [] X.env:=by exact aN rfl) (hplain:(backTo p3 (starEach [] X.env)).any (·.1)=false:=by exact bw rfl)
  (hw:swapsWith (.Call (.Attribute (.Name x p1) "append" p2) [e] [] p3) none pos.line X.env=pure false:=by rfl) :
  SM X He H0e a (.Expr (.Call (.Attribute (.Name x p1) "append" p2) [e] [] p3) pos) (Cv i fm):=by
 refine⟨?_⟩;refine bz (m7 (uT PySem.F.plainAttrs_list PySem.F.slot_list_append PySem.F.type_list_append iP (fH hN hv hd hcd) (cx he.o eW hs) hbase hfew hline hs hplain) hw) λD σ H ⟨Ha,ρ,st,vs,h,q⟩=>?_;unfold Cv ED at q;cases e0:ρ[i]? with
 |none=>rw[e0]at q;exact q.elim
 |some sl=>
  rw[e0]at q;cases sl with
  |ow d=>
   cases d with
   |lst ds=>
    obtain⟨p,k1,k2,k3,ws,k4,k5⟩:=h.s.ow i _ e0;refine⟨.ref p,k1,.inl ⟨rfl,ws,d9.of k4⟩,?_⟩;refine⟨Ha,ρ,st,vs,h,?_⟩;replace q:dX X.K He H0e a Ha ((fm ρ st).bind (rn i ρ ds)) D:=q;cases e1:fm ρ st with
    |stuck|exn x=>rw[e1]at q;exact q
    |ok pr=>
     obtain⟨d,st'⟩:=pr;rw[e1]at q;intro v H' Ha' us z h' rp;obtain⟨p',k1',k2',k3',ws',k4',k5'⟩:=h'.s.ow i _ e0;rw[k1]at k1';cases k1';replace q:dX X.K He H0e a Ha (rn i ρ ds (d,st')) D:=q;unfold rn at q
     by_cases hl:ds.length<line
     .rw[if_pos hl]at q
      refine⟨p,ws',v,rfl,rfl,k4',by rw[←k5'.length];exact Nat.lt_of_lt_of_le hl (by decide),?_⟩;have hpa:p≠a:=by intro c;subst c;rw[aC]at k2';cases k2'
      exact q σ _ Ha' us z ⟨h'.ha,h'.h0,by rw[av (Ne.symm hpa)];exact h'.hl,h'.r,h'.s.write e0 k1 (k5'.app (Reps.cons rp Reps.nil))⟩
     .rw[if_neg hl]at q;exact q.elim
   |_=>exact q.elim
  |_=>exact q.elim
def jK(ρ:Ev)(d:D)(p:D×ac):ai c8:=match p.1 with
 |.int j=>match vt p.2.length j with
  |some n=>.ok (.nx ρ (p.2.set n d))
  |none=>.stuck
 |_=>.stuck
def vk(i:Nat)(a:Addr)(f k:Ev->ac->ai (D×ac)):Ev->ac->ai c8:=λρ st=>if ik ρ[i]? a=true then(f ρ st).bind λp=>(k ρ p.2).bind (jK ρ p.1) else .stuck
def yZ{s:Option Sl}(h:ik s a=true):s=some (.pt a):=by
 unfold ik at h;split at h
 .rw[eq_of_beq h]
 .cases h
def wW(hN:X.N[i]?=some x)(hv:A0 X.env.scope x)(he:DM X He H0e a e fm)(hk:DM X He H0e a b gm)
  (hd:(x==("__debug__":Str))=false:=by decide)(hcd:(x==("__classdict__":Str))=false:=by decide)
  (ha:∀v,assign (.Subscript (.Name x p1) b p2) X.env v=(do
   let ov ←holding [v] (eval (.Name x p1) X.env)
   let iv ←holding [v,ov] (eval b X.env)
   standAt p2
   holding [v,ov,iv] (setItem ov iv v)
   release [v,ov,iv] []):=by intro _;rfl)
  (hs:swapsWithSole [.Subscript (.Name x p1) b p2] e pos.line X.env=pure false:=by rfl) (hw:swappedStores [.Subscript (.Name x p1) b p2] e X.env=pure none:=by rfl)
  (h1:(assignEach [.Subscript (.Name x p1) b p2] X.env).map (·.2)=[assign (.Subscript (.Name x p1) b p2) X.env]:=by rfl) :
  SM X He H0e a (.Assign [.Subscript (.Name x p1) b p2] e pos) (vk i a fm gm):=by
 refine⟨?_⟩;refine bz (BQ he.o (BY (fH hN hv hd hcd) hk.o uG ha) hs hw h1) λD σ H z9=>?_;obtain⟨Ha,ρ,st,vs,h,q⟩:=z9;refine⟨Ha,ρ,st,vs,h,?_⟩
 unfold vk at q
 by_cases hp:ik ρ[i]? a=true
 .rw[if_pos hp]at q
  have hσ:=h.s.ex.2 i a (yZ hp);cases e1:fm ρ st with
  |stuck|exn x=>rw[e1]at q;exact q
  |ok pr=>
   obtain⟨d,s1⟩:=pr;rw[e1]at q;intro v H1 H01 us1 z1 h1' r1;refine⟨.ref a,hσ,H01,ρ,s1,us1,h1',?_⟩;replace q:dX X.K He H0e a Ha ((gm ρ s1).bind (jK ρ d)) D:=q;cases e2:gm ρ s1 with
   |stuck|exn x=>rw[e2]at q;exact q
   |ok pr2=>
    obtain⟨j,s2⟩:=pr2;rw[e2]at q;intro u H2 H02 us2 z2 h2 r2;replace q:dX X.K He H0e a Ha (jK ρ d (j,s2)) D:=q;unfold jK at q;cases j with
    |int n=>
     cases en:vt s2.length n with
     |none=>simp only[en]at q;exact q.elim
     |some m=>
      simp only[en]at q;refine⟨a,us2,n,m,rfl,ar.mp r2,h2.hl,by rw[←h2.r.length];exact en,?_⟩;refine q σ _ H02 (us2.set m v) (z1.trans z2) (h2.change (H':=upd H2 a (.lst (us2.set m v))) ⟨λb o e=>?_,aA.refl _,λb o e=>?_,λb k1 k2=>absurd k2 k1⟩ h2.n0 aC (h2.r.set (r1.mono z2) m))
      .have c:b≠a:=by intro c;subst c;rw[cJ]at e;cases e
       rw[av c];rw[cU c]at e;exact e
      .have c:b≠a:=by intro c;subst c;rw[h2.n0]at e;cases e
       rw[av c];exact h2.s.g.sub _ _ e
    |_=>exact q.elim
 .rw[if_neg hp]at q;exact q.elim
variable {CX:yg}{k n:Nat}{fn:Addr}{fd:FuncData}{ps:List Str}{x:Str}{p:Pos}
def E5(F:fM X.prog X.w X.K X.mg X.base CX k fn fd ps (spD X.K n m))(hr:cB k X.A)(hg:Gl X x)(hm:X.mg x=some (.ref fn))
  (hk:W.keepIn X.K (.ref fn)=true)(hb:iL X.K fd ps [])(hx:ee CX X E)(ha:Iv X He H0e a (e::es) fa)(hn:(e::es).length=n:=by rfl)(hl:∀ρ st ds,fa ρ st=.ok ds->ds.1.length=(e::es).length)
  (hdb:(x==("__debug__":Str))=false:=by decide)(he:starEach (e::es) X.env=(false,eval e X.env)::starEach es X.env:=by exact aN rfl)(hpl:(backTo pos (starEach es X.env)).any (·.1)=false:=by exact bw rfl) :
  DM X He H0e a (.Call (.Name x p) (e::es) [] pos) (mA fa m):=by
 refine⟨?_⟩;refine aQ (jM F hr hg hm hk hb .nil hx ha.o hdb he hpl) λσ H Q z9=>?_;obtain⟨Ha,ρ,st,vs,h,q⟩:=z9;refine⟨Ha,ρ,st,vs,h,?_⟩
 unfold mA at q;cases e1:fa ρ st with
 |stuck|exn x=>rw[e1]at q;exact q
 |ok pr=>
  obtain⟨ds,s1⟩:=pr;rw[e1]at q;intro xs H1 H01 us z1 h1 r1;refine⟨?_,H01,ds,h1.s.g.sub,by simpa using r1,?_⟩
  .have:=r1.length
   have:=hl ρ st _ e1;simp only[List.append_nil]at *;omega
  .simp only[ai.bind]at q
   cases e2:m ds with
   |stuck=>rw[e2]at q;exact q|exn x=>rw[e2]at q;exact q.elim
   |ok d=>
    rw[e2]at q;exact λv' H' Ha' g rp=>q v' H' Ha' us (z1.trans g.z) (h1.back g.z (h1.s.grow g)) rp
noncomputable def FE(K:W.Frag) (n:Nat) (m:Addr->ac->ac->ai (D×ac)):Sp:=λvs H Q E=>vs.length=n+1/\∃Ha ds a st us0 vs0,vs=.ref a::vs0/\aA Ha H/\Reps K Ha ds vs0/\Ha a=none/\H a=some (.lst us0)/\Reps K Ha st us0/\match m a st ds with
 |.ok (d,st')=>∀v H' Ha' us,aS (xI a H) Ha H' Ha'->Ha' a=none->H' a=some (.lst us)->Reps K Ha' st' us->Rep K Ha' d v->Q v H'
 |.exn _=>False
 |.stuck=>False
def xU(a:Addr)(m:Addr->ac->ac->ai (D×ac))(p:ac×ac):ai (D×ac):=m a p.2 p.1
def cg(i:Nat)(a:Addr)(fa:Ev->ac->ai (ac×ac))(m:Addr->ac->ac->ai (D×ac)):Ev->ac->ai (D×ac):=λρ st=>if ik ρ[i]? a=true then(fa ρ st).bind (xU a m) else .stuck
def C3(F:fM X.prog X.w X.K X.mg X.base CX k fn fd ps (FE X.K n m))(hr:cB k X.A)(hg:Gl X x)(hm:X.mg x=some (.ref fn))
  (hk:W.keepIn X.K (.ref fn)=true)(hb:iL X.K fd ps [])(hx:ee CX X E)(hN:X.N[i]?=some y)(hv:A0 X.env.scope y)(ha:Iv X He H0e a es fa)(hl:∀ρ st ds,fa ρ st=.ok ds->ds.1.length=n)
  (hd:(y==("__debug__":Str))=false:=by decide)(hcd:(y==("__classdict__":Str))=false:=by decide)(hdb:(x==("__debug__":Str))=false:=by decide)(he:starEach (.Name y p1::es) X.env=(false,eval (.Name y p1) X.env)::starEach es X.env:=by exact aN rfl)(hpl:(backTo pos (starEach es X.env)).any (·.1)=false:=by exact bw rfl) :
  DM X He H0e a (.Call (.Name x p) (.Name y p1::es) [] pos) (cg i a fa m):=by
 refine⟨?_⟩;refine aQ (jM F hr hg hm hk hb .nil hx (cx (fH hN hv hd hcd) ha.o he) hdb he hpl) λσ H Q ⟨Ha,ρ,st,vs,h,q⟩=>?_;unfold cg at q
 by_cases hp:ik ρ[i]? a=true
 .rw[if_pos hp]at q
  have hσ:=h.s.ex.2 i a (yZ hp);refine⟨.ref a,hσ,Ha,ρ,st,vs,h,?_⟩;cases e1:fa ρ st with
  |stuck|exn x=>rw[e1]at q;exact q
  |ok pr=>
   obtain⟨ds,s1⟩:=pr;rw[e1]at q;intro xs H1 H01 us z1 h1 r1;refine⟨?_,H01,ds,a,s1,us,xs,by simp,h1.s.g.sub,r1,h1.n0,h1.hl,h1.r,?_⟩
   .have:=r1.length
    have:=hl ρ st _ e1;simp only[List.append_nil,List.length_cons]at *;omega
   .replace q:match m a s1 ds with
     |.ok (d,st')=>∀v H' Ha' us,aA Ha Ha'->fF X.K He H0e Ha' σ H' ρ a st' us->Rep X.K Ha' d v->Q v H'
     |.exn _=>False
     |.stuck=>False:=q
    cases e2:m a s1 ds with
    |stuck|exn x=>rw[e2]at q;exact q
    |ok pr2=>
     obtain⟨d,s2⟩:=pr2;rw[e2]at q;exact λv H' Ha' us' g n' hl' r' rp=>q v H' Ha' us' (z1.trans g.z) (h1.change g n' hl' r') rp
 .rw[if_neg hp]at q;exact q.elim
end
def BA(r:c8):ai (D×ac):=match r with
 |.nx _ st=>.ok (.non,st)
 |.rt d st=>.ok (d,st)
 |_=>.stuck
def uJ(n:Nat)(s:Addr->Ev->ac->ai c8)(a:Addr)(st ds:ac):ai (D×ac):=(s a (.pt a::ds.map Sl.sh++List.replicate (n-(ds.length+1)) .no) st).bind BA
def xF{K:W.Frag}{st:Stmt}{N ps:List Str}{k n:Nat}(F:DJ K x qual st f fd)(S:eP N ps (defScope st))(hn:ps.length=n+1)
  (hbody:∀(cdv:Value) (A:Around) (outer:List PySem.Env) (s0:Shared) (H He Ha:Hp) (a:Addr) (E:XK),cB k (A.deeper (envOfC qual (defScope st) s0.heap.objs.size f cdv)) ->
   Ga (ll CX0 P w K mg base N qual (defScope st) f cdv A outer s0 H E).nox He Ha a (defBody st) (s a)):fM P w K mg base CX0 (k+1) f fd ps (FE K n (uJ N.length s)):=by
 have hpl:ps.length<=N.length:=by have:=congrArg List.length S.pre;rw[List.length_take]at this;omega
 refine F.ok S (λvs H Q E h=>h.1.trans hn.symm) λcdv A outer s0 H vs Q E hr h=>?_;obtain⟨hlen,Ha,ds,a,sl,us0,vs0,rfl,hs,hv,h0,hl,hst,q⟩:=h;have lv:=hv.length;have hσ:start N (.ref a::vs0)=some (.ref a)::(vs0.map some++List.replicate (N.length-(vs0.length+1)) none):=by
  unfold L2.start;simp
 have hρ0:∀(i:Nat) (z:Sl),(Sl.pt a::ds.map Sl.sh++List.replicate (N.length-(ds.length+1)) Sl.no)[i]?=some z->z=.no∨(i=0/\z=.pt a)∨∃j d,i=j+1/\ds[j]?=some d/\z=.sh d:=λi z e=>by
  cases i with
  |zero=>simp at e;exact .inr (.inl ⟨rfl,e.symm⟩)
  |succ j=>
   rw[List.cons_append,List.getElem?_cons_succ]at e
   by_cases hj:j<ds.length
   .rw[List.getElem?_append_left (by simpa using hj),List.getElem?_map,List.getElem?_eq_getElem hj]at e
    cases e;exact .inr (.inr ⟨j,ds[j],rfl,List.getElem?_eq_getElem hj,rfl⟩)
   .rw[List.getElem?_append_right (by simpa using hj),List.getElem?_replicate]at e
    split at e
    .cases e;exact .inl rfl
    .cases e
 refine⟨_,(hbody cdv A outer s0 H (xI a H) Ha a E hr).o,Ha,.pt a::ds.map Sl.sh++List.replicate (N.length-(ds.length+1)) .no,sl,us0,⟨cJ,h0,hl,hst,?_⟩,?_⟩
 .refine⟨⟨λb o e=>?_,aA.refl _,hs,λb h1 h2=>absurd h2 h1⟩,λi d e=>?_,λi d e=>?_,λi j d d' hij e=>?_,?_,⟨λi j es e=>?_,λi b e=>?_⟩⟩
  .by_cases c:b=a
   .subst c;rw[aC]at e;cases e;exact hl
   .rw[av c,cU c]at e;exact e
  .rcases hρ0 i _ e with h|⟨_,h⟩|⟨j,d',rfl,hd,h⟩
   .cases h
   .cases h
   .cases h
    obtain⟨v,h1,h2⟩:=hv.get hd;refine⟨v,?_,h2⟩;rw[hσ,List.getElem?_cons_succ,List.getElem?_append_left (by rw[List.length_map];exact(List.getElem?_eq_some_iff.mp h1).1),List.getElem?_map,h1];rfl
  .rcases hρ0 i _ e with h|⟨_,h⟩|⟨j,d',rfl,hd,h⟩<;>cases h
  .rcases hρ0 i _ e with h|⟨_,h⟩|⟨j,d',rfl,hd,h⟩<;>cases h
  .rw[hσ]
   simp only[List.length_cons,List.length_append,List.length_map,List.length_replicate];omega
  .rcases hρ0 i _ e with h|⟨_,h⟩|⟨j,d',rfl,hd,h⟩<;>cases h
  .rcases hρ0 i _ e with h|⟨rfl,h⟩|⟨j,d',rfl,hd,h⟩
   .cases h
   .cases h;rw[hσ];rfl
   .cases h
 .unfold uJ at q
  cases e1:s a (.pt a::ds.map Sl.sh++List.replicate (N.length-(ds.length+1)) .no) sl with
  |stuck|exn x=>rw[e1]at q;exact q
  |ok r=>
   rw[e1]at q;cases r with
   |nx ρ' st'=>exact λσ' H' Ha' us z h'=>q .non H' Ha' us ⟨λb o e=>h'.s.g.s _ _ (by rw[av (by intro c;subst c;rw[cJ]at e;cases e)];exact e),h'.s.g.z,h'.s.g.sub,λb h1 h2=>by
      have:=h'.s.g.nw b h1 h2
      by_cases c:b=a
      .subst c;exact cJ
      .rw[av c]at this;exact this⟩ h'.n0 h'.hl h'.r (aL.mpr rfl)
   |rt d st'=>exact λv H' Ha' z o rp=>let ⟨us,l1,l2⟩:=o.l;q v H' Ha' us o.g o.n l1 l2 rp
   |bk ρ' st'|ct ρ' st'=>exact q.elim
section
variable {K:W.Frag}{He H0e Ha H:Hp}{σ:L2.St}{ρ:Ev}
def uk(i:Nat)(ρ:Ev):Ev:=ρ.take i++List.replicate (ρ.length-i) .no
def Di:(uk i ρ).length=ρ.length:=by
 unfold uk;rw[List.length_append,List.length_take,List.length_replicate];omega
def Fh{j:Nat}(e:(uk i ρ)[j]?=some s):s=.no∨ρ[j]?=some s:=by
 unfold uk at e
 by_cases hj:j<(ρ.take i).length
 .rw[List.getElem?_append_left hj]at e
  rw[List.getElem?_take]at e;split at e
  .exact .inr e
  .cases e
 .rw[List.getElem?_append_right (by omega),List.getElem?_replicate]at e
  split at e
  .cases e;exact .inl rfl
  .cases e
end
open Classical in
noncomputable def xA(F:Addr->ai Fl):ai Fl:=if h:∃r,∀a,F a=r then h.choose else .stuck
def ER(h:∀a,F a=r):xA F=r:=by
 have hx:∃r,∀a,F a=r:=⟨r,h⟩
 unfold xA;rw[dif_pos hx];exact(hx.choose_spec 0).symm.trans (h 0)
def EO(h:xA F≠.stuck)(a:Addr):F a=xA F:=by
 unfold xA at h ⊢
 by_cases hx:∃r,∀a,F a=r
 .rw[dif_pos hx];exact hx.choose_spec a
 .rw[dif_neg hx]at h;exact absurd rfl h
noncomputable def Mq(K:W.Frag) (He H0e:Hp) (a:Addr) (src:Ev->ac->ai (ac×ac)):TI:=λσ H R=>∃Ha ρ st vs,fF K He H0e Ha σ H ρ a st vs/\match src ρ st with
 |.ok (ds,st')=>∀J H' Ha' us,aA Ha Ha'->fF K He H0e Ha' σ H' ρ a st' us->Iu K ds J Ha'->R J H'
 |.exn _=>False
 |.stuck=>False
structure MI (X:Cx) (He H0e:Hp) (a:Addr) (tg iter:Expr) (src:Ev->ac->ai (ac×ac)):Prop where
 o:PI X tg iter (Mq X.K He H0e a src)
def Cs(src:Ev->ai (ac)):Ev->ac->ai (ac×ac):=λρ st=>(src ρ).bind λds=>.ok (ds,st)
def tJ(p:D×ac):ai (ac×ac):=match p.1 with
 |.int j=>if -4611686018427387904<=j/\j<4611686018427387904 then .ok (intsFrom 0 j.toNat,p.2) else .stuck
 |_=>.stuck
def yS(f:Ev->ac->ai (D×ac)):Ev->ac->ai (ac×ac):=λρ st=>(f ρ st).bind tJ
section
variable {X:Cx}{E:XK}{He H0e:Hp}{a:Addr}{st:Stmt}{e l b tgt iter:Expr}{rest es:List Expr}{pos:Pos}{f:al}{fm gm:Ev->ac->ai (D×ac)}{fa:Ev->ac->ai (ac×ac)}{s t:Ev->ac->ai c8}
def yR(h:DI X E tgt iter src):MI X He H0e a tgt iter (Cs src):=⟨gs h.o λσ H R ⟨Ha,ρ,st,vs,h,q⟩=>⟨Ha,ρ,h.s.g.sub,h.s.rd,by
 unfold Cs at q;cases e1:src ρ with
 |stuck=>rw[e1]at q;exact q|exn x=>rw[e1]at q;exact q.elim
 |ok ds=>
  rw[e1]at q;exact λJ H' Ha' g it=>q J H' Ha' vs g.z (h.back g.z (h.s.grow g)) it⟩⟩
def Az(hgl:Gl X "range")(hm:X.mg "range"=none)(hi:DM X He H0e a iter fm)(hst:starEach [iter] X.env=[(false,eval iter X.env)]:=by exact dF rfl):MI X He H0e a tgt (.Call (.Name "range" p) [iter] [] pos2) (yS fm):=by
 refine⟨gs (lN hgl hm (cx hi.o eW hst) hst) λσ H R z9=>?_⟩;obtain⟨Ha,ρ,st,vs,h,q⟩:=z9;refine⟨Ha,ρ,st,vs,h,?_⟩;unfold yS at q;cases e1:fm ρ st with
 |stuck|exn x=>rw[e1]at q;exact q
 |ok pr=>
  obtain⟨d,s1⟩:=pr;rw[e1]at q;intro v H1 H01 us z h1 r1;cases d with
  |int j=>
   rw[ar.mp r1];replace q:match (if -4611686018427387904<=j/\j<4611686018427387904 then ai.ok (intsFrom 0 j.toNat,s1) else .stuck) with
    |.ok (ds,st')=>∀J H' Ha' us,aA Ha Ha'->fF X.K He H0e Ha' σ H' ρ a st' us->Iu X.K ds J Ha'->R J H'
    |.exn _=>False
    |.stuck=>False:=q
   by_cases hj:-4611686018427387904<=j/\j<4611686018427387904
   .rw[if_pos hj]at q
    exact⟨j,rfl,hj.1,hj.2,q _ H1 H01 us z h1 rA⟩
   .rw[if_neg hj]at q;exact q.elim
  |_=>exact q.elim
def lE.step2{K:W.Frag}{st:ac}(z:aA Hb Ha)(h:fF K He H0e Ha σ H ρ a st vs)(q:dX K He H0e a Ha (forM tg s (ds.drop i) ρ st) D')(hd:ds[i]?=some d)(rv:Rep K Ha d v)
  (he:∀ρ,tg ρ d=.stuck∨∃ρ',tg ρ d=.ok ρ') :
  Lb K He H0e a tg v σ H λσ2 H2=>K2 K He H0e a s { D' with nx:=lE K He H0e a Hb tg s ds D' (i+1),ct:=lE K He H0e a Hb tg s ds D' (i+1),bk:=D'.nx } σ2 H2:=by
 have hi:i<ds.length:=(List.getElem?_eq_some_iff.mp hd).1;have hdr:ds.drop i=d::ds.drop (i+1):=by
  rw[List.drop_eq_getElem_cons hi];rw[List.getElem?_eq_getElem hi]at hd;cases hd;rfl
 rw[hdr]at q;refine⟨Ha,ρ,st,vs,d,h,rv,?_⟩;unfold forM at q;rcases he ρ with e1|⟨ρ1,e1⟩
 .rw[e1]at q;exact q.elim
 .rw[e1]at q ⊢
  intro σ' H' Ha' z' h';refine⟨Ha',ρ1,st,vs,h',?_⟩;replace q:=dX.grow (r:=(s ρ1 st).bind λx=>match x with
   |.nx ρ2 s2=>forM tg s (ds.drop (i+1)) ρ2 s2
   |.ct ρ2 s2=>forM tg s (ds.drop (i+1)) ρ2 s2
   |.bk ρ2 s2=>.ok (.nx ρ2 s2)
   |.rt d s=>.ok (.rt d s)) q z'
  cases e2:s ρ1 st with
  |stuck|exn x=>rw[e2]at q;exact q
  |ok r=>
   rw[e2]at q;cases r with|nx ρ2 s2=>exact λσ3 H3 H03 vs3 z3 h3=>⟨H03,ρ2,s2,vs3,(z.trans z').trans z3,h3,dX.grow (r:=forM tg s (ds.drop (i+1)) ρ2 s2) q z3⟩|ct ρ2 s2=>exact λσ3 H3 H03 vs3 z3 h3=>⟨H03,ρ2,s2,vs3,(z.trans z').trans z3,h3,dX.grow (r:=forM tg s (ds.drop (i+1)) ρ2 s2) q z3⟩|bk ρ2 s2|rt d s2=>exact q
def vm(src:Ev->ac->ai (ac×ac))(tg:Ev->D->ai Ev)(s:Ev->ac->ai c8):Ev->ac->ai c8:=λρ st=>(src ρ st).bind λp=>forM tg s p.1 ρ p.2
def ym(hp:PassesOwn (model X.prog X.w) X.A X.env X.xe)(hc:X.calm=true)(hi:MI X He H0e a tgt iter src)(hg:∀vs,DG X E (upd He a (.lst vs)) H0e tgt tg)(ht:sO tg)(hb:Ga X He H0e a body s)
  (hs:∀x,foldedSetIterable iter X.env x=pure x:=by intro _;rfl):SM X He H0e a (.For tgt iter body [] pos) (vm src tg s):=by
 refine⟨bz (sX hp hc hi.o (Jw hg) hb.o hs) λD' σ H z9=>?_⟩;obtain⟨Ha,ρ,st,vs,h,q⟩:=z9;refine⟨Ha,ρ,st,vs,h,?_⟩;unfold vm at q;cases e1:src ρ st with
 |stuck|exn x=>rw[e1]at q;exact q
 |ok pr=>
  obtain⟨ds,s1⟩:=pr;rw[e1]at q;intro J H1 H01 us z h1 it;have q1:dX X.K He H0e a H01 (forM tg s ds ρ s1) D':=dX.grow (r:=forM tg s ds ρ s1) q z;refine⟨λi m σ' H'=>m+i=ds.length/\lE X.K He H0e a H01 tg s ds D' i σ' H',⟨ds.length,rfl,H01,ρ,s1,us,aA.refl _,h1,q1⟩,?_⟩;rintro i m σ' H' ⟨hm,Ha',ρ',st',vs',z',h',hq⟩
  by_cases hlt:i<ds.length
  .refine .inr ⟨it.go i H' Ha' z' h'.s.g.sub hlt,λσ2 H2=>lE X.K He H0e a H01 tg s ds D' (i+1) σ2 H2,λσ2 H2 hl=>⟨m-1,by omega,by omega,hl⟩,λx H2 hy=>?_⟩
   obtain⟨H₀2,g2,rp⟩:=it.yld i H' Ha' x H2 ds[i] z' h'.s.g.sub (List.getElem?_eq_getElem hlt) hy;exact lE.step2 (z'.trans g2.z) (h'.back g2.z (h'.s.grow g2)) (dX.grow (r:=forM tg s (ds.drop i) ρ' st') hq g2.z) (List.getElem?_eq_getElem hlt) rp λρ=>ht ρ _
  .have e:i=ds.length:=by omega
   refine .inl ⟨it.stop i H' Ha' z' h'.s.g.sub (by omega),?_⟩;subst e;exact lE.done ⟨Ha',ρ',st',vs',z',h',hq⟩
end
def GB(s:Option Sl):Sl:=match s with
 |some (.sh d)=>.sh d
 |some (.pt b)=>.pt b
 |_=>.no
def d4(n:Nat)(fr:bi)(ρ:Ev):Ev:=List.replicate n .no++fr.map λ(i:Nat)=>GB ρ[i]?
def fW(b:Ev)(tg:Ev->D->ai Ev)(fm:Ev->ac->ai (D×ac)):ac->ac->ai (ac×ac)
 |[],st=>.ok ([],st)
 |d::r,st=>(tg b d).bind λρ1=>(fm ρ1 st).bind λp=>(fW b tg fm r p.2).bind λq=>.ok (p.1::q.1,q.2)
def pU(b:Ev)(tg:Ev->D->ai Ev)(fm:Ev->ac->ai (D×ac))(p:ac×ac):ai (D×ac):=if p.1.length<=line then(fW b tg fm p.1 p.2).bind λq=>.ok (.lst q.1,q.2) else .stuck
def mE(n:Nat)(fr:bi)(src:Ev->ac->ai (ac×ac))(tg:Ev->D->ai Ev)(fm:Ev->ac->ai (D×ac)):Ev->ac->ai (D×ac):=λρ st=>(src ρ st).bind (pU (d4 n fr ρ) tg fm)
def AZ{fr:bi}:(d4 n fr ρ).length=n+fr.length:=by unfold d4;simp
def qg{fr:bi}{k:Nat}(h:k<n):(d4 n fr ρ)[k]?=some .no:=by
 unfold d4;rw[List.getElem?_append_left (by simpa using h),List.getElem?_replicate,if_pos h]
def qh{fr:bi}{k:Nat}(h:¬k<n)(e:(d4 n fr ρ)[k]?=some s):∃j,fr[k-n]?=some j/\s=GB ρ[j]?:=by
 unfold d4 at e;rw[List.getElem?_append_right (by simpa using h),List.length_replicate,List.getElem?_map]at e;cases hf:fr[k-n]? with|none=>rw[hf]at e;cases e|some j=>rw[hf]at e;cases e;exact⟨j,rfl,rfl⟩
def Gz(h:Sl.sh d=GB s):s=some (.sh d):=by
 unfold GB at h;split at h<;>cases h
 rfl
def GA(h:Sl.pt b=GB s):s=some (.pt b):=by
 unfold GB at h;split at h<;>cases h
 rfl
def Dn{fr:bi}{k j:Nat}(h:¬k<n)(hf:fr[k-n]?=some j)(hs:σ[j]?=some (some v)):(gR n fr σ)[k]?=some (some v):=by
 unfold gR;rw[List.getElem?_append_right (by simpa using h),List.length_replicate,List.getElem?_map,hf];simp[hs]
def sQ{K:W.Frag}{st:ac}(ha:He a=none)(h0:H0e a=none)(hl:H a=some (.lst vs))(r:Reps K Ha st vs)(g:aS (upd He a (.lst vs)) H0e H Ha)(rd:Reads K Ha σ ρ)
  (no:∀(j:Nat) (s:Sl),ρ[j]?=some s->s=.no∨(∃d,s=.sh d)∨∃b,s=.pt b/\σ[j]?=some (some (.ref b)))(ln:ρ.length=σ.length):fF K He H0e Ha σ H ρ a st vs:=by
 refine⟨ha,h0,hl,r,⟨g,rd,λi d e=>?_,λi j d d' _ e=>?_,ln,OX.none (λi j ds e=>?_) λi b e=>?_⟩⟩
 .rcases no i _ e with h|⟨_,h⟩|⟨_,h,_⟩<;>cases h
 .rcases no i _ e with h|⟨_,h⟩|⟨_,h,_⟩<;>cases h
 .rcases no i _ e with h|⟨_,h⟩|⟨_,h,_⟩<;>cases h
 .rcases no i _ e with h|⟨_,h⟩|⟨_,h,h'⟩
  .cases h
  .cases h
  .cases h;exact h'
def CF(K:W.Frag)(a:Addr)(tg:Ev->D->ai Ev):TG:=λv σ H Q=>∃He H0e,Lb K He H0e a tg v σ H Q
def Bk(K:W.Frag)(a:Addr)(fm:Ev->ac->ai (D×ac)):TE:=λσ H Q=>∃He H0e,tM K He H0e a fm σ H Q
def xS{r st es stF:ac}(h:fW b tg fm (d::r) st=.ok (es,stF)):∃ρ1 y s1 rest,tg b d=.ok ρ1/\fm ρ1 st=.ok (y,s1)/\fW b tg fm r s1=.ok (rest,stF)/\es=y::rest:=by
 unfold fW at h;cases e1:tg b d with
 |stuck|exn x=>rw[e1]at h;cases h
 |ok ρ1=>
  rw[e1]at h;simp only[ai.bind]at h;cases e2:fm ρ1 st with
  |stuck|exn x=>rw[e2]at h;cases h
  |ok p=>
   obtain⟨y,s1⟩:=p;rw[e2]at h;simp only at h;cases e3:fW b tg fm r s1 with
   |stuck|exn x=>rw[e3]at h;cases h
   |ok q=>
    obtain⟨rest,sF⟩:=q;rw[e3]at h;cases h;exact⟨ρ1,y,s1,rest,rfl,e2,e3,rfl⟩
def wu{K:W.Frag}{fr:bi}(h1:fF K He H0e H01 σ H1 ρ a st0 us0)(it:Iu K ds J H01)(hl:ds.length<=line)
  (e2:fW (d4 n fr ρ) tg fm ds st0=.ok (es,stF))(hok:ya n tg)
  (q:∀p xs H' Ha' us',aS (xI a H1) H01 H' Ha'->Ha' a=none->H' a=some (.lst us')->Reps K Ha' stF us'->H1 p=none->Ha' p=none->H' p=some (.lst xs)->Reps K Ha' es xs->Q (.ref p) H') :
  nF n fr (CF K a tg) Bj (Bk K a fm) J σ H1 Q:=by
 intro Da hDa;have h0D:H01 Da=none:=h1.s.g.sub.free hDa;have aD:a≠Da:=λz=>by have:=h1.hl;rw[z,hDa]at this;cases this
 have nob:∀{σ':L2.St}(_:∀(k:Nat),¬k<n->∀b,(d4 n fr ρ)[k]?=some (.pt b)->σ'[k]?=some (some (.ref b))) (j:Nat) (s:Sl),(d4 n fr ρ)[j]?=some s->s=.no∨(∃d,s=.sh d)∨∃b,s=.pt b/\σ'[j]?=some (some (.ref b)):=λ{σ'} hp j s e=>by
  by_cases hj:j<n
  .rw[qg hj]at e;cases e;exact .inl rfl
  .obtain⟨i,_,hs⟩:=qh hj e
   cases s with
   |no=>exact .inl rfl|sh d=>exact .inr (.inl ⟨d,rfl⟩)|pt b=>exact .inr (.inr ⟨b,rfl,hp j hj b e⟩)
   |_=>unfold GB at hs;split at hs<;>cases hs
 refine⟨λi m ys σ' H'=>m=ds.length-i/\i<=ds.length/\∃Ha' st' us' es1 rest,fF K (upd (xI a H1) Da (.lst ys)) H01 Ha' σ' H' (d4 n fr ρ) a st' us'/\Reps K Ha' es1 ys/\es1.length=i/\fW (d4 n fr ρ) tg fm (ds.drop i) st'=.ok (rest,stF)/\es=es1++rest,
  ⟨ds.length,by simp,Nat.zero_le _,H01,st0,us0,[],es,?_,Reps.nil,rfl,by rw[List.drop_zero];exact e2,rfl⟩,?_⟩
 .refine sQ (by rw[av aD];exact cJ) h1.n0 (by rw[av aD];exact h1.hl) h1.r ⟨λb o e=>?_,aA.refl _,λb o e=>?_,λb k1 k2=>absurd k2 k1⟩ (λk d e=>?_) (nob λk hk b e=>?_) (by unfold gR;rw[AZ];simp)
  .by_cases c:b=a
   .subst c;rw[aC]at e;cases e;rw[av aD];exact h1.hl
   .rw[av c]at e
    by_cases c2:b=Da
    .subst c2;rw[aC]at e ⊢;exact e
    .rw[av c2]at e ⊢;rw[cU c]at e;exact e
  .rw[av (by intro z;subst z;rw[h0D]at e;cases e)];exact h1.s.g.sub _ _ e
  .by_cases hk:k<n
   .rw[qg hk]at e;cases e
   .obtain⟨j,hf,hs⟩:=qh hk e
    obtain⟨v,k1,k2⟩:=h1.s.rd j d (Gz hs);exact⟨v,Dn hk hf k1,k2⟩
  .obtain⟨j,hf,hs⟩:=qh hk e
   exact Dn hk hf (h1.s.ex.2 j b (GA hs))
 .rintro i m ys σ' H' ⟨rfl,hile,Ha',st',us',es1,rest,h',hys,hle,hco,hes⟩
  have hDl:H' Da=some (.lst ys):=h'.s.g.s _ _ (by rw[av (Ne.symm aD),aC]);refine⟨hDl,?_⟩
  by_cases hlt:i<ds.length
  .refine .inr ⟨it.go i H' Ha' h'.s.g.z h'.s.g.sub hlt,?_,?_⟩
   .rw[←hys.length,hle]
    have h2:line<sizeLine:=by decide
    omega
   .intro x H2 hy
    obtain⟨H₀2,g2,rp⟩:=it.yld i H' Ha' x H2 ds[i] h'.s.g.z h'.s.g.sub (List.getElem?_eq_getElem hlt) hy;have hm2:=h'.back g2.z (h'.s.grow g2);rw[List.drop_eq_getElem_cons hlt]at hco;obtain⟨ρ1,y,s1,rest',t1,t2,t3,t4⟩:=xS hco;refine⟨_,_,H₀2,d4 n fr ρ,st',us',ds[i],hm2,rp,?_⟩;rw[t1];intro σ3 H3 H03 z3 h3;unfold Bj;dsimp only;rw[if_pos rfl];refine⟨_,_,H03,ρ1,st',us',h3,?_⟩;rw[t2];intro yv H5 H05 us5 z5 h5 ry;have hD5:H5 Da=some (.lst ys):=h5.s.g.s _ _ (by rw[av (Ne.symm aD),aC]);have n5:H05 Da=none:=by
     cases qq:H05 Da with|none=>rfl|some o=>have:=h5.s.g.nw Da (by rw[qq];simp) h0D;rw[av (Ne.symm aD),aC]at this;cases this
    have hrl:=hok _ _ _ t1;refine⟨hD5,ds.length-(i+1),by omega,rfl,hlt,H05,s1,us5,es1++[y],rest',?_,(hys.mono ((g2.z.trans z3).trans z5)).app (Reps.cons ry Reps.nil),by simp[hle],t3,by rw[hes,t4];simp⟩;refine sQ (by rw[av aD];exact cJ) h1.n0 (by rw[av aD];exact h5.hl) h5.r ⟨λb o e=>?_,h5.s.g.z,λb o e=>?_,λb k1 k2=>?_⟩ (λk d e=>?_) (nob λk hk b e=>?_) (by rw[←h5.s.ln,hrl.1])
    .by_cases c:b=a
     .subst c;rw[aC]at e;cases e;rw[av aD];exact h5.hl
     .rw[av c]at e
      by_cases c2:b=Da
      .subst c2;rw[aC]at e ⊢;exact e
      .rw[av c2]at e ⊢
       exact h5.s.g.s _ _ (by rw[av c,av c2];exact e)
    .rw[av (by intro z;subst z;rw[n5]at e;cases e)];exact h5.s.g.sub _ _ e
    .have:=h5.s.g.nw b k1 k2
     by_cases c:b=a
     .subst c;rw[aC]at this;cases this
     .rw[av c]at this ⊢
      by_cases c2:b=Da
      .subst c2;rw[aC]at this;cases this
      .rw[av c2]at this ⊢;exact this
    .by_cases hk:k<n
     .rw[qg hk]at e;cases e
     .rw[←hrl.2 k (by omega)]at e
      exact h5.s.rd k d e
    .rw[←hrl.2 k (by omega)]at e
     exact h5.s.ex.2 k b e
  .have hi2:i=ds.length:=by omega
   refine .inl ⟨it.stop i H' Ha' h'.s.g.z h'.s.g.sub (by omega),?_⟩;rw[hi2,List.drop_length]at hco;cases hco;rw[List.append_nil]at hes;subst hes;refine q Da ys H' Ha' us' ⟨λb o e=>?_,h'.s.g.z,h'.s.g.sub,λb k1 k2=>?_⟩ h'.n0 h'.hl h'.r hDa ?_ hDl hys
   .have c:b≠a:=by intro c;subst c;rw[cJ]at e;cases e
    have c2:b≠Da:=by intro c2;subst c2;rw[cU c,hDa]at e;cases e
    exact h'.s.g.s _ _ (by rw[av c,av c2];exact e)
   .have:=h'.s.g.nw b k1 k2
    by_cases c:b=a
    .subst c;exact cJ
    .rw[av c]at this
     by_cases c2:b=Da
     .subst c2;rw[aC]at this;cases this
     .rw[av c2]at this;exact this
   .cases qq:Ha' Da with
    |none=>rfl
    |some o=>have:=h'.s.g.nw Da (by rw[qq];simp) h0D;rw[av (Ne.symm aD),aC]at this;cases this
noncomputable def K8(K:W.Frag) (He H0e:Hp) (a:Addr) (f:Ev->ac->ai (D×ac)):TE:=λσ H Q=>∃Ha ρ st vs,fF K He H0e Ha σ H ρ a st vs/\match f ρ st with
 |.ok (.lst ds,st')=>∀p xs H1 H01 st1 us1 H' Ha' us,aA Ha H01->fF K He H0e H01 σ H1 ρ a st1 us1->aS (xI a H1) H01 H' Ha'->Ha' a=none->H' a=some (.lst us)->Reps K Ha' st' us->H1 p=none->Ha' p=none->H' p=some (.lst xs)->Reps K Ha' ds xs->Q (.ref p) H'
 |.ok _=>False
 |.exn _=>False
 |.stuck=>False
structure LH (X:Cx) (He H0e:Hp) (a:Addr) (e:Expr) (f:Ev->ac->ai (D×ac)):Prop where
 ev:PE X e (K8 X.K He H0e a f)
 st:∀{i:Nat}{x:Str}{pos' spos:Pos},X.N.Nodup->X.N[i]?=some x->X.env.scope.names.lookup x=some .local -> swapsWith e (some (.Name x pos')) spos.line X.env=pure true->PS X (.Assign [.Name x pos'] e spos) (Ea (K8 X.K He H0e a f) (zg i))
def MA(N:List Str)(n:Nat)(fr:bi)(hc:X.calm=true)(hi:MI X He H0e a tgt iter src)(hok:ya n tg)
  (blk:∀s H C fp pn,(∀He H0e,DG (cv X N scope s H C fp pn) E He H0e tgt tg)/\∀He H0e,DM (cv X N scope s H C fp pn) He H0e a elt fm)
  (hfr:yd X N n fr scope)(hcell:∀x∈scope.names,x.2≠.cell)(hfree:∀x∈scope.names,x.2=.free->X.env.scope.names.lookup x.1=some .cell)(hkind:scope.kind=.function)(hnames:∀x∈scope.names,x.2=.local -> scope.names.lookup x.1=some .local)
  (hs:∀x,foldedSetIterable iter X.env x=pure x:=by intro _;rfl):LH X He H0e a (.ListComp elt [⟨tgt,iter,[],0⟩] scope pos) (mE n fr src tg fm):=by
 have blk':∀s H C fp pn,PG (cv X N scope s H C fp pn) tgt (CF X.K a tg)/\IF (cv X N scope s H C fp pn) [] Bj/\PE (cv X N scope s H C fp pn) elt (Bk X.K a fm):=λs H C fp pn=>
  ⟨λpins s' σ' H' v u Q' I r ⟨He,H0e,q'⟩=>(Jw (X:=cv X N scope s H C fp pn) λvs=>(blk s H C fp pn).1 _ _) pins s' σ' H' v u Q' I r q',yA,λpins s' σ' H' Q' I ⟨He,H0e,q'⟩=>((blk s H C fp pn).2 He H0e).o pins s' σ' H' Q' I q'⟩
 have first:∀{pins:List (Addr×Obj)}{s:Shared}{σ:L2.St}{H:Hp}{Q:VK}{RR:Value->Addr->Result->Shared->Prop},L2.Inv X pins σ H s->K8 X.K He H0e a (mE n fr src tg fm) σ H Q ->
   (∀(Da C:Addr) (s6:Shared) (H5:Hp) (m:Str->Option Value),L2.Inv X pins σ H5 s6->s6.heap.Ns C m->lF X pins H5 C->Q (.ref Da) H5->RR (.ref Da) C (.ok .next) s6) ->
   wpAny (model X.prog X.w) X.A (eval iter X.env) (λx sg=>wpAny (model X.prog X.w) X.A (pyIter x) (λit si=>wpAny (model X.prog X.w) X.A (newList []) (λacc sj=>
    wpAny (model X.prog X.w) X.A (newFunctionEnv scope X.env.globals (fb X.env.cells scope.names []) [] X.env.qual none .none (some X.env)) (λcenv sk=>
     codeAny (model X.prog X.w) X.A (.compStart (.ListComp elt [⟨tgt,iter,[],0⟩] scope pos) 0 it acc { cenv with scope:=relabel scope X.env }) (RR acc cenv.locals) sk) X.xe sj) X.xe si) X.xe sg) X.xe s:=by
  intro pins s σ H Q RR I ⟨Ha,ρ,st,vs,h,q⟩ fin;refine cu (hi.o pins s σ H (λJ H1=>nF n fr (CF X.K a tg) Bj (Bk X.K a fm) J σ H1 Q) I ⟨Ha,ρ,st,vs,h,?_⟩) λv s1 h1=>cu h1 λitv s2 h2=>sr (N:=N) hc hfr hcell hfree hkind blk' h2 fin;unfold mE at q;cases e1:src ρ st with
  |stuck|exn x=>rw[e1]at q;exact q
  |ok pr=>
   obtain⟨ds,st1⟩:=pr;rw[e1]at q;intro J H1 H01 us z h1 it;replace q:match (if ds.length<=line then(fW (d4 n fr ρ) tg fm ds st1).bind λq=>ai.ok (D.lst q.1,q.2) else .stuck) with
    |.ok (.lst ds,st')=>∀p xs H1 H01 st1 us1 H' Ha' us,aA Ha H01->fF X.K He H0e H01 σ H1 ρ a st1 us1->aS (xI a H1) H01 H' Ha'->Ha' a=none->H' a=some (.lst us)->Reps X.K Ha' st' us->H1 p=none->Ha' p=none->H' p=some (.lst xs)->Reps X.K Ha' ds xs->Q (.ref p) H'
    |.ok _=>False
    |.exn _=>False
    |.stuck=>False:=q
   by_cases hl:ds.length<=line
   .rw[if_pos hl]at q
    cases e2:fW (d4 n fr ρ) tg fm ds st1 with
    |stuck|exn x=>rw[e2]at q;exact q.elim
    |ok pr2=>
     obtain⟨es,stF⟩:=pr2;rw[e2]at q;exact wu h1 it hl e2 hok λp xs H' Ha' us' g n' hl' r' hp h0 hv rp=>q p xs H1 H01 st1 us H' Ha' us' z h1 g n' hl' r' hp h0 hv rp
   .rw[if_neg hl]at q;exact q.elim
 have hcl:∀{pins:List (Addr×Obj)}{s:Shared}{σ:L2.St}{H:Hp},L2.Inv X pins σ H s->closureFor scope X.env=pure (fb X.env.cells scope.names []):=λ{pins s σ H} I=>jg λy hy hf=>I.ok.has y.1 (.inl (hfree y hy hf));refine⟨λpins s σ H Q I h=>?_,λ{i x pos' spos} hN hi' hx hsw pins s σ H D' I h=>?_⟩
 .rw[eval_ListComp]
  refine wpAny_comprehension_free (use:=none) rfl hs (hcl I) hkind hnames (first (RR:=λacc C=>compPost (model X.prog X.w) X.A X.xe none (EP X pins σ Q) acc C) I h λDa C s6 H5 m I6 ns fC q=>?_);refine⟨m,ns,λh' sb=>⟨.ref Da,H5,?_,rfl,q⟩⟩;exact I6.turned (t':=s6.toks) (it:=C) (λb o hb e=>(sb.2 b hb).trans e) fC.1 fC.2.1 fC.2.2.2.1 fC.2.2.2.2.1 fC.2.2.2.2.2
 .rw[exec_Assign_Name_used _ _ _ _ hsw]
  refine wpAny_bind (wpAny_standAt (wpAny_bind ?_));show wpAny _ X.A (do let _ ←comprehension (.ListComp elt [⟨tgt,iter,[],0⟩] scope pos) scope X.env _ (newList []) false (eval iter X.env) (some (assign (.Name x pos') X.env))) _ _ s;refine wpAny_bind (wpAny_mono (wpAny_comprehension_free (use:=some (assign (.Name x pos') X.env)) (Q:=λ_ s'=>SP X pins D' .next s') rfl hs (hcl I) hkind hnames
   (first (RR:=λacc C=>compPost (model X.prog X.w) X.A X.xe (some (assign (.Name x pos') X.env)) (λ_ s'=>SP X pins D' .next s') acc C) I h λDa C s6 H5 m I6 ns fC q=>?_)) (λ_ s' hq=>wpAny_pure (wpAny_pure hq)) λ_ _ e=>e)
  show wpAny _ X.A (assign (.Name x pos') X.env (.ref Da)) _ _ _;refine wpAny_assign_Name (lK (v:=.ref Da) I6 hN hi' (.inl hx) rfl (λs' I' z9=>?_) (.inr hx));obtain⟨a,sb,ha⟩:=z9;have hCa:C≠a:=by
   rcases ha with rfl|ha
   .exact fC.2.1
   .exact λz=>fC.2.2.2.2.1 x a ha z.symm
  refine⟨m,ns.sameBut sb hCa,λh' sb'=>⟨_,H5,?_,q⟩⟩;exact I'.turned (t':=s'.toks) (it:=C) (λb o hb e=>(sb'.2 b hb).trans e) fC.1 fC.2.1 fC.2.2.2.1 fC.2.2.2.2.1 fC.2.2.2.2.2
def xR{fr:bi}:∀ρ st d s',mE n fr src tg fm ρ st=.ok (d,s')->∃ds,d=.lst ds:=λρ st d s' h=>by
 unfold mE at h;cases e1:src ρ st with
 |stuck|exn x=>rw[e1]at h;cases h
 |ok pr=>
  rw[e1]at h;simp only[ai.bind,pU]at h
  by_cases hl:pr.1.length<=line
  .rw[if_pos hl]at h
   cases e2:fW (d4 n fr ρ) tg fm pr.1 pr.2 with|stuck|exn x=>rw[e2]at h;cases h|ok q=>rw[e2]at h;cases h;exact⟨_,rfl⟩
  .rw[if_neg hl]at h;cases h
def fF.addL{K:W.Frag}(h1:fF K He H0e H01 σ H1 ρ a st1 us1)(g:aS (xI a H1) H01 H' Ha')(n:Ha' a=none)(hl:H' a=some (.lst us))(r:Reps K Ha' st' us)(hp:H1 p=none)(h0:Ha' p=none)(hv:H' p=some (.lst xs))(rp:Reps K Ha' ds xs) :
  aA H01 (upd Ha' p (.lst xs))/\fF K He H0e (upd Ha' p (.lst xs)) σ H' ρ a st' us/\Rep K (upd Ha' p (.lst xs)) (.lst ds) (.ref p):=by
 have pa:a≠p:=λz=>by have:=h1.hl;rw[z,hp]at this;cases this
 have z:aA Ha' (upd Ha' p (.lst xs)):=λb o e=>by rw[av (by intro z;subst z;rw[h0]at e;cases e)];exact e
 have g':aS (xI a H1) H01 H' (upd Ha' p (.lst xs)):=⟨g.s,g.z.trans z,λb o e=>by
  by_cases c:b=p
  .subst c;rw[aC]at e;cases e;exact hv
  .rw[av c]at e;exact g.sub _ _ e,λb k1 k2=>by
  by_cases c:b=p
  .subst c;rw[cU (Ne.symm pa)];exact hp
  .rw[av c]at k1;exact g.nw b k1 k2⟩
 exact⟨g'.z,h1.change g' (by rw[av pa];exact n) hl (r.mono z),aE.mpr ⟨p,xs,rfl,d9.of aC,rp.mono z⟩⟩
section
variable {X:Cx}{E:XK}{He H0e:Hp}{a:Addr}{e:Expr}{pos:Pos}{fm:Ev->ac->ai (D×ac)}
def Ef(hN:X.N.Nodup)(hi:X.N[i]?=some x)(hx:X.env.scope.names.lookup x=some .local)(h:LH X He H0e a e fm)(ho:∀ρ st d s',fm ρ st=.ok (d,s')->∃ds,d=.lst ds)(hs:swapsWith e (some (.Name x pos')) pos.line X.env=pure true:=by rfl):SM X He H0e a (.Assign [.Name x pos'] e pos) (eD i fm):=by
 refine⟨bz (h.st hN hi hx hs) λD' σ H z9=>?_⟩;obtain⟨Ha,ρ,st,vs,h,q⟩:=z9;refine⟨Ha,ρ,st,vs,h,?_⟩;unfold eD at q;cases e1:fm ρ st with
 |stuck|exn x=>rw[e1]at q;exact q
 |ok pr=>
  obtain⟨d,s1⟩:=pr;obtain⟨ds,rfl⟩:=ho _ _ _ _ e1;rw[e1]at q;intro p xs H1 H01 st1 us1 H' Ha' us z h1 g n hl r hp h0 hv rp;obtain⟨k1,k2,k3⟩:=h1.addL g n hl r hp h0 hv rp;exact q _ H' _ us (z.trans k1) (k2.back (aA.refl _) (k2.s.put k3))
end
mutual
def eM:D->Option PyData
 |.non=>some .none
 |.bl b=>some (.bool b)
 |.int i=>some (.int i)
 |.str x=>some (.str x)
 |.tup ds=>(toPys ds).map PyData.tuple
 |.lst ds=>(toPys ds).map PyData.list
 |.dic ks ds=>(toPys ds).map λps=>.dict ((ks.map PyData.str).zip ps)
 |.exc _=>none
 |.ob k ds=>match k with
  |.dint ks=>(toPys ds).map λps=>.dict ((ks.map PyData.int).zip ps)
  |_=>none
def toPys:ac->Option (List PyData)
 |[]=>some []
 |d::ds=>match eM d,toPys ds with
  |some x,some xs=>some (x::xs)
  |_,_=>none
end
section
variable {X:Cx}{E:XK}{pins:List (Addr×Obj)}{σ:L2.St}{H:Hp}{s:Shared}
def ES(I:L2.Inv X pins σ H s)(h:d9 X.K H a vs):a≠sysModules:=by
 intro z;subst z;obtain⟨mm,o,es,ep,e,hd,_⟩:=I.ok.mod.sm;have:=(I.bs _ _ e).2;rcases h with h|⟨o',_,_,h1,h2,_,h3,_⟩
 .rcases h with h|⟨_,h⟩<;>(rw[this]at h;cases h)
 .have e':=I.ok.mod.kin _ _ h1
  rw[e]at e';cases e';rw[hd]at h3;cases h3
theorem lI:∀{ds:ac}{ps:List PyData},toPys ds=some ps->ps.length=ds.length
 |[],ps,e=>by rw[toPys]at e;cases e;rfl
 |d::ds,ps,e=>by
  rw[toPys]at e;cases e1:eM d with
  |none=>rw[e1]at e;cases e
  |some p=>
   cases e2:toPys ds with|none=>rw[e1,e2]at e;cases e|some qs=>rw[e1,e2]at e;cases e;simp[lI e2]
def yw:eC->PyData
 |.inl i=>.int i
 |.inr x=>.str x
theorem yX:∀{ks:List eC}{vs:ad}{us:List (eC×Value)},KV (ks.zip vs) us->ks.length=vs.length->ba vs (us.map (·.2))/\us.map (·.1)=ks
 |[],[],_,.nil,_=>⟨.nil,rfl⟩
 |k::ks,v::vs,_,.cons ⟨a,b⟩ t,h=>by
  obtain⟨h1,h2⟩:=yX (ks:=ks) (vs:=vs) t (by simpa using h);exact⟨.cons b h1,by rw[List.map_cons,h2,←a]⟩
theorem mh{h:Heap}:∀{es:List DictEntry}{us:List (eC×Value)},Pairs (cc prog w) es us->PySem.ReadsAll h (es.map (·.key)) ((us.map (·.1)).map yw) []/\es.map (·.val)=us.map (·.2)
 |_,_,.nil=>⟨.nil,rfl⟩
 |_,_,.cons (e:=e) (kv:=kv) a b t=>by
  obtain⟨h1,h2⟩:=mh t;refine⟨?_,by rw[List.map_cons,List.map_cons,h2,b]⟩;have hk:PySem.Reads h e.key (yw kv.1) []:=by
   rcases bY (show oh kv.1 e.key=true from a) with⟨i,t,e1,e2⟩|⟨x,t,e1,e2⟩
   .rw[e1,e2];exact .int i t
   .rw[e1,e2];exact .str x t
  exact PySem.ReadsAll.cons hk h1
theorem yh{α β:Type}:∀{xs:List α}{ys:List β},xs.length=ys.length->(xs.zip ys).map (·.1)=xs/\(xs.zip ys).map (·.2)=ys
 |[],[],_=>⟨rfl,rfl⟩
 |x::xs,y::ys,h=>by
  obtain⟨h1,h2⟩:=yh (xs:=xs) (ys:=ys) (by simpa using h);exact⟨by rw[List.zip_cons_cons,List.map_cons,h1],by rw[List.zip_cons_cons,List.map_cons,h2]⟩
def nN(I:L2.Inv X pins σ H s){ks:List eC}{ps:List PyData}{bs:List Addr}(h2:Rd H a (.dK (ks.zip vs)))(h4:ks.length=vs.length)(hl:ps.length=ks.length)
  (hr:∀us,ba vs us->∃bs,PySem.ReadsAll s.heap us ps bs/\sysModules∉bs):∃as,PySem.Reads s.heap (.ref a) (.dict ((ks.map yw).zip ps)) as/\sysModules∉as:=by
 obtain⟨_,n1,us,k1,d1⟩:=(show cw X.prog X.w H s.heap a (.dK (ks.zip vs)) from h2.ok I.hok)
 obtain⟨o,es,ep,e1,e2,e3,_,e5,_⟩:=d1;obtain⟨hv,hk⟩:=yX k1 h4;obtain⟨bs,r1,m1⟩:=hr _ hv;obtain⟨p1,p2⟩:=mh (h:=s.heap) e5;obtain⟨z1,z2⟩:=yh (xs:=ks.map yw) (ys:=ps) (by rw[List.length_map,hl]);refine⟨_,.dict e1 e2.1 e3 (as:=[]) (bs:=bs) (by rw[z1,←hk];exact p1) (by rw[z2,p2];exact r1),?_⟩;simp only[List.append_nil,List.cons_append,List.nil_append,List.mem_cons,not_or];exact⟨λz=>by rw[←z]at n1;simp at n1,m1⟩
mutual
theorem uM(I:L2.Inv X pins σ H s):∀(d:D) (v:V) (u:Value) (p:PyData),Rep X.K H d v->bb v u->eM d=some p->∃as,PySem.Reads s.heap u p as/\sysModules∉as
 |.non,v,u,p,r,rv,e=>by
  rw[eM]at e;cases e;rw[aL.mp r]at rv;cases rv;exact⟨_,.none,by simp⟩
 |.bl b,v,u,p,r,rv,e=>by
  rw[eM]at e;cases e;rw[aH.mp r]at rv;cases rv;exact⟨_,.bool b,by simp⟩
 |.int i,v,u,p,r,rv,e=>by
  rw[eM]at e;cases e;rw[ar.mp r]at rv;obtain⟨t,rfl⟩:=rv;exact⟨_,.int i t,by simp⟩
 |.str x,v,u,p,r,rv,e=>by
  rw[eM]at e;cases e;rw[Rep.str_iff.mp r]at rv;obtain⟨t,rfl⟩:=rv;exact⟨_,.str x t,by simp⟩
 |.tup ds,v,u,p,r,rv,e=>by
  rw[eM]at e;cases e1:toPys ds with
  |none=>rw[e1]at e;cases e
  |some ps=>
   rw[e1]at e;cases e;obtain⟨a,vs,its,rfl,rfl,h1,h2,h3,⟨o,k1,k2,n,k3⟩,_⟩:=aU I r rv;obtain⟨as,h4,h5⟩:=reads_ofs I ds vs its ps h2 h3 e1;exact⟨_,.tuple k1 k2 k3 (by simpa using h4),h5⟩
 |.lst ds,v,u,p,r,rv,e=>by
  rw[eM]at e;cases e1:toPys ds with
  |none=>rw[e1]at e;cases e
  |some ps=>
   rw[e1]at e;cases e;obtain⟨a,vs,its,rfl,rfl,h1,h2,h3,⟨o,k1,k2,n,k3⟩,_⟩:=aT I r rv;obtain⟨as,h4,h5⟩:=reads_ofs I ds vs its ps h2 h3 e1;exact⟨_,.list k1 k2 k3 (by simpa using h4),by rw[List.mem_cons,not_or];exact⟨Ne.symm (ES I h1),h5⟩⟩
 |.dic ks ds,v,u,p,r,rv,e=>by
  rw[eM]at e;cases e1:toPys ds with
  |none=>rw[e1]at e;cases e
  |some ps=>
   rw[e1]at e;cases e;rw[Rep]at r;obtain⟨a,kvs,vs,rfl,h2,h3,h4,h5⟩:=r;subst h3;obtain rfl:u=Value.ref a:=rv;have hl:=h5.length;have:=nN I (bs:=[]) (ps:=ps) h2 (by rw[List.length_map];exact h4) (by rw[List.length_map,lI e1,hl,h4]) λus hv=>reads_ofs I ds vs us ps h5 hv e1;rw[List.map_map]at this;exact this
 |.exc _,v,u,p,r,rv,e=>by rw[eM]at e;cases e
 |.ob k ds,v,u,p,r,rv,e=>by
  cases k with
  |dint ks=>
   rw[eM]at e;cases e1:toPys ds with
   |none=>rw[e1]at e;cases e
   |some ps=>
    rw[e1]at e;cases e;obtain⟨a,vs,rfl,⟨kvs,h2,h3,h4⟩,h5⟩:=jE.mp r;subst h3;obtain rfl:u=Value.ref a:=rv;have hl:=h5.length;have:=nN I (bs:=[]) (ps:=ps) h2 (by rw[List.length_map];exact h4) (by rw[List.length_map,lI e1,hl,h4]) λus hv=>reads_ofs I ds vs us ps h5 hv e1;rw[List.map_map]at this;exact this
  |_=>simp[eM]at e
theorem reads_ofs(I:L2.Inv X pins σ H s):∀(ds:ac) (vs:ad) (us:List Value) (ps:List PyData),Reps X.K H ds vs->ba vs us->toPys ds=some ps->∃as,PySem.ReadsAll s.heap us ps as/\sysModules∉as
 |[],vs,us,ps,r,rv,e=>by
  rw[toPys]at e;cases e;rw[Reps.nil_iff.mp r]at rv;cases rv;exact⟨_,.nil,by simp⟩
 |d::ds,vs,us,ps,r,rv,e=>by
  obtain⟨v,vr,rfl,h1,h2⟩:=aB.mp r;cases rv with
  |cons ra rb=>
   rw[toPys]at e;cases e1:eM d with
   |none=>rw[e1]at e;cases e
   |some p=>
    cases e2:toPys ds with
    |none=>rw[e1,e2]at e;cases e
    |some qs=>
     rw[e1,e2]at e;cases e;obtain⟨as,k1,m1⟩:=uM I d v _ p h1 ra e1;obtain⟨bs,k2,m2⟩:=reads_ofs I ds vr _ qs h2 rb e2;exact⟨_,.cons k1 k2,by rw[List.mem_append,not_or];exact⟨m1,m2⟩⟩
end
def Bv(d:D):Bool:=match d with
 |.tup _=>true
 |.lst _=>true
 |_=>false
def me(p:PyData):Bool:=p.showable&&decide (p.depth<=100)&&decide (p.shown.length<=sizeLine)
def pR(d:D):ai D:=match eM d with
 |some p=>if Bv d=true/\me p=true then .ok (.str p.shown) else .stuck
 |none=>.stuck
def sC{k:Nat}(hr:cB k X.A):iJ X (.builtin "repr") (λxs H Q=>∃v d p,xs=[v]/\Rep X.K H d v/\eM d=some p/\Bv d=true/\me p=true/\Q (.str p.shown) H):=by
 intro pins s σ H xs us Q I r h;obtain⟨v,d,p,rfl,rd,e,hq,hw,q⟩:=h;obtain⟨u,rfl,rx⟩:=qX r;obtain⟨as,hR,hm⟩:=uM I d v u p rd rx e;have hu:∃a,u=.ref a:=by
  cases d with|tup ds=>obtain⟨a,_,_,_,h,_⟩:=aU I rd rx;exact⟨a,h⟩|lst ds=>obtain⟨a,_,_,_,h,_⟩:=aT I rd rx;exact⟨a,h⟩| _=>cases hq
 obtain⟨a,rfl⟩:=hu;unfold me at hw;simp only[Bool.and_eq_true,decide_eq_true_eq]at hw;obtain⟨⟨w1,w3⟩,w4⟩:=hw;refine repr_of_reads' hR w1 (λ_=>hm) hr.gd (by have:=hr.un;omega) (λb o e=>e) (λh' u' tk hk=>⟨.str p.shown,H,I.kept hk,⟨u',rfl⟩,q⟩) w4
def zO:iK X E (λxs H Q=>∃v d p,xs=[v]/\Rep X.K H d v/\eM d=some p/\Bv d=true/\me p=true/\Q (.str p.shown) H) (m1 pR):=wB λx v H Ha Q hs r q=>by
 unfold pR at q;cases e:eM x with
 |none=>rw[e]at q;exact q.elim
 |some p=>
  rw[e]at q;replace q:post X.K E H Ha (if Bv x=true/\me p=true then .ok (.str p.shown) else .stuck) Q:=q
  by_cases hc:Bv x=true/\me p=true
  .rw[if_pos hc]at q
   exact⟨v,x,p,rfl,r.mono hs,e,hc.1,hc.2,bh hs q (Rep.str_iff.mpr rfl)⟩
  .rw[if_neg hc]at q;exact q.elim
end
structure FT (K:W.Frag) (mg:Str->Option Value) (x:Str) (st:Stmt) (ps:List Str) (a:Addr) (d:FuncData):Prop where
 F:DJ K x x st a d
 b:iL K d ps []
 g:mg x=some (.ref a)
noncomputable def QA(K:W.Frag) (x:Str) (st:Stmt) (a:Addr):Prop:=W.nsIn K mainGlobals x=some (some (.ref a))/\W.keepIn K (.ref a)=true/\∃oc kV dc pm cd ct od an sl,K.lookup a=some ⟨oc,od,.func (W.fnOf x x (defArgs st) (defBody st) (defScope st) .none kV dc pm an cd ct),sl⟩/\W.codeIn K cd x=true
def J0{K:W.Frag}{h:Heap}{st:Stmt}{ps:List Str}(X:K.In h)(G:h.Ns mainGlobals mg)(q:QA K x st a)
  (hb:∀(kV doc pm:Value) (an:Option Addr) (cdv ct:Value) (us:List Value),us.length=ps.length->bindArgs (W.fnOf x x (defArgs st) (defBody st) (defScope st) .none kV doc pm an cdv ct) ⟨us,[]⟩=pure (ps.zip us)) :
  ∃d,FT K mg x st ps a d/\∃kV doc pm an cdv ct,d=W.fnOf x x (defArgs st) (defBody st) (defScope st) .none kV doc pm an cdv ct:=by
 obtain⟨e1,e4,oc,kV,dc,pm,cd,ct,od,an,sl,e2,e3⟩:=q;exact⟨_,⟨CG e2 e3 e4,(CG (st:=st) e2 e3 e4).binds hb,W.mg_of X G e1⟩,_,_,_,_,_,_,rfl⟩
section
variable {X:Cx}{E:XK}{e:Expr}{es:List Expr}{fa:Ev->ai (ac)}{f g h i j:al}{pos:Pos}{CX:yg}{k n:Nat}{fn:Addr}{fd:FuncData}{ps:List Str}{m:ac->ai D}{x:Str}{p:Pos}{st:Stmt}
def KC(ρ:Ev)(ds:ac)(h:ah f aG ρ=.ok ds):ds.length=1:=l6 (λ_ h=>Dr h) h
def KA(ρ:Ev)(ds:ac)(q:ah f (ah g aG) ρ=.ok ds):ds.length=2:=l6 (KC ρ) q
def LB(ρ:Ev)(ds:ac)(q:ah f (ah g (ah h aG)) ρ=.ok ds):ds.length=3:=l6 (KA ρ) q
end
section
variable {X:Cx}{E:XK}{He H0e:Hp}{a:Addr}{e:Expr}{es:List Expr}{pos:Pos}{f g:al}{fm gm hm im jm:Ev->ac->ai (D×ac)}{fa:Ev->ac->ai (ac×ac)}{s:Ev->ac->ai c8}{st:Stmt}
def uH(f:al):am:=λρ=>(f ρ).bind λd=>.ok (.rt d)
def AL(h:DF X E e f):Dx X E He H0e [.Return (some e) pos] (uH f):=by
 refine⟨dI (eU (nQ h.o) m6) λD' σ H z9=>?_⟩;obtain⟨Ha,ρ,h,q⟩:=z9;refine⟨Ha,ρ,h.g.sub,h.rd,?_⟩;unfold uH at q;cases e1:f ρ with
 |stuck=>rw[e1]at q;exact q|exn x=>rw[e1]at q;exact λC ox H' Ha' g r=>q C ox H' Ha' (h.g.trans g) r
 |ok d=>
  rw[e1]at q;cases d with|lst ds=>exact λp vs H' Ha' g hp h0 hv rp=>q p vs H' Ha' (h.g.trans g) (h.g.s.free hp) h0 hv rp| _=>exact q.elim
def rm(hr:∀ρ st ds,fa ρ st=.ok ds->ds.1.length=n)(ρ:Ev)(st:ac)(ds:ac×ac)(h:bO fm fa ρ st=.ok ds):ds.1.length=n+1:=by
 unfold bO at h;cases e1:fm ρ st with
 |stuck|exn x=>rw[e1]at h;cases h
 |ok p=>
  rw[e1]at h;simp only[ai.bind]at h;cases e2:fa ρ p.2 with|stuck|exn x=>rw[e2]at h;cases h|ok q=>rw[e2]at h;cases h;simp[hr _ _ _ e2]
def Md(ρ:Ev)(st:ac)(ds:ac×ac)(h:dh ρ st=.ok ds):ds.1.length=0:=by cases h;rfl
def LA(ρ:Ev)(st:ac)(ds:ac×ac)(h:bO fm dh ρ st=.ok ds):ds.1.length=1:=rm Md ρ st ds h
def Mc(ρ:Ev)(st:ac)(ds:ac×ac)(h:bO fm (bO gm dh) ρ st=.ok ds):ds.1.length=2:=rm LA ρ st ds h
variable {CX:yg}{k n:Nat}{fn:Addr}{fd:FuncData}{ps:List Str}{x:Str}{p:Pos}{ft:Stmt}
def pK(ha:DM X He H0e a l fm)(hb:DM X He H0e a b gm):DM X He H0e a (.BinOp l .Add b pos) (mB fm gm cb):=F4 (E:=E0) (dW.or Cb (dW.or nU (dW.or yK yJ))) (by
 intro x y v u H Ha Q hs r1 r2 q;unfold cb at q;cases x with
 |int i=>
  cases y with|int j=>exact .inl ⟨i,j,ar.mp r1,ar.mp r2,bh hs q (ri _)⟩| _=>exact q.elim
 |str i=>
  cases y with
  |str j=>
   by_cases h:i.length+j.length<=line
   .simp only[if_pos h]at q
    exact .inr (.inl ⟨i,j,Rep.str_iff.mp r1,Rep.str_iff.mp r2,cE h,bh hs q (Rep.str_iff.mpr rfl)⟩)
   .simp only[if_neg h]at q;exact q.elim
  |_=>exact q.elim
 |lst ds=>
  cases y with
  |lst es=>
   by_cases h:ds.length+es.length<=line
   .simp only[if_pos h]at q
    obtain⟨l,vs,rfl,h1,h2⟩:=aE.mp r1;obtain⟨m,us,rfl,k1,k2⟩:=aE.mp r2;refine .inr (.inr (.inl ⟨l,m,vs,us,rfl,rfl,aA.sqL hs h1,aA.sqL hs k1,by rw[←h2.length,←k2.length];exact cE h,λp hp=>?_⟩));exact q _ _ _ (aV hs hp) (aE.mpr ⟨p,_,rfl,d9.of aC,(h2.app k2).mono (aV hs hp).z⟩)
   .simp only[if_neg h]at q;exact q.elim
  |_=>exact q.elim
 |tup ds=>
  cases y with
  |tup es=>
   by_cases h:ds.isEmpty=false/\ds.length+es.length<=line
   .simp only[if_pos h]at q
    obtain⟨l,vs,rfl,h1,h2⟩:=aI.mp r1;obtain⟨m,us,rfl,k1,k2⟩:=aI.mp r2;refine .inr (.inr (.inr ⟨l,m,vs,us,rfl,rfl,aA.sqT hs h1,aA.sqT hs k1,λz=>?_,by rw[←h2.length,←k2.length];exact cE h.2,λz=>?_,λz p hp=>?_⟩))
    .have:=h2.length
     rw[z]at this;have e:ds=[]:=List.length_eq_zero_iff.mp this;rw[e]at h;exact absurd h.1 (by decide)
    .have:=k2.length
     rw[z]at this;have e:es=[]:=List.length_eq_zero_iff.mp this;rw[e,List.append_nil]at q;exact bh hs q r1
    .exact q _ _ _ (aV hs hp) (aI.mpr ⟨p,_,rfl,i4.of aC,(h2.app k2).mono (aV hs hp).z⟩)
   .simp only[if_neg h]at q;exact q.elim
  |_=>exact q.elim
 |_=>exact q.elim) ha hb
def C2(ha:DM X He H0e a l fm)(hb:DM X He H0e a b gm):DM X He H0e a (.BinOp l .Mod b pos) (mB fm gm cN):=F4 (E:=E0) yH (tI (λ_ _ h=>of_decide_eq_true h) λ_ _ _ _=>ri _) ha hb
def ud(ha:DM X He H0e a l fm)(hb:DM X He H0e a b gm)(hs:gM b:=by intro _ _;rfl):DM X He H0e a (.Subscript l b pos) (mB fm gm aP):=Ka (E:=E0) Cz FJ ha hb hs
def Lm(N:List Str)(n:Nat)(fr:bi)(hc:X.calm=true)(hi:MI X He H0e a tgt iter src)(hok:ya n tg)
  (blk:∀s H C fp pn,(∀He H0e,DG (cv X N scope s H C fp pn) E He H0e tgt tg)/\∀He H0e,DM (cv X N scope s H C fp pn) He H0e a elt fm)
  (hfr:yd X N n fr scope)(hcell:(scope.names.all λx=>!(x.2==.cell))=true)(hfree:(scope.names.all λx=>!(x.2==.free)||(X.env.scope.names.lookup x.1==some .cell))=true)(hkind:scope.kind=.function)
  (hnames:(scope.names.all λx=>!(x.2==.local)||(scope.names.lookup x.1==some .local))=true)
  (hs:∀x,foldedSetIterable iter X.env x=pure x:=by intro _;rfl):LH X He H0e a (.ListComp elt [⟨tgt,iter,[],0⟩] scope pos) (mE n fr src tg fm):=by
 refine MA (E:=E) N n fr hc hi hok blk hfr (λx hx z=>?_) (λx hx z=>?_) hkind (λx hx z=>?_) hs
 .have:=List.all_eq_true.mp hcell x hx
  rw[z]at this;simp at this
 .have:=List.all_eq_true.mp hfree x hx
  rw[z]at this;simpa using this
 .have:=List.all_eq_true.mp hnames x hx
  rw[z]at this;simpa using this
end
def jD:List Str->ac->Str->Option D
 |k::ks,d::ds,x=>if k=x then some d else jD ks ds x
 |_,_,_=>none
def dP(x y:D):ai D:=match x,y with
 |.dic ks ds,.str k=>match jD ks ds k with
  |some d=>.ok d
  |none=>.stuck
 |_,_=>.stuck
def pT(x y:D):ai D:=match x,y with
 |.str k,.dic ks ds=>.ok (.bl (jD ks ds k).isSome)
 |_,_=>.stuck
def ef(x y:D):ai D:=match x,y with
 |.str k,.dic ks ds=>.ok (.bl (!(jD ks ds k).isSome))
 |_,_=>.stuck
theorem l5{K:W.Frag}{H:Hp}{k:Str}:∀{ks:List Str}{ds:ac}{vs:ad},ks.length=vs.length->Reps K H ds vs ->
  (∀d,jD ks ds k=some d->∃v,mO ((ks.map Sum.inr).zip vs) (Sum.inr k:eC)=some v/\Rep K H d v)/\(jD ks ds k=none->mO ((ks.map Sum.inr).zip vs) (Sum.inr k:eC)=none)
 |[],ds,vs,hl,r=>by
  exact⟨λd e=>(nomatch e),λ_=>rfl⟩
 |x::ks,ds,vs,hl,r=>by
  cases vs with
  |nil=>cases hl
  |cons v vs=>
   cases ds with
   |nil=>have:=Reps.nil_iff.mp r;cases this
   |cons d ds=>
    obtain⟨v',vr,e0,h1,h2⟩:=aB.mp r;cases e0;obtain⟨i1,i2⟩:=l5 (k:=k) (ks:=ks) (ds:=ds) (vs:=vs) (by simpa using hl) h2;rw[List.map_cons,List.zip_cons_cons]
    by_cases hx:x=k
    .subst hx
     refine⟨λd' e=>?_,λe=>?_⟩
     .rw[jD,if_pos rfl]at e;cases e
      exact⟨v,jH rfl,h1⟩
     .rw[jD,if_pos rfl]at e;cases e
    .have hne:¬(Sum.inr x:eC)=Sum.inr k:=λz=>hx (Sum.inr.inj z)
     refine⟨λd' e=>?_,λe=>?_⟩
     .rw[jD,if_neg hx]at e
      rw[gZ hne];exact i1 d' e
     .rw[jD,if_neg hx]at e
      rw[gZ hne];exact i2 e
section
variable {X:Cx}{E:XK}{a b:Expr}{f g:al}{pos:Pos}
abbrev Jp:R2:=λx y H Q=>∃p v,x=.ref p/\qA H p y (some v)/\Q v H
abbrev Jo:R2:=λy x H Q=>∃p o,x=.ref p/\qA H p y o/\Q (.bl o.isSome) H
abbrev yu:R2:=λy x H Q=>∃p o,x=.ref p/\qA H p y o/\Q (.bl (!o.isSome)) H
def EI:qC X.K E Jp dP:=by
 intro x y v u H Ha Q hs r1 r2 q;unfold dP at q;cases x with
 |dic ks ds=>
  cases y with
  |str k=>
   rw[Rep]at r1;obtain⟨p,kvs,vs,rfl,h1,rfl,hl,h4⟩:=r1;rw[Rep.str_iff.mp r2];cases e:jD ks ds k with
   |none=>simp only[e]at q;exact q.elim
   |some d=>
    simp only[e]at q;obtain⟨v,hv,rv⟩:=(l5 hl h4).1 d e;exact⟨p,v,rfl,.inl ⟨_,.inr k,aA.rd hs h1,rfl,hv.symm⟩,bh hs q rv⟩
  |_=>exact q.elim
 |_=>exact q.elim
def zd{k:Str}{K:W.Frag}(hs:aA Ha H)(r1:Rep K Ha (.str k) v)(r2:Rep K Ha (.dic ks ds) u):∃p o,u=.ref p/\qA H p v o/\o.isSome=(jD ks ds k).isSome:=by
 rw[Rep]at r2;obtain⟨p,kvs,vs,rfl,h1,rfl,hl,h4⟩:=r2;rw[Rep.str_iff.mp r1];refine⟨p,_,rfl,.inl ⟨_,.inr k,aA.rd hs h1,rfl,rfl⟩,?_⟩;cases e:jD ks ds k with|none=>rw[(l5 hl h4).2 e];rfl|some d=>obtain⟨v,hv,_⟩:=(l5 hl h4).1 d e;rw[hv];rfl
def xo:qC X.K E Jo pT:=by
 intro x y v u H Ha Q hs r1 r2 q;unfold pT at q;cases x with
 |str k=>
  cases y with
  |dic ks ds=>
   obtain⟨p,o,e1,e2,e3⟩:=zd hs r1 r2;exact⟨p,o,e1,e2,by rw[e3];exact bh hs q (rb _)⟩
  |_=>exact q.elim
 |_=>exact q.elim
def lS:qC X.K E yu ef:=by
 intro x y v u H Ha Q hs r1 r2 q;unfold ef at q;cases x with
 |str k=>
  cases y with
  |dic ks ds=>
   obtain⟨p,o,e1,e2,e3⟩:=zd hs r1 r2;exact⟨p,o,e1,e2,by rw[e3];exact bh hs q (rb _)⟩
  |_=>exact q.elim
 |_=>exact q.elim
def xm(hu:X.A.units+1<cLine):dW X (compareOp .In) Jo:=by
 intro pins s σ H x y v u Q I rx ry h;obtain⟨p,o,rfl,g,q⟩:=h;cases ry;exact Ly hu I g rx λs' I'=>⟨.bl o.isSome,H,I',rfl,q⟩
def lO(hu:X.A.units+1<cLine):dW X (compareOp .NotIn) yu:=by
 intro pins s σ H x y v u Q I rx ry h;obtain⟨p,o,rfl,g,q⟩:=h;cases ry;exact Fd hu I g rx λs' I'=>⟨.bl (!o.isSome),H,I',rfl,q⟩
def gD(hu:X.A.units+1<cLine)(ha:DE X E a f)(hb:DE X E b g)(hs:Io b:=by intro _ _;rfl):DE X E (.Subscript a b pos) (aa f g dP) :=
 ⟨aQ (EB hu ha.o hb.o hs) (fO EI)⟩
end
section
variable {K:W.Frag}{E:XK}{He H0e Ha H H1:Hp}{σ:L2.St}{ρ:Ev}
def cO.putOwnG(h:cO K He H0e Ha σ H ρ)(hp:∀(j:Nat) (a:Addr),σ[j]?=some (some (V.ref a))->a=p->∀d:D,ρ[j]?≠some (Sl.ow d))(he:He p=none)(h0:Ha p=none)(ho:Ft K Ha H p dn)(hx:∀(i j:Nat) (ds:ac) (a q:Addr),ρ[i]?=some (.ox j ds)->σ[i]?=some (some (.ref a))->Im K He Ha H a j ds q->p≠q) :
  cO K He H0e Ha (σ.set i (some (.ref p))) H (ρ.set i (.ow dn)):=by
 have key:∀(j:Nat) (s:Sl),(ρ.set i (.ow dn))[j]?=some s->(j=i/\s=.ow dn/\i<σ.length)∨(j≠i/\ρ[j]?=some s):=λj s e=>by
  by_cases hj:i=j
  .subst hj
   rw[List.getElem?_set_self']at e;cases q:ρ[i]? with
   |none=>rw[q]at e;cases e
   |some s'=>
    rw[q]at e;cases e;refine .inl ⟨rfl,rfl,?_⟩;rw[←h.ln];exact(List.getElem?_eq_some_iff.mp q).1
  .rw[List.getElem?_set_ne hj]at e
   exact .inr ⟨λz=>hj z.symm,e⟩
 have other:∀(k:Nat) (d2:D),k≠i->ρ[k]?=some (.ow d2)->some (some (V.ref p))≠σ[k]?:=λk d2 hk e2 z=>by
  obtain⟨a,h1,_⟩:=h.ow k d2 e2;rw[h1]at z;cases z;exact hp k p h1 rfl d2 e2
 refine⟨h.g,λj d' e=>?_,λj d' e=>?_,λj k d1 d2 hn e1 e2=>?_,by simp[h.ln],h.ex.upd (λj s e=>?_) (aA.refl _) (λa vs _ e=>e) λp us _ h0 hp _=>⟨hp,h0⟩⟩
 rotate_left 3
 .rcases key j _ e with⟨rfl,e',hl⟩|⟨hj,e'⟩
  .exact .inr (.inr (.inr ⟨dn,p,e',by rw[List.getElem?_set_self hl],hx⟩))
  .exact .inl ⟨e',by rw[List.getElem?_set_ne (Ne.symm hj)]⟩
 .rcases key j _ e with⟨rfl,e',hl⟩|⟨hj,e'⟩
  .cases e'
  .obtain⟨v',h1,h2⟩:=h.rd j d' e'
   exact⟨v',by rw[List.getElem?_set_ne (Ne.symm hj)];exact h1,h2⟩
 .rcases key j _ e with⟨rfl,e',hl⟩|⟨hj,e'⟩
  .cases e'
   exact⟨p,by rw[List.getElem?_set_self hl],he,h0,ho⟩
  .obtain⟨a,h1,h2⟩:=h.ow j d' e'
   exact⟨a,by rw[List.getElem?_set_ne (Ne.symm hj)];exact h1,h2⟩
 .rcases key j _ e1 with⟨rfl,_,hl⟩|⟨hj,e1'⟩
  .rcases key k _ e2 with⟨rfl,_,_⟩|⟨hk,e2'⟩
   .exact absurd rfl hn
   .rw[List.getElem?_set_self hl,List.getElem?_set_ne (Ne.symm hk)]
    exact other k d2 hk e2'
  .rcases key k _ e2 with⟨rfl,_,hl⟩|⟨hk,e2'⟩
   .rw[List.getElem?_set_self hl,List.getElem?_set_ne (Ne.symm hj)]
    exact λz=>other j d1 hj e1' z.symm
   .rw[List.getElem?_set_ne (Ne.symm hj),List.getElem?_set_ne (Ne.symm hk)]
    exact h.ap j k d1 d2 hn e1' e2'
def cO.writeG(h:cO K He H0e Ha σ H ρ)(e:ρ[i]?=some (.ow d))(es:σ[i]?=some (some (.ref p)))(ho:Ft K Ha (upd H p o) p dn) :
  cO K He H0e Ha σ (upd H p o) (ρ.set i (.ow dn)):=by
 obtain⟨a,h1,h2,h3,h4⟩:=h.ow i d e;rw[h1]at es;cases es;have hil:i<ρ.length:=(List.getElem?_eq_some_iff.mp e).1;have key:∀(j:Nat) (s:Sl),(ρ.set i (.ow dn))[j]?=some s->(j=i/\s=.ow dn)∨(j≠i/\ρ[j]?=some s):=λj s e=>by
  by_cases hj:i=j
  .subst hj
   rw[List.getElem?_set_self hil]at e;cases e;exact .inl ⟨rfl,rfl⟩
  .rw[List.getElem?_set_ne hj]at e
   exact .inr ⟨λz=>hj z.symm,e⟩
 refine⟨⟨λb o' eb=>?_,h.g.z,λb o' eb=>?_,h.g.nw⟩,λj d' e'=>?_,λj d' e'=>?_,λj k d1 d2 hn e1 e2=>?_,by simp[h.ln],h.ex.upd (λj s e'=>?_) (aA.refl _) (λb us _ eb=>?_) λq us _ q0 hq hd=>?_⟩
 rotate_left 5
 .rcases key j _ e' with⟨rfl,e''⟩|⟨hj,e''⟩
  .exact .inr (.inr (.inr ⟨dn,p,e'',h1,λi' j' ds' a' p' x1 x2 x3=>by
    obtain⟨a2,p2,y1,y2,y3,_⟩:=h.ex.1 i' j' ds' x1;rw[x2]at y1;cases y1;have:p2=p':=by
     obtain⟨vs1,_,_,_,z1,_,_,_,z2,_⟩:=x3;obtain⟨vs2,_,_,_,z3,_,_,_,z4,_⟩:=y2;rw[z1]at z3;cases z3;rw[z2]at z4;cases z4;rfl
    subst this;intro zz;subst zz;exact y3 j d e h1⟩))
  .exact .inl ⟨e'',rfl⟩
 .rw[av (by
   intro z;subst z;cases d with
   |lst ds'|dic ks ds'=>obtain⟨vs',h5,_⟩:=h4;rw[h5]at eb;cases eb
   |_=>exact h4)];exact eb
 .have hq':q≠p:=by
   intro z;subst z;exact hd i d e h1
  exact⟨by rw[av hq'];exact hq,q0⟩
 .rw[av (by intro z;subst z;rw[h2]at eb;cases eb)];exact h.g.s _ _ eb
 .rw[av (by intro z;subst z;rw[h3]at eb;cases eb)];exact h.g.sub _ _ eb
 .rcases key j _ e' with⟨rfl,e''⟩|⟨hj,e''⟩
  .cases e''
  .exact h.rd j d' e''
 .rcases key j _ e' with⟨rfl,e''⟩|⟨hj,e''⟩
  .cases e''
   exact⟨p,h1,h2,h3,ho⟩
  .obtain⟨b,k1,k2,k3,k4⟩:=h.ow j d' e''
   refine⟨b,k1,k2,k3,?_⟩;have hb:b≠p:=by
    intro z;subst z;exact h.ap j i d' d hj e'' e (by rw[k1,h1])
   cases d' with
   |lst ds'=>
    obtain⟨vs',h5,h6⟩:=k4;exact⟨vs',by rw[av hb];exact h5,h6⟩
   |dic ks ds'=>
    obtain⟨vs',h5,hl,h6⟩:=k4;exact⟨vs',by rw[av hb];exact h5,hl,h6⟩
   |_=>exact k4.elim
 .rcases key j _ e1 with⟨rfl,e1'⟩|⟨hj,e1'⟩
  .rcases key k _ e2 with⟨rfl,_⟩|⟨hk,e2'⟩
   .exact absurd rfl hn
   .exact h.ap j k d d2 hn e e2'
  .rcases key k _ e2 with⟨rfl,_⟩|⟨hk,e2'⟩
   .exact h.ap j k d1 d hn e1' e
   .exact h.ap j k d1 d2 hn e1' e2'
end
def w8:List Str->ac->Str->D->ac
 |k::ks,e::ds,x,d=>(if k=x then d else e)::w8 ks ds x d
 |_,ds,_,_=>ds
def qI(ks:List Str)(ds:ac)(k:Str)(d:D):D:=if k∈ks then .dic ks (w8 ks ds k d) else .dic (ks++[k]) (ds++[d])
theorem zQ{k:Str}:∀{ks:List Str}{vs:ad},ks.length=vs.length->(((ks.map Sum.inr).zip vs).any λkv=>decide (kv.1=(Sum.inr k:eC)))=decide (k∈ks)
 |[],_,_=>rfl
 |x::ks,[],h=>nomatch h
 |x::ks,v::vs,h=>by
  rw[List.map_cons,List.zip_cons_cons,List.any_cons,zQ (by simpa using h)]
  by_cases hx:x=k
  .subst hx;simp
  .have:¬k=x:=λz=>hx z.symm
   simp[hx,this]
theorem yr{K:W.Frag}{H:Hp}{k:Str}{d:D}{v:V}(r:Rep K H d v):∀{ks:List Str}{ds:ac}{vs:ad},ks.length=vs.length->Reps K H ds vs ->
  ∃vs',(((ks.map Sum.inr).zip vs).map λkv=>if kv.1=(Sum.inr k:eC) then(kv.1,v) else kv)=(ks.map Sum.inr).zip vs'/\ks.length=vs'.length/\Reps K H (w8 ks ds k d) vs'
 |[],ds,vs,hl,h=>⟨vs,rfl,hl,by cases ds<;>exact h⟩
 |x::ks,ds,[],hl,h=>nomatch hl
 |x::ks,[],v'::vs,hl,h=>by have:=Reps.nil_iff.mp h;cases this
 |x::ks,e::ds,v'::vs,hl,h=>by
  obtain⟨v2,vr,e0,h1,h2⟩:=aB.mp h;cases e0;obtain⟨vs',i1,i2,i3⟩:=yr r (ks:=ks) (ds:=ds) (vs:=vs) (by simpa using hl) h2;rw[List.map_cons,List.zip_cons_cons,List.map_cons,i1]
  by_cases hx:x=k
  .subst hx
   refine⟨v::vs',by rw[if_pos rfl];rfl,by simp[i2],?_⟩;rw[w8,if_pos rfl];exact Reps.cons r i3
  .have hne:¬(Sum.inr x:eC)=Sum.inr k:=λz=>hx (Sum.inr.inj z)
   refine⟨v'::vs',by rw[if_neg hne];rfl,by simp[i2],?_⟩;rw[w8,if_neg hx];exact Reps.cons h1 i3
theorem Reps.snoc{K:W.Frag}(r:Rep K H d v):∀{ds:ac}{vs:ad},Reps K H ds vs->Reps K H (ds++[d]) (vs++[v])
 |[],vs,h=>by rw[Reps.nil_iff.mp h];exact Reps.cons r Reps.nil
 |e::ds,vs,h=>by
  obtain⟨v2,vr,rfl,h1,h2⟩:=aB.mp h;exact Reps.cons h1 (Reps.snoc r h2)
def En{K:W.Frag}{k:Str}(hl:ks.length=vs.length)(h:Reps K Ha ds vs)(r:Rep K Ha d v):Ft K Ha (upd H p (.dK (fQ ((ks.map Sum.inr).zip vs) (Sum.inr k) v))) p (qI ks ds k d):=by
 unfold qI;rw[show ∀(kvs:List (eC×V)) (u:V),fQ kvs (Sum.inr k:eC) u=if(kvs.any λkv=>decide (kv.1=(Sum.inr k:eC)))=true then kvs.map (λkv=>if kv.1=(Sum.inr k:eC) then(kv.1,u) else kv) else kvs++[((Sum.inr k:eC),u)] from λ_ _=>rfl];rw[zQ hl]
 by_cases hk:k∈ks
 .rw[if_pos hk,if_pos (decide_eq_true hk)]
  obtain⟨vs',i1,i2,i3⟩:=yr (k:=k) r hl h;exact⟨vs',by rw[aC,i1],i2,i3⟩
 .rw[if_neg hk,if_neg (by rw[decide_eq_false hk];decide)]
  refine⟨vs++[v],by rw[aC,List.map_append,List.zip_append (by rw[List.length_map];exact hl)];rfl,by simp[hl],Reps.snoc r h⟩
noncomputable def Mu(K:W.Frag) (E:XK) (f:al):TE:=λσ H Q=>∃Ha ρ,aA Ha H/\Reads K Ha σ ρ/\match f ρ with
 |.ok (.dic ks ds)=>∀p vs H' Ha',aS H Ha H' Ha'->H p=none->Ha' p=none->H' p=some (.dK ((ks.map Sum.inr).zip vs))->ks.length=vs.length->Reps K Ha' ds vs->Q (.ref p) H'
 |.ok _=>False
 |.exn x=>∀C ox H' Ha',aS H Ha H' Ha'->ye K Ha' x C ox->E C ox H'
 |.stuck=>False
structure LM (X:Cx) (E:XK) (e:Expr) (f:al):Prop where
 o:PE X e (Mu X.K E f)
def yF(i:Nat)(ρ:Ev)(d:D):ai Fl:=match d with
 |.dic ks ds=>.ok (.nx (ρ.set i (.ow (.dic ks ds))))
 |_=>.stuck
def rg(i:Nat)(f:al):am:=λρ=>(f ρ).bind (yF i ρ)
section
variable {X:Cx}{E:XK}{He H0e:Hp}{e b:Expr}{pos:Pos}{f k:al}
def ua(hN:X.N.Nodup)(hi:X.N[i]?=some x)(hx:A1 X.env.scope x)(he:LM X E e f)(hs:swapsWith e (some (.Name x pos')) pos.line X.env=pure false:=by rfl)
  (hf:X.fn x=true∨X.env.scope.names.lookup x=some .local := by first|exact .inl rfl|exact .inr rfl|assumption):DS X E He H0e (.Assign [.Name x pos'] e pos) (rg i f):=by
 refine⟨?_⟩;refine bz (lM hN hi hx he.o hs hf) λD σ H z9=>?_;obtain⟨Ha,ρ,h,q⟩:=z9;refine⟨Ha,ρ,h.g.sub,h.rd,?_⟩
 unfold rg at q;cases e1:f ρ with
 |stuck=>rw[e1]at q;exact q|exn x=>rw[e1]at q;exact λC ox H' Ha' g ex=>q C ox H' Ha' (h.g.trans g) ex
 |ok d=>
  rw[e1]at q;cases d with
  |dic ks ds=>
   intro p vs H' Ha' g hp h0 hv hl rp;refine q _ H' Ha' g.z ((h.grow g).putOwnG (dn:=.dic ks ds) (λj a ej ea d ed=>?_) (h.g.s.free hp) h0 ⟨vs,hv,hl,rp⟩ (h.fresh_x g.s hp));subst ea;obtain⟨a',k1,_,_,k4⟩:=h.ow j d ed;rw[ej]at k1;cases k1;cases d with|lst ds'|dic ks ds'=>obtain⟨vs',h5,_⟩:=k4;rw[hp]at h5;cases h5| _=>exact k4.elim
  |_=>exact q.elim
def E7:LM X E (.Dict [] [] pos) (dC (.dic [] [])):=by
 refine⟨aQ B4 λσ H Q ⟨Ha,ρ,hs,hr,q⟩=>λp hp=>?_⟩;have q:∀p vs H' Ha',aS H Ha H' Ha'->H p=none->Ha' p=none->H' p=some (.dK ((([]:List Str).map Sum.inr).zip vs))->([]:List Str).length=vs.length->Reps X.K Ha' [] vs->Q (.ref p) H':=q;have h0:Ha p=none:=hs.free hp;refine q p [] _ Ha ⟨λb o q=>by rw[av (bj q hp)];exact q,aA.refl _,λb o q=>?_,λa h1 h2=>absurd h2 h1⟩ hp h0 aC rfl Reps.nil;rw[av (by intro z;subst z;rw[h0]at q;cases q)];exact hs _ _ q
end
def C8(k d:D):ai D:=match k with
 |.str x=>.ok (.dic [x] [d])
 |_=>.stuck
def wq(kf vf:al):al:=aa kf vf C8
def xj(ρ:Ev)(i:Nat)(k:List Str->ac->ai Fl):ai Fl:=match ρ[i]? with
 |some (.ow (.dic ks ds))=>k ks ds
 |_=>.stuck
def jL(i:Nat)(ρ:Ev)(ks:List Str)(ds:ac)(d j:D):ai Fl:=match j with
 |.str x=>if ks.length<line then .ok (.nx (ρ.set i (.ow (qI ks ds x d)))) else .stuck
 |_=>.stuck
def mf(i:Nat)(f k:al):am:=λρ=>xj ρ i λks ds=>(f ρ).bind λd=>(k ρ).bind (jL i ρ ks ds d)
section
variable {X:Cx}{E:XK}{He H0e:Hp}{e b:Expr}{pos:Pos}{f k:al}
def rY(hk:DE X E b k)(hv:DE X E e f):LM X E (.Dict [some b] [e] pos) (wq k f):=by
 refine⟨?_⟩;refine aQ (EA (BV hk.o hv.o Er) rfl rfl (by simp) (by simp)) λσ H Q ⟨Ha,ρ,hs,hr,q⟩ p hpn=>?_;have h0:Ha p=none:=hs.free hpn;have hs2:aA Ha (upd H p (.dK [])):=λb o e=>by rw[av (by intro z;subst z;rw[h0]at e;cases e)];exact hs _ _ e
 have back:∀{H' Ha':Hp},aS (upd H p (.dK [])) Ha H' Ha'->aS H Ha H' Ha':=λg=>⟨λb o e=>g.s _ _ (by rw[av (bj e hpn)];exact e),g.z,g.sub,λa k1 k2=>by
   have:=g.nw a k1 k2
   by_cases ha:a=p
   .subst ha;exact hpn
   .rw[av ha]at this;exact this⟩
 refine⟨Ha,ρ,hs2,hr,?_⟩;unfold wq aa at q;cases e1:k ρ with
 |stuck=>rw[e1]at q;exact q|exn z=>rw[e1]at q;exact λC ox H' Ha' g ex=>q C ox H' Ha' (back g) ex
 |ok kd=>
  rw[e1]at q;intro xk H1 H01 g1 r1;refine⟨H01,ρ,g1.sub,hr.mono g1.z,?_⟩;cases e2:f ρ with
  |stuck=>rw[e2]at q;exact q|exn z=>rw[e2]at q;exact λC ox H' Ha' g ex=>q C ox H' Ha' (back (g1.trans g)) ex
  |ok d=>
   rw[e2]at q;intro v H2 H02 g2 r2;cases kd with
   |str x=>
    have G:=g1.trans g2;have hp2:H2 p=some (.dK []):=G.s _ _ aC;have n02:H02 p=none:=by
     cases qq:H02 p with|none=>rfl|some o=>have:=G.nw p (by rw[qq];simp) h0;rw[aC]at this;cases this
    rw[Rep.str_iff.mp r1];refine⟨hp2,[(Sum.inr x,v)],rfl,by simp,?_⟩;have q:∀p vs H' Ha',aS H Ha H' Ha'->H p=none->Ha' p=none->H' p=some (.dK (([x].map Sum.inr).zip vs))->[x].length=vs.length->Reps X.K Ha' [d] vs->Q (.ref p) H':=q;refine q p [v] _ H02 ⟨λb o e=>?_,G.z,λb o e=>?_,(back G).nw⟩ hpn n02 aC rfl (Reps.cons r2 Reps.nil)
    .rw[av (bj e hpn)];exact(back G).s _ _ e
    .rw[av (by intro z;subst z;rw[n02]at e;cases e)];exact G.sub _ _ e
   |_=>exact q.elim
def Aq{K:W.Frag}{k:List Str->ac->ai Fl}(h:cO K He H0e Ha σ H ρ)(q:bL K E He H0e Ha (xj ρ i k) D') :
  ∃ks ds p vs,ρ[i]?=some (.ow (.dic ks ds))/\σ[i]?=some (some (.ref p))/\H p=some (.dK ((ks.map Sum.inr).zip vs))/\ks.length=vs.length/\Reps K Ha ds vs/\bL K E He H0e Ha (k ks ds) D':=by
 unfold xj at q;cases e:ρ[i]? with
 |none=>rw[e]at q;exact q.elim
 |some s=>
  rw[e]at q;cases s with
  |no|sh d|ox j ds|pt a=>exact q.elim
  |ow d=>
   cases d with
   |dic ks ds=>
    obtain⟨p,h1,h2,h3,vs,h4,h5,h6⟩:=h.ow i _ e;exact⟨ks,ds,p,vs,rfl,h1,h4,h5,h6,q⟩
   |_=>exact q.elim
def BL{K:W.Frag}(h:cO K He H0e Ha σ H ρ)(e1:ρ[i]?=some (.ow (.dic ks ds)))(e2:σ[i]?=some (some (.ref p)))(e5:H p=some (.dK ((ks.map Sum.inr).zip vs)))(el:ks.length=vs.length)(e6:Reps K Ha ds vs)
  (rp:Rep K Ha d v)(rj:Rep K Ha j u)(q:bL K E He H0e Ha (jL i ρ ks ds d j) D'):∃a H4,V.ref p=.ref a/\A2 H a u v H4/\D'.nx σ H4:=by
 unfold jL at q;cases j with
 |str x=>
  by_cases hl:ks.length<line
  .simp only[if_pos hl]at q
   rw[Rep.str_iff.mp rj];refine⟨p,_,rfl,A2.k (k:=.inr x) e5 ?_,?_⟩
   .rw[List.length_zip,List.length_map,←el,Nat.min_self]
    have:line<=sizeLine:=cE (Nat.le_refl _);omega
   .exact q σ _ Ha (aA.refl _) (h.writeG e1 e2 (En el e6 rp))
  .simp only[if_neg hl]at q;exact q.elim
 |_=>exact q.elim
def t9(hu:X.A.units+1<cLine)(hN:X.N[i]?=some x)(hv:A0 X.env.scope x)(he:DE X E e f)(hk:DE X E b k)
  (hd:(x==("__debug__":Str))=false:=by decide)(hcd:(x==("__classdict__":Str))=false:=by decide)
  (hs:swapsWith e (some (.Subscript (.Name x p1) b p2)) pos.line X.env=pure false:=by rfl):DS X E He H0e (.Assign [.Subscript (.Name x p1) b p2] e pos) (mf i f k):=by
 refine⟨?_⟩;refine bz (Ep hu (fH hN hv hd hcd) hk.o he.o hs) λD σ H z9=>?_;obtain⟨Ha,ρ,h,q⟩:=z9;refine⟨Ha,ρ,h.g.sub,h.rd,?_⟩
 obtain⟨ks,ds,p,vs,e1,e2,e5,el,e6,q⟩:=Aq h q;refine plain (k:=λd=>(k ρ).bind (jL i ρ ks ds d)) h q λd v H1 H01 _ g1 r1 q1=>⟨.ref p,e2,?_⟩
 have h1':=h.grow g1;refine⟨H01,ρ,h1'.g.sub,h1'.rd,plain (k:=jL i ρ ks ds d) h1' q1 λj u H2 H02 _ g2 r2 q2=>?_⟩;exact BL (h1'.grow g2) e1 e2 (g2.s _ _ (g1.s _ _ e5)) el ((e6.mono g1.z).mono g2.z) (r1.mono g2.z) r2 q2
end
mutual
def nd:D->Bool
 |.lst ds=>nds ds
 |.tup ds=>nds ds
 |.dic _ _=>false
 |.exc _=>false
 |.ob _ _=>false
 |_=>true
def nds:ac->Bool
 |[]=>true
 |d::ds=>nd d&&nds ds
end
mutual
theorem Rep.nd_to{K:W.Frag}{H H':Hp}(et:∀a vs,Rd H a (.tup vs)->Rd H' a (.tup vs))(el:∀a vs,Rd H a (.lst vs)->Rd H' a (.lst vs)):∀{d:D}{v:V},nd d=true->Rep K H d v->Rep K H' d v
 |.non,_,_,h=>by unfold Rep at h ⊢;exact h
 |.bl _,_,_,h=>by unfold Rep at h ⊢;exact h
 |.int _,_,_,h=>by unfold Rep at h ⊢;exact h
 |.str _,_,_,h=>by unfold Rep at h ⊢;exact h
 |.tup ds,_,f,h=>by
  unfold nd at f;obtain⟨a,vs,e1,e2,e3⟩:=aI.mp h;refine aI.mpr ⟨a,vs,e1,?_,Reps.nd_to et el f e3⟩;rcases e2 with e2|e2
  .exact .inl (et _ _ e2)
  .exact .inr e2
 |.lst ds,_,f,h=>by
  unfold nd at f;obtain⟨a,vs,e1,e2,e3⟩:=aE.mp h;refine aE.mpr ⟨a,vs,e1,?_,Reps.nd_to et el f e3⟩;rcases e2 with e2|e2
  .exact .inl (el _ _ e2)
  .exact .inr e2
 |.dic ks ds,_,f,h=>by unfold nd at f;cases f
 |.exc x,_,f,h=>by unfold nd at f;cases f
 |.ob k ds,_,f,h=>by unfold nd at f;cases f
theorem Reps.nd_to{K:W.Frag}{H H':Hp}(et:∀a vs,Rd H a (.tup vs)->Rd H' a (.tup vs))(el:∀a vs,Rd H a (.lst vs)->Rd H' a (.lst vs)):∀{ds:ac}{vs:ad},nds ds=true->Reps K H ds vs->Reps K H' ds vs
 |[],_,_,h=>by unfold Reps at h ⊢;exact h
 |d::ds,_,f,h=>by
  unfold nds at f;rw[Bool.and_eq_true]at f;obtain⟨v,r,e1,e2,e3⟩:=aB.mp h;exact aB.mpr ⟨v,r,e1,Rep.nd_to et el f.1 e2,Reps.nd_to et el f.2 e3⟩
end
def mX(Ha J:Hp):Hp:=λa=>match Ha a with
 |some o=>some o
 |none=>match J a with
  |some (.dK _)=>none
  |o=>o
def nV(ρ:Ev):Bool:=ρ.all λs=>match s with
 |.ow (.lst _)=>false
 |.ox _ _=>false
 |.pt _=>false
 |_=>true
section
variable {K:W.Frag}{E:XK}{He H0e Ha H H1 J:Hp}{σ:L2.St}{ρ:Ev}
def Fq(h:aA Ha J):∀a o,mX Ha J a=some o->J a=some o:=λa o e=>by
 unfold mX at e;cases q:Ha a with
 |some u=>rw[q]at e;cases e;exact h _ _ q
 |none=>
  rw[q]at e;cases q2:J a with
  |none=>rw[q2]at e;cases e
  |some u=>rw[q2]at e;cases u<;>first|(cases e;rfl)|cases e
def zU(h:aA Ha J)(e:J a=some o)(hn:∀kvs,o≠.dK kvs):mX Ha J a=some o:=by
 unfold mX;cases q:Ha a with
 |some u=>have:=h _ _ q;rw[e]at this;cases this;rfl
 |none=>rw[e];cases o<;>first|rfl|exact absurd rfl (hn _)
def zT(h:aA Ha J)(hu:∀kvs,u≠.dK kvs)(a:Addr)(e:Rd J a u):Rd (mX Ha J) a u:=by
 rcases e with e|⟨o,e⟩
 .exact .inl (zU h e hu)
 .exact .inr ⟨o,zU h e λ_ z=>nomatch z⟩
def cO.behindS(h:cO K He H0e Ha σ H ρ)(ho:nV ρ=true)(g:aS H (frz He Ha H) H1 J):cO K He H0e (mX Ha J) σ H1 ρ:=by
 have hJ:aA Ha J:=h.frz_sub.trans g.z;have le:=Fq (Ha:=Ha) (J:=J) hJ;have z:aA Ha (mX Ha J):=λb o e=>by unfold mX;rw[e]
 have ok:∀(i:Nat) (s:Sl),ρ[i]?=some s->(match s with|.ow (.lst _)=>false|.ox _ _|.pt _=>false|_=>true)=true:=λi s e=>List.all_eq_true.mp ho s (List.mem_of_getElem? e);refine⟨⟨h.g.s.trans g.s,h.g.z.trans z,λb o e=>g.sub _ _ (le b o e),λa h1 h2=>?_⟩,h.rd.mono z,λi d e=>?_,h.ap,h.ln,OX.none (λi j ds e=>by have:=ok i _ e;cases this) (λi a e=>by have:=ok i _ e;cases this)⟩
 .cases q:mX Ha J a with
  |none=>exact absurd q h1
  |some o=>
   have hj:=le a o q;exact(h.frz_grow.trans g).nw a (by rw[hj];simp) h2
 .obtain⟨a,k1,k2,k3,k4⟩:=h.ow i d e
  cases d with
  |lst ds=>have:=ok i _ e;cases this
  |dic ks ds=>
   obtain⟨vs,h5,hl,h6⟩:=k4;refine⟨a,k1,k2,?_,vs,g.s _ _ h5,hl,h6.mono z⟩;have:frz He Ha H a=some (.dK ((ks.map Sum.inr).zip vs)):=by unfold frz;rw[k2];exact h5
   have:=g.z _ _ this;unfold mX;rw[k3,this]
  |_=>exact k4.elim
end
def yp(i:Nat)(ρ:Ev)(d:D):ai Fl:=if nd d=true/\nV ρ=true then .ok (.nx (ρ.set i (.sh d))) else .stuck
def nJ(i:Nat)(f:al):am:=λρ=>(f (gO ρ)).bind (yp i ρ)
section
variable {X:Cx}{E:XK}{He H0e:Hp}{e b o:Expr}{pos apos cpos:Pos}{f k g:al}
def t8(hN:X.N.Nodup)(hi:X.N[i]?=some x)(hx:A1 X.env.scope x)(he:DE X E e f)(hs:swapsWith e (some (.Name x pos')) pos.line X.env=pure false:=by rfl)
  (hf:X.fn x=true∨X.env.scope.names.lookup x=some .local := by first|exact .inl rfl|exact .inr rfl|assumption):DS X E He H0e (.Assign [.Name x pos'] e pos) (nJ i f):=by
 refine⟨?_⟩;refine bz (lM hN hi hx he.o hs hf) λD σ H z9=>?_;obtain⟨Ha,ρ,h,q⟩:=z9;refine⟨frz He Ha H,gO ρ,h.frz_le,h.looks,?_⟩
 refine look h q λd v H' J _ g rp q'=>?_;unfold yp at q'
 by_cases fl:nd d=true/\nV ρ=true
 .rw[if_pos fl]at q'
  have hJ:aA Ha J:=h.frz_sub.trans g.z;refine q' _ H' (mX Ha J) (λb o e=>by unfold mX;rw[e]) ((h.behindS fl.2 g).put (rp.nd_to (λa vs e=>zT hJ (λ_ z=>by cases z) a e) (λa vs e=>zT hJ (λ_ z=>by cases z) a e) fl.1))
 .rw[if_neg fl]at q';exact q'.elim
def uw(h:n+64<cLine):n+1<cLine:=Nat.lt_of_le_of_lt (by omega) h
def uh(x y:D):ai D:=match x,y with
 |.dic ks ds,.str k=>.ok ((jD ks ds k).getD .non)
 |_,_=>.stuck
def rE(g:al)(ρ:Ev)(x:D):ai D:=match x with
 |.dic ks ds=>(g ρ).bind (uh (.dic ks ds))
 |_=>.stuck
def pS(f g:al):al:=λρ=>(f ρ).bind (rE g ρ)
def wj(hu:X.A.units+1<cLine)(ho:DE X E o f)(he:DE X E e g)(m:M1 X o "get" apos e cpos):DE X E (.Call (.Attribute o "get" apos) [e] [] cpos) (pS f g):=by
 refine⟨aQ (B5 hu ho.o he.o m) λσ H Q z9=>?_⟩;obtain⟨Ha,ρ,hs,hr,q⟩:=z9;refine⟨Ha,ρ,hs,hr,?_⟩;unfold pS at q;cases e1:f ρ with
 |stuck|exn z=>rw[e1]at q;exact q
 |ok x=>
  rw[e1]at q;intro v H1 H01 g1 r1;cases x with
  |dic ks ds=>
   rw[Rep]at r1;obtain⟨p,kvs,vs,rfl,h1,rfl,hl,h4⟩:=r1;refine⟨p,rfl,.inl ⟨_,aA.rd g1.sub h1⟩,H01,ρ,g1.sub,hr.mono g1.z,?_⟩;have q:post X.K E H Ha ((g ρ).bind (uh (.dic ks ds))) Q:=q;cases e2:g ρ with
   |stuck=>rw[e2]at q;exact q|exn z=>rw[e2]at q;exact λC ox H' Ha' g' ex=>q C ox H' Ha' (g1.trans g') ex
   |ok y=>
    rw[e2]at q;intro u H2 H02 g2 r2;cases y with
    |str k=>
     rw[Rep.str_iff.mp r2];refine⟨_,.inl ⟨_,.inr k,aA.rd g2.s (aA.rd g1.sub h1),rfl,rfl⟩,?_⟩;have q:∀v H' Ha',aS H Ha H' Ha'->Rep X.K Ha' ((jD ks ds k).getD .non) v->Q v H':=q;cases e3:jD ks ds k with
     |none=>
      rw[(l5 hl h4).2 e3];rw[e3]at q;exact q _ _ H02 (g1.trans g2) (aL.mpr rfl)
     |some d=>
      obtain⟨v,hv,rv⟩:=(l5 hl h4).1 d e3;rw[hv];rw[e3]at q;exact q _ _ H02 (g1.trans g2) (rv.mono g2.z)
    |_=>exact q.elim
  |_=>exact q.elim
end
structure Rw where
 x:Str
 st:Stmt
 N:List Str
 n:Nat
abbrev Rw.ps(r:Rw):List Str:=r.N.take r.n
instance {N P:List Str}{sc:Scope}:Decidable (eP N P sc) :=
 decidable_of_iff (sc.kind=.function/\sc.isCoroutine=false/\sc.isGenerator=false/\N.Nodup/\N.take P.length=P/\(∀x∈P,sc.names.lookup x=some .local ∨ sc.names.lookup x=some .cell)/\∀y∈sc.names,y.2≠.free)
  ⟨λ⟨a,b,c,d,e,f,g⟩=>⟨a,b,c,d,e,f,g⟩,λ⟨a,b,c,d,e,f,g⟩=>⟨a,b,c,d,e,f,g⟩⟩
def KG(rows:List Rw):Prop:=∀r∈rows,eP r.N r.ps (defScope r.st)
instance {rows:List Rw}:Decidable (KG rows):=inferInstanceAs (Decidable (∀r∈rows,_))
def TG(rows:List Rw)(K:W.Frag)(mg:Str->Option Value)(A:Nat->Addr)(Q:Nat->FuncData):Prop:=∀i r,rows[i]?=some r->FT K mg r.x r.st r.ps (A i) (Q i)
def Kr(r:Rw):Prop:=∀(kV doc pm:Value) (an:Option Addr) (cdv ct:Value) (us:List Value),us.length=r.ps.length->bindArgs (W.fnOf r.x r.x (defArgs r.st) (defBody r.st) (defScope r.st) .none kV doc pm an cdv ct) ⟨us,[]⟩=pure (r.ps.zip us)
def QAs(K:W.Frag):List Rw->List Addr->Prop
 |[],_=>True
 |r::rs,a::as=>QA K r.x r.st a/\QAs K rs as
 |_::_,[]=>False
def QAs.cons{K:W.Frag}{st:Stmt}(q:QA K x st a)(t:QAs K rs as):QAs K (⟨x,st,N,n⟩::rs) (a::as):=⟨q,t⟩
theorem Fy{K:W.Frag}{h:Heap}{mg:Str->Option Value}(X:K.In h)(G:h.Ns mainGlobals mg):∀{rows:List Rw}{as:List Addr},(∀r∈rows,Kr r)->QAs K rows as ->
  ∃Q:Nat->FuncData,∀i r,rows[i]?=some r->FT K mg r.x r.st r.ps (as.getD i 0) (Q i)/\∃kV doc pm an cdv ct,Q i=W.fnOf r.x r.x (defArgs r.st) (defBody r.st) (defScope r.st) .none kV doc pm an cdv ct
 |[],as,_,_=>⟨λ_=>default,λi r e=>by simp at e⟩
 |r::rs,[],_,q=>q.elim
 |r::rs,a::as,hb,q=>by
  obtain⟨Q,h⟩:=Fy X G (λr hr=>hb r (List.mem_cons_of_mem _ hr)) q.2;obtain⟨d,h1,h2⟩:=J0 X G q.1 (hb r List.mem_cons_self);refine⟨λi=>match i with|0=>d|i+1=>Q i,λi r' e=>?_⟩;cases i with|zero=>rw[List.getElem?_cons_zero]at e;cases e;exact⟨h1,h2⟩|succ i=>rw[List.getElem?_cons_succ]at e;exact h i r' e
structure eJ (P:Program) (w:World) (K:W.Frag) (mg:Str->Option Value) (base:Heap) (CX:yg) (k:Nat) (fn:Addr) (fd:FuncData) (ps:List Str) (sp:Sp) (x:Str) (st:Stmt):Prop where
 F:fM P w K mg base CX k fn fd ps sp
 t:FT K mg x st ps fn fd
section
variable {P:Program}{w:World}{K:W.Frag}{mg:Str->Option Value}{base:Heap}{rows:List Rw}{A:Nat->Addr}{Q:Nat->FuncData}{i k n:Nat}{r:Rw}{s:am}{sM:Addr->Ev->ac->ai c8}
variable (T:TG rows K mg A Q) (S:KG rows) (h:rows[i]?=some r)
include T S h
theorem oD(b:∀(cdv:Value) (A':Around) (outer:List PySem.Env) (s0:Shared) (H Ha:Hp) (E:XK),cB k (A'.deeper (envOfC r.x (defScope r.st) s0.heap.objs.size (A i) cdv)) ->
   yf (ll CX0 P w K mg base r.N r.x (defScope r.st) (A i) cdv A' outer s0 H E).nox E H Ha (defBody r.st) s):eJ P w K mg base CX0 (k+1) (A i) (Q i) r.ps (spD K r.ps.length (ck r.N.length s)) r.x r.st :=
 ⟨AK (T i r h).F (S r (List.mem_of_getElem? h)) b,T i r h⟩
theorem oF(b:∀(cdv:Value) (A':Around) (outer:List PySem.Env) (s0:Shared) (H Ha:Hp) (E:XK),cB k (A'.deeper (envOfC r.x (defScope r.st) s0.heap.objs.size (A i) cdv)) ->
   Dx (ll CX0 P w K mg base r.N r.x (defScope r.st) (A i) cdv A' outer s0 H E).nox E H Ha (defBody r.st) s):eJ P w K mg base CX0 (k+1) (A i) (Q i) r.ps (I0 K r.ps.length (Am r.N.length s)) r.x r.st :=
 ⟨xG (T i r h).F (S r (List.mem_of_getElem? h)) b,T i r h⟩
theorem oM(hn:r.ps.length=n+1)(b:∀(cdv:Value) (A':Around) (outer:List PySem.Env) (s0:Shared) (H He Ha:Hp) (a:Addr) (E:XK),cB k (A'.deeper (envOfC r.x (defScope r.st) s0.heap.objs.size (A i) cdv)) ->
   Ga (ll CX0 P w K mg base r.N r.x (defScope r.st) (A i) cdv A' outer s0 H E).nox He Ha a (defBody r.st) (sM a)):eJ P w K mg base CX0 (k+1) (A i) (Q i) r.ps (FE K n (uJ r.N.length sM)) r.x r.st :=
 ⟨xF (T i r h).F (S r (List.mem_of_getElem? h)) hn b,T i r h⟩
end
section
variable {X:Cx}{E:XK}{e:Expr}{es:List Expr}{fa:Ev->ai (ac)}{pos:Pos}{CX:yg}{k k0 n:Nat}{fn:Addr}{fd:FuncData}{ps:List Str}{m:ac->ai D}{x:Str}{p:Pos}{st:Stmt}
def rC(B:eJ X.prog X.w X.K X.mg X.base CX k0 fn fd ps (spD X.K n m) x st)(hr:cB k X.A)(ha:DA X E (e::es) fa)(hle:k0<=k:=by decide)(hx:ee CX X E:=by first|exact uV|exact pass0E|exact passesE)(hl:∀ρ ds,fa ρ=.ok ds->ds.length=(e::es).length:=by first|exact KC|exact KA|exact LB|exact al4|exact al5)(hn:(e::es).length=n:=by rfl)
  (hg:Gl X x:=by exact rfl)(hdb:(x==("__debug__":Str))=false:=by decide)(he:starEach (e::es) X.env=(false,eval e X.env)::starEach es X.env:=by exact aN rfl)(hpl:(backTo pos (starEach es X.env)).any (·.1)=false:=by exact bw rfl) :
  DE X E (.Call (.Name x p) (e::es) [] pos) (au fa m):=Fc (B.F.mono hle) hr hg B.t.g B.t.F.kp B.t.b hx ha hn hl hdb he hpl
def rF(B:eJ X.prog X.w X.K X.mg X.base CX k0 fn fd ps (I0 X.K n m) x st)(hr:cB k X.A)(ha:DA X E (e::es) fa)(hle:k0<=k:=by decide)(hx:ee CX X E:=by first|exact uV|exact pass0E|exact passesE)(hl:∀ρ ds,fa ρ=.ok ds->ds.length=(e::es).length:=by first|exact KC|exact KA|exact LB|exact al4|exact al5)(hn:(e::es).length=n:=by rfl)
  (hg:Gl X x:=by exact rfl)(hdb:(x==("__debug__":Str))=false:=by decide)(he:starEach (e::es) X.env=(false,eval e X.env)::starEach es X.env:=by exact aN rfl)(hpl:(backTo pos (starEach es X.env)).any (·.1)=false:=by exact bw rfl) :
  DF X E (.Call (.Name x p) (e::es) [] pos) (au fa m):=E8 (B.F.mono hle) hr hg B.t.g B.t.F.kp B.t.b hx ha hn hl hdb he hpl
end
section
variable {X:Cx}{He H0e:Hp}{a:Addr}{E:XK}{e:Expr}{es:List Expr}{fa:Ev->ac->ai (ac×ac)}{pos:Pos}{CX:yg}{k k0 n:Nat}{fn:Addr}{fd:FuncData}{ps:List Str}{x:Str}{p:Pos}{ft:Stmt}
def Mx(B:eJ X.prog X.w X.K X.mg X.base CX k0 fn fd ps (spD X.K n m) x ft)(hr:cB k X.A)(ha:Iv X He H0e a (e::es) fa)(hle:k0<=k:=by decide)(hx:ee CX X E0:=by exact uV)(hl:∀ρ st ds,fa ρ st=.ok ds->ds.1.length=(e::es).length:=by first|exact LA|exact Mc|exact am3|exact am4|exact am5)(hn:(e::es).length=n:=by rfl)
  (hg:Gl X x:=by exact rfl)(hdb:(x==("__debug__":Str))=false:=by decide)(he:starEach (e::es) X.env=(false,eval e X.env)::starEach es X.env:=by exact aN rfl)(hpl:(backTo pos (starEach es X.env)).any (·.1)=false:=by exact bw rfl) :
  DM X He H0e a (.Call (.Name x p) (e::es) [] pos) (mA fa m):=E5 (E:=E0) (B.F.mono hle) hr hg B.t.g B.t.F.kp B.t.b hx ha hn hl hdb he hpl
def rM(i:Nat)(B:eJ X.prog X.w X.K X.mg X.base CX k0 fn fd ps (FE X.K n m) x ft)(hr:cB k X.A)(ha:Iv X He H0e a es fa)(hle:k0<=k:=by decide)(hx:ee CX X E0:=by exact uV)(hl:∀ρ st ds,fa ρ st=.ok ds->ds.1.length=n:=by first|exact Md|exact LA|exact Mc|exact am3|exact am4|exact am5)
  (hN:X.N[i]?=some y:=by rfl)(hv:A0 X.env.scope y:=by first|exact Or.inl rfl|exact Or.inr (Or.inl rfl)|exact Or.inr (Or.inr rfl))(hg:Gl X x:=by exact rfl)
  (hd:(y==("__debug__":Str))=false:=by decide)(hcd:(y==("__classdict__":Str))=false:=by decide)(hdb:(x==("__debug__":Str))=false:=by decide)(he:starEach (.Name y p1::es) X.env=(false,eval (.Name y p1) X.env)::starEach es X.env:=by exact aN rfl)(hpl:(backTo pos (starEach es X.env)).any (·.1)=false:=by exact bw rfl) :
  DM X He H0e a (.Call (.Name x p) (.Name y p1::es) [] pos) (cg i a fa m):=C3 (E:=E0) (B.F.mono hle) hr hg B.t.g B.t.F.kp B.t.b hx hN hv ha hl hd hcd hdb he hpl
end
def MG(hn:r.ps.length=1:=by rfl)(hb:∀(kV doc pm:Value) (an:Option Addr) (cdv ct b:Value),bindArgs (W.fnOf r.x r.x (defArgs r.st) (defBody r.st) (defScope r.st) .none kV doc pm an cdv ct) ⟨[b],[]⟩=pure (r.ps.zip [b]):=by intros;rfl):Kr r:=λ_ _ _ _ _ _ us hl=>by
 obtain⟨b,rfl⟩:=L9 (hl.trans hn);exact hb ..
def MF(hn:r.ps.length=2:=by rfl)(hb:∀(kV doc pm:Value) (an:Option Addr) (cdv ct b c:Value),bindArgs (W.fnOf r.x r.x (defArgs r.st) (defBody r.st) (defScope r.st) .none kV doc pm an cdv ct) ⟨[b,c],[]⟩=pure (r.ps.zip [b,c]):=by intros;rfl):Kr r:=λ_ _ _ _ _ _ us hl=>by
 obtain⟨b,c,rfl⟩:=L8 (hl.trans hn);exact hb ..
def ME(hn:r.ps.length=3:=by rfl)(hb:∀(kV doc pm:Value) (an:Option Addr) (cdv ct b c d:Value),bindArgs (W.fnOf r.x r.x (defArgs r.st) (defBody r.st) (defScope r.st) .none kV doc pm an cdv ct) ⟨[b,c,d],[]⟩=pure (r.ps.zip [b,c,d]):=by intros;rfl):Kr r:=λ_ _ _ _ _ _ us hl=>by
 obtain⟨b,c,d,rfl⟩:=MB (hl.trans hn);exact hb ..
end DL
namespace Com
open PySem L2 DL
def IB(st:ac)(d:D):ai (D×ac):=.ok (d,st)
def L3(st:ac)(d:D):ai c8:=.ok (.rt d st)
def u4{α:Type}(b:Bool)(x:ai α):ai α:=if b=true then x else .stuck
def L6(g:Ev->ac->ai (D×ac))(op:D->D->ai D)(ρ:Ev)(p:D×ac):ai (D×ac):=(g ρ p.2).bind λq=>(op p.1 q.1).bind λd=>.ok (d,q.2)
def JQ(op:D->D->ai D)(x:D)(q:D×ac):ai (D×ac):=(op x q.1).bind (IB q.2)
def L5(fa:Ev->ac->ai (ac×ac))(ρ:Ev)(p:D×ac):ai (ac×ac):=(fa ρ p.2).bind λq=>.ok (p.1::q.1,q.2)
def JP(x:D)(q:ac×ac):ai (ac×ac):=.ok (x::q.1,q.2)
def L7(m:ac->ai D)(p:ac×ac):ai (D×ac):=(m p.1).bind λd=>.ok (d,p.2)
def LZ(st ds:ac):ai (ac×ac):=.ok (ds,st)
def L4(tg:Ev->D->ai Ev)(s:Ev->ac->ai c8)(ρ:Ev)(p:ac×ac):ai c8:=forM tg s p.1 ρ p.2
def LY(k:Ev->ac->ai (D×ac))(ρ:Ev)(p:D×ac):ai c8:=(k ρ p.2).bind (jK ρ p.1)
section
variable {s t:Ev->ac->ai c8}{S:am}{f g h:Ev->ac->ai (D×ac)}{F:al}{fa:Ev->ac->ai (ac×ac)}{src:Ev->ai (ac)}{srm:Ev->ac->ai (ac×ac)}{tg:Ev->D->ai Ev}{ρ r:Ev}{i j n:Nat}{d x y:D}{st ds xs:ac}{op:D->D->ai D}{a:Addr}
def CN:b7 s t ρ st=(s ρ st).bind (yT t):=aF rfl
def zx:yT t (.nx ρ st)=t ρ st:=aF rfl
def zw:yT t (.rt d st)=.ok (.rt d st):=aF rfl
def zG:dN ρ st=.ok (.nx ρ st):=aF rfl
def zD:eI S ρ st=(S ρ).bind (xy st):=aF rfl
def vV:xy st (.nx ρ)=.ok (.nx ρ st):=aF rfl
def CM:eD i f ρ st=(f ρ st).bind (Ct i ρ):=aF rfl
def zv:Ct i ρ (d,st)=.ok (.nx (ρ.set i (.sh d)) st):=aF rfl
def CP:EM f ρ st=(f ρ st).bind Cu:=aF rfl
def zB:Cu (d,st)=.ok (.rt d st):=aF rfl
def zA:n8 F ρ st=(F (gO ρ)).bind (L3 st):=aF rfl
def vU:L3 st d=.ok (.rt d st):=aF rfl
def FV:Hj f s t ρ st=(f ρ st).bind (EN s t ρ):=aF rfl
def CU:EN s t ρ (.bl true,st)=s ρ st:=aF rfl
def CT:EN s t ρ (.bl false,st)=t ρ st:=aF rfl
def J6:mP F ρ st=(F ρ).bind (IB st):=aF rfl
def FZ:IB st d=.ok (d,st):=aF rfl
def FW{k:Int}:rJ st (.int k)=.ok (.int k,st):=aF rfl
def FX:rJ st (.bl b)=.ok (.bl b,st):=aF rfl
def J5:mV i a F ρ st=u4 (ik ρ[i]? a) ((F (vw i ρ st)).bind (rJ st)):=aF rfl
def FY:Ky i a F ρ st=u4 (ik ρ[i]? a) ((F (vw i ρ st)).bind (IB st)):=aF rfl
def FU:ik (some (.pt a)) a=true:=beq_self_eq_true a
def zF{z:ai α}:u4 true z=z:=if_pos rfl
def FR:vw i ρ st=(gO ρ).set i (.sh (.lst st)):=aF rfl
def CL:Ah (.pt a)=.pt a:=aF rfl
def J7:mB f g op ρ st=(f ρ st).bind (L6 g op ρ):=aF rfl
def F1:L6 g op ρ (x,st)=(g ρ st).bind (JQ op x):=aF rfl
def F0:JQ op x (y,st)=(op x y).bind (IB st):=aF rfl
def CS:dh ρ st=.ok ([],st):=aF rfl
def zI:bO f fa ρ st=(f ρ st).bind (L5 fa ρ):=aF rfl
def vX:L5 fa ρ (x,st)=(fa ρ st).bind (JP x):=aF rfl
def vW:JP x (xs,st)=.ok (x::xs,st):=aF rfl
def J8:mA fa m ρ st=(fa ρ st).bind (L7 m):=aF rfl
def F2:L7 m (ds,st)=(m ds).bind (IB st):=aF rfl
def zK:cg i a fa m ρ st=u4 (ik ρ[i]? a) ((fa ρ st).bind (xU a m)):=aF rfl
def vY:xU a m (ds,st)=m a st ds:=aF rfl
def CQ:vk i a f h ρ st=u4 (ik ρ[i]? a) ((f ρ st).bind (LY h ρ)):=aF rfl
def zC:LY h ρ (d,st)=(h ρ st).bind (jK ρ d):=aF rfl
def CW:Cv i f ρ st=ED ρ[i]? λds=>(f ρ st).bind (rn i ρ ds):=aF rfl
def zE{k:ac->ai c8}:ED (some (.ow (.lst ds))) k=k ds:=aF rfl
def tW(e:decide (ds.length<=999)=true):rn i ρ ds (d,st)=.ok (.nx (ρ.set i (.ow (.lst (ds++[d])))) st):=if_pos (Nat.lt_of_le_of_lt (of_decide_eq_true e) (by decide))
def CK:Cs src ρ st=(src ρ).bind (LZ st):=aF rfl
def zu:LZ st ds=.ok (ds,st):=aF rfl
def zt:yS f ρ st=(f ρ st).bind tJ:=aF rfl
def pz{k:Int}(e:-4611686018427387904<=k/\k<4611686018427387904):tJ (.int k,st)=.ok (intsFrom 0 k.toNat,st):=if_pos e
def CV:vm srm tg s ρ st=(srm ρ st).bind (L4 tg s ρ):=aF rfl
def zH:L4 tg s ρ (ds,st)=forM tg s ds ρ st:=aF rfl
def zJ{fr:bi}:mE n fr srm tg f ρ st=(srm ρ st).bind (pU (d4 n fr ρ) tg f):=aF rfl
def CO:uJ n b a st ds=(b a (.pt a::ds.map Sl.sh++List.replicate (n-(ds.length+1)) .no) st).bind BA:=aF rfl
def zy:BA (.rt d st)=.ok (d,st):=aF rfl
end
def vz{tg:Ev->D->ai Ev}{body:Ev->ac->ai c8}(I:Nat->Ev->ac->Prop)(ds:ac)(step:∀(j:Nat) (d:D) (ρ:Ev) (st:ac),ds[j]?=some d->I j ρ st->∃ρ1 ρ2 st2,tg ρ d=.ok ρ1/\(body ρ1 st=.ok (.nx ρ2 st2)∨body ρ1 st=.ok (.ct ρ2 st2))/\I (j+1) ρ2 st2) :
  ∀(j:Nat) (ρ:Ev) (st:ac),j<=ds.length->I j ρ st->∃ρ2 st2,forM tg body (ds.drop j) ρ st=.ok (.nx ρ2 st2)/\I ds.length ρ2 st2:=by
 intro j ρ st hj h;generalize hk:ds.length-j=k
 induction k generalizing j ρ st with
 |zero=>
  have:j=ds.length:=by omega
  subst this;exact⟨ρ,st,by rw[List.drop_length];rfl,h⟩
 |succ k ih=>
  have hlt:j<ds.length:=by omega
  obtain⟨ρ1,ρ2,st2,h1,h2,h3⟩:=step j ds[j] ρ st (List.getElem?_eq_getElem hlt) h;obtain⟨ρ3,st3,h4,h5⟩:=ih (j+1) ρ2 st2 (by omega) h3 (by omega);refine⟨ρ3,st3,?_,h5⟩;rw[List.drop_eq_getElem_cons hlt];unfold DL.forM;rw[h1];rcases h2 with h2|h2
  .simp only[ai.bind,h2];exact h4
  .simp only[ai.bind,h2];exact h4
theorem sv{b:Ev}{tg:Ev->D->ai Ev}{fm:Ev->ac->ai (D×ac)}(I:ac->Prop)(P:D->Prop):∀(ds st:ac),I st->(∀d st,d∈ds->I st->∃ρ1 y st2,tg b d=.ok ρ1/\fm ρ1 st=.ok (y,st2)/\P y/\I st2)->∃es st2,fW b tg fm ds st=.ok (es,st2)/\es.length=ds.length/\(∀e∈es,P e)/\I st2
 |[],st,h,_=>⟨[],st,rfl,rfl,λe he=>by simp at he,h⟩
 |d::ds,st,h,step=>by
  obtain⟨ρ1,y,st1,h1,h2,h3,h4⟩:=step d st (by simp) h;obtain⟨es,st2,k1,k2,k3,k4⟩:=sv I P ds st1 h4 λd' st' hd=>step d' st' (List.mem_cons_of_mem _ hd);refine⟨y::es,st2,?_,by simp[k2],λe he=>?_,k4⟩
  .unfold fW
   rw[h1];simp only[ai.bind,h2,k1]
  .rcases List.mem_cons.mp he with rfl|he
   .exact h3
   .exact k3 e he
end Com
namespace Bor
open PySem L2 DL
abbrev aX:ac->ai D:=Cod.aX
noncomputable def gL:am :=
 (rf (bE 2 (dC (.int 0)))
 (rf (dH (aa (ae 1) (au (ah (ae 0) aG) (m1 dE)) ID)
 (aw (bE 2 (aa (ae 0) (ae 1) aP))
 ao)
 ao)
 (uH (au (ah (ae 2) (ah (aa (aa (aa (aa (ae 2) (dC (.int 2147483587)) cN) (aa (aa (dC (.int 104729)) (ae 1) bQ) (ae 1) bQ) cb) (dC (.int 7)) cb) (dC (.int 2147483587)) cN) (ah (aa (ae 2) (aa (dC (.int 10)) (dC (.int 18)) qO) Lz) aG))) du))))
def bH:ac->ai D:=Am 3 gL
noncomputable def iG:Addr->Ev->ac->ai c8:=λa=>
 (b7 (Hj (Ky 0 a (aa (ae 0) (dC (.int 2)) aP))
 (b7 (eD 2 (mV 0 a (aa (aa (ae 0) (dC (.int 0)) aP) (ae 1) cN)))
 (b7 (vk 0 a (mV 0 a (aa (aa (ae 0) (dC (.int 0)) aP) (ae 1) lj)) (mP (dC (.int 0))))
 (b7 (vk 0 a (mV 0 a (aa (aa (ae 0) (dC (.int 0)) aP) (dC (.int 0)) HV)) (mP (dC (.int 2))))
 (b7 (n8 (ae 2))
 dN))))
 dN)
 (b7 (eI (bE 3 (dC (.int 0))))
 (b7 (vm (Cs (i8 (aa (dC (.int 1)) (aa (dC (.int 2)) (au (ah (aa (ae 1) (aa (dC (.int 10)) (dC (.int 6)) qO) HV) aG) (m1 iB)) bQ) cb))) (bF 4)
 (b7 (vk 0 a (mV 0 a (aa (aa (aa (aa (ae 0) (dC (.int 1)) aP) (dC (.int 39373)) bQ) (dC (.int 17)) cb) (dC (.int 2147483647)) cN)) (mP (dC (.int 1))))
 (b7 (eD 3 (mV 0 a (aa (aa (ae 3) (dC (.int 2147483587)) bQ) (aa (aa (aa (ae 0) (dC (.int 1)) aP) (aa (ae 0) (dC (.int 1)) aP) bQ) (dC (.int 2147483587)) cN) cb)))
 dN)))
 (b7 (n8 (aa (aa (ae 3) (dC (.int 64)) lj) (ae 1) cN))
 dN))))
def aJ:Addr->ac->ac->ai (D×ac):=uJ 5 iG
noncomputable def lu:Addr->Ev->ac->ai c8:=λa=>
 (b7 (eD 2 (mE 1 [0] (Cs (i8 (dC (.int 8)))) (bF 0) (cg 1 a (bO (mP (dC (.int 26))) dh) aJ)))
 (b7 (eD 3 (mB (mP (dC (.int 1))) (cg 0 a (bO (mP (dC (.int 8))) dh) aJ) cb))
 (b7 (eD 4 (cg 0 a (bO (mP (ae 3)) dh) aJ))
 (b7 (eD 5 (cg 0 a (bO (mP (dC (.int 26))) dh) aJ))
 (b7 (eD 6 (mB (mP (au (ah (dC (.int 1)) (ah (dC (.int 3)) (ah (dC (.int 5)) (ah (dC (.int 7)) (ah (dC (.int 9)) (ah (dC (.int 11)) aG)))))) du)) (cg 0 a (bO (mP (dC (.int 6))) dh) aJ) aP))
 (b7 (eD 7 (mB (cg 0 a (bO (mP (dC (.int 3))) dh) aJ) (mP (dC (.int 0))) lG))
 (b7 (eI (mQ 8 (au aG du)))
 (b7 (eI (nK (ae 1) (bF 9)
 (aw (mQ 10 (mW (ae 2) eG (er (ae 3))))
 (aw (By 10 (aa (aa (ae 5) (aa (ae 6) (ae 9) bQ) cb) (dC (.int 26)) cN) (ae 4))
 (aw (dH (ae 7)
 (aw (mQ 10 (mW (ae 2) eG (er (aa (dC (.int 1)) (aa (aa (ae 5) (ae 9) cb) (dC (.int 8)) cN) cb))))
 ao)
 ao)
 (aw (Bz 10 (gr 8 (sq (dC (.str "")) (ah (dA 1 [] (sU (ae 10)) (bF 0) mYes (aa (dC (.str "abcdefghijklmnopqrstuvwxyz")) (ae 0) aP)) aG))))
 ao))))))
 (b7 (n8 (ae 8))
 dN)))))))))
def c3:Addr->ac->ac->ai (D×ac):=uJ 11 lu
noncomputable def jj:Addr->Ev->ac->ai c8:=λa=>
 (b7 (eD 2 (cg 0 a (bO (mP (dC (.int 6))) dh) aJ))
 (b7 (eD 3 (mB (mP (ae 1)) (cg 0 a (bO (mP (aa (au (ah (dC (.int 3)) (ah (dC (.int 6)) (ah (dC (.int 20)) (ah (dC (.int 12)) (ah (dC (.int 90)) (ah (aa (dC (.int 10)) (dC (.int 12)) qO) aG)))))) du) (ae 2) aP)) dh) aJ) cb))
 (b7 (eI (bE 4 (aa (au (ah (dC (.int 1)) (ah (dC (.int 1)) (ah (dC (.int 1)) (ah (dC (.int 4)) (ah (dC (.int 12)) (ah (dC (.int 12)) aG)))))) du) (ae 2) aP)))
 (b7 (eI (bE 5 (au (ah (dC (.int 1)) (ah (dC (.int 2)) (ah (dC (.int 3)) (ah (dC (.int 4)) (ah (dC (.int 5)) (ah (dC (.int 6)) (ah (dC (.int 10)) (ah (dC (.int 12)) (ah (dC (.int 15)) (ah (dC (.int 20)) (ah (dC (.int 30)) (ah (dC (.int 60)) aG)))))))))))) du)))
 (b7 (EM (mA (bO (mP (ae 3)) (bO (mB (mP (ae 5)) (cg 0 a (bO (mP (ae 4)) dh) aJ) aP) dh)) aX))
 dN)))))
def cq:Addr->ac->ac->ai (D×ac):=uJ 6 jj
noncomputable def fj:Addr->Ev->ac->ai c8:=λa=>
 (b7 (eI (bE 3 (au (ah (ae 1) aG) (m1 dE))))
 (b7 (eD 4 (cg 0 a (bO (mP (ae 3)) dh) aJ))
 (b7 (eD 5 (mB (mB (mP (aa (ae 4) (dC (.int 1)) cb)) (cg 0 a (bO (mP (aa (ae 3) (dC (.int 1)) gW)) dh) aJ) cb) (mP (ae 3)) cN))
 (b7 (Hj (mB (cg 0 a (bO (mP (dC (.int 2))) dh) aJ) (mP (dC (.int 0))) lG)
 (b7 (eI (bE 4 (aa (ae 2) (ae 3) cN)))
 (b7 (eI (bE 5 (aa (aa (ae 2) (dC (.int 1)) cb) (ae 3) cN)))
 dN))
 dN)
 (b7 (eD 6 (mB (mP (au (ah (dC (.str "one")) (ah (dC (.str "both")) aG)) du)) (cg 0 a (bO (mP (dC (.int 2))) dh) aJ) aP))
 (b7 (eD 7 (cg 0 a (bO (mP (dC (.int 0))) dh) cq))
 (b7 (eD 8 (cg 0 a (bO (mP (dC (.int 1))) dh) cq))
 (b7 (Hj (mB (cg 0 a (bO (mP (dC (.int 4))) dh) aJ) (mP (dC (.int 0))) lG)
 (b7 (eI (bE 8 (dC (.non))))
 dN)
 dN)
 (b7 (n8 (au (ah (aa (ae 1) (ae 4) aP) (ah (aa (ae 1) (ae 5) aP) (ah (ae 6) (ah (ae 7) (ah (ae 8) aG))))) fR))
 dN)))))))))
def cp:Addr->ac->ac->ai (D×ac):=uJ 9 fj
end Bor
namespace DL
open PySem PySem.Spec PyProof.Rows L2
structure Kl (K:W.Frag) (He H0 H:Hp) (ds:ac) (b p:Addr):Prop where
 hb:He b=none
 hp:He p=none
 r:∃ws es us,H b=some (.tup ws)/\H0 p=none/\H p=some (.lst us)/\ds[1]?=some (.lst es)/\ws[1]?=some (.ref p)/\Reps K H0 es us/\ds.length=ws.length/\∀k d v,k≠1->ds[k]?=some d->ws[k]?=some v->Rep K H0 d v
def GX(K:W.Frag)(He H0e:Hp)(a:Addr)(r:ai c8)(D:jG):Prop:=match r with
 |.ok (.rt (.tup ds) st)=>∀b p H Ha',aS He H0e H Ha'->b≠a->p≠a->Kl K He Ha' H ds b p->D.rt (.ref b) H
 |_=>False
def KZ(K:W.Frag)(He H0e:Hp)(a:Addr)(g:Ev->ac->ai c8):TS:=λD σ H=>∃Ha ρ st vs,fF K He H0e Ha σ H ρ a st vs/\GX K He H0e a (g ρ st) D
structure Dt (X:Cx) (He H0e:Hp) (a:Addr) (st:List Stmt) (g:Ev->ac->ai c8):Prop where
 o:ux X st (KZ X.K He H0e a g)
def xx(t:Ev->ac->ai c8)(r:c8):ai c8:=match r with
 |.nx ρ st=>t ρ st
 |_=>.stuck
def jd(s t:Ev->ac->ai c8):Ev->ac->ai c8:=λρ st=>(s ρ st).bind (xx t)
def yq(f0:al)(fa:Ev->ai (ac))(ρ:Ev)(st:ac)(s:Option Sl):ai c8:=match s with
 |some (.ow (.lst es))=>(f0 ρ).bind λd0=>(fa ρ).bind λds=>if ds.length+2<=line then .ok (.rt (.tup (d0::.lst es::ds)) st) else .stuck
 |_=>.stuck
def yU(i:Nat)(f0:al)(fa:Ev->ai (ac)):Ev->ac->ai c8:=λρ st=>yq f0 fa ρ st ρ[i]?
section
variable {X:Cx}{E:XK}{He H0e:Hp}{a:Addr}{st:Stmt}{rest:List Stmt}{e b:Expr}{es:List Expr}{pos:Pos}{f0:al}{fa:Ev->ai (ac)}{s t:Ev->ac->ai c8}
def d5(h1:SM X He H0e a st s)(h2:Dt X He H0e a rest t):Dt X He H0e a (st::rest) (jd s t):=by
 refine⟨?_⟩;refine dI (eU h1.o h2.o) λD σ H z9=>?_;obtain⟨Ha,ρ,st,vs,h,q⟩:=z9;refine⟨Ha,ρ,st,vs,h,?_⟩
 unfold jd at q;cases e1:s ρ st with
 |stuck|exn x=>rw[e1]at q;exact q
 |ok r=>
  rw[e1]at q;cases r with|nx ρ' st'=>exact λσ' H' Ha' vs' s' h'=>⟨Ha',ρ',st',vs',h',q⟩|rt d st'|bk ρ' st'|ct ρ' st'=>exact q.elim
def Bp{x1}(hN:X.N[i]?=some x)(hv:A0 X.env.scope x)(h0:DE X E e f0)(ha:DA X E es fa)
  (hd:(x==("__debug__":Str))=false:=by decide)(hcd:(x==("__classdict__":Str))=false:=by decide)
  (hs:starEach (e::.Name x p1::es) X.env=(false,eval e X.env)::starEach (.Name x p1::es) X.env:=by exact aN rfl)
  (hs':starEach (.Name x p1::es) X.env=(false,eval (.Name x p1) X.env)::starEach es X.env:=by exact aN rfl) :
  Dt X He H0e a [.Return (some (.Tuple (e::.Name x p1::es) x1 p2)) pos] (yU i f0 fa):=by
 refine⟨?_⟩;refine dI (eU (nQ (BZ (cx h0.o (cx (fH hN hv hd hcd) ha.o hs') hs))) m6) λD σ H z9=>?_;obtain⟨Ha,ρ,sl,vs,h,q⟩:=z9;refine⟨Ha,ρ,h.s.g.sub,h.s.rd,?_⟩
 unfold yU yq at q;cases e0:ρ[i]? with
 |none=>rw[e0]at q;exact q.elim
 |some s0=>
  rw[e0]at q;cases s0 with
  |ow d=>
   cases d with
   |lst es0=>
    simp only at q;cases e1:f0 ρ with
    |stuck=>rw[e1]at q;exact q|exn x=>rw[e1]at q;exact q.elim
    |ok d0=>
     rw[e1]at q;simp only[ai.bind]at q;intro v0 H1 H01 g1 r1;obtain⟨p,k1,k2,k3,us,k4,k5⟩:=h.s.ow i _ e0;refine⟨.ref p,k1,H01,ρ,g1.sub,h.s.rd.mono g1.z,?_⟩;cases e2:fa ρ with
     |stuck=>rw[e2]at q;exact q|exn x=>rw[e2]at q;exact q.elim
     |ok ds=>
      rw[e2]at q;intro ws H2 H02 g2 r2;simp only at q
      by_cases hl:ds.length+2<=line
      .rw[if_pos hl]at q
       refine⟨by have:=r2.length;simp only[List.length_cons];rw[←this];exact cE hl,λb hb=>?_⟩;have g12:=g1.trans g2;have G:=h.s.g.trans g12;have ha1:H a=some (.lst vs):=h.hl;have ha2:H2 a=some (.lst vs):=g12.s _ _ ha1;have hba:b≠a:=by intro c;subst c;rw[ha2]at hb;cases hb
       have hpa:p≠a:=by intro c;subst c;rw[aC]at k2;cases k2
       have hp2:H2 p=some (.lst us):=g12.s _ _ k4;have hbp:b≠p:=by intro c;subst c;rw[hp2]at hb;cases hb
       have hHe:∀c o,He c=some o->H2 c=some o:=λc o ec=>G.s _ _ (by rw[av (by intro z;subst z;rw[h.ha]at ec;cases ec)];exact ec);have sm:aA H2 (upd H2 b (.tup (v0::.ref p::ws))):=λc o ec=>by rw[av (by intro z;subst z;rw[hb]at ec;cases ec)];exact ec
       refine q b p _ H02 ⟨λc o ec=>sm _ _ (hHe c o ec),G.z,G.sub.trans sm,λc c1 c2=>?_⟩ hba hpa ⟨?_,?_,v0::.ref p::ws,es0,us,aC,g12.keeps k4 k3,by rw[av (Ne.symm hbp)];exact hp2,rfl,rfl,k5.mono g12.z,by simp[r2.length],λk d v hk y1 y2=>?_⟩
       .have key:=G.nw c c1 c2
        by_cases z:c=a
        .subst z;exact h.ha
        .rw[av z]at key;exact key
       .cases ec:He b with
        |none=>rfl
        |some o=>rw[hHe b o ec]at hb;cases hb
       .rw[av hpa]at k2;exact k2
       .cases k with
        |zero=>cases y1;cases y2;exact r1.mono g2.z
        |succ k=>
         cases k with|zero=>exact absurd rfl hk|succ k=>exact rl r2 y1 y2
      .rw[if_neg hl]at q;exact q.elim
   |_=>exact q.elim
  |_=>exact q.elim
end
noncomputable def Bo(K:W.Frag) (n:Nat) (m:Addr->ac->ac->ai (D×ac)):Sp:=λvs H Q E=>vs.length=n+1/\∃Ha ds a st us0 vs0,vs=.ref a::vs0/\aA Ha H/\Reps K Ha ds vs0/\Ha a=none/\H a=some (.lst us0)/\Reps K Ha st us0/\match m a st ds with
 |.ok (.tup ds',_)=>∀b p H' Ha',aS (xI a H) Ha H' Ha'->Kl K H Ha' H' ds' b p->Q (.ref b) H'
 |_=>False
def wZ(r:c8):ai (D×ac):=match r with
 |.rt (.tup ds) st=>.ok (.tup ds,st)
 |_=>.stuck
def uI(n:Nat)(s:Addr->Ev->ac->ai c8)(a:Addr)(st ds:ac):ai (D×ac):=(s a (.pt a::ds.map Sl.sh++List.replicate (n-(ds.length+1)) .no) st).bind wZ
def vA{K:W.Frag}{st:Stmt}{N ps:List Str}{k n:Nat}(F:DJ K x qual st f fd)(S:eP N ps (defScope st))(hn:ps.length=n+1)
  (hbody:∀(cdv:Value) (A:Around) (outer:List PySem.Env) (s0:Shared) (H He Ha:Hp) (a:Addr) (E:XK),cB k (A.deeper (envOfC qual (defScope st) s0.heap.objs.size f cdv)) ->
   Dt (ll CX0 P w K mg base N qual (defScope st) f cdv A outer s0 H E).nox He Ha a (defBody st) (s a)):fM P w K mg base CX0 (k+1) f fd ps (Bo K n (uI N.length s)):=by
 have hpl:ps.length<=N.length:=by have:=congrArg List.length S.pre;rw[List.length_take]at this;omega
 refine F.ok S (λvs H Q E h=>h.1.trans hn.symm) λcdv A outer s0 H vs Q E hr h=>?_;obtain⟨hlen,Ha,ds,a,sl,us0,vs0,rfl,hs,hv,h0,hl,hst,q⟩:=h;have lv:=hv.length;have hσ:start N (.ref a::vs0)=some (.ref a)::(vs0.map some++List.replicate (N.length-(vs0.length+1)) none):=by
  unfold L2.start;simp
 have hρ0:∀(i:Nat) (z:Sl),(Sl.pt a::ds.map Sl.sh++List.replicate (N.length-(ds.length+1)) Sl.no)[i]?=some z->z=.no∨(i=0/\z=.pt a)∨∃j d,i=j+1/\ds[j]?=some d/\z=.sh d:=λi z e=>by
  cases i with
  |zero=>simp at e;exact .inr (.inl ⟨rfl,e.symm⟩)
  |succ j=>
   rw[List.cons_append,List.getElem?_cons_succ]at e
   by_cases hj:j<ds.length
   .rw[List.getElem?_append_left (by simpa using hj),List.getElem?_map,List.getElem?_eq_getElem hj]at e
    cases e;exact .inr (.inr ⟨j,ds[j],rfl,List.getElem?_eq_getElem hj,rfl⟩)
   .rw[List.getElem?_append_right (by simpa using hj),List.getElem?_replicate]at e
    split at e
    .cases e;exact .inl rfl
    .cases e
 refine⟨_,(hbody cdv A outer s0 H (xI a H) Ha a E hr).o,Ha,.pt a::ds.map Sl.sh++List.replicate (N.length-(ds.length+1)) .no,sl,us0,⟨cJ,h0,hl,hst,?_⟩,?_⟩
 .refine⟨⟨λb o e=>?_,aA.refl _,hs,λb h1 h2=>absurd h2 h1⟩,λi d e=>?_,λi d e=>?_,λi j d d' hij e=>?_,?_,⟨λi j es e=>?_,λi b e=>?_⟩⟩
  .by_cases c:b=a
   .subst c;rw[aC]at e;cases e;exact hl
   .rw[av c,cU c]at e;exact e
  .rcases hρ0 i _ e with h|⟨_,h⟩|⟨j,d',rfl,hd,h⟩
   .cases h
   .cases h
   .cases h
    obtain⟨v,h1,h2⟩:=hv.get hd;refine⟨v,?_,h2⟩;rw[hσ,List.getElem?_cons_succ,List.getElem?_append_left (by rw[List.length_map];exact(List.getElem?_eq_some_iff.mp h1).1),List.getElem?_map,h1];rfl
  .rcases hρ0 i _ e with h|⟨_,h⟩|⟨j,d',rfl,hd,h⟩<;>cases h
  .rcases hρ0 i _ e with h|⟨_,h⟩|⟨j,d',rfl,hd,h⟩<;>cases h
  .rw[hσ]
   simp only[List.length_cons,List.length_append,List.length_map,List.length_replicate];omega
  .rcases hρ0 i _ e with h|⟨_,h⟩|⟨j,d',rfl,hd,h⟩<;>cases h
  .rcases hρ0 i _ e with h|⟨rfl,h⟩|⟨j,d',rfl,hd,h⟩
   .cases h
   .cases h;rw[hσ];rfl
   .cases h
 .unfold uI at q
  cases e1:s a (.pt a::ds.map Sl.sh++List.replicate (N.length-(ds.length+1)) .no) sl with
  |stuck|exn x=>rw[e1]at q;exact q
  |ok r=>
   rw[e1]at q;cases r with
   |rt d st'=>
    cases d with
    |tup ds'=>
     exact λb p H' Ha' g hb hp ⟨n1,n2,r⟩=>q b p H' Ha' g ⟨by rw[cU hb]at n1;exact n1,by rw[cU hp]at n2;exact n2,r⟩
    |_=>exact q.elim
   |_=>exact q.elim
def Dh(i:Nat)(r:ai Fl):ai Fl:=match r with
 |.ok (.nx ρ)=>.ok (.nx (uk i ρ))
 |.ok (.rt d)=>.ok (.rt d)
 |.ok (.bk ρ)=>.ok (.bk (uk i ρ))
 |.ok (.ct ρ)=>.ok (.ct (uk i ρ))
 |_=>.stuck
def cO.cut{K:W.Frag}(h:cO K He H0e Ha σ H ρ)(i:Nat):cO K He H0e Ha σ H (uk i ρ):=by
 have key:∀(j:Nat) (s:Sl),(uk i ρ)[j]?=some s->s=.no∨ρ[j]?=some s:=λj s e=>Fh e;refine⟨h.g,λj d e=>?_,λj d e=>?_,λj k d d' hij e1 e2=>?_,by rw[Di];exact h.ln,h.ex.upd (λj s e=>?_) (aA.refl _) (λ_ _ _ e=>e) λp us _ q0 hq _=>⟨hq,q0⟩⟩
 .rcases key j _ e with h'|h'
  .cases h'
  .exact h.rd j d h'
 .rcases key j _ e with h'|h'
  .cases h'
  .exact h.ow j d h'
 .rcases key j _ e1 with h'|h'
  .cases h'
  rcases key k _ e2 with h''|h''
  .cases h''
  exact h.ap j k d d' hij h' h''
 .rcases key j _ e with h'|h'
  .exact .inr (.inr (.inl h'))
  .exact .inl ⟨h',rfl⟩
def zr(i:Nat)(s:am)(ρ:Ev)(p:D×ac):ai Fl:=match p.1 with
 |.tup ds=>s (ρ.set i (.ox 1 ds))
 |_=>.stuck
noncomputable def ni(i:Nat) (m:Addr->ac->ac->ai (D×ac)) (s:am) (ρ:Ev) (xs:ac):ai Fl:=match xs with
 |.lst st::ds=>if Aw i ρ=true then xA λa=>Dh i ((m a st ds).bind (zr i s ρ)) else .stuck
 |_=>.stuck
noncomputable def fu(i:Nat) (fa:Ev->ai (ac)) (m:Addr->ac->ac->ai (D×ac)) (s:am):am:=λρ=>(fa ρ).bind (ni i m s ρ)
section
variable {X:Cx}{E:XK}{He H0e:Hp}{st:Stmt}{rest:List Stmt}{e:Expr}{es:List Expr}{pos:Pos}{fa:Ev->ai (ac)}{s:am}{CX:yg}{k n:Nat}{fn:Addr}{fd:FuncData}{ps:List Str}{y:Str}{p:Pos}{m:Addr->ac->ac->ai (D×ac)}
def xK(F:fM X.prog X.w X.K X.mg X.base CX k fn fd ps (Bo X.K n m))(hr:cB k X.A)(hg:Gl X y)(hm:X.mg y=some (.ref fn))
  (hk:W.keepIn X.K (.ref fn)=true)(hb:iL X.K fd ps [])(hx:ee CX X E)(ha:DX X E 0 (e::es) fa)(hl:∀ρ ds,fa ρ=.ok ds->ds.length=n+1)
  (hN:X.N.Nodup)(hi:X.N[i]?=some x)(hxl:A1 X.env.scope x)(hrest:yf X E He H0e rest s)
  (hdb:(y==("__debug__":Str))=false:=by decide)(he:starEach (e::es) X.env=(false,eval e X.env)::starEach es X.env:=by exact aN rfl)(hpl:(backTo cpos (starEach es X.env)).any (·.1)=false:=by exact bw rfl)
  (hs:swapsWith (.Call (.Name y p) (e::es) [] cpos) (some (.Name x pos')) pos.line X.env=pure false:=by rfl)
  (hf:X.fn x=true∨X.env.scope.names.lookup x=some .local := by first|exact .inl rfl|exact .inr rfl|assumption):yf X E He H0e (.Assign [.Name x pos'] (.Call (.Name y p) (e::es) [] cpos) pos::rest) (fu i fa m s):=by
 refine⟨?_⟩;refine dI (eU (lM hN hi hxl (jM F hr hg hm hk hb .nil hx ha.o hdb he hpl) hs hf) hrest.o) λG σ H z9=>?_;obtain⟨Ha,ρ,h,q⟩:=z9;refine⟨Ha,ρ,h.g.sub,h.rd,?_⟩
 unfold fu at q;cases e1:fa ρ with
 |stuck=>rw[e1]at q;exact q|exn x=>rw[e1]at q;exact λC ox H' Ha' g ex=>q C ox H' Ha' (h.g.trans g) ex
 |ok xs=>
  rw[e1]at q;replace q:bL X.K E He H0e Ha (ni i m s ρ xs) G:=q;unfold ni at q;cases xs with
  |nil=>exact q.elim
  |cons d0 ds=>
   cases d0 with
   |lst sl=>
    simp only at q
    by_cases hc:Aw i ρ=true
    .rw[if_pos hc]at q
     refine⟨⟨sl,rfl⟩,λvs a es0 us H1 H01 g1 ha0 h01 hav y1 y2 r1 hlen hoth=>?_⟩;cases y1;have hns:xA (λa=>Dh i ((m a sl ds).bind (zr i s ρ)))≠.stuck:=λz=>by rw[z]at q;exact q
     have hF:=EO hns a;rw[←hF]at q;cases vs with
     |nil=>cases y2
     |cons v0 vs=>
      cases y2;have hrs:Reps X.K H01 ds vs:=sW (by simpa using hlen) λk d v k1 k2=>hoth (k+1) d v (by omega) k1 k2;refine⟨by have:=hl ρ _ e1;simp only[List.append_nil];omega,H01,ds,a,sl,us,vs,by simp,g1.sub,hrs,h01,hav,r1,?_⟩;cases e2:m a sl ds with
      |stuck=>rw[e2]at q;exact q|exn x=>rw[e2]at q;exact q.elim
      |ok pr=>
       obtain⟨d,st'⟩:=pr;rw[e2]at q;replace q:bL X.K E He H0e Ha (Dh i (zr i s ρ (d,st'))) G:=q;unfold zr at q;cases d with
       |tup ds'=>
        simp only at q;intro b pp H' Ha' g2 ⟨n1,n2,ws,es',us',r2,r3,r4,r5,r6,r7,r8,r9⟩;have gg:aS H Ha H' Ha':=⟨λc o ec=>g2.s _ _ (by rw[cU (by intro z;subst z;rw[ha0]at ec;cases ec)];exact g1.s _ _ ec),g1.z.trans g2.z,g2.sub,λc c1 c2=>by
         cases q0:H01 c with
         |some o=>exact g1.nw c (by rw[q0];simp) c2
         |none=>
          have:=g2.nw c c1 q0
          by_cases z:c=a
          .subst z;exact ha0
          .rw[cU z]at this;exact g1.s.free this⟩
        have hh:=h.grow gg;have hbH:H b=none:=g1.s.free n1;have hpH:H pp=none:=g1.s.free n2;have h2:cO X.K He H0e Ha' (σ.set i (some (.ref b))) H' (ρ.set i (.ox 1 ds')):=hh.putX (p:=pp) ⟨ws,es',us',h.g.s.free hbH,r2,h.g.s.free hpH,r3,r5,r6,r4,r7,r8,r9⟩ hc λk d ek z=>by
         obtain⟨c,k1,_,_,k4⟩:=h.ow k d ek;rw[z]at k1;cases k1;cases d with|lst ds'|dic ks ds'=>obtain⟨vs',h5,_⟩:=k4;rw[hpH]at h5;cases h5| _=>exact k4.elim
        refine⟨Ha',ρ.set i (.ox 1 ds'),h2,?_⟩;replace q:=bL.grow q gg.z;unfold Dh at q;cases e3:s (ρ.set i (.ox 1 ds')) with
        |stuck=>rw[e3]at q;exact q|exn x=>rw[e3]at q;exact q.elim
        |ok r=>
         rw[e3]at q;cases r with|nx ρ'=>exact λσ' H2 H02 z h'=>q σ' H2 H02 z (h'.cut i)|rt d=>exact q|bk ρ'=>exact λσ' H2 H02 z h'=>q σ' H2 H02 z (h'.cut i)|ct ρ'=>exact λσ' H2 H02 z h'=>q σ' H2 H02 z (h'.cut i)
       |_=>exact q.elim
    .rw[if_neg hc]at q;exact q.elim
   |_=>exact q.elim
def GK(i:Nat)(ρ:Ev)(ds:ac)(o:Option D):ai Fl:=match o with
 |some (.lst (d::es))=>if es.length<line then .ok (.nx (ρ.set i (.ox 1 (ds.set 1 (.lst (es++[d])))))) else .stuck
 |_=>.stuck
def Jf(i:Nat)(ρ:Ev)(s:Option Sl):ai Fl:=match s with
 |some (.ox j ds)=>if j=1 then GK i ρ ds ds[1]? else .stuck
 |_=>.stuck
def Bx(i:Nat):am:=λρ=>Jf i ρ ρ[i]?
def HF{j1 j2 j3}(hN:X.N[i]?=some x)(hv:A0 X.env.scope x)
  (hd:(x==("__debug__":Str))=false:=by decide)(hcd:(x==("__classdict__":Str))=false:=by decide)
  (hix:gM (.Constant (.int 1) j1 a2):=by exact λ_ _=>rfl)(hix':gM (.Constant (.int 1) j2 b2):=by exact λ_ _=>rfl)
  (hbase:attributeBase (.Subscript (.Name x a1) (.Constant (.int 1) j1 a2) a3) "append" X.env (eval (.Subscript (.Name x a1) (.Constant (.int 1) j1 a2) a3) X.env)=eval (.Subscript (.Name x a1) (.Constant (.int 1) j1 a2) a3) X.env:=by rfl)
  (hbase':attributeBase (.Subscript (.Name x b1) (.Constant (.int 1) j2 b2) b3) "pop" X.env (eval (.Subscript (.Name x b1) (.Constant (.int 1) j2 b2) b3) X.env)=eval (.Subscript (.Name x b1) (.Constant (.int 1) j2 b2) b3) X.env:=by rfl)
  (hfew:((backTo p3 (starEach [.Call (.Attribute (.Subscript (.Name x b1) (.Constant (.int 1) j2 b2) b3) "pop" b4) [.Constant (.int 0) j3 a4] [] b5] X.env)).all (λx=>!x.1)&&(backToKw p3 (keywordEach [] X.env)).all (λx=>x.1.isSome)
  &&decide ([Expr.Call (.Attribute (.Subscript (.Name x b1) (.Constant (.int 1) j2 b2) b3) "pop" b4) [.Constant (.int 0) j3 a4] [] b5].length+([]:List Keyword).length+(if([]:List Keyword).isEmpty then 0 else 1)<30))=true:=by exact e7 rfl)
  (hline:(c4.endLine==p3.line)=true:=by rfl) (hs:starEach [.Call (.Attribute (.Subscript (.Name x b1) (.Constant (.int 1) j2 b2) b3) "pop" b4) [.Constant (.int 0) j3 a4] [] b5] X.env=(false,eval (.Call (.Attribute (.Subscript (.Name x b1) (.Constant (.int 1) j2 b2) b3) "pop" b4) [.Constant (.int 0) j3 a4] [] b5) X.env)::starEach [] X.env:=by exact aN rfl) (hplain:(backTo p3 (starEach [] X.env)).any (·.1)=false:=by exact bw rfl)
  (hfew':((backTo b5 (starEach [.Constant (.int 0) j3 a4] X.env)).all (λx=>!x.1)&&(backToKw b5 (keywordEach [] X.env)).all (λx=>x.1.isSome)
  &&decide ([Expr.Constant (.int 0) j3 a4].length+([]:List Keyword).length+(if([]:List Keyword).isEmpty then 0 else 1)<30))=true:=by exact e7 rfl)
  (hline':(b4.endLine==b5.line)=true:=by rfl) (hs':starEach [.Constant (.int 0) j3 a4] X.env=(false,eval (.Constant (.int 0) j3 a4) X.env)::starEach [] X.env:=by exact aN rfl) (hplain':(backTo b5 (starEach [] X.env)).any (·.1)=false:=by exact bw rfl)
  (hw:swapsWith (.Call (.Attribute (.Subscript (.Name x a1) (.Constant (.int 1) j1 a2) a3) "append" c4) [.Call (.Attribute (.Subscript (.Name x b1) (.Constant (.int 1) j2 b2) b3) "pop" b4) [.Constant (.int 0) j3 a4] [] b5] [] p3) none pos.line X.env=pure false:=by rfl) :
  DS X E He H0e (.Expr (.Call (.Attribute (.Subscript (.Name x a1) (.Constant (.int 1) j1 a2) a3) "append" c4) [.Call (.Attribute (.Subscript (.Name x b1) (.Constant (.int 1) j2 b2) b3) "pop" b4) [.Constant (.int 0) j3 a4] [] b5] [] p3) pos) (Bx i):=by
 refine⟨?_⟩;refine bz (m7 (uT PySem.F.plainAttrs_list PySem.F.slot_list_append PySem.F.type_list_append iP (yD xD (fH hN hv hd hcd) tf hix) (cx (uT PySem.F.plainAttrs_list PySem.F.slot_list_pop PySem.F.type_list_pop Cp (yD xD (fH hN hv hd hcd) tf hix') (cx tf eW hs') hbase' hfew' hline' hs' hplain') eW hs) hbase hfew hline hs hplain) hw) λD σ H ⟨Ha,ρ,h,q⟩=>?_;unfold Bx Jf at q;cases e:ρ[i]? with
 |none=>rw[e]at q;exact q.elim
 |some s=>
  rw[e]at q;cases s with
  |ox j ds=>
   simp only at q
   by_cases hj:j=1
   .subst hj
    rw[if_pos rfl]at q;unfold GK at q;cases e5:ds[1]? with
    |none=>rw[e5]at q;exact q.elim
    |some d1=>
     rw[e5]at q;cases d1 with
     |lst es0=>
      cases es0 with
      |nil=>exact q.elim
      |cons d es=>
       simp only at q
       by_cases hl:es.length<line
       .rw[if_pos hl]at q
        obtain⟨a,p,h1,h2,h3,h4⟩:=h.ex.1 i 1 ds e;have h2':=h2;obtain⟨vs,es1,us0,r1,r2,r3,r4,r5,r6,r7,r8,r9,r10⟩:=h2;rw[e5]at r5;cases r5;obtain⟨v,ur,rfl,k1,k2⟩:=aB.mp r8;have hlen:=k2.length;have at1:atI vs 1=some (.ref p):=dS r6;refine⟨.ref a,h1,?_⟩;refine⟨a,vs,1,.ref p,rfl,rfl,i4.of r2,at1,.inl ⟨rfl,v::ur,d9.of r7⟩,?_⟩;refine⟨.ref a,h1,?_⟩;refine⟨a,vs,1,.ref p,rfl,rfl,i4.of r2,at1,.inl ⟨rfl,v::ur,d9.of r7⟩,?_⟩;refine⟨p,v::ur,0,0,v,rfl,rfl,r7,by decide,by decide,(tN (show vt (v::ur).length 0=some 0 by unfold vt;rw[if_pos (by decide),if_pos (by rw[List.length_cons];omega)];rfl)).1,rfl,?_⟩;refine⟨p,ur,v,rfl,rfl,aC,?_,?_⟩
        .rw[←hlen];exact Nat.lt_of_lt_of_le hl (by decide)
        .rw[L2.upd_upd]
         exact q σ _ Ha (aA.refl _) (h.writeX e h1 h2' (k2.app (Reps.cons k1 Reps.nil)) h3 h4)
       .rw[if_neg hl]at q;exact q.elim
     |_=>exact q.elim
   .rw[if_neg hj]at q;exact q.elim
  |_=>exact q.elim
end
def my:Nat->Int->ad
 |0,_=>[]
 |n+1,lo=>.int lo::my n (lo-1)
def fU:Nat->Int->ac
 |0,_=>[]
 |n+1,lo=>.int lo::fU n (lo-1)
theorem rW:∀(n:Nat) (lo:Int),(my n lo).length=n
 |0,_=>rfl
 |n+1,lo=>by unfold my;rw[List.length_cons,rW n]
theorem rV{K:W.Frag}:∀(n:Nat) (lo:Int),Reps K H (fU n lo) (my n lo)
 |0,_=>Reps.nil
 |n+1,lo=>Reps.cons (ri _) (rV n (lo-1))
theorem rS:∀(n:Nat) (lo:Int) (us:List Value),us.length=n->(∀(j:Nat) (v:Value),us[j]?=some v->∃t,v=.int (lo+(j:Nat)*(-1)) t)->ba (my n lo) us
 |0,_,[],_,_=>.nil
 |n+1,lo,u::us,hl,h=>by
  refine .cons ?_ (rS n (lo-1) us (by simpa using hl) λj v e=>?_)
  .obtain⟨t,rfl⟩:=h 0 u rfl
   exact⟨t,by simp⟩
  .obtain⟨t,ht⟩:=h (j+1) v e
   exact⟨t,by rw[ht];congr 1;omega⟩
section
variable {X:Cx}{E:XK}{a b c:Expr}{f g h:al}{fa:Ev->ai (ac)}
def Ms(ta:TA):TE:=λσ H Q=>ta σ H λvs H1=>∃i:Int,vs=[.int i,.int (-1),.int (-1)]/\(-1<=i/\i<=1000)/\∀l,H1 l=none->Q (.ref l) (upd H1 l (.lst (my (i+1).toNat i)))
def B2(hc:X.calm=true)(hg:Gl X "list")(hm:X.mg "list"=none)(hg2:Gl X "range")(hm2:X.mg "range"=none)(ha:PA X [a,b,c] ta)(hs:starEach [a,b,c] X.env=(false,eval a X.env)::starEach [b,c] X.env)(hs2:(backTo pos2 (starEach [b,c] X.env)).any (·.1)=false)
  (he:starEach [.Call (.Name "range" p2) [a,b,c] [] pos2] X.env=(false,eval (.Call (.Name "range" p2) [a,b,c] [] pos2) X.env)::starEach [] X.env:=by exact aN rfl)(hpl:(backTo pos (starEach [] X.env)).any (·.1)=false:=by exact bw rfl) :
  PE X (.Call (.Name "list" p) [.Call (.Name "range" p2) [a,b,c] [] pos2] [] pos) (Ms ta):=by
 intro pins s σ H Q I hq;refine wpAny_Call_Name_kw (jq I hg hm PyProof.Rows.Boot.«list» ?_ (by decide) (by decide));refine PyProof.Rows.callWith_type1 ?_ he hpl;rw[he];show wpAny _ _ (spliced ((false,eval (.Call (.Name "range" p2) [a,b,c] [] pos2) X.env)::backTo pos (starEach [] X.env))) _ _ s;refine Calls.spliced_cons ?_;refine Call_ (jq I hg2 hm2 boot_range (PyProof.Rows.callWith_type1 (cu (ha pos2 pins s σ H _ I hq) λus s1 z9=>?_) hs hs2));obtain⟨vs,H1,I1,r1,q1⟩:=z9;obtain⟨i,e,⟨q1,q2⟩,q⟩:=q1;subst e;cases r1 with
 |cons r rr=>
  cases rr with
  |cons r' rr=>
   cases rr with
   |cons r2 rr=>
    cases rr;obtain⟨t,rfl⟩:=r;obtain⟨t',rfl⟩:=r';obtain⟨t2,rfl⟩:=r2;refine call_range_3 (by omega) ?_ (Or.inl (PyProof.noPylong_small (by omega)));have I2:Inv X pins σ H1 { s1 with heap:=s1.heap.push { cls:=.type "range",data:=.fields #[.int i t,.int (-1) t',.int (-1) t2] },toks:=s1.toks }:=I1.kept λb o e=>Heap.get?_push_of_some _ e;refine Calls.spliced_nil ?_;have hz:Builtin.Range.rangeSize i (-1) (-1)=(((i+1).toNat:Nat):Int):=by
     unfold Builtin.Range.rangeSize;rw[if_neg (by omega)];have e1:(i - -1-1) / - -1=i:=by rw[show(- -1:Int)=1 from rfl,Int.ediv_one];omega
     split<;>omega
    have hsm:Builtin.Range.small i (-1) (-1)=true:=by
     unfold Builtin.Range.small;rw[hz];simp only[Builtin.Range.rangeFitsLong,Bool.and_eq_true,Bool.or_eq_true,decide_eq_true_eq,beq_iff_eq];refine⟨⟨⟨⟨⟨by omega,by omega⟩,by omega,by omega⟩,by omega,by omega⟩,by omega,by omega⟩,?_⟩
     first|omega|(right;split<;>omega)|(right;constructor<;>(first|omega|(split<;>omega)))
    refine call_list_range (n:=(i+1).toNat) (I2.ok.hd hc) (IsRange.new ..) hsm hz (by omega) λh' tk acc' c' kp e items=>?_;have hv:ba (my (i+1).toNat i) acc'.toList:=rS _ i acc'.toList (by rw[Array.length_toList];exact items.1) λj v ev=>items.2 j v (by rw[←Array.getElem?_toList];exact ev);refine⟨.ref (s1.heap.push { cls:=.type "range",data:=.fields #[.int i t,.int (-1) t',.int (-1) t2] }).objs.size,_,I2.laid (t':=tk) kp (Nat.le_refl _) (show cw X.prog X.w _ h' _ (.lst (my (i+1).toNat i)) from⟨by rw[rW,sizeLine_eq];omega,acc'.toList,c',hv,e⟩),rfl,q _ (I2.hok.fresh (Nat.le_refl _))⟩
def mz(ds:ac):ai D:=match ds with
 |[.int i,.int j,.int k]=>if j=-1/\k=-1/\-1<=i/\i<=1000 then .ok (.lst (fU (i+1).toNat i)) else .stuck
 |_=>.stuck
def Dd(hc:X.calm=true)(hg:Gl X "list")(hm:X.mg "list"=none)(hg2:Gl X "range")(hm2:X.mg "range"=none)(ha:DA X E [a,b,c] fa)
  (hs:starEach [a,b,c] X.env=(false,eval a X.env)::starEach [b,c] X.env:=by exact aN rfl)(hs2:(backTo pos2 (starEach [b,c] X.env)).any (·.1)=false:=by exact bw rfl)
  (he:starEach [.Call (.Name "range" p2) [a,b,c] [] pos2] X.env=(false,eval (.Call (.Name "range" p2) [a,b,c] [] pos2) X.env)::starEach [] X.env:=by exact aN rfl)(hpl:(backTo pos (starEach [] X.env)).any (·.1)=false:=by exact bw rfl) :
  DE X E (.Call (.Name "list" p) [.Call (.Name "range" p2) [a,b,c] [] pos2] [] pos) (au fa mz):=by
 refine⟨aQ (B2 hc hg hm hg2 hm2 ha.o hs hs2 he hpl) λσ H Q z9=>?_⟩;obtain⟨Ha,ρ,hs,hr,q⟩:=z9;refine⟨Ha,ρ,hs,hr,?_⟩;unfold au at q;cases e1:fa ρ with
 |stuck|exn x=>rw[e1]at q;exact q
 |ok ds=>
  rw[e1]at q;intro vs H1 H01 g1 r1;simp only[ai.bind]at q;cases e2:mz ds with
  |stuck=>rw[e2]at q;exact q.elim
  |exn x=>unfold mz at e2;split at e2<;>(try split at e2)<;>cases e2
  |ok d=>
   rw[e2]at q;unfold mz at e2;split at e2
   .next i j k=>
    split at e2
    .next hh=>
     obtain⟨rfl,rfl,h1,h2⟩:=hh;cases e2;obtain⟨v,r',rfl,k1,k2⟩:=aB.mp r1;obtain⟨v',r'',rfl,k3,k4⟩:=aB.mp k2;obtain⟨v'',r3,rfl,k5,k6⟩:=aB.mp k4;rw[Reps.nil_iff.mp k6,ar.mp k1,ar.mp k3,ar.mp k5];refine⟨i,rfl,⟨h1,h2⟩,λl hl=>?_⟩;exact q _ _ _ (g1.trans (aV g1.sub hl)) (aE.mpr ⟨l,_,rfl,d9.of aC,rV _ _⟩)
    .cases e2
   .cases e2
end
section
variable {P:Program}{w:World}{K:W.Frag}{mg:Str->Option Value}{base:Heap}{rows:List Rw}{A:Nat->Addr}{Q:Nat->FuncData}{i k n:Nat}{r:Rw}{sM:Addr->Ev->ac->ai c8}
def Mz(T:TG rows K mg A Q)(S:KG rows)(h:rows[i]?=some r)(hn:r.ps.length=n+1)(b:∀(cdv:Value) (A':Around) (outer:List PySem.Env) (s0:Shared) (H He Ha:Hp) (a:Addr) (E:XK),cB k (A'.deeper (envOfC r.x (defScope r.st) s0.heap.objs.size (A i) cdv)) ->
   Dt (ll CX0 P w K mg base r.N r.x (defScope r.st) (A i) cdv A' outer s0 H E).nox He Ha a (defBody r.st) (sM a)):eJ P w K mg base CX0 (k+1) (A i) (Q i) r.ps (Bo K n (uI r.N.length sM)) r.x r.st :=
 ⟨vA (T i r h).F (S r (List.mem_of_getElem? h)) hn b,T i r h⟩
end
section
variable {X:Cx}{E:XK}{He H0e:Hp}{rest:List Stmt}{e:Expr}{es:List Expr}{pos:Pos}{f:al}{fa:Ev->ai (ac)}{s:am}{CX:yg}{k k0 n:Nat}{fn:Addr}{fd:FuncData}{ps:List Str}{y:Str}{p:Pos}{ft:Stmt}{m:Addr->ac->ac->ai (D×ac)}
def Fs(hl:∀ρ ds,fa ρ=.ok ds->ds.length=n)(ρ:Ev)(ds:ac)(h:Ds f fa ρ=.ok ds):ds.length=n+1:=by
 unfold Ds at h;cases e1:f ρ with
 |stuck|exn x=>rw[e1]at h;cases h
 |ok d=>
  rw[e1]at h;cases d with
  |lst xs=>
   simp only[ai.bind]at h;cases e2:fa ρ with|stuck|exn x=>rw[e2]at h;cases h|ok ys=>rw[e2]at h;cases h;simp[hl ρ ys e2]
  |_=>cases h
def rX(B:eJ X.prog X.w X.K X.mg X.base CX k0 fn fd ps (Bo X.K n m) y ft)(hr:cB k X.A)(ha:DX X E 0 (e::es) (Ds f fa))(hN:X.N.Nodup)(hi:X.N[i]?=some x)(hxl:A1 X.env.scope x)(hrest:yf X E He H0e rest s)(hle:k0<=k:=by decide)(hx:ee CX X E:=by first|exact uV|exact pass0E|exact passesE)
  (hl:∀ρ ds,fa ρ=.ok ds->ds.length=n:=by first|exact KC|exact KA|exact LB|exact al4|exact al5)(hg:Gl X y:=by exact rfl)
  (hdb:(y==("__debug__":Str))=false:=by decide)(he:starEach (e::es) X.env=(false,eval e X.env)::starEach es X.env:=by exact aN rfl)(hpl:(backTo cpos (starEach es X.env)).any (·.1)=false:=by exact bw rfl)
  (hs:swapsWith (.Call (.Name y p) (e::es) [] cpos) (some (.Name x pos')) pos.line X.env=pure false:=by rfl)
  (hf:X.fn x=true∨X.env.scope.names.lookup x=some .local := by first|exact .inl rfl|exact .inr rfl|assumption):yf X E He H0e (.Assign [.Name x pos'] (.Call (.Name y p) (e::es) [] cpos) pos::rest) (fu i (Ds f fa) m s) :=
 xK (B.F.mono hle) hr hg B.t.g B.t.F.kp B.t.b hx ha (Fs hl) hN hi hxl hrest hdb he hpl hs hf
end
end DL
namespace K11
open PySem L2 DL
noncomputable def dQ:am :=
 (aw (dH (aa (aa (ae 0) (dC (.int 0)) aP) (ae 1) lG)
 (aw (bB (aa (ae 0) (dC (.int 1)) aP))
 ao)
 ao)
 (aw (dH (gE (aa (aa (ae 0) (dC (.int 1)) aP) (ae 1) lG) (aa (aa (ae 0) (dC (.int 2)) aP) (dC (.str "both")) lG))
 (aw (bB (aa (ae 0) (dC (.int 0)) aP))
 ao)
 ao)
 (aw (bB (dC (.non)))
 ao)))
def bp:ac->ai D:=ck 2 dQ
noncomputable def fL:am :=
 (aw (bE 1 (au (ah (aa (ae 0) (dC (.int 0)) aP) (ah (aa (ae 0) (dC (.int 1)) aP) aG)) fR))
 (aw (dH (aa (aa (ae 0) (dC (.int 2)) aP) (dC (.str "one")) lG)
 (aw (bB (au (ah (ae 1) aG) du))
 ao)
 ao)
 (aw (bB (au (ah (ae 1) (ah (au (ah (aa (ae 0) (dC (.int 1)) aP) (ah (aa (ae 0) (dC (.int 0)) aP) aG)) fR) aG)) du))
 ao)))
def m_steps_along:ac->ai D:=ck 2 fL
end K11
namespace K12
open PySem L2 DL
abbrev aX:ac->ai D:=Cod.aX
noncomputable def mK:am :=
 (aw (bB (au (ah (aa (aa (aa (ae 0) (dC (.int 0)) aP) (aa (ae 1) (dC (.int 1)) aP) bQ) (aa (aa (ae 1) (dC (.int 0)) aP) (aa (ae 0) (dC (.int 1)) aP) bQ) cb) (ah (aa (aa (ae 0) (dC (.int 1)) aP) (aa (ae 1) (dC (.int 1)) aP) bQ) aG)) aX))
 ao)
def bN:ac->ai D:=ck 2 mK
end K12
namespace K51
open PySem L2 DL
abbrev aX:ac->ai D:=Cod.aX
abbrev bN:ac->ai D:=K12.bN
def mL:am :=
 (aw (bB (aa (aa (aa (ae 0) (dC (.int 0)) aP) (aa (ae 1) (dC (.int 1)) aP) bQ) (aa (aa (ae 1) (dC (.int 0)) aP) (aa (ae 0) (dC (.int 1)) aP) bQ) ID))
 ao)
def bX:ac->ai D:=ck 2 mL
abbrev m_steps_along:ac->ai D:=K11.m_steps_along
noncomputable def b_steps_left:am :=
 (aw (mQ 2 (au aG du))
 (aw (i9 (Af (aa (ae 0) (dC (.int 1)) aP)) (il [3,4])
 (aw (dH (aa (ae 3) (ae 1) cX)
 (aw (qH (au (ah (ae 4) aG) m_steps_along) (il [5,6])
 (aw (gr 2 (au (ah (ae 3) (ah (ae 5) (ah (ae 6) aG))) fR))
 ao))
 ao)
 ao)
 ao))
 (aw (bB (ae 2))
 ao)))
def m_steps_left:ac->ai D:=ck 7 b_steps_left
end K51
namespace K17
open PySem L2 DL
abbrev m_on_one_scale:ac->ai D:=Com.m_on_one_scale
def fY:am :=
 (aw (bB (au (ah (dA 1 [] (sU (aa (ae 0) (dC (.int 1)) aP)) (bF 0) mYes (aa (ae 0) (dC (.int 3)) aP)) aG) m_on_one_scale))
 ao)
def m_scaled_lengths:ac->ai D:=ck 1 fY
abbrev m_steps_along:ac->ai D:=K11.m_steps_along
abbrev m_steps_left:ac->ai D:=K51.m_steps_left
noncomputable def iE:am :=
 (aw (bE 3 (dC (.non)))
 (aw (qH (ae 0) (il [4,5,6])
 (aw (dH (gE (aa (ae 5) (ae 2) pT) (aa (ae 6) (ae 2) ef))
 (aw (bE 7 (aa (aa (aa (ae 2) (ae 5) dP) (dC (.int 0)) aP) (aa (ae 1) (ae 4) aP) cb))
 (aw (dH (jf (aa (ae 3) (dC (.non)) lh) (aa (ae 7) (aa (ae 3) (dC (.int 1)) aP) ID))
 (aw (bE 3 (au (ah (ae 6) (ah (ae 7) (ah (aa (aa (aa (ae 2) (ae 5) dP) (dC (.int 1)) aP) (au (ah (ae 4) aG) du) cb) aG))) fR))
 ao)
 ao)
 ao))
 ao)
 ao))
 (aw (bB (ae 3))
 ao)))
def m_nearest_step:ac->ai D:=ck 8 iE
noncomputable def ji:am :=
 (aw (bE 3 (au (ah (ae 0) (ah (ae 1) aG)) m_steps_left))
 (aw (rg 4 (wq (aa (ae 0) (dC (.int 2)) aP) (au (ah (dC (.int 0)) (ah (au aG du) aG)) fR)))
 (aw (nJ 5 (au (ah (ae 3) (ah (ae 2) (ah (ae 4) aG))) m_nearest_step))
 (aw (gq (λ_=>8) (aa (ae 5) (dC (.non)) iA)
 (aw (mf 4 (au (ah (aa (ae 5) (dC (.int 1)) aP) (ah (aa (ae 5) (dC (.int 2)) aP) aG)) fR) (aa (ae 5) (dC (.int 0)) aP))
 (aw (nJ 5 (au (ah (ae 3) (ah (ae 2) (ah (ae 4) aG))) m_nearest_step))
 ao)))
 (aw (bB (ae 4))
 ao)))))
def m_all_reached:ac->ai D:=ck 6 ji
abbrev m_ratio:ac->ai D:=Com.m_ratio
noncomputable def jz:am :=
 (aw (bE 2 (au (ah (ae 0) aG) m_scaled_lengths))
 (aw (bE 3 (au (ah (ae 0) (ah (ae 1) (ah (aa (ae 2) (dC (.int 0)) aP) aG))) m_all_reached))
 (aw (rg 4 (dC (.dic [] [])))
 (aw (qH (aa (ae 0) (dC (.int 0)) aP) (bF 5)
 (aw (mf 4 (HU (aa (ae 5) (ae 3) pT) (au (ah (aa (aa (ae 3) (ae 5) dP) (dC (.int 0)) aP) (ah (aa (ae 2) (dC (.int 1)) aP) aG)) m_ratio) (dC (.non))) (ae 5))
 ao))
 (aw (dH (aa (aa (ae 0) (dC (.int 3)) aP) (ae 3) ef)
 (aw (bB (au (ah (dC (.non)) (ah (dC (.non)) (ah (ae 4) aG))) fR))
 ao)
 ao)
 (aw (bB (au (ah (aa (aa (ae 3) (aa (ae 0) (dC (.int 3)) aP) dP) (dC (.int 1)) aP) (ah (aa (ae 4) (aa (ae 0) (dC (.int 3)) aP) dP) (ah (ae 4) aG))) fR))
 ao))))))
def m_shortest:ac->ai D:=ck 6 jz
end K17
local macro_rules|`(tactic|open_line with[$xs,*])=>`(tactic|simp only[fz,oJ,kj,ki,kC,oI,kh,oO,ko,kQ,iq,vM,o8,o7,oT,kA,pq,kz,oQ,kr,o9,oR,ku,vT,vS,pj,vR,oY,kR,iu,ir,pv,kT,kS,vI,oW,oV,oX,kB,o6,kM,kL,ou,jZ,CJ,kg,oH,ke,kc,ka,nc,oN,kn,km,vH,oU,vJ,vE,oG,oE,oC,pb,kP,iw,vN,ph,pe,pd,o5,pw,vL,vK,dq,kD,lX,jo,List.map_cons,List.map_nil,List.length_cons,List.length_nil,List.replicate_succ,List.replicate_zero,List.nil_append,List.cons_append,List.getElem?_cons_zero,List.getElem?_cons_succ,List.set_cons_zero,List.set_cons_succ,Nat.sub_zero,Nat.reduceSub,Nat.reduceAdd,Nat.add_zero,Nat.zero_add,Bool.not_true,Bool.not_false,oz,o4,iV,fA,oZ,vF,oK,vC,oy,iT,iS,kK,kJ,kI,kH,kG,kF,decide_true,decide_false,Nat.reduceLeDiff,Nat.reduceBEq,Int.reduceBEq,beq_self_eq_true,DL.dOne,DL.mYes,dj,cI,cT,e9,eA,e8,ez,vQ,vP,vO,Int.reduceLT,Int.reduceLE,Int.reduceSub,Int.reduceAdd,Int.reduceMul,Int.reduceNeg,kE,ip,oP,kq,Int.reduceToNat,Bool.and_self,ng,kO,m9,j9,m8,j8,j7,j0,iU,rL,kN,oA,zl,zm,tV,lV,CN,zx,zw,zG,zD,vV,CM,zv,CP,zB,zA,vU,FV,CU,CT,J6,FZ,FW,FX,J5,FY,FU,zF,FR,CL,J7,F1,F0,CS,zI,vX,vW,J8,F2,zK,vY,CQ,zC,CW,zE,tW,CK,zu,zt,pz,CV,zH,zJ,CO,zy,$[$xs:term],*])
local macro_rules|`(tactic|open_line with[$xs,*] seeing $h)=>`(tactic|simp only[fz,oJ,kj,ki,kC,oI,kh,oO,ko,kQ,iq,vM,o8,o7,oT,kA,pq,kz,oQ,kr,o9,oR,ku,vT,vS,pj,vR,oY,kR,iu,ir,pv,kT,kS,vI,oW,oV,oX,kB,o6,kM,kL,ou,jZ,CJ,kg,oH,ke,kc,ka,nc,oN,kn,km,vH,oU,vJ,vE,oG,oE,oC,pb,kP,iw,vN,ph,pe,pd,o5,pw,vL,vK,dq,kD,lX,jo,List.map_cons,List.map_nil,List.length_cons,List.length_nil,List.replicate_succ,List.replicate_zero,List.nil_append,List.cons_append,List.getElem?_cons_zero,List.getElem?_cons_succ,List.set_cons_zero,List.set_cons_succ,Nat.sub_zero,Nat.reduceSub,Nat.reduceAdd,Nat.add_zero,Nat.zero_add,Bool.not_true,Bool.not_false,oz,o4,iV,fA,oZ,vF,oK,vC,oy,iT,iS,kK,kJ,kI,kH,kG,kF,decide_true,decide_false,Nat.reduceLeDiff,Nat.reduceBEq,Int.reduceBEq,beq_self_eq_true,DL.dOne,DL.mYes,dj,cI,cT,e9,eA,e8,ez,vQ,vP,vO,Int.reduceLT,Int.reduceLE,Int.reduceSub,Int.reduceAdd,Int.reduceMul,Int.reduceNeg,kE,ip,oP,kq,Int.reduceToNat,Bool.and_self,ng,kO,m9,j9,m8,j8,j7,j0,iU,rL,kN,oA,zl,zm,tV,lV,CN,zx,zw,zG,zD,vV,CM,zv,CP,zB,zA,vU,FV,CU,CT,J6,FZ,FW,FX,J5,FY,FU,zF,FR,CL,J7,F1,F0,CS,zI,vX,vW,J8,F2,zK,vY,CQ,zC,CW,zE,tW,CK,zu,zt,pz,CV,zH,zJ,CO,zy,$[$xs:term],*] at $(⟨h⟩):ident)
namespace Bor
open PySem L2 DL Com
def St(st:ac):Prop:=∃(c s:Int) (b:Bool),st=[.int c,.int s,.bl b]/\0<=s/\s<2147483647
def p6:qO (.int 10) (.int 6)=.ok (.int 1000000):=aF rfl
def next(s:Int):Int:=(s*39373+17).fmod 2147483647
def yL(s:Int):0<=next s/\next s<2147483647:=dY (by decide)
def JO(m s:Int):Int:=m*2147483587+(s*s).fmod 2147483587
def sT{k:Int}(h0:0<=s)(h1:s<2147483647)(hm:0<=m/\m<1000000000000000000000000000) :
  (b7 (vk 0 a (mV 0 a (aa (aa (aa (aa (ae 0) (dC (.int 1)) aP) (dC (.int 39373)) bQ) (dC (.int 17)) cb) (dC (.int 2147483647)) cN)) (mP (dC (.int 1))))
 (b7 (eD 3 (mV 0 a (aa (aa (ae 3) (dC (.int 2147483587)) bQ) (aa (aa (aa (ae 0) (dC (.int 1)) aP) (aa (ae 0) (dC (.int 1)) aP) bQ) (dC (.int 2147483587)) cN) cb)))
 dN)) [.pt a,.sh (.int n),.no,.sh (.int m),.sh (.int k)] [.int c,.int s,.bl b]=.ok (.nx [.pt a,.sh (.int n),.no,.sh (.int (JO m (next s))),.sh (.int k)] [.int c,.int (next s),.bl b]):=by
 have o1:dg s 39373=true:=eY (by omega) (by decide);have g:=yL s;have o2:dg (next s) (next s)=true:=eY (by omega) (by omega);have o3:dg m 2147483587=true:=dM (Nat.lt_trans (show m.natAbs<1000000000000000000000000000 by omega) (by rw[l9];decide +kernel)) (Nat.lt_trans (show(2147483587:Int).natAbs<2147483588 by decide) (by rw[l9];decide +kernel));have e:(s*39373+17).fmod 2147483647=next s:=rfl;have hp:∀(ρ:Ev) (d:D),jK ρ d (.int 1,[.int c,.int s,.bl b])=.ok (.nx ρ [.int c,d,.bl b]):=λ_ _=>rfl;open_line with[bW o1,e,bW o2,bW o3,hp,JO]
def bV(a:Addr)(n0:0<n)(n1:n<=1000000000000000000)(h:St st):∃(d:Int) (st':ac),aJ a st [.int n]=.ok (.int d,st')/\0<=d/\d<n/\St st':=by
 obtain⟨c,s,b,rfl,s0,s1⟩:=h;have hn0:(n==0)=false:=beq_eq_false_iff_ne.mpr (by omega);have hd:dZ c n=true:=C7 (by omega) (Nat.lt_of_le_of_lt (show n.natAbs<=1000000000000000000 by omega) (by rw[zX];decide +kernel));cases b with
 |true=>
  have f:=dY (a:=c) (b:=n) n0;have p0:∀(ρ:Ev) (d:D),jK ρ d (.int 0,[.int c,.int s,.bl true])=.ok (.nx ρ [d,.int s,.bl true]):=λ_ _=>rfl;have p2:∀(ρ:Ev) (d:D),jK ρ d (.int 2,[.int (c.fdiv n),.int s,.bl true])=.ok (.nx ρ [.int (c.fdiv n),.int s,d]):=λ_ _=>rfl;refine⟨c.fmod n,[.int (c.fdiv n),.int s,.bl (decide (c.fdiv n > 0))],?_,f.1,f.2,_,_,_,rfl,s0,s1⟩;open_line with[aJ,iG,hn0,lW hd,p0,p2]
 |false=>
  have key:∃t:Nat,t<=3/\∀x2 x3 x4:Sl,(i8 (aa (dC (.int 1)) (aa (dC (.int 2)) (au (ah (aa (ae 1) (aa (dC (.int 10)) (dC (.int 6)) qO) HV) aG) (m1 iB)) bQ) cb)) [.pt a,.sh (.int n),x2,x3,x4]=.ok (intsFrom 0 t):=by
   by_cases hb:n > 1000000
   .refine⟨3,by decide,λx2 x3 x4=>?_⟩
    have o:dg 2 1=true:=eY (by decide) (by decide);have:(aa (dC (.int 1)) (aa (dC (.int 2)) (au (ah (aa (ae 1) (aa (dC (.int 10)) (dC (.int 6)) qO) HV) aG) (m1 iB)) bQ) cb) [.pt a,.sh (.int n),x2,x3,x4]=.ok (.int 3):=by
     open_line with[p6,decide_eq_true hb,bW o]
    unfold i8;rw[this];rfl
   .refine⟨1,by decide,λx2 x3 x4=>?_⟩
    have o:dg 2 0=true:=eY (by decide) (by decide);have:(aa (dC (.int 1)) (aa (dC (.int 2)) (au (ah (aa (ae 1) (aa (dC (.int 10)) (dC (.int 6)) qO) HV) aG) (m1 iB)) bQ) cb) [.pt a,.sh (.int n),x2,x3,x4]=.ok (.int 1):=by
     open_line with[p6,decide_eq_false hb,bW o]
    unfold i8;rw[this];rfl
  obtain⟨t,ht,hsrc⟩:=key;have hlen:(intsFrom 0 t).length=t:=by unfold DL.intsFrom;simp
  obtain⟨ρ2,st2,hl,m,s',x4,rfl,rfl,k0,k1,m0,_⟩:=vz (tg:=bF 4) (body:=(b7 (vk 0 a (mV 0 a (aa (aa (aa (aa (ae 0) (dC (.int 1)) aP) (dC (.int 39373)) bQ) (dC (.int 17)) cb) (dC (.int 2147483647)) cN)) (mP (dC (.int 1))))
 (b7 (eD 3 (mV 0 a (aa (aa (ae 3) (dC (.int 2147483587)) bQ) (aa (aa (aa (ae 0) (dC (.int 1)) aP) (aa (ae 0) (dC (.int 1)) aP) bQ) (dC (.int 2147483587)) cN) cb)))
 dN)))
   (λj ρ st=>∃(m s:Int) (x4:Sl),ρ=[.pt a,.sh (.int n),.no,.sh (.int m),x4]/\st=[.int c,.int s,.bl false]/\0<=s/\s<2147483647/\0<=m/\m<(2147483587:Int) ^ j)
   (intsFrom 0 t) (by
    rintro j d ρ st hj ⟨m,s,x4,rfl,rfl,s0,s1,m0,m1⟩;have hjt:j<t:=by have:=(List.getElem?_eq_some_iff.mp hj).1;omega
    have hd:d=.int (j:Int):=by
     unfold DL.intsFrom at hj;rw[List.getElem?_map,List.getElem?_range hjt]at hj;simp at hj;exact hj.symm
    subst hd;have hm:m<1000000000000000000000000000:=by
     have hj3:j=0∨j=1∨j=2:=by omega
     rcases hj3 with rfl|rfl|rfl<;>omega
    have g:=yL s;have r:=dY (a:=next s*next s) (b:=2147483587) (by decide);refine⟨_,_,_,rfl,.inl (sT (k:=(j:Int)) s0 s1 ⟨m0,hm⟩),JO m (next s),next s,_,rfl,rfl,g.1,g.2,?_,?_⟩
    .unfold JO
     have:0<=m*2147483587:=Int.mul_nonneg m0 (by decide);omega
    .unfold JO
     rw[Int.pow_succ];omega) 0 [.pt a,.sh (.int n),.no,.sh (.int 0),.no] [.int c,.int s,.bl false] (Nat.zero_le _) ⟨0,s,_,rfl,rfl,s0,s1,by decide,by decide⟩
  rw[List.drop_zero]at hl;have f:=dY (a:=m.fdiv 64) (b:=n) n0;have hd64:dZ m 64=true:=C7 (by decide) (by rw[zX];decide +kernel);refine⟨(m.fdiv 64).fmod n,[.int c,.int s',.bl false],?_,f.1,f.2,c,s',false,rfl,k0,k1⟩;open_line with[aJ,iG,hsrc,hl,lW hd64,hn0]
def Dp(ns:List Int)(k:Nat)(hk:k<=1000)(hl:ns.length<=63):∃st,bH [.lst (ns.map D.int),.int k]=.ok (.lst st)/\St st:=by
 have hlen:dE (.lst (ns.map D.int))=.ok (.int ns.length):=by
  rw[dq,List.length_map]
 have o1:dg 104729 (k:Int)=true:=eY (by decide) (by omega);have o2:dg (104729*(k:Int)) (k:Int)=true:=eY (by omega) (by omega)
 by_cases h:k<ns.length
 .have hix:aP (.lst (ns.map D.int)) (.int (k:Int))=.ok (.int ns[k]):=oj (by rw[List.getElem?_map,List.getElem?_eq_getElem h];rfl)
  have f:=dY (a:=(ns[k].fmod 2147483587+104729*(k:Int)*(k:Int)+7)) (b:=2147483587) (by decide);refine⟨[.int ns[k],.int ((ns[k].fmod 2147483587+104729*(k:Int)*(k:Int)+7).fmod 2147483587),.bl (decide (ns[k]≥1000000000000000000))],?_,_,_,_,rfl,f.1,by omega⟩;unfold bH Am gL;open_line with[hlen,hix,lV,bW o1,bW o2,decide_eq_true (show(k:Int)<(ns.length:Int) by omega),rf,GD,uH,G9]
 .have f:=dY (a:=((0:Int).fmod 2147483587+104729*(k:Int)*(k:Int)+7)) (b:=2147483587) (by decide)
  refine⟨[.int 0,.int (((0:Int).fmod 2147483587+104729*(k:Int)*(k:Int)+7).fmod 2147483587),.bl false],?_,_,_,_,rfl,f.1,by omega⟩;unfold bH Am gL;open_line with[hlen,lV,bW o1,bW o2,decide_eq_false (show ¬(k:Int)<(ns.length:Int) by omega),rf,GD,uH,G9]
def My:qO (.int 10) (.int 12)=.ok (.int 1000000000000):=aF rfl
structure KP (x:gN):Prop where
 lo:Low x
 p0:0<=x.1
 p1:x.1<=1000000000000
 q1:x.2<=60
def Fn(h0:0<=c)(h1:c<=1000000000000)(hq:0<q)(hq2:q<=60):KP (bT c q):=by
 have a1:=tL (a:=c) (b:=q);have a2:=tK (a:=c) (b:=q);have hl:=cQ (a:=c) hq;have:=hl.q1;exact⟨hl,n9 h0 hq,by omega,by omega⟩
def qo(a:Addr)(hl:l=0∨l=1)(h:St st):∃(x:gN) (st':ac),cq a st [.int l]=.ok (fr x,st')/\gf x/\0<=x.1/\(l=1->0<x.1)/\KP x/\St st':=by
 have hN:(1000000000000000000000:Int)<(yc:Int):=by decide
 obtain⟨w,st1,t1,w0,w1,S1⟩:=bV a (n:=6) (by decide) (by decide) h;obtain⟨t,m,ht,hm,i1,i2⟩:∃t m:Int,(0<t/\t<=1000000000000)/\(0<m/\m<=12)/\aP (.lst [.int 3,.int 6,.int 20,.int 12,.int 90,.int 1000000000000]) (.int w)=.ok (.int t)/\aP (.lst [.int 1,.int 1,.int 1,.int 4,.int 12,.int 12]) (.int w)=.ok (.int m):=by
  have:w=0∨w=1∨w=2∨w=3∨w=4∨w=5:=by omega
  rcases this with rfl|rfl|rfl|rfl|rfl|rfl
  .exact⟨3,1,by decide,by decide,rfl,rfl⟩
  .exact⟨6,1,by decide,by decide,rfl,rfl⟩
  .exact⟨20,1,by decide,by decide,rfl,rfl⟩
  .exact⟨12,4,by decide,by decide,rfl,rfl⟩
  .exact⟨90,12,by decide,by decide,rfl,rfl⟩
  .exact⟨1000000000000,12,by decide,by decide,rfl,rfl⟩
 obtain⟨u,st2,t2,u0,u1,S2⟩:=bV a (n:=t) ht.1 (by omega) S1;obtain⟨v,st3,t3,v0,v1,S3⟩:=bV a (n:=m) hm.1 (by omega) S2;obtain⟨q,hq,i3⟩:∃q:Int,(0<q/\q<=60)/\aP (.lst [.int 1,.int 2,.int 3,.int 4,.int 5,.int 6,.int 10,.int 12,.int 15,.int 20,.int 30,.int 60]) (.int v)=.ok (.int q):=by
  have:v=0∨v=1∨v=2∨v=3∨v=4∨v=5∨v=6∨v=7∨v=8∨v=9∨v=10∨v=11:=by omega
  rcases this with rfl|rfl|rfl|rfl|rfl|rfl|rfl|rfl|rfl|rfl|rfl|rfl
  .exact⟨1,by decide,rfl⟩
  .exact⟨2,by decide,rfl⟩
  .exact⟨3,by decide,rfl⟩
  .exact⟨4,by decide,rfl⟩
  .exact⟨5,by decide,rfl⟩
  .exact⟨6,by decide,rfl⟩
  .exact⟨10,by decide,rfl⟩
  .exact⟨12,by decide,rfl⟩
  .exact⟨15,by decide,rfl⟩
  .exact⟨20,by decide,rfl⟩
  .exact⟨30,by decide,rfl⟩
  .exact⟨60,by decide,rfl⟩
 have hlo:=Cod.low_ok (a:=l+u) (b:=q) (by omega) (JT (by omega) (by omega)) (JT (by omega) (by omega));refine⟨bT (l+u) q,st3,?_,JU (by omega) (by omega) (by omega),n9 (by omega) (by omega),λe=>EU (by omega) (by omega),Fn (by omega) (by omega) (by omega) (by omega),S3⟩;open_line with[cq,jj,t1,t2,t3,i1,i2,i3,My,hlo]
def xr{k n:Int}(hn:2<=n):k.fmod n≠(k+1).fmod n:=by
 rw[Int.fmod_eq_emod_of_nonneg _ (by omega),Int.fmod_eq_emod_of_nonneg _ (by omega)];intro e;have:=Int.emod_eq_emod_iff_emod_sub_eq_zero.mp e.symm;rw[show k+1-k=1 by omega,Int.emod_eq_of_lt (by decide) (by omega)]at this;cases this
def dU(t:wG):Prop:=KP t.l/\∀x,t.o=some x->KP x
def D8(a:Addr){k:Nat}(h2:2<=zs.length)(h8:zs.length<=8)(nd:zs.Nodup)(h:St st):∃(t:wG) (st':ac),cp a st [.lst (zs.map D.str),.int k]=.ok (bu t,st')/\qp zs t/\dU t/\St st':=by
 have hlen:dE (.lst (zs.map D.str))=.ok (.int zs.length):=by rw[dq,List.length_map]
 have hn0:((zs.length:Int)==0)=false:=beq_eq_false_iff_ne.mpr (by omega);obtain⟨d,st1,t1,d0,d1,S1⟩:=bV a (n:=(zs.length:Int)) (by omega) (by omega) h;obtain⟨e,st2,t2,e0,e1,S2⟩:=bV a (n:=(zs.length:Int)-1) (by omega) (by omega) S1;obtain⟨f,st3,t3,f0,f1,S3⟩:=bV a (n:=2) (by decide) (by decide) S2;obtain⟨g,st4,t4,g0,g1,S4⟩:=bV a (n:=2) (by decide) (by decide) S3;obtain⟨x,st5,t5,fx,lx,_,ax,S5⟩:=qo a (l:=0) (.inl rfl) S4;obtain⟨y,st6,t6,fy,_,ly,ay,S6⟩:=qo a (l:=1) (.inr rfl) S5;obtain⟨v,st7,t7,v0,v1,S7⟩:=bV a (n:=4) (by decide) (by decide) S6;obtain⟨wd,hw,jw⟩:=DZ g0 g1;obtain⟨p,q,hp,hq,hpq,hplace⟩:∃p q:Int,(0<=p/\p<(zs.length:Int))/\(0<=q/\q<(zs.length:Int))/\p≠q/\(((f==0)=true/\p=(k:Int).fmod (zs.length:Int)/\q=((k:Int)+1).fmod (zs.length:Int))∨((f==0)=false/\p=d/\q=(d+1+e).fmod (zs.length:Int))):=by
  cases h10:(f==0) with
  |true=>exact⟨_,_,dY (by omega),dY (by omega),xr (by omega),.inl ⟨rfl,rfl,rfl⟩⟩
  |false=>
   obtain⟨hr,hne⟩:=sL (n:=(zs.length:Int)) (d:=d) (e:=e) (by omega) d0 d1 e0 e1;exact⟨_,_,⟨d0,d1⟩,hr,Ne.symm hne,.inr ⟨rfl,rfl,rfl⟩⟩
 obtain⟨z1,k1,j1⟩:=lJ (zs:=zs) hp.1 hp.2;obtain⟨z2,k2,j2⟩:=lJ (zs:=zs) hq.1 hq.2;have hz12:z1≠z2:=jT nd k1 k2 (by omega);cases h4:(v==0) with
 |true=>
  refine⟨⟨z1,z2,wd,x,none⟩,st7,?_,⟨List.mem_of_getElem? k1,List.mem_of_getElem? k2,hz12,hw,fx,lx,λ_ hv=>nomatch hv⟩,⟨ax,λ_ hv=>nomatch hv⟩,S7⟩;rw[show bu ⟨z1,z2,wd,x,none⟩=.tup [.str z1,.str z2,.str wd,fr x,.non] from rfl];rcases hplace with⟨h10,e1,e2⟩|⟨h10,e1,e2⟩
  .rw[e2]at j2;rw[e1]at j1
   open_line with[cp,fj,hlen,t1,t2,t3,t4,t5,t6,t7,gW,hn0,h10,h4,jw,j1,j2]
  .rw[e2]at j2;rw[e1]at j1
   open_line with[cp,fj,hlen,t1,t2,t3,t4,t5,t6,t7,gW,hn0,h10,h4,jw,j1,j2]
 |false=>
  refine⟨⟨z1,z2,wd,x,some y⟩,st7,?_,⟨List.mem_of_getElem? k1,List.mem_of_getElem? k2,hz12,hw,fx,lx,λ_ hv=>by cases hv;exact⟨fy,ly rfl⟩⟩,⟨ax,λ_ hv=>by cases hv;exact ay⟩,S7⟩;rw[show bu ⟨z1,z2,wd,x,some y⟩=.tup [.str z1,.str z2,.str wd,fr x,fr y] from rfl];rcases hplace with⟨h10,e1,e2⟩|⟨h10,e1,e2⟩
  .rw[e2]at j2;rw[e1]at j1
   open_line with[cp,fj,hlen,t1,t2,t3,t4,t5,t6,t7,gW,hn0,h10,h4,jw,j1,j2]
  .rw[e2]at j2;rw[e1]at j1
   open_line with[cp,fj,hlen,t1,t2,t3,t4,t5,t6,t7,gW,hn0,h10,h4,jw,j1,j2]
theorem y0:∀{es:ac}{P:Int->Prop},(∀e∈es,∃l,e=D.int l/\P l)->∃ls:List Int,es=ls.map D.int/\∀l∈ls,P l
 |[],P,_=>⟨[],rfl,λl h=>by simp at h⟩
 |e::es,P,h=>by
  obtain⟨l,rfl,hl⟩:=h e (by simp);obtain⟨ls,rfl,hs⟩:=y0 (es:=es) (P:=P) λe he=>h e (List.mem_cons_of_mem _ he);exact⟨l::ls,rfl,λx hx=>by
   rcases List.mem_cons.mp hx with rfl|hx
   .exact hl
   .exact hs x hx⟩
def xB(a:Addr)(h:St st):∃(ls:List Int) (st':ac),pU [.no,.pt a] (bF 0) (cg 1 a (bO (mP (dC (.int 26))) dh) aJ) (DL.intsFrom 0 8,st)=.ok (.lst (ls.map D.int),st')/\ls.length=8/\(∀l∈ls,0<=l/\l<26)/\St st':=by
 obtain⟨es,st',h1,h2,h3,h4⟩:=sv (b:=[.no,.pt a]) (tg:=bF 0) (fm:=cg 1 a (bO (mP (dC (.int 26))) dh) aJ) St (λe=>∃l,e=D.int l/\0<=l/\l<26) (DL.intsFrom 0 8) st h (by
  intro d st _ h;obtain⟨x,st',t1,x0,x1,S1⟩:=bV a (n:=26) (by decide) (by decide) h;refine⟨_,.int x,st',rfl,?_,⟨x,rfl,x0,x1⟩,S1⟩;open_line with[t1])
 obtain⟨ls,rfl,hls⟩:=y0 h3;refine⟨ls,st',?_,by simpa[DL.intsFrom] using h2,hls,h4⟩;unfold pU;rw[if_pos (show(DL.intsFrom 0 8).length<=line by decide),h1];rfl
def wz(l:Int):Nat:=97+l.toNat
def Bq{ls:List Int}(hf:f ρ=.ok (.lst (ls.map D.int)))(hg:g ρ=.ok (.int (m:Int)))(hm:m<=ls.length)(hl:ls.length<=1000):mW f eG (er g) ρ=.ok (.lst ((ls.take m).map D.int)):=by
 unfold mW;rw[hf];simp only[ai.bind,eG,er,hg];exact congrArg (λz=>ai.ok (D.lst z)) (Dg hm)
def Ee{ls:List Int}(hl:ls.length<=100)(hb:∀l∈ls,0<=l/\l<26):fB 1 [] (bF 0) mYes (aa (dC (.str "abcdefghijklmnopqrstuvwxyz")) (ae 0) aP) ρ (ls.map D.int)=.ok (.lst ((ls.map wz).map λc=>D.str ⟨#[c]⟩)):=by
 rw[wx (F:=λd=>match d with|.int l=>.str ⟨#[wz l]⟩|d=>d) (by rw[List.length_map];omega)]
 .congr 2
  rw[List.map_map,List.map_map];rfl
 .intro d hd
  obtain⟨l,hl',rfl⟩:=List.mem_map.mp hd;obtain⟨b0,b1⟩:=hb l hl';refine⟨[.sh (.int l)],rfl,rfl,?_⟩;open_line with[Ii b0 b1]
  rfl
def Ed{ls:List Int}(hl:ls.length<=100):jW "" [.lst ((ls.map wz).map λc=>D.str ⟨#[c]⟩)]=.ok (.str (Cod.S (ls.map wz))):=xC (cs:=ls.map wz) (by rw[List.length_map];omega)
def mT(ls:List Int)(lg at_:Nat)(tu sp:Int)(ne:Bool)(k:Nat):List Int:=if ne=true then ls.take (1+((tu+(k:Int)).fmod 8).toNat) else(ls.take lg).set at_ ((tu+sp*(k:Int)).fmod 26)
def nm(ls:List Int)(lg at_:Nat)(tu sp:Int)(ne:Bool)(k:Nat):bi:=(mT ls lg at_ tu sp ne k).map wz
section
variable {ls:List Int}{lg at_:Nat}{tu sp:Int}{ne:Bool}(h8:ls.length=8) (hb:∀l∈ls,0<=l/\l<26) (g1:1<=lg) (g8:lg<=8) (ha:at_<lg)
include hb in
theorem yV{k:Nat}:∀l∈mT ls lg at_ tu sp ne k,0<=l/\l<26:=by
 intro l hl;unfold mT at hl;cases ne with
 |true=>rw[if_pos rfl]at hl;exact hb l (List.mem_of_mem_take hl)
 |false=>
  rw[if_neg (by decide)]at hl;rcases List.mem_or_eq_of_mem_set hl with hl|rfl
  .exact hb l (List.mem_of_mem_take hl)
  .exact dY (by decide)
include h8 g8 in
theorem jU{k:Nat}:(mT ls lg at_ tu sp ne k).length=if ne=true then 1+((tu+(k:Int)).fmod 8).toNat else lg:=by
 unfold mT;have:=dY (a:=tu+(k:Int)) (b:=8) (by decide);cases ne with|true=>rw[if_pos rfl,if_pos rfl,List.length_take,h8];omega|false=>rw[if_neg (by decide),if_neg (by decide),List.length_set,List.length_take,h8];omega
include h8 hb g1 g8 in
theorem JJ{k:Nat}:Cod.IsNm (nm ls lg at_ tu sp ne k):=by
 have hl:=jU (tu:=tu) (sp:=sp) (ne:=ne) (at_:=at_) h8 g8 (k:=k);have:=dY (a:=tu+(k:Int)) (b:=8) (by decide);refine⟨?_,?_,λx hx=>?_⟩
 .unfold nm;rw[List.length_map,hl];split<;>omega
 .unfold nm;rw[List.length_map,hl];split<;>omega
 .unfold nm at hx
  obtain⟨l,hl,rfl⟩:=List.mem_map.mp hx;have:=yV hb l hl;exact Ij _ (by omega)
include h8 g8 ha in
theorem Ci{i j:Nat}(hij:i<j)(hj:j<7)(hs:sp=1∨sp=3∨sp=5∨sp=7∨sp=9∨sp=11):nm ls lg at_ tu sp ne i≠nm ls lg at_ tu sp ne j:=by
 intro e;cases ne with
 |true=>
  have hl:=congrArg List.length e;unfold nm at hl;rw[List.length_map,List.length_map,jU h8 g8,jU h8 g8,if_pos rfl,if_pos rfl]at hl;have f1:=dY (a:=tu+(i:Int)) (b:=8) (by decide);have f2:=dY (a:=tu+(j:Int)) (b:=8) (by decide);have he:(tu+(i:Int)).fmod 8=(tu+(j:Int)).fmod 8:=by omega
  rw[Int.fmod_eq_emod_of_nonneg _ (by decide),Int.fmod_eq_emod_of_nonneg _ (by decide)]at he;omega
 |false=>
  have h1:(nm ls lg at_ tu sp false i)[at_]?=(nm ls lg at_ tu sp false j)[at_]?:=by rw[e]
  unfold nm mT at h1;rw[if_neg (by decide),if_neg (by decide),List.getElem?_map,List.getElem?_map,List.getElem?_set_self (by rw[List.length_take,h8];omega),List.getElem?_set_self (by rw[List.length_take,h8];omega)]at h1;simp only[Option.map_some,Option.some.injEq,wz]at h1;have f1:=dY (a:=tu+sp*(i:Int)) (b:=26) (by decide);have f2:=dY (a:=tu+sp*(j:Int)) (b:=26) (by decide);have he:(tu+sp*(i:Int)).fmod 26=(tu+sp*(j:Int)).fmod 26:=by omega
  rw[Int.fmod_eq_emod_of_nonneg _ (by decide),Int.fmod_eq_emod_of_nonneg _ (by decide)]at he;rcases hs with rfl|rfl|rfl|rfl|rfl|rfl<;>omega
include h8 g8 ha in
theorem Ax(hs:sp=1∨sp=3∨sp=5∨sp=7∨sp=9∨sp=11):∀n:Nat,n<=7->((List.range n).map (nm ls lg at_ tu sp ne)).Nodup:=by
 intro n hn;rw[List.nodup_iff_pairwise_ne,List.pairwise_map];have:(List.range n).Pairwise (· < ·):=List.pairwise_lt_range;refine List.Pairwise.imp_of_mem (λ{i j} hi hj hij=>?_) this;rw[List.mem_range]at hj;exact Ci h8 g8 ha hij (by omega) hs
end
def ie(ls:List Int)(lg at_:Nat)(tu sp:Int)(ne:Bool)(k:Nat):List (bi):=(List.range k).map (nm ls lg at_ tu sp ne)
def xq{k:Nat}:Cod.nmsD (ie ls lg at_ tu sp ne (k+1))=Cod.nmsD (ie ls lg at_ tu sp ne k)++[.str (Cod.S (nm ls lg at_ tu sp ne k))]:=by
 unfold ie Cod.nmsD;rw[List.range_succ,List.map_append,List.map_append];rfl
def Cg{lg at_ n:Nat}(h8:ls.length=8)(hb:∀l∈ls,0<=l/\l<26)(g1:1<=lg)(g8:lg<=8)(ha:at_<lg)(t0:0<=tu/\tu<26)(s0:0<=sp/\sp<=11)(hn:n<=7) :
  ∃x9 x10,bK (bF 9) (aw (mQ 10 (mW (ae 2) eG (er (ae 3))))
 (aw (By 10 (aa (aa (ae 5) (aa (ae 6) (ae 9) bQ) cb) (dC (.int 26)) cN) (ae 4))
 (aw (dH (ae 7)
 (aw (mQ 10 (mW (ae 2) eG (er (aa (dC (.int 1)) (aa (aa (ae 5) (ae 9) cb) (dC (.int 8)) cN) cb))))
 ao)
 ao)
 (aw (Bz 10 (gr 8 (sq (dC (.str "")) (ah (dA 1 [] (sU (ae 10)) (bF 0) mYes (aa (dC (.str "abcdefghijklmnopqrstuvwxyz")) (ae 0) aP)) aG))))
 ao)))) (DL.intsFrom 0 n) [.pt a,.sh (.int (n:Int)),.sh (.lst (ls.map D.int)),.sh (.int (lg:Int)),.sh (.int (at_:Int)),.sh (.int tu),.sh (.int sp),.sh (.bl ne),.ow (.lst []),.no,.no] =
   .ok (.nx [.pt a,.sh (.int (n:Int)),.sh (.lst (ls.map D.int)),.sh (.int (lg:Int)),.sh (.int (at_:Int)),.sh (.int tu),.sh (.int sp),.sh (.bl ne),.ow (.lst (Cod.nmsD (ie ls lg at_ tu sp ne n))),x9,x10]):=by
 obtain⟨ρ',hl,x9,x10,rfl⟩:=zh (i:=9) (n:=n)
  (ρ:=[.pt a,.sh (.int (n:Int)),.sh (.lst (ls.map D.int)),.sh (.int (lg:Int)),.sh (.int (at_:Int)),.sh (.int tu),.sh (.int sp),.sh (.bl ne),.ow (.lst []),.no,.no])
  (body:=(aw (mQ 10 (mW (ae 2) eG (er (ae 3))))
 (aw (By 10 (aa (aa (ae 5) (aa (ae 6) (ae 9) bQ) cb) (dC (.int 26)) cN) (ae 4))
 (aw (dH (ae 7)
 (aw (mQ 10 (mW (ae 2) eG (er (aa (dC (.int 1)) (aa (aa (ae 5) (ae 9) cb) (dC (.int 8)) cN) cb))))
 ao)
 ao)
 (aw (Bz 10 (gr 8 (sq (dC (.str "")) (ah (dA 1 [] (sU (ae 10)) (bF 0) mYes (aa (dC (.str "abcdefghijklmnopqrstuvwxyz")) (ae 0) aP)) aG))))
 ao)))))
  (λk ρ=>∃x9 x10,ρ=[.pt a,.sh (.int (n:Int)),.sh (.lst (ls.map D.int)),.sh (.int (lg:Int)),.sh (.int (at_:Int)),.sh (.int tu),.sh (.int sp),.sh (.bl ne),.ow (.lst (Cod.nmsD (ie ls lg at_ tu sp ne k))),x9,x10]) (by
   rintro k hk ρ ⟨x9,x10,rfl⟩;have hlen:=jU (tu:=tu) (sp:=sp) (ne:=ne) (at_:=at_) h8 g8 (k:=k);have f8:=dY (a:=tu+(k:Int)) (b:=8) (by decide);have om:dg sp (k:Int)=true:=eY (by omega) (by omega);have hap:decide ((Cod.nmsD (ie ls lg at_ tu sp ne k)).length<=999)=true:=decide_eq_true (by unfold Cod.nmsD ie;simp;omega);have hs1:∀x8 x10,mW (ae 2) eG (er (ae 3)) [.pt a,.sh (.int (n:Int)),.sh (.lst (ls.map D.int)),.sh (.int (lg:Int)),.sh (.int (at_:Int)),.sh (.int tu),.sh (.int sp),.sh (.bl ne),x8,.sh (.int (k:Int)),x10]=.ok (.lst ((ls.take lg).map D.int)):=λ_ _=>Bq rfl rfl (by omega) (by omega);have hix:vt ((ls.take lg).map D.int).length (at_:Int)=some at_:=by
    rw[List.length_map,List.length_take,h8];unfold vt;rw[if_pos (by omega),if_pos (by omega)];simp
   have hset:((ls.take lg).map D.int).set at_ (.int ((tu+sp*(k:Int)).fmod 26))=((ls.take lg).set at_ ((tu+sp*(k:Int)).fmod 26)).map D.int:=(List.map_set ..).symm;have hll:(mT ls lg at_ tu sp ne k).length<=100:=by rw[hlen];split<;>omega
   have hc:=λρ=>Ee (ρ:=ρ) hll (yV hb);have hj:jW "" [.lst (((mT ls lg at_ tu sp ne k).map wz).map λc=>D.str ⟨#[c]⟩)]=.ok (.str (Cod.S (nm ls lg at_ tu sp ne k))):=Ed hll;refine⟨[.pt a,.sh (.int (n:Int)),.sh (.lst (ls.map D.int)),.sh (.int (lg:Int)),.sh (.int (at_:Int)),.sh (.int tu),.sh (.int sp),.sh (.bl ne),.ow (.lst (Cod.nmsD (ie ls lg at_ tu sp ne (k+1)))),.sh (.int (k:Int)),.sh (.lst ((mT ls lg at_ tu sp ne k).map D.int))],?_,_,_,rfl⟩;rw[xq];cases ne with
   |true=>
    have e1:mT ls lg at_ tu sp true k=ls.take (1+((tu+(k:Int)).fmod 8).toNat):=if_pos rfl;have hs2:∀x8 x10,mW (ae 2) eG (er (aa (dC (.int 1)) (aa (aa (ae 5) (ae 9) cb) (dC (.int 8)) cN) cb)) [.pt a,.sh (.int (n:Int)),.sh (.lst (ls.map D.int)),.sh (.int (lg:Int)),.sh (.int (at_:Int)),.sh (.int tu),.sh (.int sp),.sh (.bl true),x8,.sh (.int (k:Int)),x10]=.ok (.lst ((mT ls lg at_ tu sp true k).map D.int)):=λx8 x10=>by
     rw[e1];refine Bq rfl ?_ (by omega) (by omega);open_line with[]
     congr 2
     omega
    open_line with[hs1,bW om,vG hix,hset,hs2,hc,hj,fA hap]
   |false=>
    have e1:(ls.take lg).set at_ ((tu+sp*(k:Int)).fmod 26)=mT ls lg at_ tu sp false k:=(if_neg (by decide)).symm;rw[e1]at hset;open_line with[hs1,bW om,vG hix,hset,hc,hj,fA hap]) ⟨_,_,rfl⟩
 exact⟨x9,x10,hl⟩
def Cj(a:Addr){n:Nat}(hn:n<=7)(h:St st):∃(css:List (bi)) (st':ac),c3 a st [.int (n:Int)]=.ok (.lst (Cod.nmsD css),st')/\css.length=n/\css.Nodup/\(∀cs∈css,Cod.IsNm cs)/\St st':=by
 obtain⟨ls,st1,t1,h8,hb,S1⟩:=xB a h;obtain⟨d,st2,t2,d0,d1,S2⟩:=bV a (n:=8) (by decide) (by decide) S1;obtain⟨at_,st3,t3,a0,a1,S3⟩:=bV a (n:=1+d) (by omega) (by omega) S2;obtain⟨tu,st4,t4,u0,u1,S4⟩:=bV a (n:=26) (by decide) (by decide) S3;obtain⟨e,st5,t5,e0,e1,S5⟩:=bV a (n:=6) (by decide) (by decide) S4;obtain⟨f,st6,t6,f0,f1,S6⟩:=bV a (n:=3) (by decide) (by decide) S5;obtain⟨sp,hs,i1⟩:∃sp:Int,(sp=1∨sp=3∨sp=5∨sp=7∨sp=9∨sp=11)/\aP (.lst [.int 1,.int 3,.int 5,.int 7,.int 9,.int 11]) (.int e)=.ok (.int sp):=by
  have:e=0∨e=1∨e=2∨e=3∨e=4∨e=5:=by omega
  rcases this with rfl|rfl|rfl|rfl|rfl|rfl
  .exact⟨1,by decide,rfl⟩
  .exact⟨3,by decide,rfl⟩
  .exact⟨5,by decide,rfl⟩
  .exact⟨7,by decide,rfl⟩
  .exact⟨9,by decide,rfl⟩
  .exact⟨11,by decide,rfl⟩
 obtain⟨lg,hlg⟩:=Int.eq_ofNat_of_zero_le (show 0<=1+d by omega);obtain⟨at',rfl⟩:=Int.eq_ofNat_of_zero_le a0;rw[hlg]at t3;obtain⟨x9,x10,hl⟩:=Cg (a:=a) (ls:=ls) (lg:=lg) (at_:=at') (n:=n) (tu:=tu) (sp:=sp) (ne:=(f==0)) h8 hb (by omega) (by omega) (by omega) ⟨u0,u1⟩ (by omega) hn;refine⟨ie ls lg at' tu sp (f==0) n,st6,?_,by unfold ie;simp,Ax h8 (by omega) (by omega) hs n hn,λcs hc=>?_,S6⟩
 .have hsrc:∀ρ,i8 (dC (.int 8)) ρ=.ok (DL.intsFrom 0 8):=λ_=>rfl
  have hbm:∀x1 x2 x3 x4 x5 x6 x7 x8 x9 x10,d4 1 [0] [.pt a,x1,x2,x3,x4,x5,x6,x7,x8,x9,x10]=[.no,.pt a]:=λ_ _ _ _ _ _ _ _ _ _=>rfl;open_line with[c3,lu,hsrc,hbm,t1,t2,hlg,t3,t4,t5,i1,t6,kN,jY (show n<=1000000 by omega),hl]
 .unfold ie at hc
  obtain⟨k,_,rfl⟩:=List.mem_map.mp hc;exact JJ h8 hb (by omega) (by omega)
end Bor
namespace DL
open PySem L2
section
variable {α β:Type}
def Rf(a b:ai α):Prop:=a=.stuck∨a=b
def cC{f g:α->ai β}(h:Rf a b)(k:∀x,Rf (f x) (g x)):Rf (a.bind f) (b.bind g):=by
 rcases h with rfl|rfl
 .exact .inl rfl
 .cases a with
  |ok x=>exact k x
  |exn x=>exact .inr rfl
  |stuck=>exact .inl rfl
structure i7 (f g:Ev->ai α):Prop where
 o:∀ρ,Rf (f ρ) (g ρ)
end
structure KH (f g:ac->ai D):Prop where
 o:∀ds,Rf (f ds) (g ds)
def KH.ok(h:KH f g)(e:f ds=.ok d):g ds=.ok d:=by
 rcases h.o ds with q|q
 .rw[q]at e;cases e
 .rw[←q];exact e
def rfm_refl:KH f f:=⟨λ_=>.inr rfl⟩
def rf_refl{f:Ev->ai α}:i7 f f:=⟨λ_=>.inr rfl⟩
section
variable {s s' t t':am}{c c' f f':al}{fa fa':Ev->ai (ac)}{m m':ac->ai D}
def rf_stuck:i7 dG s:=⟨λ_=>.inl rfl⟩
def rf_seq(h1:i7 s s')(h2:i7 t t'):i7 (aw s t) (aw s' t'):=⟨λρ=>cC (h1.o ρ) λr=>by
 cases r with
 |nx ρ'=>exact h2.o ρ'
 |_=>exact .inr rfl⟩
def rf_if(hc:i7 c c')(h1:i7 s s')(h2:i7 t t'):i7 (dH c s t) (dH c' s' t'):=⟨λρ=>cC (hc.o _) λr=>by
 cases r with
 |bl b=>cases b with
  |true=>exact h1.o ρ
  |false=>exact h2.o ρ
 |_=>exact .inr rfl⟩
theorem m5(h:i7 s s'):∀(ds:ac) (ρ:Ev),Rf (bK tg s ds ρ) (bK tg s' ds ρ)
 |[],ρ=>.inr rfl
 |d::r,ρ=>by
  unfold bK;refine cC (.inr rfl) λρ1=>cC (h.o ρ1) λx=>?_;cases x with|nx ρ2|ct ρ2=>exact m5 h r ρ2|bk ρ2|rt d=>exact .inr rfl
def rf_for(hf:i7 f f')(h:i7 s s'):i7 (qH f tg s) (qH f' tg s'):=⟨λρ=>cC (hf.o ρ) λd=>by
 cases d with
 |lst ds=>exact m5 h ds ρ
 |_=>exact .inr rfl⟩
def rf_forI(h:i7 s s'):i7 (i9 src tg s) (i9 src tg s'):=⟨λρ=>cC (.inr rfl) λds=>m5 h ds ρ⟩
def rf_drop(h:i7 f f'):i7 (nL f) (nL f'):=⟨λρ=>cC (h.o _) λ_=>.inr rfl⟩
def rf_ret(h:i7 f f'):i7 (bB f) (bB f'):=⟨λρ=>cC (h.o _) λ_=>.inr rfl⟩
def rf_set(h:i7 f f'):i7 (bE i f) (bE i f'):=⟨λρ=>cC (h.o _) λ_=>.inr rfl⟩
def rf_b1(h:i7 f f'):i7 (cm f op) (cm f' op):=⟨λρ=>cC (h.o _) λ_=>.inr rfl⟩
def rf_not(h:i7 f f'):i7 (cF f) (cF f'):=rf_b1 h
def rf_b2(h:i7 f f')(h2:i7 c c'):i7 (aa f c op) (aa f' c' op):=⟨λρ=>cC (h.o _) λ_=>cC (h2.o _) λ_=>.inr rfl⟩
def rf_bA(h:i7 fa fa')(hm:KH m m'):i7 (au fa m) (au fa' m'):=⟨λρ=>cC (h.o _) λds=>hm.o ds⟩
def rf_cons(h:i7 f f')(h2:i7 fa fa'):i7 (ah f fa) (ah f' fa'):=⟨λρ=>cC (h.o _) λ_=>cC (h2.o _) λ_=>.inr rfl⟩
end
end DL
local macro_rules|`(tactic|open_line with[rf_go])=>`(tactic|repeat (first|with_reducible exact DL.rf_refl|with_reducible exact DL.rf_stuck|with_reducible assumption|with_reducible exact DL.rfm_refl|with_reducible refine DL.rf_seq ?_ ?_|with_reducible refine DL.rf_if ?_ ?_ ?_|with_reducible refine DL.rf_for ?_ ?_|with_reducible refine DL.rf_forI ?_|with_reducible refine DL.rf_drop ?_|with_reducible refine DL.rf_ret ?_|with_reducible refine DL.rf_set ?_|with_reducible refine DL.rf_not ?_|with_reducible refine DL.rf_bA ?_ ?_|with_reducible refine DL.rf_cons ?_ ?_|with_reducible refine DL.rf_b1 ?_|with_reducible refine DL.rf_b2 ?_ ?_))
namespace Wex
open PySem L2 DL Com
def Bn(d:D):ai (ac):=match d with
 |.int j=>if -4611686018427387904<=j/\j<4611686018427387904 then .ok (DL.intsFrom 0 j.toNat) else .stuck
 |_=>.stuck
def ev_srcR1:i8 f ρ=(f ρ).bind Bn:=aF rfl
def srcR1_nat{k:Nat}(h:k<=1000000):Bn (.int (k:Int))=.ok (DL.intsFrom 0 k):=by
 show(if -4611686018427387904<=(k:Int)/\(k:Int)<4611686018427387904 then ai.ok (DL.intsFrom 0 (k:Int).toNat) else .stuck)=_;rw[if_pos (by omega),Int.toNat_natCast]
def comp_rng{m n:Nat}{fr:bi}(hn:n<=1000000)(h:∀k,k<n->∃ρ1,bF 0 (cA m fr ρ) (.int (k:Int))=.ok ρ1/\tt ρ1=.ok (.bl (q k))/\(q k=true->fe ρ1=.ok (G k))) :
  fB m fr (bF 0) tt fe ρ (DL.intsFrom 0 n)=.ok (.lst (((List.range n).filter q).map G)):=by
 have hi:DL.intsFrom 0 n=(List.range n).map λ(k:Nat)=>D.int (k:Int):=by
  unfold DL.intsFrom;exact List.map_congr_left λk _=>by rw[Int.zero_add]
 rw[hi];rw[mD (F:=λd=>match d with|.int v=>G v.toNat|d=>d) (p:=λd=>match d with|.int v=>q v.toNat|_=>false) (by simpa using hn)]
 .rw[List.filter_map,List.map_map]
  rfl
 .intro d hd
  obtain⟨k,hk,rfl⟩:=List.mem_map.mp hd;obtain⟨ρ1,h1,h2,h3⟩:=h k (List.mem_range.mp hk);exact⟨ρ1,h1,by simpa using h2,λz=>by simpa using h3 (by simpa using z)⟩
end Wex
namespace K11
open PySem L2 DL Com
def there(t:wG)(z:Str):Option Str:=if t.a=z then some t.b else if t.b=z/\t.w="both" then some t.a else none
def oS:Option Str->D
 |some z=>.str z
 |none=>.non
def dO:lG (.str x) (.str y)=.ok (.bl (decide (x=y))):=by
 have h:lG (.str x) (.str y)=.ok (.bl (x==y)):=rfl;rw[h]
 by_cases e:x=y
 .rw[decide_eq_true e,e,beq_self_eq_true]
 .rw[decide_eq_false e,beq_eq_false_iff_ne.mpr e]
def there_ok:bp [bu t,.str z]=.ok (oS (there t z)):=by
 obtain⟨a,b,w,l,o⟩:=t;rw[show bu ⟨a,b,w,l,o⟩=.tup [.str a,.str b,.str w,fr l,br o] from rfl];unfold there
 by_cases h1:a=z
 .rw[if_pos h1]
  open_line with[bp,dQ,dO,decide_eq_true h1,oS]
 .rw[if_neg h1]
  by_cases h2:b=z
  .by_cases h3:w="both"
   .rw[if_pos ⟨h2,h3⟩]
    open_line with[bp,dQ,dO,decide_eq_false h1,decide_eq_true h2,decide_eq_true h3,oS]
   .rw[if_neg (λh=>h3 h.2)]
    open_line with[bp,dQ,dO,decide_eq_false h1,decide_eq_true h2,decide_eq_false h3,oS]
  .rw[if_neg (λh=>h2 h.1)]
   open_line with[bp,dQ,dO,decide_eq_false h1,decide_eq_false h2,oS]
def ways(t:wG):List (Str×Str):=if t.w="one" then[(t.a,t.b)] else[(t.a,t.b),(t.b,t.a)]
def pr(p:Str×Str):D:=.tup [.str p.1,.str p.2]
def steps_ok:m_steps_along [bu t]=.ok (.lst ((ways t).map pr)):=by
 obtain⟨a,b,w,l,o⟩:=t;rw[show bu ⟨a,b,w,l,o⟩=.tup [.str a,.str b,.str w,fr l,br o] from rfl];unfold ways
 by_cases h:w="one"
 .rw[if_pos h]
  open_line with[m_steps_along,fL,dO,decide_eq_true h,pr]
 .rw[if_neg h]
  open_line with[m_steps_along,fL,dO,decide_eq_false h,pr]
def Ai{ks:bi}:(ks.map λ(k:Nat)=>D.int (k:Int)).all (aY m)=true:=List.all_eq_true.mpr λd hd=>by
 obtain⟨z,_,rfl⟩:=List.mem_map.mp hd;cases m<;>rfl
theorem zS{n:Nat}:∀{ks:bi},((ks.map λ(k:Nat)=>D.int (k:Int)).any λd=>cn d (.int (n:Int)))=decide (n∈ks)
 |[]=>rfl
 |k::ks=>by
  rw[List.map_cons,List.any_cons,zS];have e:cn (.int (k:Int)) (.int (n:Int))=((k:Int)==(n:Int)):=by rw[cn]
  rw[e]
  by_cases h:n=k
  .subst h;simp
  .have h1:((k:Int)==(n:Int))=false:=beq_eq_false_iff_ne.mpr (by omega)
   rw[h1,Bool.false_or];have:n∈k::ks↔n∈ks:=by simp[h]
   exact decide_eq_decide.mpr this.symm
def notIn_nums{ks:bi}{n:Nat}:cX (.int (n:Int)) (.lst (ks.map λ(k:Nat)=>D.int (k:Int)))=.ok (.bl (!(decide (n∈ks)))):=by
 have e:DC (.int (n:Int)) (.lst (ks.map λ(k:Nat)=>D.int (k:Int)))=some (decide (n∈ks)):=(if_pos ⟨rfl,Ai⟩).trans (congrArg some zS);unfold cX;rw[e]
end K11
namespace K11
open PySem L2 DL Com Bor
abbrev d6(ks:bi):ac:=ks.map λ(k:Nat)=>D.int (k:Int)
end K11
namespace DL
open PySem PySem.Spec PyProof.Rows L2
def Rp(d:D)(n k:Nat):Prop:=∃p,eM d=some p/\p.showable=true/\p.depth<=k/\p.shown.length<=n
def l7(ds:ac)(n k:Nat):Prop:=∃ps,toPys ds=some ps/\ps.length=ds.length/\PyData.showableAll ps=true/\PyData.depthAll ps<=k/\((PyData.shownAll ps).map (λx=>x.length)).sum<=n
theorem gk:∀(ps:List PyData),(PyData.shownAll ps).length=ps.length
 |[]=>by rw[PyData.shownAll];rfl
 |p::ps=>by rw[PyData.shownAll,List.length_cons,gk ps,List.length_cons]
def Rp.up{n k n' k':Nat}(h:Rp d n k)(hn:n<=n')(hk:k<=k'):Rp d n' k':=by
 obtain⟨p,h1,h2,h3,h4⟩:=h;exact⟨p,h1,h2,Nat.le_trans h3 hk,Nat.le_trans h4 hn⟩
def l7.nil{k:Nat}:l7 [] 0 k:=⟨[],rfl,rfl,rfl,by rw[PyData.depthAll];omega,by rw[PyData.shownAll];exact Nat.le_refl _⟩
def l7.cons{a n k:Nat}(h:Rp d a k)(t:l7 ds n k):l7 (d::ds) (a+n) k:=by
 obtain⟨p,h1,h2,h3,h4⟩:=h;obtain⟨ps,t1,t2,t3,t4,t5⟩:=t;refine⟨p::ps,by rw[toPys,h1,t1],by rw[List.length_cons,t2,List.length_cons],by rw[PyData.showableAll,h2,t3];rfl,?_,?_⟩
 .rw[PyData.depthAll];omega
 .rw[PyData.shownAll,List.map_cons,List.sum_cons];omega
def l7.all{a k:Nat}:∀{ds:ac},(∀d∈ds,Rp d a k)->l7 ds (a*ds.length) k:=by
 intro ds
 induction ds with
 |nil=>intro _;exact l7.nil
 |cons d ds ih=>
  intro h;have:=l7.cons (h d (List.mem_cons_self ..)) (ih λx hx=>h x (List.mem_cons_of_mem _ hx));rw[List.length_cons,Nat.mul_add,Nat.mul_one,Nat.add_comm];exact this
def Rp.lst{n k:Nat}(h:l7 ds n k):Rp (.lst ds) (n+2*ds.length+3) (k+1):=by
 obtain⟨ps,t1,t2,t3,t4,t5⟩:=h;refine⟨.list ps,by rw[eM,t1];rfl,by rw[PyData.showable];exact t3,by rw[PyData.depth];omega,?_⟩;rw[PyData.shown];have:=listText_len_le (PyData.shownAll ps);rw[gk]at this;omega
def Rp.tup{n k:Nat}(h:l7 ds n k):Rp (.tup ds) (n+2*ds.length+3) (k+1):=by
 obtain⟨ps,t1,t2,t3,t4,t5⟩:=h;refine⟨.tuple ps,by rw[eM,t1];rfl,by rw[PyData.showable];exact t3,by rw[PyData.depth];omega,?_⟩;rw[PyData.shown];have:=tupleText_len_le (PyData.shownAll ps);rw[gk]at this;omega
def Rp.non:Rp .non 4 0:=⟨.none,by rw[eM],by rw[PyData.showable],by rw[PyData.depth];omega,by rw[PyData.shown,PySem.ofString_length];decide⟩
def Rp.int(h:i.natAbs<2 ^ 200):Rp (.int i) 201 0:=by
 refine⟨.int i,by rw[eM],?_,by rw[PyData.depth]<;>simp,?_⟩
 .rw[PyData.showable]
  refine decide_eq_true ?_
  by_cases h0:i.natAbs=0
  .rw[h0];decide
  .exact Nat.lt_trans ((Nat.log2_lt h0).mpr h) (by decide)
 .rw[PyData.shown,PySem.ofString_length]
  cases i with
  |ofNat m=>
   have:=nat_repr_length_le (n:=m) (k:=200) (by decide) h;show(Nat.repr m).length<=201;omega
  |negSucc m=>
   have:=nat_repr_length_le (n:=m+1) (k:=200) (by decide) h;show("-"++Nat.repr (m+1)).length<=201;rw[String.length_append];have h1 : "-".length=1:=rfl;omega
def Rp.str(hl:z.length<=n)(h:∀c∈z.cps.toList,c<16 ^ 8):Rp (.str z) (10*n+2) 0:=by
 refine⟨.str z,by rw[eM],by rw[PyData.showable],by rw[PyData.depth]<;>simp,?_⟩;rw[PyData.shown];have:=StrLaws.reprText_len z h;omega
end DL
namespace Bor
open PySem L2 DL Com
theorem rH{α β γ:Type}:∀(l:List α) (b:β×γ),List.foldl (λb _=>(b.1,b.2)) b l=b
 |[],_=>rfl
 |_::l,b=>rH l b
def uu:∀c∈Ik.cps.toList,c<16 ^ 8:=by decide +kernel
def Ih(h:mx c=true):c<16 ^ 8:=by
 refine Nat.lt_of_not_le λhc=>?_;have hs:∀i,Builtin.Str.subAt Ik ⟨#[c]⟩ i=false:=by
  intro i;unfold Builtin.Str.subAt;rw[beq_eq_false_iff_ne];intro e;have:c∈(Ik.cps.extract i (i+(⟨#[c]⟩:Str).length)):=by rw[e];simp
  have h2:c∈Ik.cps:=by
   obtain⟨j,hj,e⟩:=Array.mem_iff_getElem.mp this;rw[Array.getElem_extract]at e;rw[←e];exact Array.getElem_mem _
  have:=uu c (Array.mem_toList_iff.mpr h2);omega
 have:Builtin.Str.occurrences Ik ⟨#[c]⟩ 0 Ik.length 1=[]:=by
  unfold Builtin.Str.occurrences;simp[hs,rH]
 unfold mx JG at h;rw[this]at h;cases h
def jJ(h:nameB z=true):Rp (.str z) 82 0:=by
 unfold nameB at h;simp only[Bool.and_eq_true,decide_eq_true_eq,List.all_eq_true]at h;refine Rp.str (n:=8) h.2.1 λc hc=>?_;exact Ih (h.2.2 c hc)
def BC(h:gf x):Rp (fr x) 409 1:=by
 have hN:yc<=2 ^ 200:=by decide
 have h1:=h.pN;have h2:=h.qN;exact(Rp.tup (l7.cons (Rp.int (Nat.lt_of_lt_of_le h1 hN)) (l7.cons (Rp.int (Nat.lt_of_lt_of_le h2 hN)) l7.nil))).up (by simp) (Nat.le_refl _)
def GJ(h:qp zs t)(hz:∀z∈zs,nameB z=true):Rp (bu t) 1100 2:=by
 have ha:=(jJ (hz _ h.a)).up (k':=1) (Nat.le_refl _) (by decide);have hb:=(jJ (hz _ h.b)).up (k':=1) (Nat.le_refl _) (by decide);have hw:Rp (.str t.w) 82 1:=by
  rcases h.w with e|e<;>rw[e]
  .exact(Rp.str (n:=8) (by decide) (by decide)).up (by decide) (by decide)
  .exact(Rp.str (n:=8) (by decide) (by decide)).up (by decide) (by decide)
 have hl:=BC h.l;have ho:Rp (br t.o) 409 1:=by
  cases e:t.o with|none=>exact Rp.non.up (by decide) (by decide)|some x=>exact BC (h.o x e).1
 exact(Rp.tup (l7.cons ha (l7.cons hb (l7.cons hw (l7.cons hl (l7.cons ho l7.nil)))))).up (by simp) (Nat.le_refl _)
def BB{ds:List Str}(hl:ds.length<=n)(h:∀z∈ds,nameB z=true):Rp (.lst (ds.map D.str)) (84*n+3) 1:=by
 have:=Rp.lst (l7.all (a:=82) (k:=0) (ds:=ds.map D.str) λd hd=>by
  obtain⟨z,hz,rfl⟩:=List.mem_map.mp hd;exact jJ (h z hz))
 rw[List.length_map]at this;exact this.up (by omega) (Nat.le_refl _)
def GI(W:cK w):Rp (bA w) 20000 4:=by
 have h1:=(BB W.n7 W.nm.nm).up (k':=3) (Nat.le_refl _) (by decide);have h2:Rp (.lst (w.ts.map bu)) 15700 3:=by
  have:=Rp.lst (l7.all (a:=1100) (k:=2) (ds:=w.ts.map bu) λd hd=>by
   obtain⟨t,ht,rfl⟩:=List.mem_map.mp hd;exact GJ (W.ts t ht) W.nm.nm)
  rw[List.length_map]at this;have t14:=W.t14;exact this.up (by omega) (Nat.le_refl _)
 have h3:=(jJ (W.nm.nm _ W.fi)).up (k':=3) (Nat.le_refl _) (by decide);have h4:=(jJ (W.nm.nm _ W.la)).up (k':=3) (Nat.le_refl _) (by decide);exact(Rp.tup (l7.cons h1 (l7.cons h2 (l7.cons h3 (l7.cons h4 l7.nil))))).up (by simp) (Nat.le_refl _)
end Bor
namespace K12
open PySem L2 DL Com Bor K11
def lenAt(w:gh)(k:Nat):gN:=((w.ts[k]?).map wG.l).getD (0,1)
def lenAt_of{k:Nat}(h:w.ts[k]?=some t):lenAt w k=t.l:=by unfold lenAt;rw[h];rfl
end K12
namespace K51
open PySem L2 DL Com Bor
def JB{a:Int}(h:a.natAbs<2 ^ m)(hm:m<=n):a.natAbs<2 ^ n:=Nat.lt_of_lt_of_le h (Nat.pow_le_pow_right (by decide) hm)
def xu{a b:Int}(h:a.natAbs<2 ^ m)(h':b.natAbs<2 ^ n):(a*b).natAbs<2 ^ (m+n):=by
 rw[Int.natAbs_mul,Nat.pow_add];exact Nat.mul_lt_mul'' h h'
def Ie{a b:Int}(h:a.natAbs<2 ^ m)(h':b.natAbs<2 ^ m):(a+b).natAbs<2 ^ (m+1):=by
 have:=Int.natAbs_add_le a b;rw[Nat.pow_succ];omega
def pl(x y:gN):gN:=bT (un x y).1 (un x y).2
def i0(u:gN):aP (fr u) (.int 0)=.ok (.int u.1):=rfl
def i1(u:gN):aP (fr u) (.int 1)=.ok (.int u.2):=rfl
structure Bd (x:gN) (n:Nat):Prop where
 q0:0<x.2
 a:x.1.natAbs<2 ^ n
 b:x.2.natAbs<2 ^ n
def Bd.c13(h:Bd x n)(hn:n<=6000):x.1.natAbs<qD/\x.2.natAbs<qD:=by
 have:2 ^ n<=qD:=by rw[ma];exact Nat.pow_le_pow_right (by decide) (Nat.le_trans hn (by decide))
 exact⟨Nat.lt_of_lt_of_le h.a this,Nat.lt_of_lt_of_le h.b this⟩
def Bd.c60(h:Bd x n)(hn:n<=6000):x.1.natAbs<A6/\x.2.natAbs<A6:=⟨Nat.lt_of_lt_of_le (h.c13 hn).1 nA,Nat.lt_of_lt_of_le (h.c13 hn).2 nA⟩
def low_bd(hb:0<b)(h1:a.natAbs<2 ^ n)(h2:b.natAbs<2 ^ n):Bd (bT a b) n:=⟨by have:=(cQ (a:=a) hb).q1;omega,Nat.lt_of_le_of_lt tL h1,Nat.lt_of_le_of_lt tK h2⟩
def un_bd(hx:Bd x m)(hy:Bd y n):Bd (un x y) (m+n+1):=by
 refine⟨Int.mul_pos hx.q0 hy.q0,?_,JB (xu hx.b hy.b) (by omega)⟩;have h1:=xu hx.a hy.b;have h2:=xu hy.a hx.b;rw[Nat.add_comm n m]at h2;exact Ie h1 h2
def lplus_bd(hx:Bd x m)(hy:Bd y n)(h:m+n<=5900):bN [fr x,fr y]=.ok (fr (pl x y)):=by
 have b1:=hx.c60 (by omega);have b2:=hy.c60 (by omega);have hp:=un_bd hx hy;have hc:=hp.c13 (by omega);have m1:=bW (dM b1.1 b2.2);have m2:=bW (dM b2.1 b1.2);have m3:=bW (dM b1.2 b2.2);have hlo:aX [.int (x.1*y.2+y.1*x.2),.int (x.2*y.2)]=.ok (fr (pl x y)):=Cod.low_ok hp.q0 hc.1 hc.2;open_line with[K12.bN,K12.mK,i0,i1,m1,m2,m3,hlo]
def lless_bd(hx:Bd x m)(hy:Bd y n)(hm:m<=6000)(hn:n<=6000):bX [fr x,fr y]=.ok (.bl (flt x y)):=by
 have b1:=hx.c60 hm;have b2:=hy.c60 hn;have m1:=bW (dM b1.1 b2.2);have m2:=bW (dM b2.1 b1.2);open_line with[bX,mL,i0,i1,m1,m2]
 rfl
theorem su{α:Type}(g:α->D)(pk:α->Option D):∀(L:List α),(∀a∈L,∃ρ1,tg B (g a)=.ok ρ1/\((pk a=none/\tt ρ1=.ok (.bl false))∨(∃d,pk a=some d/\tt ρ1=.ok (.bl true)/\fe ρ1=.ok d)))->bG B tg tt fe (L.map g)=.ok (L.filterMap pk)
 |[],_=>rfl
 |a::L,h=>by
  obtain⟨ρ1,h1,h2⟩:=h a List.mem_cons_self;have ih:=su g pk L λd hd=>h d (List.mem_cons_of_mem _ hd);rw[List.map_cons];unfold bG;rw[h1,AX];rcases h2 with⟨e,h2⟩|⟨d,e,h2,h3⟩
  .rw[h2,AX]
   show bG B tg tt fe (L.map g)=_;rw[ih,List.filterMap_cons_none e]
  .rw[h2,AX]
   show(fe ρ1).bind _=_;rw[h3,AX,ih,AX,List.filterMap_cons_some e]
def comp_pick{α:Type}(g:α->D)(pk:α->Option D){L:List α}(hl:L.length<=1000000)(h:∀a∈L,∃ρ1,tg (cA n fr' ρ) (g a)=.ok ρ1/\((pk a=none/\tt ρ1=.ok (.bl false))∨(∃d,pk a=some d/\tt ρ1=.ok (.bl true)/\fe ρ1=.ok d))):fB n fr' tg tt fe ρ (L.map g)=.ok (.lst (L.filterMap pk)):=by
 unfold fB;rw[if_pos (show(L.map g).length<=line from by rw[List.length_map];exact hl),su g pk L h]
end K51
namespace Pth
open PySem L2 DL Com Bor K17
open K11 (d6 ways pr dO)
structure qS where
 n:Nat
 a:Str
 b:Str
def i5(s:qS):D:=.tup [.int (s.n:Int),.str s.a,.str s.b]
def bR(ks:bi)(n:Nat)(t:wG):List qS:=if n∈ks then[] else(ways t).map λp=>⟨n,p.1,p.2⟩
def cj(ks:bi):Nat->List wG->List qS
 |_,[]=>[]
 |n,t::ts=>bR ks n t++cj ks (n+1) ts
def aW(w:gh)(ks:bi):List qS:=cj ks 0 w.ts
def yj(t:wG):(ways t).length<=2:=by unfold ways;split<;>simp
def wU:(bR ks n t).length<=2:=by
 unfold bR;split
 .simp
 .rw[List.length_map];exact yj t
theorem jc:∀(n:Nat) (ts:List wG),s∈cj ks n ts↔∃t,n<=s.n/\ts[s.n-n]?=some t/\s.n∉ks/\(s.a,s.b)∈ways t
 |n,[]=>by simp[cj]
 |n,t::ts=>by
  rw[cj,List.mem_append,jc (n+1) ts];constructor
  .rintro(h|⟨u,h1,h2,h3,h4⟩)
   .unfold bR at h
    by_cases hk:n∈ks
    .rw[if_pos hk]at h;cases h
    .rw[if_neg hk]at h
     obtain⟨p,hp,rfl⟩:=List.mem_map.mp h;exact⟨t,Nat.le_refl _,by simp,hk,hp⟩
   .refine⟨u,by omega,?_,h3,h4⟩
    rw[show s.n-n=(s.n-(n+1))+1 by omega,List.getElem?_cons_succ];exact h2
  .rintro⟨u,h1,h2,h3,h4⟩
   by_cases hn:s.n=n
   .left
    rw[hn,Nat.sub_self,List.getElem?_cons_zero]at h2;cases h2;unfold bR;rw[if_neg (by rw[←hn];exact h3)];exact List.mem_map.mpr ⟨(s.a,s.b),h4,by rw[←hn]⟩
   .right
    refine⟨u,by omega,?_,h3,h4⟩;rw[show s.n-n=(s.n-(n+1))+1 by omega,List.getElem?_cons_succ]at h2;exact h2
def dy:s∈aW w ks↔∃t,w.ts[s.n]?=some t/\s.n∉ks/\(s.a,s.b)∈ways t:=by
 unfold aW;rw[jc];simp
abbrev Ma:am:=(aw (gr 2 (au (ah (ae 3) (ah (ae 5) (ah (ae 6) aG))) fR))
 ao)
abbrev JE:am:=(aw (dH (aa (ae 3) (ae 1) cX)
 (aw (qH (au (ah (ae 4) aG) m_steps_along) (il [5,6])
 Ma)
 ao)
 ao)
 ao)
def Al(w:gh)(ks:bi)(ss:List qS)(x3 x4 x5 x6:Sl):Ev:=[.sh (bA w),.sh (cH ks),.ow (.lst (ss.map i5)),x3,x4,x5,x6]
theorem zc{n:Nat}:∀(ps:List (Str×Str)) (ss:List qS) (x5 x6:Sl),ss.length+ps.length<=900->∃y5 y6,bK (il [5,6]) Ma (ps.map pr) (Al w ks ss (.sh (.int (n:Int))) (.sh x4) x5 x6)=.ok (.nx (Al w ks (ss++ps.map λp=>⟨n,p.1,p.2⟩) (.sh (.int (n:Int))) (.sh x4) y5 y6))
 |[],ss,x5,x6,_=>⟨x5,x6,by simp only[List.map_nil,List.append_nil];rfl⟩
 |p::ps,ss,x5,x6,h=>by
  rw[List.length_cons]at h;obtain⟨y5,y6,e⟩:=zc (w:=w) (ks:=ks) (n:=n) (x4:=x4) ps (ss++[⟨n,p.1,p.2⟩]) (.sh (.str p.1)) (.sh (.str p.2)) (by rw[List.length_append,List.length_singleton];omega);refine⟨y5,y6,?_⟩;have hap:decide ((ss.map i5).length<=999)=true:=decide_eq_true (by rw[List.length_map];omega);rw[List.map_cons,c6 (ρ1:=Al w ks ss (.sh (.int (n:Int))) (.sh x4) (.sh (.str p.1)) (.sh (.str p.2))) (ρ2:=Al w ks (ss++[⟨n,p.1,p.2⟩]) (.sh (.int (n:Int))) (.sh x4) (.sh (.str p.1)) (.sh (.str p.2))) rfl]
  .rw[e,List.map_cons,List.append_assoc];rfl
  .unfold Al
   have:(ss++[(⟨n,p.1,p.2⟩:qS)]).map i5=ss.map i5++[.tup [.int (n:Int),.str p.1,.str p.2]]:=by rw[List.map_append];rfl
   simp only[this];open_line with[fA hap]
theorem uY(t14:w.ts.length<=14):∀(ts:List wG) (n:Nat) (ss:List qS) (x3 x4 x5 x6:Sl),ss.length+2*ts.length<=100->∃y3 y4 y5 y6,bK (il [3,4]) JE (numbered n (ts.map bu)) (Al w ks ss x3 x4 x5 x6)=.ok (.nx (Al w ks (ss++cj ks n ts) y3 y4 y5 y6))
 |[],n,ss,x3,x4,x5,x6,_=>⟨x3,x4,x5,x6,by rw[cj,List.append_nil];rfl⟩
 |t::ts,n,ss,x3,x4,x5,x6,h=>by
  rw[List.length_cons]at h;have hni:=K11.notIn_nums (ks:=ks) (n:=n);have h2:=yj t;have key:∃y5 y6,JE (Al w ks ss (.sh (.int (n:Int))) (.sh (bu t)) x5 x6)=.ok (.nx (Al w ks (ss++bR ks n t) (.sh (.int (n:Int))) (.sh (bu t)) y5 y6)):=by
   unfold bR
   by_cases hk:n∈ks
   .rw[if_pos hk,List.append_nil]
    rw[decide_eq_true hk]at hni;refine⟨x5,x6,?_⟩;unfold Al cH;open_line with[hni]
   .rw[if_neg hk]
    rw[decide_eq_false hk]at hni;obtain⟨y5,y6,e⟩:=zc (w:=w) (ks:=ks) (n:=n) (x4:=bu t) (ways t) ss x5 x6 (by omega);refine⟨y5,y6,?_⟩;unfold Al cH at e ⊢;open_line with[hni,K11.steps_ok,e]
  obtain⟨y5,y6,e1⟩:=key;have hle:=wU (ks:=ks) (n:=n) (t:=t);obtain⟨z3,z4,z5,z6,e2⟩:=uY (ks:=ks) t14 ts (n+1) (ss++bR ks n t) (.sh (.int (n:Int))) (.sh (bu t)) y5 y6 (by rw[List.length_append];omega);refine⟨z3,z4,z5,z6,?_⟩;rw[List.map_cons,DL.numbered,c6 (ρ1:=Al w ks ss (.sh (.int (n:Int))) (.sh (bu t)) x5 x6) rfl e1,e2,cj,List.append_assoc]
def steps_ok(W:cK w):m_steps_left [bA w,cH ks]=.ok (.lst ((aW w ks).map i5)):=by
 have t14:=W.t14;obtain⟨y3,y4,y5,y6,e⟩:=uY (w:=w) (ks:=ks) t14 w.ts 0 [] .no .no .no .no (by simp;omega);rw[List.nil_append]at e;have hi:aP (bA w) (.int 1)=.ok (.lst (w.ts.map bu)):=rfl;unfold Al at e;simp only[List.map_nil]at e;open_line with[K51.m_steps_left,K51.b_steps_left,hi,e]
 rfl
open K11 (d6 ways pr dO)
structure gV where
 p:Str
 z:Int
 y:bi
def gC(e:gV):D:=.tup [.int e.z,.lst (d6 e.y)]
def fD(F:List gV):D:=.dic (F.map (·.p)) (F.map gC)
def get(F:List gV)(k:Str):Option gV:=F.find? λe=>decide (e.p=k)
theorem jC{k:Str}:∀{F:List gV},jD (F.map (·.p)) (F.map gC) k=(get F k).map gC
 |[]=>rfl
 |e::F=>by
  rw[List.map_cons,List.map_cons,jD];unfold get
  by_cases h:e.p=k
  .rw[if_pos h,List.find?_cons_of_pos (by exact decide_eq_true h)];rfl
  .rw[if_neg h,List.find?_cons_of_neg (by simpa using h),jC];rfl
def di{k:Str}(h:get F k=some e):e∈F/\e.p=k:=⟨List.mem_of_find?_eq_some h,by simpa using List.find?_some h⟩
def oo{k:Str}:get F k=none↔∀e∈F,e.p≠k:=by
 unfold get;rw[List.find?_eq_none];simp
def CD(nd:(F.map (·.p)).Nodup)(he:e∈F):get F e.p=some e:=by
 induction F with
 |nil=>cases he
 |cons d F ih=>
  rw[List.map_cons,List.nodup_cons]at nd;unfold get;rcases List.mem_cons.mp he with rfl|he
  .rw[List.find?_cons_of_pos (by simp)]
  .have:d.p≠e.p:=λz=>nd.1 (z▸List.mem_map.mpr ⟨e,he,rfl⟩)
   rw[List.find?_cons_of_neg (by simpa using this)];exact ih nd.2 he
def cG(zs:List Int)(n:Nat):Int:=(zs[n]?).getD 0
noncomputable def ic(zs:List Int) (F:List gV) (c:Option gV) (s:qS):Option gV:=match get F s.a,get F s.b with
 |some e,none=>match c with
  |none=>some ⟨s.b,e.z+cG zs s.n,e.y++[s.n]⟩
  |some d=>if e.z+cG zs s.n<d.z then some ⟨s.b,e.z+cG zs s.n,e.y++[s.n]⟩ else c
 |_,_=>c
def cD:Option gV->D
 |none=>.non
 |some e=>.tup [.str e.p,.int e.z,.lst (d6 e.y)]
noncomputable abbrev nB:am :=
 (aw (dH (gE (aa (ae 5) (ae 2) pT) (aa (ae 6) (ae 2) ef))
 (aw (bE 7 (aa (aa (aa (ae 2) (ae 5) dP) (dC (.int 0)) aP) (aa (ae 1) (ae 4) aP) cb))
 (aw (dH (jf (aa (ae 3) (dC (.non)) lh) (aa (ae 7) (aa (ae 3) (dC (.int 1)) aP) ID))
 (aw (bE 3 (au (ah (ae 6) (ah (ae 7) (ah (aa (aa (aa (ae 2) (ae 5) dP) (dC (.int 1)) aP) (au (ah (ae 4) aG) du) cb) aG))) fR))
 ao)
 ao)
 ao))
 ao)
 ao)
section
variable {S:D}{zs:List Int}{F:List gV}
def Hi(hF:∀e∈F,e.y.length<=900)(hs:s.n<zs.length) :
  ∃y7,nB [.sh S,.sh (.lst (zs.map D.int)),.sh (fD F),.sh (cD c),.sh (.int (s.n:Int)),.sh (.str s.a),.sh (.str s.b),x7]=.ok (.nx [.sh S,.sh (.lst (zs.map D.int)),.sh (fD F),.sh (cD (ic zs F c s)),.sh (.int (s.n:Int)),.sh (.str s.a),.sh (.str s.b),y7]):=by
 have g1:∀k,pT (.str k) (fD F)=.ok (.bl (get F k).isSome):=λk=>by
  show ai.ok (D.bl (jD (F.map (·.p)) (F.map gC) k).isSome)=_;rw[jC,Option.isSome_map]
 have g2:∀k,ef (.str k) (fD F)=.ok (.bl (!(get F k).isSome)):=λk=>by
  show ai.ok (D.bl (!(jD (F.map (·.p)) (F.map gC) k).isSome))=_;rw[jC,Option.isSome_map]
 have h1:=g1 s.a;have h2:=g2 s.b;unfold ic;cases ea:get F s.a with
 |none=>
  rw[ea]at h1;simp only[Option.isSome_none]at h1;refine⟨x7,?_⟩;open_line with[h1]
 |some e=>
  rw[ea]at h1;simp only[Option.isSome_some]at h1;cases eb:get F s.b with
  |some e'=>
   rw[eb]at h2;simp only[Option.isSome_some,Bool.not_true]at h2;refine⟨x7,?_⟩;open_line with[h1,h2]
  |none=>
   rw[eb]at h2;simp only[Option.isSome_none,Bool.not_false]at h2;have h3:dP (fD F) (.str s.a)=.ok (gC e):=by
    show(match jD (F.map (·.p)) (F.map gC) s.a with|some d=>ai.ok d|none=>.stuck)=_;rw[jC,ea];rfl
   have h4:aP (gC e) (.int 0)=.ok (.int e.z):=rfl;have h5:aP (gC e) (.int 1)=.ok (.lst (d6 e.y)):=rfl;have h6:aP (.lst (zs.map D.int)) (.int (s.n:Int))=.ok (.int (cG zs s.n)):=oj (by
    unfold cG;rw[List.getElem?_map,List.getElem?_eq_getElem hs];rfl)
   have h7:cb (.lst (d6 e.y)) (.lst [.int (s.n:Int)])=.ok (.lst (d6 (e.y++[s.n]))):=by
    rw[iV (decide_eq_true (by
     have:=hF e (di ea).1;unfold d6;simp;omega))]
    unfold d6;rw[List.map_append];rfl
   cases c with
   |none=>
    refine⟨.sh (.int (e.z+cG zs s.n)),?_⟩;simp only[cD];open_line with[h1,h2,h3,h4,h5,h6,h7]
   |some d=>
    refine⟨.sh (.int (e.z+cG zs s.n)),?_⟩;simp only
    by_cases hlt:e.z+cG zs s.n<d.z
    .rw[if_pos hlt]
     simp only[cD];open_line with[h1,h2,h3,h4,h5,h6,h7,decide_eq_true hlt]
    .rw[if_neg hlt]
     simp only[cD];open_line with[h1,h2,h3,h4,h5,h6,h7,decide_eq_false hlt]
theorem Ck(hF:∀e∈F,e.y.length<=900):∀(ss:List qS) (c:Option gV) (x4 x5 x6 x7:Sl),(∀s∈ss,s.n<zs.length)->∃y4 y5 y6 y7,bK (il [4,5,6]) nB (ss.map i5) [.sh S,.sh (.lst (zs.map D.int)),.sh (fD F),.sh (cD c),x4,x5,x6,x7]=.ok (.nx [.sh S,.sh (.lst (zs.map D.int)),.sh (fD F),.sh (cD (ss.foldl (ic zs F) c)),y4,y5,y6,y7])
 |[],c,x4,x5,x6,x7,_=>⟨x4,x5,x6,x7,rfl⟩
 |s::ss,c,x4,x5,x6,x7,h=>by
  obtain⟨y7,e1⟩:=Hi (S:=S) hF (h s List.mem_cons_self) (c:=c) (x7:=x7);obtain⟨z4,z5,z6,z7,e2⟩:=Ck hF ss (ic zs F c s) (.sh (.int (s.n:Int))) (.sh (.str s.a)) (.sh (.str s.b)) y7 λu hu=>h u (List.mem_cons_of_mem _ hu);exact⟨z4,z5,z6,z7,by rw[List.map_cons,c6 (ρ1:=[.sh S,.sh (.lst (zs.map D.int)),.sh (fD F),.sh (cD c),.sh (.int (s.n:Int)),.sh (.str s.a),.sh (.str s.b),x7]) rfl e1,e2,List.foldl_cons]⟩
end
def Ay(ss:List qS)(zs:List Int)(F:List gV):Option gV:=ss.foldl (ic zs F) none
def EK(hF:∀e∈F,e.y.length<=900)(hs:∀s∈ss,s.n<zs.length):m_nearest_step [.lst (ss.map i5),.lst (zs.map D.int),fD F]=.ok (cD (Ay ss zs F)):=by
 obtain⟨y4,y5,y6,y7,e⟩:=Ck (S:=.lst (ss.map i5)) hF ss none .no .no .no .no hs;have e:bK (il [4,5,6]) nB (ss.map i5) [.sh (.lst (ss.map i5)),.sh (.lst (zs.map D.int)),.sh (fD F),.sh .non,.no,.no,.no,.no]=_:=e;open_line with[m_nearest_step,iE,e]
 rfl
def qB(F:List gV)(s:qS)(e:gV):Prop:=e∈F/\e.p=s.a/\∀d∈F,d.p≠s.b
theorem lT(nd:(F.map (·.p)).Nodup):∀(ss:List qS) (c:Option gV),
  (∀d,ss.foldl (ic zs F) c=some d->(c=some d∨∃s∈ss,∃e,qB F s e/\d=⟨s.b,e.z+cG zs s.n,e.y++[s.n]⟩)/\(∀d',c=some d'->d.z<=d'.z)/\∀s∈ss,∀e,qB F s e->d.z<=e.z+cG zs s.n) /\
  (ss.foldl (ic zs F) c=none->c=none/\∀s∈ss,∀e,¬qB F s e)
 |[],c=>⟨λd h=>⟨.inl h,λd' h'=>by rw[List.foldl_nil]at h;rw[h]at h';cases h';exact Int.le_refl _,λs hs=>(nomatch hs)⟩,λh=>⟨h,λs hs=>(nomatch hs)⟩⟩
 |s::ss,c=>by
  obtain⟨i1,i2⟩:=lT (zs:=zs) nd ss (ic zs F c s);rw[List.foldl_cons];have hc:∀e,qB F s e->get F s.a=some e/\get F s.b=none:=λe ⟨h1,h2,h3⟩=>⟨by rw[←h2];exact CD nd h1,oo.mpr h3⟩
  have hst:(ic zs F c s=c/\((∀e,¬qB F s e)∨∃e d,qB F s e/\c=some d/\d.z<=e.z+cG zs s.n))∨∃e,qB F s e/\ic zs F c s=some ⟨s.b,e.z+cG zs s.n,e.y++[s.n]⟩/\∀d,c=some d->e.z+cG zs s.n<=d.z:=by
   unfold ic;cases ea:get F s.a with
   |none=>exact .inl ⟨rfl,.inl λe h=>by rw[(hc e h).1]at ea;cases ea⟩
   |some e=>
    cases eb:get F s.b with
    |some e'=>exact .inl ⟨rfl,.inl λe h=>by rw[(hc e h).2]at eb;cases eb⟩
    |none=>
     have hC:qB F s e:=⟨(di ea).1,(di ea).2,oo.mp eb⟩
     cases c with
     |none=>exact .inr ⟨e,hC,rfl,λd h=>by cases h⟩
     |some d=>
      simp only
      by_cases hlt:e.z+cG zs s.n<d.z
      .rw[if_pos hlt]
       exact .inr ⟨e,hC,rfl,λd' h=>by cases h;omega⟩
      .rw[if_neg hlt]
       exact .inl ⟨rfl,.inr ⟨e,d,hC,rfl,by omega⟩⟩
  have one:∀e e',qB F s e->qB F s e'->e=e':=λe e' h h'=>by
   have h1:=(hc e h).1;rw[(hc e' h').1]at h1;cases h1;rfl
  refine⟨λd h=>?_,λh=>?_⟩
  .obtain⟨j1,j2,j3⟩:=i1 d h
   rcases hst with⟨e1,e2⟩|⟨e,hC,e1,e2⟩
   .rw[e1]at j1 j2
    refine⟨?_,j2,λs' hs' e' hC'=>?_⟩
    .rcases j1 with j1|⟨s',hs',j1⟩
     .exact .inl j1
     .exact .inr ⟨s',List.mem_cons_of_mem _ hs',j1⟩
    .rcases List.mem_cons.mp hs' with rfl|hs'
     .rcases e2 with e2|⟨e,d0,hC,h1,h2⟩
      .exact absurd hC' (e2 e')
      .rw[one e' e hC' hC]
       have:=j2 d0 h1;omega
     .exact j3 s' hs' e' hC'
   .rw[e1]at j1 j2
    have k:=j2 _ rfl;refine⟨?_,λd' h'=>Int.le_trans k (e2 d' h'),λs' hs' e' hC'=>?_⟩
    .rcases j1 with j1|⟨s',hs',j1⟩
     .cases j1
      exact .inr ⟨s,List.mem_cons_self,e,hC,rfl⟩
     .exact .inr ⟨s',List.mem_cons_of_mem _ hs',j1⟩
    .rcases List.mem_cons.mp hs' with rfl|hs'
     .rw[one e' e hC' hC];exact k
     .exact j3 s' hs' e' hC'
  .obtain⟨j1,j2⟩:=i2 h
   rcases hst with⟨e1,e2⟩|⟨e,hC,e1,e2⟩
   .rw[e1]at j1
    refine⟨j1,λs' hs' e' hC'=>?_⟩;rcases List.mem_cons.mp hs' with rfl|hs'
    .rcases e2 with e2|⟨e,d0,hC,h1,h2⟩
     .exact e2 e' hC'
     .rw[j1]at h1;cases h1
    .exact j2 s' hs' e' hC'
   .rw[e1]at j1;cases j1
open K11 (d6 ways pr dO)
def LK(w:gh)(ks:bi)(n:Nat)(a b:Str):Prop:=∃t,w.ts[n]?=some t/\n∉ks/\(a,b)∈ways t
inductive qR (w:gh) (ks:bi) (a:Str):bi->Str->Prop where
 |nil:qR w ks a [] a
 |snoc {p:bi}{b c:Str}{n:Nat}:qR w ks a p b->LK w ks n b c->qR w ks a (p++[n]) c
def fk(zs:List Int)(p:bi):Int:=(p.map (cG zs)).sum
def fN:fk zs (p++[n])=fk zs p+cG zs n:=by
 unfold fk;rw[List.map_append,List.sum_append];simp
def D0(T:qp zs t)(h:(a,b)∈ways t):a∈zs/\b∈zs/\(a=t.a∨a=t.b)/\(b=t.a∨b=t.b):=by
 have ta:=T.a;have tb:=T.b;unfold ways at h;split at h
 .have:(a,b)=(t.a,t.b):=by simpa using h
  cases this;exact⟨ta,tb,.inl rfl,.inr rfl⟩
 .rcases List.mem_cons.mp h with e|h
  .cases e;exact⟨ta,tb,.inl rfl,.inr rfl⟩
  .have:(a,b)=(t.b,t.a):=by simpa using h
   cases this;exact⟨tb,ta,.inr rfl,.inl rfl⟩
structure nz (w:gh) (ks:bi) (zs:List Int) (F:List gV) (m:Int):Prop where
 nd:(F.map (·.p)).Nodup
 pl:∀e∈F,e.p∈w.ps
 fi:∃e∈F,e.p=w.fi/\e.z=0/\e.y=[]
 wy:∀e∈F,qR w ks w.fi e.y e.p/\e.z=fk zs e.y/\e.y.Nodup/\e.y.length<F.length
 en:∀e∈F,∀n∈e.y,∀t,w.ts[n]?=some t->(∃d∈F,d.p=t.a)/\∃d∈F,d.p=t.b
 mo:∀e∈F,0<=e.z/\e.z<=m
 cl:∀s∈aW w ks,∀e∈F,e.p=s.a->∀d∈F,d.p=s.b->d.z<=e.z+cG zs s.n
 op:∀s∈aW w ks,∀e,qB F s e->m<=e.z+cG zs s.n
def sS(h:∀z∈zs,0<=z)(n:Nat):0<=cG zs n:=by
 unfold cG;cases e:zs[n]? with|none=>exact Int.le_refl _|some z=>exact h z (List.mem_of_getElem? e)
def nz.start(W:cK w)(hz:∀z∈zs,0<=z):nz w ks zs [⟨w.fi,0,[]⟩] 0:=by
 have one:∀{e:gV},e∈[(⟨w.fi,0,[]⟩:gV)]->e=⟨w.fi,0,[]⟩:=λh=>by simpa using h
 refine⟨by simp,λe he=>?_,⟨_,List.mem_singleton.mpr rfl,rfl,rfl,rfl⟩,λe he=>?_,λe he n hn=>?_,λe he=>?_,λs hs e he ea d hd eb=>?_,λs hs e ⟨he,_⟩=>?_⟩
 .rw[one he];exact W.fi
 .rw[one he];exact⟨.nil,rfl,List.nodup_nil,by simp⟩
 .rw[one he]at hn;cases hn
 .rw[one he];exact⟨Int.le_refl _,Int.le_refl _⟩
 .rw[one he,one hd]
  have:=sS hz s.n;simp;exact this
 .rw[one he]
  have:=sS hz s.n;simp;exact this
def nz.step(W:cK w)(hz:∀z∈zs,0<=z)(R:nz w ks zs F m)(h:Ay (aW w ks) zs F=some d):nz w ks zs (F++[d]) d.z/\∀e∈F,e.p≠d.p:=by
 obtain⟨j1,_,j3⟩:=(lT (zs:=zs) R.nd (aW w ks) none).1 d h;rcases j1 with j1|⟨s,hs,e,hC,rfl⟩
 .cases j1
 obtain⟨hcm,hca,hcb⟩:=hC;obtain⟨t,ht1,ht2,ht3⟩:=dy.mp hs;have T:=W.ts t (List.mem_of_getElem? ht1);obtain⟨wa,wb,wc,wd⟩:=D0 T ht3;have hm:m<=e.z+cG zs s.n:=R.op s hs e ⟨hcm,hca,hcb⟩;have hnn:=sS hz;have mem:∀{x:gV},x∈F++[(⟨s.b,e.z+cG zs s.n,e.y++[s.n]⟩:gV)]->x∈F∨x=⟨s.b,e.z+cG zs s.n,e.y++[s.n]⟩:=λhx=>by
  rcases List.mem_append.mp hx with hx|hx
  .exact .inl hx
  .exact .inr (by simpa using hx)
 have old:∀{x:gV},x∈F->x∈F++[(⟨s.b,e.z+cG zs s.n,e.y++[s.n]⟩:gV)]:=λhx=>List.mem_append_left _ hx;have new:(⟨s.b,e.z+cG zs s.n,e.y++[s.n]⟩:gV)∈F++[(⟨s.b,e.z+cG zs s.n,e.y++[s.n]⟩:gV)]:=List.mem_append_right _ (List.mem_singleton.mpr rfl);obtain⟨k1,k2,k3,k4⟩:=R.wy e hcm;refine⟨⟨?_,λx hx=>?_,?_,λx hx=>?_,λx hx n hn u hu=>?_,λx hx=>?_,λs' hs' x hx xa y hy yb=>?_,λs' hs' x ⟨hx,xa,xb⟩=>?_⟩,hcb⟩
 .rw[List.map_append]
  refine List.nodup_append.mpr ⟨R.nd,by simp,λa ha b hb=>?_⟩;obtain⟨x,hx,rfl⟩:=List.mem_map.mp ha;have:b=s.b:=by simpa using hb
  rw[this];exact hcb x hx
 .rcases mem hx with hx|rfl
  .exact R.pl x hx
  .exact wb
 .obtain⟨x,hx,h1⟩:=R.fi
  exact⟨x,old hx,h1⟩
 .rcases mem hx with hx|rfl
  .obtain⟨h1,h2,h3,h4⟩:=R.wy x hx
   exact⟨h1,h2,h3,by rw[List.length_append];omega⟩
  .refine⟨.snoc k1 ⟨t,ht1,ht2,by rw[hca];exact ht3⟩,by rw[fN,k2],?_,by simp;omega⟩
   refine List.nodup_append.mpr ⟨k3,by simp,λa ha b hb=>?_⟩;have hbn:b=s.n:=by simpa using hb
   subst hbn;intro z;subst z;obtain⟨⟨d1,hd1,e1⟩,d2,hd2,e2⟩:=R.en e hcm _ ha t ht1;rcases wd with z|z
   .exact hcb d1 hd1 (by rw[e1,z])
   .exact hcb d2 hd2 (by rw[e2,z])
 .rcases mem hx with hx|rfl
  .obtain⟨⟨d1,hd1,e1⟩,d2,hd2,e2⟩:=R.en x hx n hn u hu
   exact⟨⟨d1,old hd1,e1⟩,d2,old hd2,e2⟩
  .rcases List.mem_append.mp hn with hn|hn
   .obtain⟨⟨d1,hd1,e1⟩,d2,hd2,e2⟩:=R.en e hcm n hn u hu
    exact⟨⟨d1,old hd1,e1⟩,d2,old hd2,e2⟩
   .have:n=s.n:=by simpa using hn
    subst this;rw[ht1]at hu;cases hu;have ne:=T.ne;unfold ways at ht3;have hab:(s.a=t.a/\s.b=t.b)∨(s.a=t.b/\s.b=t.a):=by
     split at ht3
     .have:(s.a,s.b)=(t.a,t.b):=by simpa using ht3
      injection this with z1 z2;exact .inl ⟨z1,z2⟩
     .rcases List.mem_cons.mp ht3 with z|z
      .injection z with z1 z2;exact .inl ⟨z1,z2⟩
      .have:(s.a,s.b)=(t.b,t.a):=by simpa using z
       injection this with z1 z2;exact .inr ⟨z1,z2⟩
    rcases hab with⟨z1,z2⟩|⟨z1,z2⟩
    .exact⟨⟨e,old hcm,by rw[hca,z1]⟩,_,new,z2⟩
    .exact⟨⟨_,new,z2⟩,e,old hcm,by rw[hca,z1]⟩
 .have he:=R.mo e hcm
  have:=hnn s.n;rcases mem hx with hx|rfl
  .have:=R.mo x hx
   exact⟨this.1,by show x.z<=e.z+cG zs s.n;omega⟩
  .exact⟨by show 0<=e.z+cG zs s.n;omega,Int.le_refl _⟩
 .have n':=hnn s'.n
  rcases mem hx with hx|rfl
  .rcases mem hy with hy|rfl
   .exact R.cl s' hs' x hx xa y hy yb
   .exact j3 s' hs' x ⟨hx,xa,λd hd=>by rw[←yb];exact hcb d hd⟩
  .rcases mem hy with hy|rfl
   .have:=(R.mo y hy).2
    show y.z<=e.z+cG zs s.n+cG zs s'.n;omega
   .show e.z+cG zs s.n<=e.z+cG zs s.n+cG zs s'.n
    omega
 .have n':=hnn s'.n
  rcases mem hx with hx|rfl
  .exact j3 s' hs' x ⟨hx,xa,λd hd=>xb d (old hd)⟩
  .show e.z+cG zs s.n<=e.z+cG zs s.n+cG zs s'.n
   omega
def wH(w:gh)(ks:bi)(F:List gV):Prop:=∀s∈aW w ks,∀e∈F,e.p=s.a->∃d∈F,d.p=s.b
def nz.len(W:cK w)(R:nz w ks zs F m):F.length<=7:=by
 have:=Cod.nodup_le R.nd (λz hz=>by
  obtain⟨e,he,rfl⟩:=List.mem_map.mp hz;exact R.pl e he)
 rw[List.length_map]at this;have:=W.n7;omega
def nz.shut(R:nz w ks zs F m)(h:Ay (aW w ks) zs F=none):wH w ks F:=λs hs e he ea=>by
 have hn:=((lT (zs:=zs) R.nd (aW w ks) none).2 h).2 s hs e;cases hg:get F s.b with|none=>exact absurd ⟨he,ea,oo.mp hg⟩ hn|some d=>exact⟨d,(di hg).1,(di hg).2⟩
abbrev rT:al:=aa (ae 5) (dC (.non)) iA
abbrev rB:am :=
 (aw (mf 4 (au (ah (aa (ae 5) (dC (.int 1)) aP) (ah (aa (ae 5) (dC (.int 2)) aP) aG)) fR) (aa (ae 5) (dC (.int 0)) aP))
 (aw (nJ 5 (au (ah (ae 3) (ah (ae 2) (ah (ae 4) aG))) m_nearest_step))
 ao))
section
variable {ρ:Ev}{i:Nat}{f k:al}{ks:List Str}{ds:ac}{d:D}
def pE:rg i f ρ=(f ρ).bind (yF i ρ):=aF rfl
def nk:yF i ρ (.dic ks ds)=.ok (.nx (ρ.set i (.ow (.dic ks ds)))):=aF rfl
def BK(i:Nat)(f k:al)(ρ:Ev)(s:Option Sl):ai Fl:=match s with
 |some (.ow (.dic ks ds))=>(f ρ).bind λd=>(k ρ).bind (jL i ρ ks ds d)
 |_=>.stuck
def pC:mf i f k ρ=BK i f k ρ ρ[i]?:=aF rfl
def BJ(i:Nat)(k:al)(ρ:Ev)(ks:List Str)(ds:ac)(d:D):ai Fl:=(k ρ).bind (jL i ρ ks ds d)
def nj:BK i f k ρ (some (.ow (.dic ks ds)))=(f ρ).bind (BJ i k ρ ks ds):=aF rfl
def kY:BJ i k ρ ks ds d=(k ρ).bind (jL i ρ ks ds d):=aF rfl
def kX(h:decide (ks.length<=900)=true):jL i ρ ks ds d (.str x)=.ok (.nx (ρ.set i (.ow (qI ks ds x d)))):=if_pos (Nat.lt_of_le_of_lt (of_decide_eq_true h) (by decide))
def pA:nJ i f ρ=(f (gO ρ)).bind (yp i ρ):=aF rfl
def kW(h1:nd d=true)(h2:nV ρ=true):yp i ρ d=.ok (.nx (ρ.set i (.sh d))):=if_pos ⟨h1,h2⟩
def tY:wq a b ρ=aa a b C8 ρ:=aF rfl
def pF:C8 (.str x) d=.ok (.dic [x] [d]):=aF rfl
end
theorem vh:∀(p:bi),nds (d6 p)=true
 |[]=>rfl
 |n::p=>by
  show(nd (.int (n:Int))&&nds (d6 p))=true;rw[vh p];rfl
def JM(c:Option gV):nd (cD c)=true:=by
 cases c with
 |none=>rfl
 |some e=>
  show(nd (.str e.p)&&(nd (.int e.z)&&(nd (.lst (d6 e.y))&&true)))=true;have:nd (.lst (d6 e.y))=true:=by rw[nd];exact vh e.y
  rw[this];rfl
def Eo(h:∀e∈F,e.p≠d.p):qI (F.map (·.p)) (F.map gC) d.p (gC d)=fD (F++[d]):=by
 unfold qI fD;rw[if_neg (λz=>by
  obtain⟨e,he,e1⟩:=List.mem_map.mp z;exact h e he e1),List.map_append,List.map_append]
 rfl
section
variable {w:gh}(W:cK w) {ks:bi}{zs:List Int}(hl:zs.length=w.ts.length) (hz:∀z∈zs,0<=z)
include W hl hz
theorem BH(R:nz w ks zs F m):m_nearest_step [.lst ((aW w ks).map i5),.lst (zs.map D.int),fD F]=.ok (cD (Ay (aW w ks) zs F)) :=
 EK (λe he=>by have:=(R.wy e he).2.2.2;have:=R.len W;omega) λs hs=>by
  obtain⟨t,ht,_⟩:=dy.mp hs;rw[hl];exact(List.getElem?_eq_some_iff.mp ht).1
theorem GO:∀(f:Nat) (F:List gV) (m:Int),nz w ks zs F m->8<=F.length+f ->
  ∃G m',nz w ks zs G m'/\wH w ks G/\b6 rT rB f [.sh (bA w),.sh (cH ks),.sh (.lst (zs.map D.int)),.sh (.lst ((aW w ks).map i5)),.ow (fD F),.sh (cD (Ay (aW w ks) zs F))]=.ok (.nx [.sh (bA w),.sh (cH ks),.sh (.lst (zs.map D.int)),.sh (.lst ((aW w ks).map i5)),.ow (fD G),.sh .non]):=by
 intro f
 induction f with
 |zero=>intro F m R h;have:=R.len W;omega
 |succ f ih=>
  intro F m R h;cases hn:Ay (aW w ks) zs F with
  |none=>
   refine⟨F,m,R,R.shut hn,?_⟩;exact qV (by unfold fD;open_line with[cD])
  |some d=>
   obtain⟨R',hne⟩:=R.step W hz hn;obtain⟨G,m',h1,h2,h3⟩:=ih (F++[d]) d.z R' (by rw[List.length_append,List.length_singleton];omega);refine⟨G,m',h1,h2,?_⟩;rw[←h3];refine uz (by unfold fD;open_line with[cD]) ?_;have hr:=BH W hl hz R';have hp:=Eo hne;have h9:decide ((F.map (·.p)).length<=900)=true:=decide_eq_true (by rw[List.length_map];have:=R.len W;omega);have q1:aP (cD (some d)) (.int 1)=.ok (.int d.z):=rfl;have q2:aP (cD (some d)) (.int 2)=.ok (.lst (d6 d.y)):=rfl;have q0:aP (cD (some d)) (.int 0)=.ok (.str d.p):=rfl;have he:D.tup [.int d.z,.lst (d6 d.y)]=gC d:=rfl;have hoD:∀c,nV [.sh (bA w),.sh (cH ks),.sh (.lst (zs.map D.int)),.sh (.lst ((aW w ks).map i5)),.ow (fD (F++[d])),.sh c]=true:=λ_=>rfl;show rB [.sh (bA w),.sh (cH ks),.sh (.lst (zs.map D.int)),.sh (.lst ((aW w ks).map i5)),.ow (.dic (F.map (·.p)) (F.map gC)),.sh (cD (some d))]=_;open_line with[pC,nj,kY,kX h9,q0,q1,q2,he,hp,pA,hr,kW (JM _) (hoD _)]
theorem xc:∃F m,nz w ks zs F m/\wH w ks F/\m_all_reached [bA w,cH ks,.lst (zs.map D.int)]=.ok (fD F):=by
 have R0:=nz.start W (ks:=ks) hz;obtain⟨G,m',h1,h2,h3⟩:=GO W hl hz (ks:=ks) 8 [⟨w.fi,0,[]⟩] 0 R0 (by simp);refine⟨G,m',h1,h2,?_⟩;have hs:=steps_ok W (ks:=ks);have hn:=BH W hl hz R0;have i2:aP (bA w) (.int 2)=.ok (.str w.fi):=rfl;have hf:fD [⟨w.fi,0,[]⟩]=.dic [w.fi] [.tup [.int 0,.lst []]]:=rfl;rw[hf]at hn h3;have hoD:nV [.sh (bA w),.sh (cH ks),.sh (.lst (zs.map D.int)),.sh (.lst ((aW w ks).map i5)),.ow (.dic [w.fi] [.tup [.int 0,.lst []]]),.no]=true:=rfl;have hw:∀(c:al) (s:am) (ρ:Ev),gq (λ_=>8) c s ρ=b6 c s 8 ρ:=λ_ _ _=>rfl;unfold fD at h3 ⊢;open_line with[m_all_reached,ji,hs,i2,pE,tY,pF,nk,pA,hn,kW (JM _) hoD,hw,h3]
end
open K11 (d6 ways pr dO)
def D2(R:nz w ks zs F m)(S:wH w ks F)(h:qR w ks w.fi p b):∃e∈F,e.p=b/\e.z<=fk zs p:=by
 induction h with
 |nil=>
  obtain⟨e,he,h1,h2,_⟩:=R.fi;exact⟨e,he,h1,by rw[h2];exact Int.le_refl _⟩
 |@snoc p b c n _ g ih=>
  obtain⟨e,he,h1,h2⟩:=ih;obtain⟨t,t1,t2,t3⟩:=g;have hs:(⟨n,b,c⟩:qS)∈aW w ks:=dy.mpr ⟨t,t1,t2,t3⟩;obtain⟨d,hd,hb⟩:=S _ hs e he h1;have:=R.cl _ hs e he h1 d hd hb;refine⟨d,hd,hb,?_⟩;rw[fN];have this:d.z<=e.z+cG zs n:=this;omega
def lB(w:gh):Int:=Fj (w.ts.map (·.l))
def lz(w:gh):List Int:=w.ts.map λt=>t.l.1*(lB w / t.l.2)
def wV(xs:List gN):eS (xs.map some)=xs:=by
 unfold eS;rw[List.filterMap_map];simp
section
variable {w:gh}(W:cK w)
include W
theorem jV:0<lB w/\(lB w).natAbs<=2 ^ 2800/\∀t∈w.ts,t.l.2∣lB w:=by
 have h:=Dl (xs:=w.ts.map (·.l)) (λx hx=>by
  obtain⟨t,ht,rfl⟩:=List.mem_map.mp hx;exact(W.ts t ht).l) 1 0 ⟨by decide,by decide⟩
 obtain⟨⟨h1,h2⟩,_,h3⟩:=h;refine⟨h1,?_,λt ht=>h3 _ (List.mem_map.mpr ⟨t,ht,rfl⟩)⟩;refine Nat.le_trans h2 (Nat.pow_le_pow_right (by decide) ?_);rw[List.length_map];have:=W.t14;omega
theorem Hk:(lz w).length=w.ts.length:=by unfold lz;rw[List.length_map]
theorem FK:∀z∈lz w,0<=z:=λz hz=>by
 obtain⟨t,ht,rfl⟩:=List.mem_map.mp hz;have T:=W.ts t ht;have:=T.l.q1;exact Int.mul_nonneg T.l0 (Int.ediv_nonneg (by have:=(jV W).1;omega) (by omega))
theorem JR(n:Nat):(cG (lz w) n).natAbs<2 ^ 3000:=by
 unfold cG lz;rw[List.getElem?_map];cases e:w.ts[n]? with
 |none=>show(0:Int).natAbs<_;exact Nat.pow_pos (by decide)
 |some t=>
  have T:=W.ts t (List.mem_of_getElem? e);show(t.l.1*(lB w / t.l.2)).natAbs<_;rw[Int.natAbs_mul,show(3000:Nat)=200+2800 from rfl,Nat.pow_add];have h1:t.l.1.natAbs<2 ^ 200:=Nat.lt_of_lt_of_le T.l.pN (by decide);have h2:(lB w / t.l.2).natAbs<=2 ^ 2800:=Nat.le_trans (Int.natAbs_ediv_le_natAbs _ _) (jV W).2.1;exact Nat.lt_of_lt_of_le (Nat.mul_lt_mul_of_lt_of_le h1 h2 (Nat.pow_pos (by decide))) (Nat.le_refl _)
theorem Ak:m_scaled_lengths [bA w]=.ok (.tup [.lst ((lz w).map D.int),.int (lB w)]):=by
 have t14:=W.t14;have hi:aP (bA w) (.int 1)=.ok (.lst (w.ts.map bu)):=rfl;have hc:∀A,fB 1 [] (bF 0) mYes (aa (ae 0) (dC (.int 3)) aP) A (w.ts.map bu)=.ok (.lst (((w.ts.map (·.l)).map some).map br)):=λA=>by
  rw[K51.comp_pick bu (λt=>some (br (some t.l))) (by omega)]
  .rw[List.map_map,List.map_map,←List.filterMap_eq_map];rfl
  .intro t ht
   have:aP (bu t) (.int 3)=.ok (br (some t.l)):=rfl;refine⟨[.sh (bu t)],rfl,.inr ⟨_,rfl,rfl,?_⟩⟩;open_line with[this]
 have hs:=Bw (os:=(w.ts.map (·.l)).map some) (by rw[List.length_map,List.length_map];omega) (λx hx=>by
  obtain⟨y,hy,e⟩:=List.mem_map.mp hx;cases e;obtain⟨t,ht,rfl⟩:=List.mem_map.mp hy;exact(W.ts t ht).l)
 rw[wV]at hs;open_line with[m_scaled_lengths,fY,hi,hc,hs]
 show ai.ok (D.tup [.lst _,.int (lB w)])=_;unfold lz;rw[List.map_map,List.map_map,List.map_map];rfl
theorem DK(hp:p.length<=7):(fk (lz w) p).natAbs<2 ^ 3003:=by
 have key:∀(p:bi),(fk (lz w) p).natAbs<=p.length*2 ^ 3000:=by
  intro p
  induction p with
  |nil=>show(0:Int).natAbs<=_;simp
  |cons n p ih=>
   have:fk (lz w) (n::p)=cG (lz w) n+fk (lz w) p:=by unfold fk;rw[List.map_cons,List.sum_cons]
   rw[this,List.length_cons,Nat.add_mul,Nat.one_mul];have h1:=Int.natAbs_add_le (cG (lz w) n) (fk (lz w) p);have h2:=JR W n;omega
 have h:=key p;have h8:p.length*2 ^ 3000<=7*2 ^ 3000:=Nat.mul_le_mul_right _ hp;have h9:7*2 ^ 3000<2 ^ 3003:=by
  rw[show(3003:Nat)=3+3000 from rfl,Nat.pow_add];exact Nat.mul_lt_mul_of_pos_right (by decide) (Nat.pow_pos (by decide))
 omega
end
open K11 (d6 ways pr dO)
def pf(w:gh)(F:List gV)(p:Str):Option gN:=(get F p).map λe=>bT e.z (lB w)
def Kw(w:gh)(F:List gV):D:=.dic w.ps (w.ps.map λp=>br (pf w F p))
def xl(w:gh)(F:List gV):D:=match get F w.la with
 |none=>.tup [.non,.non,Kw w F]
 |some e=>.tup [.lst (d6 e.y),fr (bT e.z (lB w)),Kw w F]
theorem xX{k:Str}:∀{ps:List Str},jD ps (ps.map g) k=if k∈ps then some (g k) else none
 |[]=>rfl
 |p::ps=>by
  rw[List.map_cons,jD]
  by_cases h:p=k
  .subst h;simp
  .rw[if_neg h,xX]
   have:k≠p:=λz=>h z.symm;simp[this]
def GW(h:p∈w.ps):dP (Kw w F) (.str p)=.ok (br (pf w F p)):=by
 show(match jD w.ps (w.ps.map λp=>br (pf w F p)) p with|some d=>ai.ok d|none=>.stuck)=_;rw[xX,if_pos h]
def Lx(k:Str):pT (.str k) (fD F)=.ok (.bl (get F k).isSome):=by
 show ai.ok (D.bl (jD (F.map (·.p)) (F.map gC) k).isSome)=_;rw[jC,Option.isSome_map]
def E2(k:Str):ef (.str k) (fD F)=.ok (.bl (!(get F k).isSome)):=by
 show ai.ok (D.bl (!(jD (F.map (·.p)) (F.map gC) k).isSome))=_;rw[jC,Option.isSome_map]
def FP{k:Str}(h:get F k=some e):dP (fD F) (.str k)=.ok (gC e):=by
 show(match jD (F.map (·.p)) (F.map gC) k with|some d=>ai.ok d|none=>.stuck)=_;rw[jC,h];rfl
abbrev pB:am :=
 (aw (mf 4 (HU (aa (ae 5) (ae 3) pT) (au (ah (aa (aa (ae 3) (ae 5) dP) (dC (.int 0)) aP) (ah (aa (ae 2) (dC (.int 1)) aP) aG)) K17.m_ratio) (dC (.non))) (ae 5))
 ao)
section
variable {w:gh}(W:cK w) {ks:bi}{F:List gV}{m:Int}(R:nz w ks (lz w) F m)
include W R
theorem HE(he:e∈F):e.z.natAbs<2 ^ 3003:=by
 obtain⟨_,h2,_,h4⟩:=R.wy e he;have:=R.len W;rw[h2];exact DK W (by omega)
theorem BU(h:get F p=some e):K17.m_ratio [.int e.z,.int (lB w)]=.ok (fr (bT e.z (lB w))):=by
 have b13:∀n,n<=6000->2 ^ n<=qD:=λn hn=>by rw[ma];exact Nat.pow_le_pow_right (by decide) (Nat.le_trans hn (by decide))
 obtain⟨h1,h2,_⟩:=jV W;refine uO h1 (Nat.lt_of_lt_of_le (HE W R (di h).1) (b13 3003 (by decide))) (Nat.lt_of_le_of_lt h2 (Nat.lt_of_lt_of_le (Nat.pow_lt_pow_right (by decide) (show 2800<2801 by decide)) (b13 2801 (by decide))))
theorem B7{A:D}:∀(rest done:List Str) (x5:Sl),(done++rest).Nodup->(done++rest).length<=7->∃y5,bK (bF 5) pB (rest.map D.str) [.sh (bA w),.sh A,.sh (.tup [.lst ((lz w).map D.int),.int (lB w)]),.sh (fD F),.ow (.dic done (done.map λp=>br (pf w F p))),x5] =
  .ok (.nx [.sh (bA w),.sh A,.sh (.tup [.lst ((lz w).map D.int),.int (lB w)]),.sh (fD F),.ow (.dic (done++rest) ((done++rest).map λp=>br (pf w F p))),y5])
 |[],done,x5,_,_=>⟨x5,by rw[List.append_nil];rfl⟩
 |p::rest,done,x5,nd,hl=>by
  have e0:done++p::rest=(done++[p])++rest:=by rw[List.append_assoc];rfl
  rw[e0]at nd hl ⊢;obtain⟨y5,e⟩:=B7 (A:=A) rest (done++[p]) (.sh (.str p)) nd hl;refine⟨y5,?_⟩;have hp:p∉done:=λz=>by
   have:=(List.nodup_append.mp nd).1;have:=(List.nodup_append.mp this).2.2 p z p (List.mem_singleton.mpr rfl);exact this rfl
  rw[List.map_cons,c6 (ρ1:=[.sh (bA w),.sh A,.sh (.tup [.lst ((lz w).map D.int),.int (lB w)]),.sh (fD F),.ow (.dic done (done.map λp=>br (pf w F p))),.sh (.str p)]) (ρ2:=[.sh (bA w),.sh A,.sh (.tup [.lst ((lz w).map D.int),.int (lB w)]),.sh (fD F),.ow (.dic (done++[p]) ((done++[p]).map λp=>br (pf w F p))),.sh (.str p)]) rfl,e];have h9:decide (done.length<=900)=true:=decide_eq_true (by rw[List.length_append,List.length_append]at hl;omega);have hput:∀d,qI done (done.map λp=>br (pf w F p)) p d=.dic (done++[p]) ((done.map λp=>br (pf w F p))++[d]):=λd=>by unfold qI;rw[if_neg hp]
  have hin:=Lx (F:=F) p;have hw0:br none=.non:=rfl;have hw1:∀x,br (some x)=fr x:=λ_=>rfl;have hv:(done++[p]).map (λp=>br (pf w F p))=(done.map λp=>br (pf w F p))++[br (pf w F p)]:=by rw[List.map_append];rfl
  rw[hv];cases hg:get F p with
  |none=>
   rw[hg]at hin;simp only[Option.isSome_none]at hin;have hpf:pf w F p=none:=by unfold pf;rw[hg];rfl
   rw[hpf];open_line with[pC,nj,kY,kX h9,hin,hput,hw0]
  |some e'=>
   rw[hg]at hin;simp only[Option.isSome_some]at hin;have hpf:pf w F p=some (bT e'.z (lB w)):=by unfold pf;rw[hg];rfl
   rw[hpf];have h4:aP (gC e') (.int 0)=.ok (.int e'.z):=rfl;open_line with[pC,nj,kY,kX h9,hin,hput,FP hg,h4,BU W R hg,hw1]
end
def shortest_ok(W:cK w):∃F m,nz w ks (lz w) F m/\wH w ks F/\m_shortest [bA w,cH ks]=.ok (xl w F):=by
 obtain⟨F,m,R,S,hr⟩:=xc W (ks:=ks) (Hk W) (FK W);refine⟨F,m,R,S,?_⟩;have hs:=Ak W;obtain⟨y5,hl⟩:=B7 W R (A:=cH ks) w.ps [] .no (by rw[List.nil_append];exact W.nm.nd) (by rw[List.nil_append];exact W.n7);rw[List.nil_append,List.map_nil]at hl;have i0:aP (bA w) (.int 0)=.ok (.lst (w.ps.map D.str)):=rfl;have i3:aP (bA w) (.int 3)=.ok (.str w.la):=rfl;have hni:=E2 (F:=F) w.la;have hpr:=GW (w:=w) (F:=F) W.la;unfold xl;cases hg:get F w.la with
 |none=>
  rw[hg]at hni;simp only[Option.isSome_none,Bool.not_false]at hni;open_line with[m_shortest,jz,hs,hr,pE,nk,i0,hl,i3,hni]
  rfl
 |some e=>
  rw[hg]at hni;simp only[Option.isSome_some,Bool.not_true]at hni;have h5:aP (gC e) (.int 1)=.ok (.lst (d6 e.y)):=rfl;have hpf:pf w F w.la=some (bT e.z (lB w)):=by unfold pf;rw[hg];rfl
  rw[hpf]at hpr;unfold Kw at hpr ⊢;open_line with[m_shortest,jz,hs,hr,pE,nk,i0,hl,i3,hni,FP hg,h5,hpr]
  rfl
open K11 (d6 ways pr dO)
open K51 (Bd pl)
def val(x:gN):Rat:=(x.1:Rat) / (x.2:Rat)
def cy{a:Int}(h:0<a):(0:Rat)<(a:Rat):=by
 have:=Rat.intCast_lt_intCast.mpr h;simpa using this
def C6{a b c d:Rat}(hb:0<b)(hd:0<d):a / b<c / d↔a*d<c*b:=by
 have h1:a / b<c / d↔(a / b)*(b*d)<(c / d)*(b*d):=(Rat.mul_lt_mul_right (Rat.mul_pos hb hd)).symm;rw[h1];have e1:a / b*(b*d)=a*d:=by grind
 have e2:c / d*(b*d)=c*b:=by grind
 rw[e1,e2]
def tR(hx:0<x.2)(hy:0<y.2):flt x y=decide (val x<val y):=by
 unfold flt val
 congr 1
 rw[C6 (cy hx) (cy hy),←Rat.intCast_mul,←Rat.intCast_mul,Rat.intCast_lt_intCast]
def eL(hb:0<b):val (bT a b)=(a:Rat) / (b:Rat):=by
 have h:=ET (a:=a) (b:=b);have hq:0<(bT a b).2:=by have:=(cQ (a:=a) hb).q1;omega
 unfold val;have p1:=cy hq;have p2:=cy hb;have e:((bT a b).1:Rat)*(b:Rat)=(a:Rat)*((bT a b).2:Rat):=by rw[←Rat.intCast_mul,←Rat.intCast_mul,h]
 grind
def Gj(hx:0<x.2)(hy:0<y.2):val (pl x y)=val x+val y:=by
 have:pl x y=bT (x.1*y.2+y.1*x.2) (x.2*y.2):=rfl;rw[this,eL (Int.mul_pos hx hy)];unfold val;have p1:=cy hx;have p2:=cy hy;rw[Rat.intCast_add,Rat.intCast_mul,Rat.intCast_mul,Rat.intCast_mul]
 grind
def HB(h:gf x):Bd x 200:=⟨by have:=h.q1;omega,Nat.lt_of_lt_of_le h.pN (by decide),Nat.lt_of_lt_of_le h.qN (by decide)⟩
open K11 (d6 ways pr dO)
open K51 (Bd pl)
section
variable {w:gh}(W:cK w)
include W
theorem A7(hn:n<w.ts.length):val (K12.lenAt w n)=(cG (lz w) n:Rat) / (lB w:Rat):=by
 have ht:=List.getElem?_eq_getElem hn;have T:=W.ts w.ts[n] (List.getElem_mem hn);rw[K12.lenAt_of ht];have hz:cG (lz w) n=w.ts[n].l.1*(lB w / w.ts[n].l.2):=by
  unfold cG lz;rw[List.getElem?_map,ht];rfl
 obtain⟨h1,_,h3⟩:=jV W;have hq:=T.l.q1;have hd:=Int.ediv_mul_cancel (h3 _ (List.getElem_mem hn));have e:cG (lz w) n*w.ts[n].l.2=w.ts[n].l.1*lB w:=by rw[hz,Int.mul_assoc,hd]
 have p1:=cy h1;have p2:=cy (show 0<w.ts[n].l.2 by omega);have e':(cG (lz w) n:Rat)*(w.ts[n].l.2:Rat)=(w.ts[n].l.1:Rat)*(lB w:Rat):=by rw[←Rat.intCast_mul,←Rat.intCast_mul,e]
 unfold val
 grind
variable {ks:bi}{F:List gV}{m:Int}(R:nz w ks (lz w) F m)
include R
end
end Pth
namespace Vlu
open PySem L2 DL Com Bor Pth
open K11 (d6 ways pr dO)
open K51 (Bd pl)
abbrev m_ratio:ac->ai D:=Com.m_ratio
noncomputable def zP:am :=
 (aw (bB (au (ah (aa (aa (aa (ae 0) (dC (.int 0)) aP) (aa (ae 1) (dC (.int 1)) aP) bQ) (aa (aa (ae 1) (dC (.int 0)) aP) (aa (ae 0) (dC (.int 1)) aP) bQ) gW) (ah (aa (aa (ae 0) (dC (.int 1)) aP) (aa (ae 1) (dC (.int 1)) aP) bQ) aG)) m_ratio))
 ao)
def m_minus:ac->ai D:=ck 2 zP
noncomputable def gJ:am :=
 (aw (dH (aa (ae 0) (dC (.non)) lh)
 (aw (bB (dC (.str "none")))
 ao)
 ao)
 (aw (dH (aa (ae 1) (dC (.non)) lh)
 (aw (bB (dC (.str "cut")))
 ao)
 ao)
 (aw (bB (au (ah (ae 1) (ah (ae 0) aG)) m_minus))
 ao)))
def m_value_by:ac->ai D:=ck 2 gJ
theorem F8:∀{xs:List gN},(∀x∈xs,1<=x.2/\x.2<=60)->∀b:Int,0<b->0<xs.foldl eB b/\xs.foldl eB b<=b*60 ^ xs.length
 |[],_,b,hb=>⟨hb,by simp⟩
 |x::xs,hx,b,hb=>by
  obtain⟨q1,q2⟩:=hx x List.mem_cons_self;have hg:0<(Int.gcd b x.2:Int):=ot (by omega);have hd:(Int.gcd b x.2:Int)∣b:=Int.gcd_dvd_left ..;have hq:0<b / (Int.gcd b x.2:Int):=Int.ediv_pos_of_pos_of_dvd hb (by omega) hd;have hle:b / (Int.gcd b x.2:Int)<=b:=Int.ediv_le_self _ (by omega);have h1:0<eB b x:=Int.mul_pos hq (by omega);have h2:eB b x<=b*60:=Int.mul_le_mul hle q2 (by omega) (by omega);obtain⟨k1,k2⟩:=F8 (λy hy=>hx y (List.mem_cons_of_mem _ hy)) (eB b x) h1;refine⟨k1,Int.le_trans k2 ?_⟩;rw[List.length_cons,Int.pow_succ,Int.mul_comm ((60:Int) ^ xs.length) 60,←Int.mul_assoc];exact Int.mul_le_mul_of_nonneg_right h2 (Int.le_of_lt (Int.pow_pos (by decide)))
section
variable {w:gh}(W:cK w) (hw:∀t∈w.ts,dU t)
include W hw
theorem Hm:0<lB w/\lB w<=60 ^ 14:=by
 obtain⟨h1,h2⟩:=F8 (xs:=w.ts.map (·.l)) (λx hx=>by
  obtain⟨t,ht,rfl⟩:=List.mem_map.mp hx;exact⟨(W.ts t ht).l.q1,(hw t ht).1.q1⟩) 1 (by decide)
 refine⟨h1,Int.le_trans h2 ?_⟩;rw[List.length_map,Int.one_mul];have:=W.t14
 exact_mod_cast Nat.pow_le_pow_right (n:=60) (by decide) this
theorem Hl(n:Nat):0<=cG (lz w) n/\cG (lz w) n<=1000000000000*60 ^ 14:=by
 refine⟨sS (FK W) n,?_⟩;unfold cG lz;rw[List.getElem?_map];cases e:w.ts[n]? with
 |none=>show(0:Int)<=_;decide
 |some t=>
  have T:=W.ts t (List.mem_of_getElem? e);have A:=(hw t (List.mem_of_getElem? e)).1;have hB:=Hm W hw;show t.l.1*(lB w / t.l.2)<=_;have h2:lB w / t.l.2<=60 ^ 14:=Int.le_trans (Int.ediv_le_self _ (by omega)) hB.2;exact Int.mul_le_mul A.p1 h2 (Int.ediv_nonneg (by omega) (by have:=T.l.q1;omega)) (by decide)
theorem nC:∀(p:bi),0<=fk (lz w) p/\fk (lz w) p<=p.length*(1000000000000*60 ^ 14)
 |[]=>⟨Int.le_refl _,by show(0:Int)<=_;simp⟩
 |n::p=>by
  have e:fk (lz w) (n::p)=cG (lz w) n+fk (lz w) p:=by unfold fk;rw[List.map_cons,List.sum_cons]
  have h1:=Hl W hw n;have h2:=nC p;rw[e,List.length_cons];refine⟨by omega,?_⟩
  push_cast
  rw[Int.add_mul,Int.one_mul];omega
variable {ks:bi}{F:List gV}{m:Int}(R:nz w ks (lz w) F m)
include R
theorem FQ(he:e∈F):e.z.natAbs<2 ^ 130/\(lB w).natAbs<2 ^ 130:=by
 obtain⟨_,h2,_,h4⟩:=R.wy e he;have hl:=R.len W;have hB:=Hm W hw;obtain⟨z0,z1⟩:=nC W hw e.y;rw[←h2]at z0 z1;have h7:(e.y.length:Int)*(1000000000000*60 ^ 14)<=7*(1000000000000*60 ^ 14):=Int.mul_le_mul_of_nonneg_right (by omega) (by decide);have c1:(7:Int)*(1000000000000*60 ^ 14)<2 ^ 130:=by decide
 have c2:(60:Int) ^ 14<2 ^ 130:=by decide
 constructor
 .have:e.z<2 ^ 130:=by omega
  omega
 .have:lB w<2 ^ 130:=by omega
  omega
theorem rO(he:e∈F):Bd (bT e.z (lB w)) 130 :=
 K51.low_bd (jV W).1 (FQ W hw R he).1 (FQ W hw R he).2
end
def mi(x y:gN):gN:=bT (x.1*y.2-y.1*x.2) (x.2*y.2)
def Cq(hx:Bd x m)(hy:Bd y n)(h:m+n<=5900):m_minus [fr x,fr y]=.ok (fr (mi x y)):=by
 have b1:=hx.c60 (by omega);have b2:=hy.c60 (by omega);have hy':Bd (-y.1,y.2) n:=⟨hy.q0,by show(-y.1).natAbs<_;rw[Int.natAbs_neg];exact hy.a,hy.b⟩
 have hp:=K51.un_bd hx hy';have hc:=hp.c13 (by omega);have m1:=bW (dM b1.1 b2.2);have m2:=bW (dM b2.1 b1.2);have m3:=bW (dM b1.2 b2.2);have e:x.1*y.2 + -y.1*x.2=x.1*y.2-y.1*x.2:=by rw[Int.neg_mul];omega
 have hlo:m_ratio [.int (x.1*y.2-y.1*x.2),.int (x.2*y.2)]=.ok (fr (mi x y)):=by
  have h1:=hc.1;have h2:=hc.2;unfold un at h1 h2;simp only[e]at h1;exact uO hp.q0 h1 h2
 have i0:∀z:gN,aP (fr z) (.int 0)=.ok (.int z.1):=λ_=>rfl;have i1:∀z:gN,aP (fr z) (.int 1)=.ok (.int z.2):=λ_=>rfl;open_line with[m_minus,zP,i0,i1,m1,m2,m3,gW,hlo]
def eV(w:gh)(F:List gV):D:=match get F w.la with
 |none=>.non
 |some e=>fr (bT e.z (lB w))
def D4(w:gh)(F F':List gV):D:=match get F w.la,get F' w.la with
 |none,_=>.str "none"
 |some _,none=>.str "cut"
 |some e,some e'=>fr (mi (bT e'.z (lB w)) (bT e.z (lB w)))
def JD:aP (xl w F) (.int 1)=.ok (eV w F):=by
 unfold xl eV;cases get F w.la<;>rfl
def tP:lh (fr x) .non=.ok (.bl false):=rfl
def uA(W:cK w)(hw:∀t∈w.ts,dU t)(R:nz w ks (lz w) F m)(R':nz w ks' (lz w) F' m'):m_value_by [eV w F,eV w F']=.ok (D4 w F F'):=by
 unfold eV D4;cases h:get F w.la with
 |none=>open_line with[m_value_by,gJ]
 |some e=>
  cases h':get F' w.la with
  |none=>open_line with[m_value_by,gJ,tP]
  |some e'=>
   have:=Cq (rO W hw R' (di h').1) (rO W hw R (di h).1) (by decide);open_line with[m_value_by,gJ,tP,this]
end Vlu
namespace Bfd
open PySem L2 DL Com Bor Pth Vlu
open K11 (d6 ways pr)
structure BS where
 ks:List Str
 Z:Str->Int
def fv(zs:List Int)(s:qS)(S:BS):BS×Bool :=
 if s.a∈S.ks/\(s.b∉S.ks∨S.Z s.a+cG zs s.n<S.Z s.b) then(⟨if s.b∈S.ks then S.ks else S.ks++[s.b],λp=>if p=s.b then S.Z s.a+cG zs s.n else S.Z p⟩,true) else(S,false)
def c9(zs:List Int):List qS->BS×Bool->BS×Bool
 |[],r=>r
 |s::L,(S,c)=>c9 zs L ((fv zs s S).1,c||(fv zs s S).2)
theorem uU:∀{L L':List qS}{r:BS×Bool},c9 zs (L++L') r=c9 zs L' (c9 zs L r)
 |[],_,_=>rfl
 |s::L,L',(S,c)=>by rw[List.cons_append,c9,uU,c9]
def wJ:Int:=1000000000000*60 ^ 14
structure dB (w:gh) (tk:bi) (S:BS):Prop where
 nd:S.ks.Nodup
 pl:∀p∈S.ks,p∈w.ps
 fi:w.fi∈S.ks
 z0:S.Z w.fi<=0
 wk:∀p∈S.ks,∃q,qR w tk w.fi q p/\fk (lz w) q=S.Z p
 bd:∀p∈S.ks,S.Z p<=((S.ks.length:Int)-1)*wJ
def Le(S S':BS):Prop:=(∀p∈S.ks,p∈S'.ks)/\∀p∈S.ks,S'.Z p<=S.Z p
def Le.refl(S:BS):Le S S:=⟨λ_ h=>h,λ_ _=>Int.le_refl _⟩
def Le.trans{S T U:BS}(h:Le S T)(g:Le T U):Le S U:=⟨λp hp=>g.1 p (h.1 p hp),λp hp=>Int.le_trans (g.2 p (h.1 p hp)) (h.2 p hp)⟩
section
variable {w:gh}(W:cK w) (hw:∀t∈w.ts,dU t) {tk:bi}
include W hw
theorem uL{S:BS}(K:dB w tk S)(hs:s∈aW w tk) :
  dB w tk (fv (lz w) s S).1/\Le S (fv (lz w) s S).1/\(s.a∈S.ks->s.b∈(fv (lz w) s S).1.ks/\(fv (lz w) s S).1.Z s.b<=S.Z s.a+cG (lz w) s.n)/\((fv (lz w) s S).2=false->(fv (lz w) s S).1=S):=by
 obtain⟨t,ht,hn,hm⟩:=dy.mp hs;have T:=W.ts t (List.mem_of_getElem? ht);have hbp:s.b∈w.ps:=by
  unfold ways at hm;split at hm
  .simp at hm;rw[hm.2];exact T.b
  .simp at hm
   rcases hm with h|h
   .rw[h.2];exact T.b
   .rw[h.2];exact T.a
 obtain⟨z0,z1⟩:=Hl W hw s.n;have z1:cG (lz w) s.n<=wJ:=z1;have hM:(0:Int)<wJ:=by decide
 unfold fv
 by_cases h:s.a∈S.ks/\(s.b∉S.ks∨S.Z s.a+cG (lz w) s.n<S.Z s.b)
 .rw[if_pos h]
  obtain⟨ha,hb⟩:=h;obtain⟨qa,qw,qz⟩:=K.wk s.a ha;have hwb:qR w tk w.fi (qa++[s.n]) s.b:=.snoc qw ⟨t,ht,hn,hm⟩;have hz:fk (lz w) (qa++[s.n])=S.Z s.a+cG (lz w) s.n:=by rw[fN,qz]
  have nnq:∀q:bi,0<=fk (lz w) q:=λq=>(nC W hw q).1;have sub:∀p,p∈(if s.b∈S.ks then S.ks else S.ks++[s.b])↔p∈S.ks∨p=s.b:=by
   intro p;split
   .rename_i hin
    exact⟨.inl,λh=>h.elim id λe=>e▸hin⟩
   .rw[List.mem_append,List.mem_singleton]
  have len:((if s.b∈S.ks then S.ks else S.ks++[s.b]).length:Int)=if s.b∈S.ks then(S.ks.length:Int) else(S.ks.length:Int)+1:=by
   split
   .rfl
   .simp
  refine⟨⟨?_,?_,?_,?_,?_,?_⟩,⟨λp hp=>(sub p).mpr (.inl hp),λp hp=>?_⟩,λ_=>⟨(sub _).mpr (.inr rfl),?_⟩,λe=>nomatch e⟩
  .show(if s.b∈S.ks then S.ks else S.ks++[s.b]).Nodup
   split
   .exact K.nd
   .rename_i hnin
    rw[List.nodup_append];exact⟨K.nd,by simp,λx hx y hy=>by rw[List.mem_singleton]at hy;subst hy;exact λe=>hnin (e▸hx)⟩
  .intro p hp
   rcases(sub p).mp hp with h|h
   .exact K.pl p h
   .rw[h];exact hbp
  .exact(sub _).mpr (.inl K.fi)
  .show(if w.fi=s.b then S.Z s.a+cG (lz w) s.n else S.Z w.fi)<=0
   split
   .rename_i e
    rcases hb with hb|hb
    .exact absurd (e▸K.fi) hb
    .have:=K.z0;rw[e]at this;omega
   .exact K.z0
  .intro p hp
   show ∃q,qR w tk w.fi q p/\fk (lz w) q=(if p=s.b then S.Z s.a+cG (lz w) s.n else S.Z p)
   by_cases e:p=s.b
   .rw[if_pos e,e];exact⟨_,hwb,hz⟩
   .rw[if_neg e]
    rcases(sub p).mp hp with h|h
    .exact K.wk p h
    .exact absurd h e
  .intro p hp
   show(if p=s.b then S.Z s.a+cG (lz w) s.n else S.Z p)<=(((if s.b∈S.ks then S.ks else S.ks++[s.b]).length:Int)-1)*wJ;rw[len];have hba:=K.bd s.a ha
   by_cases e:p=s.b
   .rw[if_pos e]
    by_cases hin:s.b∈S.ks
    .rw[if_pos hin]
     have:=K.bd s.b hin;rcases hb with hb|hb
     .exact absurd hin hb
     .omega
    .rw[if_neg hin]
     have:((S.ks.length:Int)+1-1)*wJ=((S.ks.length:Int)-1)*wJ+wJ:=by
      rw[show(S.ks.length:Int)+1-1=((S.ks.length:Int)-1)+1 by omega,Int.add_mul,Int.one_mul]
     omega
   .rw[if_neg e]
    have hp':p∈S.ks:=(sub p).mp hp |>.elim id λh=>absurd h e
    have:=K.bd p hp';split
    .exact this
    .refine Int.le_trans this (Int.mul_le_mul_of_nonneg_right (by omega) (by omega))
  .show(if p=s.b then S.Z s.a+cG (lz w) s.n else S.Z p)<=S.Z p
   split
   .rename_i e
    subst e;rcases hb with hb|hb
    .exact absurd hp hb
    .omega
   .exact Int.le_refl _
  .show(if s.b=s.b then S.Z s.a+cG (lz w) s.n else S.Z s.b)<=_
   rw[if_pos rfl];exact Int.le_refl _
 .rw[if_neg h]
  refine⟨K,Le.refl S,λha=>?_,λ_=>rfl⟩
  by_cases hin:s.b∈S.ks
  .exact⟨hin,Int.not_lt.mp λhl=>h ⟨ha,.inr hl⟩⟩
  .exact absurd ⟨ha,.inl hin⟩ h
theorem iN:∀(L:List qS),(∀s∈L,s∈aW w tk)->∀{S:BS}{c:Bool},dB w tk S ->
  dB w tk (c9 (lz w) L (S,c)).1/\Le S (c9 (lz w) L (S,c)).1/\(∀s∈L,s.a∈S.ks->s.b∈(c9 (lz w) L (S,c)).1.ks/\(c9 (lz w) L (S,c)).1.Z s.b<=S.Z s.a+cG (lz w) s.n)/\((c9 (lz w) L (S,c)).2=false->c=false/\(c9 (lz w) L (S,c)).1=S)
 |[],_,S,c,K=>⟨K,Le.refl S,λs h=>(nomatch h),λe=>⟨e,rfl⟩⟩
 |s::L,hL,S,c,K=>by
  obtain⟨k1,k2,k3,k4⟩:=uL W hw K (hL s List.mem_cons_self);obtain⟨p1,p2,p3,p4⟩:=iN L (λx hx=>hL x (List.mem_cons_of_mem _ hx)) (S:=(fv (lz w) s S).1) (c:=c||(fv (lz w) s S).2) k1;rw[c9];refine⟨p1,k2.trans p2,λx hx ha=>?_,λe=>?_⟩
  .rcases List.mem_cons.mp hx with rfl|hx
   .obtain⟨h1,h2⟩:=k3 ha
    exact⟨p2.1 _ h1,Int.le_trans (p2.2 _ h1) h2⟩
   .obtain⟨h1,h2⟩:=p3 x hx (k2.1 _ ha)
    exact⟨h1,Int.le_trans h2 (by have:=k2.2 _ ha;omega)⟩
  .obtain⟨e1,e2⟩:=p4 e
   rw[Bool.or_eq_false_iff]at e1;exact⟨e1.1,e2.trans (k4 e1.2)⟩
def Rd(w:gh)(tk:bi)(r:Nat)(S:BS):Prop:=∀q p,qR w tk w.fi q p->q.length<=r->p∈S.ks/\S.Z p<=fk (lz w) q
theorem Eh{S:BS}(K:dB w tk S):Rd w tk 0 S:=by
 intro q p h hl;cases h with|nil=>exact⟨K.fi,K.z0⟩|snoc=>simp at hl
theorem Ei{S:BS}(K:dB w tk S)(R:Rd w tk r S):Rd w tk (r+1) (c9 (lz w) (aW w tk) (S,c)).1:=by
 obtain⟨p1,p2,p3,p4⟩:=iN W hw (aW w tk) (λs h=>h) (c:=c) K;intro q p h hl;cases h with
 |nil=>exact⟨p1.fi,p1.z0⟩
 |snoc h g=>
  rename_i q' b n;obtain⟨t,t1,t2,t3⟩:=g;have hs:(⟨n,b,p⟩:qS)∈aW w tk:=dy.mpr ⟨t,t1,t2,t3⟩;obtain⟨r1,r2⟩:=R q' b h (by simp at hl;omega);obtain⟨s1,s2⟩:=p3 _ hs r1;refine⟨s1,?_⟩;rw[fN];have s2:(c9 (lz w) (aW w tk) (S,c)).1.Z p<=S.Z b+cG (lz w) n:=s2;omega
theorem Ej{S:BS}(K:dB w tk S)(h:(c9 (lz w) (aW w tk) (S,c)).2=false)(r:Nat):Rd w tk r S:=by
 obtain⟨p1,p2,p3,p4⟩:=iN W hw (aW w tk) (λs h=>h) (c:=c) K;obtain⟨_,e⟩:=p4 h;rw[e]at p3;intro q p h _;have key:∀q p,qR w tk w.fi q p->p∈S.ks/\S.Z p<=fk (lz w) q:=by
  intro q p h
  induction h with
  |nil=>exact⟨K.fi,K.z0⟩
  |snoc h g ih=>
   rename_i q' b c' n;obtain⟨t,t1,t2,t3⟩:=g;have hs:(⟨n,b,c'⟩:qS)∈aW w tk:=dy.mpr ⟨t,t1,t2,t3⟩;obtain⟨r1,r2⟩:=ih;obtain⟨s1,s2⟩:=p3 _ hs r1;refine⟨s1,?_⟩;rw[fN];have s2:S.Z c'<=S.Z b+cG (lz w) n:=s2;omega
 exact key q p h
theorem GL{S:BS}(K:dB w tk S)(R:Rd w tk w.ps.length S)(RF:nz w tk (lz w) F m)(SF:wH w tk F)(p:Str):(if p∈S.ks then some (S.Z p) else none)=(get F p).map (·.z):=by
 have key:∀e,get F p=some e->p∈S.ks/\S.Z p<=e.z:=by
  intro e he;obtain⟨h1,h2⟩:=di he;obtain⟨w1,w2,_,w4⟩:=RF.wy e h1;have hl:F.length<=w.ps.length:=by
   have:=Cod.nodup_le RF.nd (λz hz=>by
    obtain⟨e,he,rfl⟩:=List.mem_map.mp hz;exact RF.pl e he)
   rw[List.length_map]at this;exact this
  obtain⟨r1,r2⟩:=R e.y e.p w1 (by omega);rw[h2]at r1 r2;exact⟨r1,by rw[w2];exact r2⟩
 by_cases hp:p∈S.ks
 .rw[if_pos hp]
  obtain⟨q,h1,h2⟩:=K.wk p hp;obtain⟨e,he,hp',hz⟩:=D2 RF SF h1;have hg:=CD RF.nd he;rw[hp']at hg;rw[hg];have:=(key e hg).2;show some (S.Z p)=some e.z
  congr 1
  omega
 .rw[if_neg hp]
  cases hg:get F p with|none=>rfl|some e=>exact absurd (key e hg).1 hp
end
open K11 (d6 ways pr there oS)
open K51 (Bd pl)
abbrev bp:ac->ai D:=K11.bp
abbrev bN:ac->ai D:=K12.bN
abbrev bX:ac->ai D:=K51.bX
abbrev aX:ac->ai D:=Cod.aX
noncomputable def jB:am :=
 (aw (rg 2 (wq (aa (ae 0) (dC (.int 2)) aP) (au (ah (dC (.int 0)) (ah (dC (.int 1)) aG)) fR)))
 (aw (nK (au (ah (aa (ae 0) (dC (.int 0)) aP) aG) (m1 dE)) (bF 3)
 (aw (bE 4 (dC (.bl true)))
 (aw (nK (au (ah (aa (ae 0) (dC (.int 1)) aP) aG) (m1 dE)) (bF 5)
 (aw (bE 6 (aa (aa (ae 0) (dC (.int 1)) aP) (ae 5) aP))
 (aw (i9 (Ae (AQ (ae 6) eG (er (dC (.int 2))))) (bF 7)
 (aw (bE 8 (au (ah (ae 6) (ah (ae 7) aG)) bp))
 (aw (dH (gE (aa (ae 5) (ae 1) cX) (gE (aa (ae 8) (dC (.non)) iA) (aa (ae 7) (ae 2) pT)))
 (aw (nJ 9 (au (ah (aa (ae 2) (ae 7) dP) (ah (aa (ae 6) (dC (.int 3)) aP) aG)) bN))
 (aw (dH (jf (aa (ae 8) (ae 2) ef) (au (ah (ae 9) (ah (aa (ae 2) (ae 8) dP) aG)) bX))
 (aw (mf 2 (ae 9) (ae 8))
 (aw (bE 4 (dC (.bl false)))
 ao))
 ao)
 ao))
 ao)
 ao)))
 ao)))
 (aw (dH (ae 4)
 (aw (bB (ae 2))
 ao)
 ao)
 ao))))
 (aw (bB (ae 2))
 ao)))
def bx:ac->ai D:=ck 10 jB
def gU:am :=
 (aw (bB (dA 1 [0] (i8 (au (ah (aa (ae 0) (dC (.int 1)) aP) aG) (m1 dE))) (bF 0) mYes (pS (au (ah (ae 1) (ah (au (ah (ae 0) aG) du) aG)) bx) (aa (ae 1) (dC (.int 3)) aP))))
 ao)
def bM:ac->ai D:=ck 1 gU
noncomputable def eO:am :=
 (aw (dH (aa (ae 0) (dC (.non)) lh)
 (aw (bB (dC (.str "none")))
 ao)
 ao)
 (aw (dH (aa (ae 1) (dC (.non)) lh)
 (aw (bB (dC (.str "cut")))
 ao)
 ao)
 (aw (bB (au (ah (aa (aa (aa (ae 1) (dC (.int 0)) aP) (aa (ae 0) (dC (.int 1)) aP) bQ) (aa (aa (ae 0) (dC (.int 0)) aP) (aa (ae 1) (dC (.int 1)) aP) bQ) gW) (ah (aa (aa (ae 1) (dC (.int 1)) aP) (aa (ae 0) (dC (.int 1)) aP) bQ) aG)) aX))
 ao)))
def bo:ac->ai D:=ck 2 eO
def dD(w:gh)(S:BS):D:=.dic S.ks (S.ks.map λp=>fr (bT (S.Z p) (lB w)))
def ue{S:BS}:jD S.ks (S.ks.map λp=>fr (bT (S.Z p) (lB w))) p=if p∈S.ks then some (fr (bT (S.Z p) (lB w))) else none:=xX (g:=λp=>fr (bT (S.Z p) (lB w)))
def HL{S:BS}:pT (.str p) (dD w S)=.ok (.bl (decide (p∈S.ks))):=by
 show ai.ok (D.bl (jD S.ks (S.ks.map λp=>fr (bT (S.Z p) (lB w))) p).isSome)=_;rw[ue]
 by_cases h:p∈S.ks
 .rw[if_pos h,decide_eq_true h];rfl
 .rw[if_neg h,decide_eq_false h];rfl
def AM{S:BS}:ef (.str p) (dD w S)=.ok (.bl (!(decide (p∈S.ks)))):=by
 show ai.ok (D.bl (!(jD S.ks (S.ks.map λp=>fr (bT (S.Z p) (lB w))) p).isSome))=_;rw[ue]
 by_cases h:p∈S.ks
 .rw[if_pos h,decide_eq_true h];rfl
 .rw[if_neg h,decide_eq_false h];rfl
def zM{S:BS}(h:p∈S.ks):dP (dD w S) (.str p)=.ok (fr (bT (S.Z p) (lB w))):=by
 show(match jD S.ks (S.ks.map λp=>fr (bT (S.Z p) (lB w))) p with|some d=>ai.ok d|none=>.stuck)=_;rw[ue,if_pos h]
theorem yt:∀{ks:List Str},w8 ks (ks.map g) x d=ks.map λk=>if k=x then d else g k
 |[]=>rfl
 |k::ks=>by rw[List.map_cons,w8,yt,List.map_cons]
def E6{S:BS}:qI S.ks (S.ks.map λp=>fr (bT (S.Z p) (lB w))) b (fr (bT z (lB w)))=dD w ⟨if b∈S.ks then S.ks else S.ks++[b],λp=>if p=b then z else S.Z p⟩:=by
 unfold qI dD
 by_cases h:b∈S.ks
 .rw[if_pos h]
  simp only[if_pos h];rw[yt]
  congr 1
  refine List.map_congr_left λk _=>?_
  by_cases e:k=b
  .rw[if_pos e,if_pos e]
  .rw[if_neg e,if_neg e]
 .rw[if_neg h]
  simp only[if_neg h];rw[List.map_append]
  congr 1
  congr 1
  .refine List.map_congr_left λk hk=>?_
   rw[if_neg (by intro e;exact h (e▸hk))]
  .simp
def uB(hx:Low x)(hy:Low y)(h:val x=val y):x=y:=by
 have q1:=hx.q1;have q2:=hy.q1;have h1:=tR (x:=x) (y:=y) (by omega) (by omega);have h2:=tR (x:=y) (y:=x) (by omega) (by omega);rw[h,decide_eq_false Rat.lt_irrefl]at h1;rw[h,decide_eq_false Rat.lt_irrefl]at h2;unfold flt at h1 h2;refine vn hx hy ?_;have:=of_decide_eq_false h1;have:=of_decide_eq_false h2;omega
section
variable {w:gh}(W:cK w) (hw:∀t∈w.ts,dU t)
include W hw
theorem GY(ht:w.ts[n]?=some t):pl (bT z (lB w)) t.l=bT (z+cG (lz w) n) (lB w):=by
 have hB:=(jV W).1;have T:=(W.ts t (List.mem_of_getElem? ht)).l;have hq:0<t.l.2:=by have:=T.q1;omega
 have hn:n<w.ts.length:=(List.getElem?_eq_some_iff.mp ht).1;have hl:val t.l=(cG (lz w) n:Rat) / (lB w:Rat):=by
  have:=A7 W hn;rw[show K12.lenAt w n=t.l by unfold K12.lenAt;rw[ht];rfl]at this;exact this
 have lq:0<(bT z (lB w)).2:=by have:=(cQ (a:=z) hB).q1;omega
 refine uB (cQ (Int.mul_pos lq hq)) (cQ hB) ?_;rw[Gj lq hq,eL hB,eL hB,hl,Rat.intCast_add];have p1:=cy hB
 grind
theorem EZ:flt (bT z (lB w)) (bT z' (lB w))=decide (z<z'):=by
 have hB:=(jV W).1;have q1:=(cQ (a:=z) hB).q1;have q2:=(cQ (a:=z') hB).q1;rw[tR (by omega) (by omega),eL hB,eL hB];have p1:=cy hB;have:((z:Rat) / (lB w:Rat)<(z':Rat) / (lB w:Rat))↔z<z':=by
  rw[C6 p1 p1];constructor
  .intro h;exact Rat.intCast_lt_intCast.mp ((Rat.mul_lt_mul_right p1).mp h)
  .intro h;exact(Rat.mul_lt_mul_right p1).mpr (Rat.intCast_lt_intCast.mpr h)
 by_cases h:z<z'
 .rw[decide_eq_true h,decide_eq_true (this.mpr h)]
 .rw[decide_eq_false h,decide_eq_false λe=>h (this.mp e)]
theorem yi{S:BS}(K:dB w tk S)(hp:p∈S.ks):0<=S.Z p/\S.Z p<=6*wJ:=by
 obtain⟨q,_,hq⟩:=K.wk p hp;have h0:=(nC W hw q).1;have h1:=K.bd p hp;have hl:S.ks.length<=w.ps.length:=Cod.nodup_le K.nd K.pl;have n7:=W.n7;have:((S.ks.length:Int)-1)*wJ<=6*wJ:=Int.mul_le_mul_of_nonneg_right (by omega) (by decide);omega
theorem A8(h0:0<=z)(h1:z<=7*wJ):Bd (bT z (lB w)) 130:=by
 have hB:=Hm W hw;have c1:(7:Int)*wJ<2 ^ 130:=by decide
 have c2:(60:Int) ^ 14<2 ^ 130:=by decide
 refine K51.low_bd hB.1 ?_ ?_
 .have:z<2 ^ 130:=by omega
  omega
 .have:lB w<2 ^ 130:=by omega
  omega
end
end Bfd
namespace K18
open PySem L2 DL
abbrev aJ:Addr->ac->ac->ai (D×ac):=Bor.aJ
abbrev aX:ac->ai D:=Cod.aX
abbrev cq:Addr->ac->ac->ai (D×ac):=Bor.cq
abbrev cp:Addr->ac->ac->ai (D×ac):=Bor.cp
abbrev c3:Addr->ac->ac->ai (D×ac):=Bor.c3
noncomputable def jA:Addr->Ev->ac->ai c8:=λa=>
 (jd (eD 3 (cg 0 a (bO (mB (mP (dC (.int 2))) (cg 0 a (bO (mP (aa (ae 1) (dC (.int 1)) gW)) dh) aJ) cb) dh) c3))
 (jd (eI (bE 4 (au (ah (ae 3) aG) (m1 dE))))
 (jd (eI (mQ 5 (au aG du)))
 (jd (vm (yS (cg 0 a (bO (mP (aa (ae 2) (dC (.int 1)) cb)) dh) aJ)) (bF 6)
 (b7 (Cv 5 (cg 0 a (bO (mP (ae 3)) (bO (mP (ae 6)) dh)) cp))
 dN))
 (jd (eI (bE 7 (dC (.int 0))))
 (jd (eI (bE 8 (aa (ae 4) (dC (.int 1)) gW)))
 (jd (Hj (mB (cg 0 a (bO (mP (dC (.int 2))) dh) aJ) (mP (dC (.int 0))) lG)
 (b7 (eD 7 (cg 0 a (bO (mP (ae 4)) dh) aJ))
 (b7 (eD 8 (mB (mB (mP (aa (ae 7) (dC (.int 1)) cb)) (cg 0 a (bO (mP (aa (ae 4) (dC (.int 1)) gW)) dh) aJ) cb) (mP (ae 4)) cN))
 dN))
 dN)
 (yU 5 (ae 3) (ah (aa (ae 3) (ae 7) aP) (ah (aa (ae 3) (ae 8) aP) aG))))))))))
def cS:Addr->ac->ac->ai (D×ac):=uI 9 jA
abbrev bH:ac->ai D:=Bor.bH
abbrev bp:ac->ai D:=K11.bp
abbrev bN:ac->ai D:=K12.bN
abbrev bX:ac->ai D:=K51.bX
abbrev bx:ac->ai D:=Bfd.bx
abbrev bM:ac->ai D:=Bfd.bM
noncomputable def iY:am :=
 (aw (dH (cm (ae 1) (fq "str"))
 (aw (bB (aa (ae 0) (ae 1) lG))
 ao)
 ao)
 (aw (dH (jf (cF (cm (ae 0) (fq "tuple"))) (jf (aa (au (ah (ae 0) aG) (m1 dE)) (dC (.int 2)) iW) (aa (ae 0) (ae 1) iW)))
 (aw (bB (dC (.bl false)))
 ao)
 ao)
 (aw (bB (aa (dA 1 [] (Ae (ae 0)) (bF 0) (jf (cm (ae 0) (fq "bool")) (cF (cm (ae 0) (fq "int")))) (ae 0)) (au aG du) lG))
 ao)))
def cM:ac->ai D:=ck 2 iY
abbrev bo:ac->ai D:=Bfd.bo
abbrev m_is_name:ac->ai D:=Com.m_is_name
abbrev m_look_at_places:ac->ai D:=Com.m_look_at_places
abbrev m_is_whole:ac->ai D:=Com.m_is_whole
abbrev m_common_divisor:ac->ai D:=Com.m_common_divisor
abbrev m_is_ratio:ac->ai D:=Com.m_is_ratio
abbrev m_is_length:ac->ai D:=Com.m_is_length
abbrev m_is_worth:ac->ai D:=Com.m_is_worth
abbrev m_is_tie:ac->ai D:=Com.m_is_tie
abbrev m_look_at_ties:ac->ai D:=Com.m_look_at_ties
abbrev m_is_place:ac->ai D:=Com.m_is_place
abbrev m_look_at_web:ac->ai D:=Com.m_look_at_web
abbrev m_is_tie_number:ac->ai D:=Com.m_is_tie_number
abbrev m_ratio:ac->ai D:=Com.m_ratio
abbrev m_minus:ac->ai D:=Vlu.m_minus
abbrev m_value_by:ac->ai D:=Vlu.m_value_by
abbrev m_shared_bottom:ac->ai D:=Com.m_shared_bottom
abbrev m_as_whole:ac->ai D:=Com.m_as_whole
abbrev m_on_one_scale:ac->ai D:=Com.m_on_one_scale
abbrev m_scaled_lengths:ac->ai D:=K17.m_scaled_lengths
abbrev m_steps_along:ac->ai D:=K11.m_steps_along
abbrev m_steps_left:ac->ai D:=K51.m_steps_left
abbrev m_nearest_step:ac->ai D:=K17.m_nearest_step
abbrev m_all_reached:ac->ai D:=K17.m_all_reached
abbrev m_shortest:ac->ai D:=K17.m_shortest
noncomputable def qi:am :=
 (aw (nL (au (ah (ae 0) aG) m_look_at_web))
 (aw (dH (cF (au (ah (ae 0) (ah (ae 1) aG)) m_is_tie_number))
 (aw dG
 ao)
 ao)
 (aw (bB (au (ah (aa (au (ah (ae 0) (ah (au aG du) aG)) m_shortest) (dC (.int 1)) aP) (ah (aa (au (ah (ae 0) (ah (au (ah (ae 1) aG) du) aG)) m_shortest) (dC (.int 1)) aP) aG)) m_value_by))
 ao)))
def eZ:ac->ai D:=ck 2 qi
noncomputable def gK:am :=
 (aw (bE 1 (au (ah (ae 0) aG) (m1 pR)))
 (aw (bE 2 (pS (au (ah (ae 0) (ah (au aG du) aG)) bx) (aa (ae 0) (dC (.int 3)) aP)))
 (aw (bE 3 (au (ah (ae 0) aG) bM))
 (aw (qH (aa (au (ah (aa (au (ah (ae 3) aG) (m1 dE)) (dC (.int 1)) gW) (ah (cm (dC (.int 1)) Df) (ah (cm (dC (.int 1)) Df) aG))) mz) (Eg (au (ah (dC (.int 0)) aG) du) (au (ah (aa (ae 3) (au aG du) iW) aG) (m1 iB))) cb) (bF 4)
 (aw (dH (cF (au (ah (au (ah (ae 0) (ah (ae 4) aG)) eZ) (ah (au (ah (ae 2) (ah (aa (ae 3) (ae 4) aP) aG)) bo) aG)) cM))
 (aw (bB (dC (.bl false)))
 ao)
 ao)
 ao))
 (aw (bB (aa (au (ah (ae 0) aG) (m1 pR)) (ae 1) lG))
 ao)))))
def bP:ac->ai D:=ck 5 gK
noncomputable def F9:am :=
 (aw (nK (au (ah (dC (.int 1)) (ah (au (ah (au (ah (ae 0) aG) (m1 dE)) (ah (dC (.int 2)) aG)) (m2 Fe)) aG)) (m2 HS)) (bF 1)
 (fu 2 (Ds (au (ah (ae 0) (ah (ae 1) aG)) bH) (ah (dC (.int 7)) (ah (dC (.int 14)) aG))) cS
 (aw (dH (cF (au (ah (ae 2) aG) bP))
 (aw (bB (dC (.bl false)))
 ao)
 ao)
 (aw (dH (aa (aa (ae 2) (dC (.int 1)) aP) (au aG du) iW)
 (aw (Bx 2)
 (aw (dH (cF (au (ah (ae 2) aG) bP))
 (aw (bB (dC (.bl false)))
 ao)
 ao)
 ao))
 ao)
 ao))))
 (aw (bB (dC (.bl true)))
 ao))
noncomputable def m_law:ac->ai D:=ck 3 F9
def top(i:Nat):Stmt:=PySem.Challenge.pw_farthestcut_k18_values_one_by_one.main.body.getD i (.Pass ⟨0,0,0,0⟩)
noncomputable def rows:List Rw:=[
 ⟨"_law_take",top 55,["_law_state","_law_many","_law_digit","_law_made","_law_turn"],2⟩,
 ⟨"_law_low",top 56,["_law_top","_law_bottom","_law_one","_law_other"],2⟩,
 ⟨"_law_amount",top 57,["_law_state","_law_least","_law_way","_law_top","_law_many","_law_bottoms"],2⟩,
 ⟨"_law_tie",top 59,["_law_state","_law_names_here","_law_k","_law_many","_law_one","_law_other","_law_word","_law_length","_law_worth"],3⟩,
 ⟨"_law_names",top 58,["_law_state","_law_many","_law_letters","_law_long","_law_at","_law_turn","_law_step","_law_nested","_law_found","_law_k","_law_one"],2⟩,
 ⟨"_law_web",top 60,["_law_state","_law_most","_law_more","_law_names_here","_law_many","_law_ties","_law_k","_law_first","_law_last"],3⟩,
 ⟨"_law_begun",top 54,["_law_script","_law_k","_law_cell"],2⟩,
 ⟨"_law_there",top 64,["_law_tie_here","_law_here"],2⟩,
 ⟨"_law_plus",top 62,["_law_one","_law_other"],2⟩,
 ⟨"_law_less",top 63,["_law_one","_law_other"],2⟩,
 ⟨"_law_far",top 65,["_law_web_here","_law_gone","_law_far_here","_law_turn","_law_still","_law_k","_law_tie_here","_law_here","_law_there_here","_law_more"],2⟩,
 ⟨"_law_withouts",top 66,["_law_web_here"],1⟩,
 ⟨"_law_is",top 68,["_law_told","_law_due"],2⟩,
 ⟨"_law_value",top 67,["_law_least","_law_without"],2⟩,
 ⟨"is_name",top 12,["thing"],1⟩,
 ⟨"look_at_places",top 35,["places","number","place"],1⟩,
 ⟨"is_whole",top 10,["thing"],1⟩,
 ⟨"common_divisor",top 6,["one","other","larger","smaller","rest"],2⟩,
 ⟨"is_ratio",top 11,["thing"],1⟩,
 ⟨"is_length",top 31,["thing"],1⟩,
 ⟨"is_worth",top 32,["thing"],1⟩,
 ⟨"is_tie",top 30,["thing"],1⟩,
 ⟨"look_at_ties",top 36,["ties","places","number","tie"],2⟩,
 ⟨"is_place",top 37,["thing","places"],2⟩,
 ⟨"look_at_web",top 34,["thing"],1⟩,
 ⟨"is_tie_number",top 33,["web","thing"],2⟩,
 ⟨"ratio",top 14,["top","bottom","divisor"],2⟩,
 ⟨"minus",top 15,["one","other"],2⟩,
 ⟨"value_by",top 52,["length","length_without"],2⟩,
 ⟨"shared_bottom",top 43,["some","bottom","one"],1⟩,
 ⟨"as_whole",top 44,["one","bottom"],2⟩,
 ⟨"on_one_scale",top 42,["some","bottom"],1⟩,
 ⟨"scaled_lengths",top 47,["web"],1⟩,
 ⟨"steps_along",top 39,["tie","there"],1⟩,
 ⟨"steps_left",top 40,["web","taken","steps","number","tie","here","there"],2⟩,
 ⟨"nearest_step",top 49,["steps","sizes","found","nearest","number","here","there","size"],3⟩,
 ⟨"all_reached",top 48,["web","taken","sizes","steps","found","nearest"],3⟩,
 ⟨"shortest",top 46,["web","taken","scaled","found","prices","place"],2⟩,
 ⟨"value_of",top 51,["web","number"],2⟩,
 ⟨"_law_right",top 69,["_law_web_here","_law_kept","_law_least","_law_withouts_here","_law_number"],1⟩,
 ⟨"law",top 70,["_law_script","_law_k","_law_web_here"],1⟩]
def sc:KG rows:=by decide +kernel
theorem nd(i:Nat)(h:rows[i]?=some r:=by rfl):r.N.Nodup:=(sc r (List.mem_of_getElem? h)).nd
def bn:∀r∈rows,Kr r:=by
 unfold rows
 repeat refine List.forall_mem_cons.mpr ⟨by first|exact MG|exact MF|exact ME|exact bd4|exact bd5,?_⟩
 exact λ_ h=>nomatch h
set_option genInjectivity false in
set_option genSizeOfSpec false in
structure Adr where
 A:Nat->Addr
 Q:Nat->FuncData
set_option genInjectivity false in
set_option genSizeOfSpec false in
structure Txt (K:W.Frag) (mg:Str->Option Value) (t:Adr):Prop where
 g:TG rows K mg t.A t.Q
 n_abs:mg "abs"=none
 n_all:mg "all"=none
 n_bool:mg "bool"=none
 n_enumerate:mg "enumerate"=none
 n_int:mg "int"=none
 n_isinstance:mg "isinstance"=none
 n_len:mg "len"=none
 n_list:mg "list"=none
 n_max:mg "max"=none
 n_min:mg "min"=none
 n_range:mg "range"=none
 n_repr:mg "repr"=none
 n_str:mg "str"=none
 n_tuple:mg "tuple"=none
 eF:uv K mg "FEWEST_PLACES" (.int 2)
 lr:uv K mg "FIRST" (.int 2)
 jy:uv K mg "LAST" (.int 3)
 lp:uv K mg "LENGTH" (.int 3)
 l4:uv K mg "LETTERS" (.str "abcdefghijklmnopqrstuvwxyz")
 fg:uv K mg "LONGEST_NAME" (.int 8)
 fK:uv K mg "MOST_PLACES" (.int 7)
 iC:uv K mg "MOST_TIES" (.int 14)
 qe:uv K mg "ONE" (.int 0)
 gH:uv K mg "OTHER" (.int 1)
 ff:uv K mg "PLACES" (.int 0)
 l3:uv K mg "TIES" (.int 1)
 qd:uv K mg "WORD" (.int 2)
 uo:uv K mg "WORDS" (.tup [(.str "one"),(.str "both")])
 um:uv K mg "WORTH" (.int 4)
section
variable {P:Program}{w:World}{K:W.Frag}{mg:Str->Option Value}{base:Heap}{t:Adr}
def aR(T:Txt K mg t):eJ P w K mg base CX0 1 (t.A 0) (t.Q 0) ["_law_state","_law_many"] (FE K 1 aJ) "_law_take" (top 55) :=
 oM T.g sc (i:=0) rfl rfl λ_ _ _ _ _ _ _ _ _ _=>(
 (aK (yl (C1 (i:=0) (E:=E0) (bI (aq (dv 0) aj)))
 (aK (cR (i:=2) (nd 0) rfl (Or.inl rfl) (kZ (i:=0) (E:=E0) (eE (aq (dv 0) aj) (dv 1))))
 (aK (wW (i:=0) rfl (Or.inl rfl) (kZ (i:=0) (E:=E0) (iz (aq (dv 0) aj) (dv 1))) (aO (E:=E0) aj))
 (aK (wW (i:=0) rfl (Or.inl rfl) (kZ (i:=0) (E:=E0) (dw yI (dm λ_ _ _ _=>rb _) (aq (dv 0) aj) aj nm)) (aO (E:=E0) aj))
 (aK (m4 (E:=E0) (dv 2))
 cP))))
 cP)
 (aK (cZ (E:=E0) λvs=>(bg (i:=3) (nd 0) rfl (Or.inl rfl) aj))
 (aK (ym (E:=E0) PassesOwn.never rfl (yR (E:=E0) (lY rfl T.n_range (de aj (cz aj (wm sD Dj rfl T.n_int PyProof.Rows.Boot.«int» (af (dw yI (dm λ_ _ _ _=>rb _) (dv 1) (xM aj aj) nm) az)))))) (λvs=>(cf (i:=4) (nd 0) rfl (Or.inl rfl))) cL
 (aK (wW (i:=0) rfl (Or.inl rfl) (kZ (i:=0) (E:=E0) (eE (de (cz (aq (dv 0) aj) aj) aj) aj)) (aO (E:=E0) aj))
 (aK (cR (i:=3) (nd 0) rfl (Or.inl rfl) (kZ (i:=0) (E:=E0) (de (cz (dv 3) aj) (eE (cz (aq (dv 0) aj) (aq (dv 0) aj)) aj))))
 cP)))
 (aK (m4 (E:=E0) (eE (iz (dv 3) aj) (dv 1)))
 cP)))))
def g9(T:Txt K mg t):eJ P w K mg base CX0 1 (t.A 1) (t.Q 1) ["_law_top","_law_bottom"] (spD K 2 aX) "_law_low" (top 56) :=
 oD T.g sc (i:=1) rfl λ_ _ _ _ _ _ _ hr=>(
 (ag (bg (i:=2) (nd 1) rfl (Or.inl rfl) (bq qc xT rfl T.n_abs PyProof.Rows.Boot.«abs» (af (dv 0) az)))
 (ag (bg (i:=3) (nd 1) rfl (Or.inl rfl) (dv 1))
 (ag (pH _ PassesOwn.never (aZ (gu hr.units) jR (dv 3) aj nm)
 (ag (HH (i:=2) (j:=3) rfl (nd 1) rfl rfl (by decide) rfl rfl (af (dv 3) (af (eE (dv 2) (dv 3)) az)) rfl)
 ak))
 (ag (aM (d7 (af (iz (dv 0) (dv 2)) (af (iz (dv 1) (dv 2)) az))))
 ak)))))
def ia(T:Txt K mg t):eJ P w K mg base CX0 2 (t.A 2) (t.Q 2) ["_law_state","_law_least"] (FE K 1 cq) "_law_amount" (top 57) :=
 oM T.g sc (i:=2) rfl rfl λ_ _ _ _ _ _ _ _ _ hr=>(
 (aK (cR (i:=2) (nd 2) rfl (Or.inl rfl) (rM 0 (aR T) hr (bc (aO (E:=E0) aj) bD)))
 (aK (cR (i:=3) (nd 2) rfl (Or.inl rfl) (pK (aO (E:=E0) (dv 1)) (rM 0 (aR T) hr (bc (aO (E:=E0) (aq (da (af aj (af aj (af aj (af aj (af aj (af (xM aj aj) az))))))) (dv 2))) bD))))
 (aK (cZ (E:=E0) λvs=>(bg (i:=4) (nd 2) rfl (Or.inl rfl) (aq (da (af aj (af aj (af aj (af aj (af aj (af aj az))))))) (dv 2))))
 (aK (cZ (E:=E0) λvs=>(bg (i:=5) (nd 2) rfl (Or.inl rfl) (da (af aj (af aj (af aj (af aj (af aj (af aj (af aj (af aj (af aj (af aj (af aj (af aj az)))))))))))))))
 (aK (Gw (Mx (g9 T) hr (bc (aO (E:=E0) (dv 3)) (bc (ud (aO (E:=E0) (dv 5)) (rM 0 (aR T) hr (bc (aO (E:=E0) (dv 4)) bD))) bD))))
 cP))))))
def vc(T:Txt K mg t):eJ P w K mg base CX0 3 (t.A 3) (t.Q 3) ["_law_state","_law_names_here","_law_k"] (FE K 2 cp) "_law_tie" (top 59) :=
 oM T.g sc (i:=3) rfl rfl λ_ _ _ _ _ _ _ _ _ hr=>(
 (aK (cZ (E:=E0) λvs=>(bg (i:=3) (nd 3) rfl (Or.inl rfl) (bq bU df rfl T.n_len PyProof.Rows.Boot.«len» (af (dv 1) az))))
 (aK (cR (i:=4) (nd 3) rfl (Or.inl rfl) (rM 0 (aR T) hr (bc (aO (E:=E0) (dv 3)) bD)))
 (aK (cR (i:=5) (nd 3) rfl (Or.inl rfl) (C2 (pK (aO (E:=E0) (de (dv 4) aj)) (rM 0 (aR T) hr (bc (aO (E:=E0) (jv (dv 3) aj)) bD))) (aO (E:=E0) (dv 3))))
 (aK (yl (uc (E:=E0) (dr hr.units) eX (rM 0 (aR T) hr (bc (aO (E:=E0) aj) bD)) (aO (E:=E0) aj) nm)
 (aK (cZ (E:=E0) λvs=>(bg (i:=4) (nd 3) rfl (Or.inl rfl) (eE (dv 2) (dv 3))))
 (aK (cZ (E:=E0) λvs=>(bg (i:=5) (nd 3) rfl (Or.inl rfl) (eE (de (dv 2) aj) (dv 3))))
 cP))
 cP)
 (aK (cR (i:=6) (nd 3) rfl (Or.inl rfl) (ud (aO (E:=E0) (da (af fI (af fI az)))) (rM 0 (aR T) hr (bc (aO (E:=E0) aj) bD))))
 (aK (cR (i:=7) (nd 3) rfl (Or.inl rfl) (rM 0 (ia T) hr (bc (aO (E:=E0) aj) bD)))
 (aK (cR (i:=8) (nd 3) rfl (Or.inl rfl) (rM 0 (ia T) hr (bc (aO (E:=E0) aj) bD)))
 (aK (yl (uc (E:=E0) (dr hr.units) eX (rM 0 (aR T) hr (bc (aO (E:=E0) aj) bD)) (aO (E:=E0) aj) nm)
 (aK (cZ (E:=E0) λvs=>(bg (i:=8) (nd 3) rfl (Or.inl rfl) cW))
 cP)
 cP)
 (aK (m4 (E:=E0) (d7 (af (aq (dv 1) (dv 4)) (af (aq (dv 1) (dv 5)) (af (dv 6) (af (dv 7) (af (dv 8) az)))))))
 cP))))))))))
def qM(T:Txt K mg t):eJ P w K mg base CX0 2 (t.A 4) (t.Q 4) ["_law_state","_law_many"] (FE K 1 c3) "_law_names" (top 58) :=
 oM T.g sc (i:=4) rfl rfl λ_ _ _ _ H He _ _ _ hr=>(
 (aK (Ef (i:=2) (nd 4) rfl rfl (Lm (E:=E0) ["_law_k","_law_state"] 1 [0] rfl (yR (E:=E0) (lY rfl T.n_range aj)) (eg (by decide)) (λs H C fp pn=>⟨λHe H0e=>(cf (i:=0) (show List.Nodup (["_law_k","_law_state"]:List Str) from by decide) rfl (Or.inl rfl)),λHe H0e=>(rM 1 (aR T) hr (bc (aO (E:=E0) aj) bD))⟩) ⟨rfl,rfl⟩ rfl rfl rfl rfl) xR)
 (aK (cR (i:=3) (nd 4) rfl (Or.inl rfl) (pK (aO (E:=E0) aj) (rM 0 (aR T) hr (bc (aO (E:=E0) aj) bD))))
 (aK (cR (i:=4) (nd 4) rfl (Or.inl rfl) (rM 0 (aR T) hr (bc (aO (E:=E0) (dv 3)) bD)))
 (aK (cR (i:=5) (nd 4) rfl (Or.inl rfl) (rM 0 (aR T) hr (bc (aO (E:=E0) aj) bD)))
 (aK (cR (i:=6) (nd 4) rfl (Or.inl rfl) (ud (aO (E:=E0) (da (af aj (af aj (af aj (af aj (af aj (af aj az)))))))) (rM 0 (aR T) hr (bc (aO (E:=E0) aj) bD))))
 (aK (cR (i:=7) (nd 4) rfl (Or.inl rfl) (HJ (E:=E0) (dr hr.units) eX (rM 0 (aR T) hr (bc (aO (E:=E0) aj) bD)) (aO (E:=E0) aj) nm))
 (aK (cZ (E:=E0) λvs=>(pI (i:=8) (nd 4) rfl (Or.inl rfl) (pP az)))
 (aK (cZ (E:=E0) λvs=>(nq PassesOwn.never rfl rfl T.n_range (dv 1) (cf (i:=9) (nd 4) rfl (Or.inl rfl)) cL
 (ag (pI (i:=10) (nd 4) rfl (Or.inl rfl) (we (dv 2) nu (nt (dv 3))))
 (ag (HG (i:=10) rfl (Or.inl rfl) (eE (de (dv 5) (cz (dv 6) (dv 9))) aj) (dv 4))
 (ag (bJ (bI (dv 7))
 (ag (pI (i:=10) (nd 4) rfl (Or.inl rfl) (we (dv 2) nu (nt (de aj (eE (de (dv 5) (dv 9)) aj)))))
 ak)
 ak)
 (ag (HI 10 (rQ (i:=8) rfl (Or.inl rfl) (E9 fI (af (pQ (xO ["_law_letter"] 1 [] rfl (nv (dv 10)) (eg (by decide)) (λs H C fp pn=>⟨λHe H0e=>(cf (i:=0) (show List.Nodup (["_law_letter"]:List Str) from by decide) rfl (Or.inl rfl)),k8,(aq fI (dv 0))⟩) ⟨rfl,rfl⟩ rfl rfl rfl rfl)) az))))
 ak))))))
 (aK (m4 (E:=E0) (dv 8))
 cP))))))))))
def vb(T:Txt K mg t):eJ P w K mg base CX0 4 (t.A 5) (t.Q 5) ["_law_state","_law_most","_law_more"] (Bo K 2 cS) "_law_web" (top 60) :=
 Mz T.g sc (i:=5) rfl rfl λ_ _ _ _ _ _ _ _ _ hr=>(
 (d5 (cR (i:=3) (nd 5) rfl (Or.inl rfl) (rM 0 (qM T) hr (bc (pK (aO (E:=E0) aj) (rM 0 (aR T) hr (bc (aO (E:=E0) (jv (dv 1) aj)) bD))) bD)))
 (d5 (cZ (E:=E0) λvs=>(bg (i:=4) (nd 5) rfl (Or.inl rfl) (bq bU df rfl T.n_len PyProof.Rows.Boot.«len» (af (dv 3) az))))
 (d5 (cZ (E:=E0) λvs=>(pI (i:=5) (nd 5) rfl (Or.inl rfl) (pP az)))
 (d5 (ym (E:=E0) PassesOwn.never rfl (Az rfl T.n_range (rM 0 (aR T) hr (bc (aO (E:=E0) (de (dv 2) aj)) bD))) (λvs=>(cf (i:=6) (nd 5) rfl (Or.inl rfl))) cL
 (aK (Ag (i:=5) rfl (Or.inl rfl) (rM 0 (vc T) hr (bc (aO (E:=E0) (dv 3)) (bc (aO (E:=E0) (dv 6)) bD))))
 cP))
 (d5 (cZ (E:=E0) λvs=>(bg (i:=7) (nd 5) rfl (Or.inl rfl) aj))
 (d5 (cZ (E:=E0) λvs=>(bg (i:=8) (nd 5) rfl (Or.inl rfl) (jv (dv 4) aj)))
 (d5 (yl (uc (E:=E0) (dr hr.units) eX (rM 0 (aR T) hr (bc (aO (E:=E0) aj) bD)) (aO (E:=E0) aj) nm)
 (aK (cR (i:=7) (nd 5) rfl (Or.inl rfl) (rM 0 (aR T) hr (bc (aO (E:=E0) (dv 4)) bD)))
 (aK (cR (i:=8) (nd 5) rfl (Or.inl rfl) (C2 (pK (aO (E:=E0) (de (dv 7) aj)) (rM 0 (aR T) hr (bc (aO (E:=E0) (jv (dv 4) aj)) bD))) (aO (E:=E0) (dv 4))))
 cP))
 cP)
 (Bp (E:=E0) (i:=5) rfl (Or.inl rfl) (dv 3) (af (aq (dv 3) (dv 7)) (af (aq (dv 3) (dv 8)) az)))))))))))
def nZ(T:Txt K mg t):eJ P w K mg base CX0 1 (t.A 6) (t.Q 6) ["_law_script","_law_k"] (I0 K 2 bH) "_law_begun" (top 54) :=
 oF T.g sc (i:=6) rfl λ_ _ _ _ _ _ _ _=>(
 (rP (bg (i:=2) (nd 6) rfl (Or.inl rfl) aj)
 (rP (bJ (aZ uZ (dm λ_ _ _ _=>rb _) (dv 1) (bq bU df rfl T.n_len PyProof.Rows.Boot.«len» (af (dv 0) az)) nm)
 (ag (bg (i:=2) (nd 6) rfl (Or.inl rfl) (aq (dv 0) (dv 1)))
 ak)
 ak)
 (AL (pP (af (dv 2) (af (eE (de (de (eE (dv 2) aj) (cz (cz aj (dv 1)) (dv 1))) aj) aj) (af (dw Ca (dm λ_ _ _ _=>rb _) (dv 2) (xM aj aj) nm) az))))))))
def qL(T:Txt K mg t):eJ P w K mg base CX0 1 (t.A 7) (t.Q 7) ["_law_tie_here","_law_here"] (spD K 2 bp) "_law_there" (top 64) :=
 oD T.g sc (i:=7) rfl λ_ _ _ _ _ _ _ hr=>(
 (ag (bJ (aZ (dr hr.units) eX (aq (dv 0) aj) (dv 1) nm)
 (ag (aM (aq (dv 0) aj))
 ak)
 ak)
 (ag (bJ (DW.dt (tZ (aZ (dr hr.units) eX (aq (dv 0) aj) (dv 1) nm) (ju (aZ (dr hr.units) eX (aq (dv 0) aj) fI nm))))
 (ag (aM (aq (dv 0) aj))
 ak)
 ak)
 (ag (aM cW)
 ak))))
def tw(T:Txt K mg t):eJ P w K mg base CX0 2 (t.A 8) (t.Q 8) ["_law_one","_law_other"] (spD K 2 bN) "_law_plus" (top 62) :=
 oD T.g sc (i:=8) rfl λ_ _ _ _ _ _ _ hr=>(
 (ag (aM (rC (g9 T) hr (af (de (cz (aq (dv 0) aj) (aq (dv 1) aj)) (cz (aq (dv 1) aj) (aq (dv 0) aj))) (af (cz (aq (dv 0) aj) (aq (dv 1) aj)) az))))
 ak))
def tE(T:Txt K mg t):eJ P w K mg base CX0 1 (t.A 9) (t.Q 9) ["_law_one","_law_other"] (spD K 2 bX) "_law_less" (top 63) :=
 oD T.g sc (i:=9) rfl λ_ _ _ _ _ _ _ _=>(
 (ag (aM (dw uZ (dm λ_ _ _ _=>rb _) (cz (aq (dv 0) aj) (aq (dv 1) aj)) (cz (aq (dv 1) aj) (aq (dv 0) aj)) nm))
 ak))
def mq(T:Txt K mg t):eJ P w K mg base CX0 3 (t.A 10) (t.Q 10) ["_law_web_here","_law_gone"] (spD K 2 bx) "_law_far" (top 65) :=
 oD T.g sc (i:=10) rfl λ_ _ _ _ _ _ _ hr=>(
 (ag (ua (i:=2) (nd 10) rfl (Or.inl rfl) (rY (aq (dv 0) aj) (d7 (af aj (af aj az)))))
 (ag (nq PassesOwn.never rfl rfl T.n_range (bq bU df rfl T.n_len PyProof.Rows.Boot.«len» (af (aq (dv 0) aj) az)) (cf (i:=3) (nd 10) rfl (Or.inl rfl)) cL
 (ag (bg (i:=4) (nd 10) rfl (Or.inl rfl) fV)
 (ag (nq PassesOwn.never rfl rfl T.n_range (bq bU df rfl T.n_len PyProof.Rows.Boot.«len» (af (aq (dv 0) aj) az)) (cf (i:=5) (nd 10) rfl (Or.inl rfl)) cL
 (ag (bg (i:=6) (nd 10) rfl (Or.inl rfl) (aq (aq (dv 0) aj) (dv 5)))
 (ag (nr PassesOwn.never rfl (C9 (rZ (dv 6) nu (nt aj))) (cf (i:=7) (nd 10) rfl (Or.inl rfl)) cL
 (ag (bg (i:=8) (nd 10) rfl (Or.inl rfl) (rC (qL T) hr (af (dv 6) (af (dv 7) az))))
 (ag (bJ (DW.dt (tZ (aZ (g7 hr.units) ib (dv 5) (dv 1) rfl) (tZ (aZ tj tH (dv 8) cW nm) (ju (aZ (xm (uw hr.units)) xo (dv 7) (dv 2) rfl)))))
 (ag (t8 (i:=9) (nd 10) rfl (Or.inl rfl) (rC (tw T) hr (af (gD (uw hr.units) (dv 2) (dv 7)) (af (aq (dv 6) aj) az))))
 (ag (bJ (DW.dt (dz (aZ (lO (uw hr.units)) lS (dv 8) (dv 2) rfl) (bC (bI (rC (tE T) hr (af (dv 9) (af (gD (uw hr.units) (dv 2) (dv 8)) az)))))))
 (ag (t9 (i:=2) (uw hr.units) rfl (Or.inl rfl) (dv 9) (dv 8))
 (ag (bg (i:=4) (nd 10) rfl (Or.inl rfl) fV)
 ak))
 ak)
 ak))
 ak)
 ak)))
 ak)))
 (ag (bJ (bI (dv 4))
 (ag (aM (dv 2))
 ak)
 ak)
 ak))))
 (ag (aM (dv 2))
 ak))))
def lR(T:Txt K mg t):eJ P w K mg base CX0 4 (t.A 11) (t.Q 11) ["_law_web_here"] (spD K 1 bM) "_law_withouts" (top 66) :=
 oD T.g sc (i:=11) rfl λ_ _ _ _ H _ _ hr=>(
 (ag (aM (pQ (xO ["_law_k","_law_web_here"] 1 [0] rfl (lY rfl T.n_range (bq bU df rfl T.n_len PyProof.Rows.Boot.«len» (af (aq (dv 0) aj) az))) (eg (by decide)) (λs H C fp pn=>⟨λHe H0e=>(cf (i:=0) (show List.Nodup (["_law_k","_law_web_here"]:List Str) from by decide) rfl (Or.inl rfl)),k8,(wj (uw hr.units) (rC (mq T) hr (af (dv 1) (af (da (af (dv 0) az)) az))) (aq (dv 1) aj) ⟨rfl,e7 rfl,rfl,by rw[dF rfl];rfl⟩)⟩) ⟨rfl,rfl⟩ rfl rfl rfl rfl)))
 ak))
def xn(T:Txt K mg t):eJ P w K mg base CX0 1 (t.A 12) (t.Q 12) ["_law_told","_law_due"] (spD K 2 cM) "_law_is" (top 68) :=
 oD T.g sc (i:=12) rfl λ_ _ _ _ H _ _ hr=>(
 (ag (bJ (bI (bZ jr rfl T.n_isinstance rfl T.n_str PyProof.Rows.Boot.«str» (dv 1)))
 (ag (aM (dw (dr hr.units) eX (dv 0) (dv 1) nm))
 ak)
 ak)
 (ag (bJ (DW.dt (dz (bS (bI (bZ eN rfl T.n_isinstance rfl T.n_tuple PyProof.Rows.Boot.«tuple» (dv 0)))) (dz (aZ (gu hr.units) jR (bq bU df rfl T.n_len PyProof.Rows.Boot.«len» (af (dv 0) az)) aj nm) (bC (aZ (gu hr.units) jR (dv 0) (dv 1) nm)))))
 (ag (aM fV)
 ak)
 ak)
 (ag (aM (dw (dr hr.units) eX (pQ (xO ["_law_one"] 1 [] rfl (C9 (dv 0)) (eg (by decide)) (λs H C fp pn=>⟨λHe H0e=>(cf (i:=0) (show List.Nodup (["_law_one"]:List Str) from by decide) rfl (Or.inl rfl)),(zL (DW.dt (dz (bI (bZ mw rfl T.n_isinstance rfl T.n_bool PyProof.Rows.Boot.«bool» (dv 0))) (bC (bS (bI (bZ og rfl T.n_isinstance rfl T.n_int PyProof.Rows.Boot.«int» (dv 0)))))))),(dv 0)⟩) ⟨rfl,rfl⟩ rfl rfl rfl rfl)) (da az) nm))
 ak))))
def qK(T:Txt K mg t):eJ P w K mg base CX0 2 (t.A 13) (t.Q 13) ["_law_least","_law_without"] (spD K 2 bo) "_law_value" (top 67) :=
 oD T.g sc (i:=13) rfl λ_ _ _ _ _ _ _ hr=>(
 (ag (bJ (aZ jl jn (dv 0) cW nm)
 (ag (aM fI)
 ak)
 ak)
 (ag (bJ (aZ jl jn (dv 1) cW nm)
 (ag (aM fI)
 ak)
 ak)
 (ag (aM (rC (g9 T) hr (af (jv (cz (aq (dv 1) aj) (aq (dv 0) aj)) (cz (aq (dv 0) aj) (aq (dv 1) aj))) (af (cz (aq (dv 1) aj) (aq (dv 0) aj)) az))))
 ak))))
def gw(T:Txt K mg t):eJ P w K mg base CX0 1 (t.A 14) (t.Q 14) ["thing"] (spD K 1 m_is_name) "is_name" (top 12) :=
 oD T.g sc (i:=14) rfl λ_ _ _ _ H _ _ hr=>(
 (ag (bJ (DW.dt (dz (bS (bI (bZ jr rfl T.n_isinstance rfl T.n_str PyProof.Rows.Boot.«str» (dv 0)))) (bC (bS (vZ u3 u3 (eQ λ_ _ _ _=>rb _) (eQ λ_ _ _ _=>rb _) eR eR aj (bq bU df rfl T.n_len PyProof.Rows.Boot.«len» (af (dv 0) az)) (bf T.fg rfl))))))
 (ag (aM fV)
 ak)
 ak)
 (ag (aM (bq (Dk rfl) Ia rfl T.n_all PyProof.Rows.Boot.«all» (af (pQ (xO ["sign"] 1 [] rfl (HM (dv 0)) (eg (by decide)) (λs H C fp pn=>⟨λHe H0e=>(cf (i:=0) (show List.Nodup (["sign"]:List Str) from by decide) rfl (Or.inl rfl)),k8,(dw (B8 hr.units) Cd (dv 0) (bf T.l4 rfl) rfl)⟩) ⟨rfl,rfl⟩ rfl rfl rfl rfl)) az)))
 ak)))
def jQ(T:Txt K mg t):eJ P w K mg base CX0 2 (t.A 15) (t.Q 15) ["places"] (spD K 1 m_look_at_places) "look_at_places" (top 35) :=
 oD T.g sc (i:=15) rfl λ_ _ _ _ _ _ _ hr=>(
 (ag (bJ (DW.dt (dz (bS (bI (bZ mv rfl T.n_isinstance rfl T.n_list PyProof.Rows.Boot.«list» (dv 0)))) (bC (bS (vZ u3 u3 (eQ λ_ _ _ _=>rb _) (eQ λ_ _ _ _=>rb _) eR eR (bf T.eF rfl) (bq bU df rfl T.n_len PyProof.Rows.Boot.«len» (af (dv 0) az)) (bf T.fK rfl))))))
 (ag dk
 ak)
 ak)
 (ag (nr PassesOwn.never rfl (uf rfl T.n_enumerate (dv 0)) (pO rfl (cV (i:=1) (nd 15) rfl (Or.inl rfl) (cV (i:=2) (nd 15) rfl (Or.inl rfl) k9))) fP
 (ag (bJ (DW.dt (dz (bS (bI (rC (gw T) hr (af (dv 2) az)))) (bC (aZ (B8 hr.units) Cd (dv 2) (rZ (dv 0) nu (nt (dv 1))) rfl))))
 (ag dk
 ak)
 ak)
 ak))
 ak)))
def eh(T:Txt K mg t):eJ P w K mg base CX0 1 (t.A 16) (t.Q 16) ["thing"] (spD K 1 m_is_whole) "is_whole" (top 10) :=
 oD T.g sc (i:=16) rfl λ_ _ _ _ _ _ _ _=>(
 (ag (aM (jx (bZ og rfl T.n_isinstance rfl T.n_int PyProof.Rows.Boot.«int» (dv 0)) (iy (HQ (bZ mw rfl T.n_isinstance rfl T.n_bool PyProof.Rows.Boot.«bool» (dv 0))))))
 ak))
def dJ(T:Txt K mg t):eJ P w K mg base CX0 1 (t.A 17) (t.Q 17) ["one","other"] (spD K 2 m_common_divisor) "common_divisor" (top 6) :=
 oD T.g sc (i:=17) rfl λ_ _ _ _ _ _ _ hr=>(
 (ag (bg (i:=2) (nd 17) rfl (Or.inl rfl) (bq qc xT rfl T.n_abs PyProof.Rows.Boot.«abs» (af (dv 0) az)))
 (ag (bg (i:=3) (nd 17) rfl (Or.inl rfl) (bq qc xT rfl T.n_abs PyProof.Rows.Boot.«abs» (af (dv 1) az)))
 (ag (pH _ PassesOwn.never (aZ (gu hr.units) jR (dv 3) aj nm)
 (ag (bg (i:=4) (nd 17) rfl (Or.inl rfl) (eE (dv 2) (dv 3)))
 (ag (bg (i:=2) (nd 17) rfl (Or.inl rfl) (dv 3))
 (ag (bg (i:=3) (nd 17) rfl (Or.inl rfl) (dv 4))
 ak))))
 (ag (aM (dv 2))
 ak)))))
def ml(T:Txt K mg t):eJ P w K mg base CX0 2 (t.A 18) (t.Q 18) ["thing"] (spD K 1 m_is_ratio) "is_ratio" (top 11) :=
 oD T.g sc (i:=18) rfl λ_ _ _ _ _ _ _ hr=>(
 (ag (bJ (DW.dt (dz (bS (bI (bZ eN rfl T.n_isinstance rfl T.n_tuple PyProof.Rows.Boot.«tuple» (dv 0)))) (bC (aZ (gu hr.units) jR (bq bU df rfl T.n_len PyProof.Rows.Boot.«len» (af (dv 0) az)) aj nm))))
 (ag (aM fV)
 ak)
 ak)
 (ag (bJ (DW.dt (dz (bS (bI (rC (eh T) hr (af (aq (dv 0) aj) az)))) (bC (bS (bI (rC (eh T) hr (af (aq (dv 0) aj) az)))))))
 (ag (aM fV)
 ak)
 ak)
 (ag (aM (jx (dw Ca (dm λ_ _ _ _=>rb _) (aq (dv 0) aj) aj nm) (iy (dw (dr hr.units) eX (rC (dJ T) hr (af (aq (dv 0) aj) (af (aq (dv 0) aj) az))) aj nm))))
 ak))))
def tq(T:Txt K mg t):eJ P w K mg base CX0 3 (t.A 19) (t.Q 19) ["thing"] (spD K 1 m_is_length) "is_length" (top 31) :=
 oD T.g sc (i:=19) rfl λ_ _ _ _ _ _ _ hr=>(
 (ag (aM (jx (rC (ml T) hr (af (dv 0) az)) (iy (dw Ca (dm λ_ _ _ _=>rb _) (aq (dv 0) aj) aj nm))))
 ak))
def u9(T:Txt K mg t):eJ P w K mg base CX0 3 (t.A 20) (t.Q 20) ["thing"] (spD K 1 m_is_worth) "is_worth" (top 32) :=
 oD T.g sc (i:=20) rfl λ_ _ _ _ _ _ _ hr=>(
 (ag (aM (Ke (dw jl jn (dv 0) cW nm) (iy (jx (rC (ml T) hr (af (dv 0) az)) (iy (dw yI (dm λ_ _ _ _=>rb _) (aq (dv 0) aj) aj nm))))))
 ak))
def Au(T:Txt K mg t):eJ P w K mg base CX0 4 (t.A 21) (t.Q 21) ["thing"] (spD K 1 m_is_tie) "is_tie" (top 30) :=
 oD T.g sc (i:=21) rfl λ_ _ _ _ _ _ _ hr=>(
 (ag (bJ (DW.dt (dz (bS (bI (bZ eN rfl T.n_isinstance rfl T.n_tuple PyProof.Rows.Boot.«tuple» (dv 0)))) (bC (aZ (gu hr.units) jR (bq bU df rfl T.n_len PyProof.Rows.Boot.«len» (af (dv 0) az)) aj nm))))
 (ag (aM fV)
 ak)
 ak)
 (ag (bJ (DW.dt (dz (bS (bI (rC (gw T) hr (af (aq (dv 0) (bf T.qe rfl)) az)))) (dz (bS (bI (rC (gw T) hr (af (aq (dv 0) (bf T.gH rfl)) az)))) (bC (aZ (dr hr.units) eX (aq (dv 0) (bf T.qe rfl)) (aq (dv 0) (bf T.gH rfl)) nm)))))
 (ag (aM fV)
 ak)
 ak)
 (ag (bJ (DW.dt (dz (bS (bI (bZ jr rfl T.n_isinstance rfl T.n_str PyProof.Rows.Boot.«str» (aq (dv 0) (bf T.qd rfl))))) (bC (aZ (g7 hr.units) ib (aq (dv 0) (bf T.qd rfl)) (bf T.uo rfl) rfl))))
 (ag (aM fV)
 ak)
 ak)
 (ag (aM (jx (rC (tq T) hr (af (aq (dv 0) (bf T.lp rfl)) az)) (iy (rC (u9 T) hr (af (aq (dv 0) (bf T.um rfl)) az)))))
 ak)))))
def mS(T:Txt K mg t):eJ P w K mg base CX0 5 (t.A 22) (t.Q 22) ["ties","places"] (spD K 2 m_look_at_ties) "look_at_ties" (top 36) :=
 oD T.g sc (i:=22) rfl λ_ _ _ _ _ _ _ hr=>(
 (ag (bJ (DW.dt (dz (bS (bI (bZ mv rfl T.n_isinstance rfl T.n_list PyProof.Rows.Boot.«list» (dv 0)))) (bC (aZ yI (dm λ_ _ _ _=>rb _) (bq bU df rfl T.n_len PyProof.Rows.Boot.«len» (af (dv 0) az)) (bf T.iC rfl) nm))))
 (ag dk
 ak)
 ak)
 (ag (nr PassesOwn.never rfl (uf rfl T.n_enumerate (dv 0)) (pO rfl (cV (i:=2) (nd 22) rfl (Or.inl rfl) (cV (i:=3) (nd 22) rfl (Or.inl rfl) k9))) fP
 (ag (bJ (DW.dt (dz (bS (bI (rC (Au T) hr (af (dv 3) az)))) (dz (aZ (g7 hr.units) ib (aq (dv 3) (bf T.qe rfl)) (dv 1) rfl) (bC (aZ (g7 hr.units) ib (aq (dv 3) (bf T.gH rfl)) (dv 1) rfl)))))
 (ag dk
 ak)
 ak)
 ak))
 ak)))
def mn(T:Txt K mg t):eJ P w K mg base CX0 2 (t.A 23) (t.Q 23) ["thing","places"] (spD K 2 m_is_place) "is_place" (top 37) :=
 oD T.g sc (i:=23) rfl λ_ _ _ _ _ _ _ hr=>(
 (ag (aM (jx (rC (gw T) hr (af (dv 0) az)) (iy (dw (B8 hr.units) Cd (dv 0) (dv 1) rfl))))
 ak))
def nX(T:Txt K mg t):eJ P w K mg base CX0 6 (t.A 24) (t.Q 24) ["thing"] (spD K 1 m_look_at_web) "look_at_web" (top 34) :=
 oD T.g sc (i:=24) rfl λ_ _ _ _ _ _ _ hr=>(
 (ag (bJ (DW.dt (dz (bS (bI (bZ eN rfl T.n_isinstance rfl T.n_tuple PyProof.Rows.Boot.«tuple» (dv 0)))) (bC (aZ (gu hr.units) jR (bq bU df rfl T.n_len PyProof.Rows.Boot.«len» (af (dv 0) az)) aj nm))))
 (ag dk
 ak)
 ak)
 (ag (ub (rC (jQ T) hr (af (aq (dv 0) (bf T.ff rfl)) az)))
 (ag (ub (rC (mS T) hr (af (aq (dv 0) (bf T.l3 rfl)) (af (aq (dv 0) (bf T.ff rfl)) az))))
 (ag (bJ (bS (bI (rC (mn T) hr (af (aq (dv 0) (bf T.lr rfl)) (af (aq (dv 0) (bf T.ff rfl)) az)))))
 (ag dk
 ak)
 ak)
 (ag (bJ (DW.dt (dz (bS (bI (rC (mn T) hr (af (aq (dv 0) (bf T.jy rfl)) (af (aq (dv 0) (bf T.ff rfl)) az))))) (bC (aZ (dr hr.units) eX (aq (dv 0) (bf T.jy rfl)) (aq (dv 0) (bf T.lr rfl)) nm))))
 (ag dk
 ak)
 ak)
 ak))))))
def lQ(T:Txt K mg t):eJ P w K mg base CX0 2 (t.A 25) (t.Q 25) ["web","thing"] (spD K 2 m_is_tie_number) "is_tie_number" (top 33) :=
 oD T.g sc (i:=25) rfl λ_ _ _ _ _ _ _ hr=>(
 (ag (aM (jx (rC (eh T) hr (af (dv 1) az)) (iy (De u3 uZ (eQ λ_ _ _ _=>rb _) (eQ λ_ _ _ _=>rb _) eR eR aj (dv 1) (bq bU df rfl T.n_len PyProof.Rows.Boot.«len» (af (aq (dv 0) (bf T.l3 rfl)) az))))))
 ak))
def u7(T:Txt K mg t):eJ P w K mg base CX0 2 (t.A 26) (t.Q 26) ["top","bottom"] (spD K 2 m_ratio) "ratio" (top 14) :=
 oD T.g sc (i:=26) rfl λ_ _ _ _ _ _ _ hr=>(
 (ag (bJ (DW.dt (dz (bS (bI (rC (eh T) hr (af (dv 0) az)))) (bC (bS (bI (rC (eh T) hr (af (dv 1) az)))))))
 (ag dk
 ak)
 ak)
 (ag (bJ (aZ (dr hr.units) eX (dv 1) aj nm)
 (ag dk
 ak)
 ak)
 (ag (bg (i:=2) (nd 26) rfl (Or.inl rfl) (rC (dJ T) hr (af (dv 0) (af (dv 1) az))))
 (ag (bJ (aZ uZ (dm λ_ _ _ _=>rb _) (dv 1) aj nm)
 (ag (bg (i:=2) (nd 26) rfl (Or.inl rfl) (xN (dv 2)))
 ak)
 ak)
 (ag (aM (d7 (af (iz (dv 0) (dv 2)) (af (iz (dv 1) (dv 2)) az))))
 ak))))))
def Cc(T:Txt K mg t):eJ P w K mg base CX0 3 (t.A 27) (t.Q 27) ["one","other"] (spD K 2 m_minus) "minus" (top 15) :=
 oD T.g sc (i:=27) rfl λ_ _ _ _ _ _ _ hr=>(
 (ag (aM (rC (u7 T) hr (af (jv (cz (aq (dv 0) aj) (aq (dv 1) aj)) (cz (aq (dv 1) aj) (aq (dv 0) aj))) (af (cz (aq (dv 0) aj) (aq (dv 1) aj)) az))))
 ak))
def u6(T:Txt K mg t):eJ P w K mg base CX0 4 (t.A 28) (t.Q 28) ["length","length_without"] (spD K 2 m_value_by) "value_by" (top 52) :=
 oD T.g sc (i:=28) rfl λ_ _ _ _ _ _ _ hr=>(
 (ag (bJ (aZ jl jn (dv 0) cW nm)
 (ag (aM fI)
 ak)
 ak)
 (ag (bJ (aZ jl jn (dv 1) cW nm)
 (ag (aM fI)
 ak)
 ak)
 (ag (aM (rC (Cc T) hr (af (dv 1) (af (dv 0) az))))
 ak))))
def lP(T:Txt K mg t):eJ P w K mg base CX0 2 (t.A 29) (t.Q 29) ["some"] (spD K 1 m_shared_bottom) "shared_bottom" (top 43) :=
 oD T.g sc (i:=29) rfl λ_ _ _ _ _ _ _ hr=>(
 (ag (bg (i:=1) (nd 29) rfl (Or.inl rfl) aj)
 (ag (pJ PassesOwn.never rfl (dv 0) (cf (i:=2) (nd 29) rfl (Or.inl rfl)) cL
 (ag (bg (i:=1) (nd 29) rfl (Or.inl rfl) (cz (iz (dv 1) (rC (dJ T) hr (af (dv 1) (af (aq (dv 2) aj) az)))) (aq (dv 2) aj)))
 ak))
 (ag (aM (dv 1))
 ak))))
def va(T:Txt K mg t):eJ P w K mg base CX0 1 (t.A 30) (t.Q 30) ["one","bottom"] (spD K 2 m_as_whole) "as_whole" (top 44) :=
 oD T.g sc (i:=30) rfl λ_ _ _ _ _ _ _ _=>(
 (ag (aM (cz (aq (dv 0) aj) (iz (dv 1) (aq (dv 0) aj))))
 ak))
def mR(T:Txt K mg t):eJ P w K mg base CX0 3 (t.A 31) (t.Q 31) ["some"] (spD K 1 m_on_one_scale) "on_one_scale" (top 42) :=
 oD T.g sc (i:=31) rfl λ_ _ _ _ H _ _ hr=>(
 (ag (bg (i:=1) (nd 31) rfl (Or.inr rfl) (rC (lP T) hr (af (pQ (xO ["one"] 1 [] rfl (nv (dv 0)) (eg (by decide)) (λs H C fp pn=>⟨λHe H0e=>(cf (i:=0) (show List.Nodup (["one"]:List Str) from by decide) rfl (Or.inl rfl)),(zL (aZ tj tH (dv 0) cW nm)),(dv 0)⟩) ⟨rfl,rfl⟩ rfl rfl rfl rfl)) az)))
 (ag (aM (d7 (af (pQ (xO ["one","bottom"] 1 [1] rfl (nv (dv 0)) (eg (by decide)) (λs H C fp pn=>⟨λHe H0e=>(cf (i:=0) (show List.Nodup (["one","bottom"]:List Str) from by decide) rfl (Or.inl rfl)),k8,(wg (aZ jl jn (dv 0) cW nm) cW (rC (va T) hr (af (dv 0) (af (dv 1) az))))⟩) ⟨rfl,rfl⟩ rfl rfl rfl rfl)) (af (dv 1) az))))
 ak)))
def jP(T:Txt K mg t):eJ P w K mg base CX0 4 (t.A 32) (t.Q 32) ["web"] (spD K 1 m_scaled_lengths) "scaled_lengths" (top 47) :=
 oD T.g sc (i:=32) rfl λ_ _ _ _ H _ _ hr=>(
 (ag (aM (rC (mR T) hr (af (pQ (xO ["tie"] 1 [] rfl (nv (aq (dv 0) (bf T.l3 rfl))) (eg (by decide)) (λs H C fp pn=>⟨λHe H0e=>(cf (i:=0) (show List.Nodup (["tie"]:List Str) from by decide) rfl (Or.inl rfl)),k8,(aq (dv 0) (bf T.lp rfl))⟩) ⟨rfl,rfl⟩ rfl rfl rfl rfl)) az)))
 ak))
def nW(T:Txt K mg t):eJ P w K mg base CX0 1 (t.A 33) (t.Q 33) ["tie"] (spD K 1 m_steps_along) "steps_along" (top 39) :=
 oD T.g sc (i:=33) rfl λ_ _ _ _ _ _ _ hr=>(
 (ag (bg (i:=1) (nd 33) rfl (Or.inl rfl) (d7 (af (aq (dv 0) (bf T.qe rfl)) (af (aq (dv 0) (bf T.gH rfl)) az))))
 (ag (bJ (aZ (dr hr.units) eX (aq (dv 0) (bf T.qd rfl)) fI nm)
 (ag (aM (da (af (dv 1) az)))
 ak)
 ak)
 (ag (aM (da (af (dv 1) (af (d7 (af (aq (dv 0) (bf T.gH rfl)) (af (aq (dv 0) (bf T.qe rfl)) az))) az))))
 ak))))
def qJ(T:Txt K mg t):eJ P w K mg base CX0 2 (t.A 34) (t.Q 34) ["web","taken"] (spD K 2 m_steps_left) "steps_left" (top 40) :=
 oD T.g sc (i:=34) rfl λ_ _ _ _ _ _ _ hr=>(
 (ag (pI (i:=2) (nd 34) rfl (Or.inl rfl) (pP az))
 (ag (nr PassesOwn.never rfl (uf rfl T.n_enumerate (aq (dv 0) (bf T.l3 rfl))) (pO rfl (cV (i:=3) (nd 34) rfl (Or.inl rfl) (cV (i:=4) (nd 34) rfl (Or.inl rfl) k9))) fP
 (ag (bJ (aZ (g7 hr.units) ib (dv 3) (dv 1) rfl)
 (ag (pJ PassesOwn.never rfl (rC (nW T) hr (af (dv 4) az)) (pO rfl (cV (i:=5) (nd 34) rfl (Or.inl rfl) (cV (i:=6) (nd 34) rfl (Or.inl rfl) k9))) fP
 (ag (rQ (i:=2) rfl (Or.inl rfl) (d7 (af (dv 3) (af (dv 5) (af (dv 6) az)))))
 ak))
 ak)
 ak)
 ak))
 (ag (aM (dv 2))
 ak))))
def gP(T:Txt K mg t):eJ P w K mg base CX0 1 (t.A 35) (t.Q 35) ["steps","sizes","found"] (spD K 3 m_nearest_step) "nearest_step" (top 49) :=
 oD T.g sc (i:=35) rfl λ_ _ _ _ _ _ _ hr=>(
 (ag (bg (i:=3) (nd 35) rfl (Or.inl rfl) cW)
 (ag (pJ PassesOwn.never rfl (dv 0) (pO rfl (cV (i:=4) (nd 35) rfl (Or.inl rfl) (cV (i:=5) (nd 35) rfl (Or.inl rfl) (cV (i:=6) (nd 35) rfl (Or.inl rfl) k9)))) fP
 (ag (bJ (DW.dt (tZ (aZ (xm (uw hr.units)) xo (dv 5) (dv 2) rfl) (ju (aZ (lO (uw hr.units)) lS (dv 6) (dv 2) rfl))))
 (ag (bg (i:=7) (nd 35) rfl (Or.inl rfl) (de (aq (gD (uw hr.units) (dv 2) (dv 5)) aj) (aq (dv 1) (dv 4))))
 (ag (bJ (DW.dt (dz (aZ jl jn (dv 3) cW nm) (bC (aZ uZ (dm λ_ _ _ _=>rb _) (dv 7) (aq (dv 3) aj) nm))))
 (ag (bg (i:=3) (nd 35) rfl (Or.inl rfl) (d7 (af (dv 6) (af (dv 7) (af (de (aq (gD (uw hr.units) (dv 2) (dv 5)) aj) (da (af (dv 4) az))) az)))))
 ak)
 ak)
 ak))
 ak)
 ak))
 (ag (aM (dv 3))
 ak))))
def nY(T:Txt K mg t):eJ P w K mg base CX0 3 (t.A 36) (t.Q 36) ["web","taken","sizes"] (spD K 3 m_all_reached) "all_reached" (top 48) :=
 oD T.g sc (i:=36) rfl λ_ _ _ _ _ _ _ hr=>(
 (ag (bg (i:=3) (nd 36) rfl (Or.inl rfl) (rC (qJ T) hr (af (dv 0) (af (dv 1) az))))
 (ag (ua (i:=4) (nd 36) rfl (Or.inl rfl) (rY (aq (dv 0) (bf T.lr rfl)) (d7 (af aj (af (da az) az)))))
 (ag (t8 (i:=5) (nd 36) rfl (Or.inl rfl) (rC (gP T) hr (af (dv 3) (af (dv 2) (af (dv 4) az)))))
 (ag (pH _ PassesOwn.never (aZ tj tH (dv 5) cW nm)
 (ag (t9 (i:=4) (uw hr.units) rfl (Or.inl rfl) (d7 (af (aq (dv 5) aj) (af (aq (dv 5) aj) az))) (aq (dv 5) aj))
 (ag (t8 (i:=5) (nd 36) rfl (Or.inl rfl) (rC (gP T) hr (af (dv 3) (af (dv 2) (af (dv 4) az)))))
 ak)))
 (ag (aM (dv 4))
 ak))))))
def mj(T:Txt K mg t):eJ P w K mg base CX0 5 (t.A 37) (t.Q 37) ["web","taken"] (spD K 2 m_shortest) "shortest" (top 46) :=
 oD T.g sc (i:=37) rfl λ_ _ _ _ _ _ _ hr=>(
 (ag (bg (i:=2) (nd 37) rfl (Or.inl rfl) (rC (jP T) hr (af (dv 0) az)))
 (ag (bg (i:=3) (nd 37) rfl (Or.inl rfl) (rC (nY T) hr (af (dv 0) (af (dv 1) (af (aq (dv 2) aj) az)))))
 (ag (ua (i:=4) (nd 37) rfl (Or.inl rfl) E7)
 (ag (pJ PassesOwn.never rfl (aq (dv 0) (bf T.ff rfl)) (cf (i:=5) (nd 37) rfl (Or.inl rfl)) cL
 (ag (t9 (i:=4) (uw hr.units) rfl (Or.inl rfl) (wg (aZ (xm (uw hr.units)) xo (dv 5) (dv 3) rfl) (rC (u7 T) hr (af (aq (gD (uw hr.units) (dv 3) (dv 5)) aj) (af (aq (dv 2) aj) az))) cW) (dv 5))
 ak))
 (ag (bJ (aZ (lO (uw hr.units)) lS (aq (dv 0) (bf T.jy rfl)) (dv 3) rfl)
 (ag (aM (d7 (af cW (af cW (af (dv 4) az)))))
 ak)
 ak)
 (ag (aM (d7 (af (aq (gD (uw hr.units) (dv 3) (aq (dv 0) (bf T.jy rfl))) aj) (af (gD (uw hr.units) (dv 4) (aq (dv 0) (bf T.jy rfl))) (af (dv 4) az)))))
 ak)))))))
def u5(T:Txt K mg t):eJ P w K mg base CX0 7 (t.A 38) (t.Q 38) ["web","number"] (spD K 2 eZ) "value_of" (top 51) :=
 oD T.g sc (i:=38) rfl λ_ _ _ _ _ _ _ hr=>(
 (ag (ub (rC (nX T) hr (af (dv 0) az)))
 (ag (bJ (bS (bI (rC (lQ T) hr (af (dv 0) (af (dv 1) az)))))
 (ag dk
 ak)
 ak)
 (ag (aM (rC (u6 T) hr (af (aq (rC (mj T) hr (af (dv 0) (af (da az) az))) aj) (af (aq (rC (mj T) hr (af (dv 0) (af (da (af (dv 1) az)) az))) aj) az))))
 ak))))
def jb(T:Txt K mg t):eJ P w K mg base CX0 8 (t.A 39) (t.Q 39) ["_law_web_here"] (spD K 1 bP) "_law_right" (top 69) :=
 oD T.g sc (i:=39) rfl λ_ _ _ _ _ _ _ hr=>(
 (ag (bg (i:=1) (nd 39) rfl (Or.inl rfl) (bq (sC hr) zO rfl T.n_repr PyProof.Rows.Boot.«repr» (af (dv 0) az)))
 (ag (bg (i:=2) (nd 39) rfl (Or.inl rfl) (wj (uw hr.units) (rC (mq T) hr (af (dv 0) (af (da az) az))) (aq (dv 0) aj) ⟨rfl,e7 rfl,rfl,by rw[dF rfl];rfl⟩))
 (ag (bg (i:=3) (nd 39) rfl (Or.inl rfl) (rC (lR T) hr (af (dv 0) az)))
 (ag (pJ PassesOwn.never rfl (de (Dd rfl rfl T.n_list rfl T.n_range (af (jv (bq bU df rfl T.n_len PyProof.Rows.Boot.«len» (af (dv 3) az)) aj) (af (xN aj) (af (xN aj) az)))) (HP (pP (af aj az)) (wm sD Dj rfl T.n_int PyProof.Rows.Boot.«int» (af (dw (gu hr.units) jR (dv 3) (da az) nm) az)))) (cf (i:=4) (nd 39) rfl (Or.inl rfl)) cL
 (ag (bJ (bS (bI (rC (xn T) hr (af (rC (u5 T) hr (af (dv 0) (af (dv 4) az))) (af (rC (qK T) hr (af (dv 2) (af (aq (dv 3) (dv 4)) az))) az)))))
 (ag (aM fV)
 ak)
 ak)
 ak))
 (ag (aM (dw (dr hr.units) eX (bq (sC hr) zO rfl T.n_repr PyProof.Rows.Boot.«repr» (af (dv 0) az)) (dv 1) nm))
 ak))))))
def ok_law(T:Txt K mg t):eJ P w K mg base CX0 9 (t.A 40) (t.Q 40) ["_law_script"] (spD K 1 m_law) "law" (top 70) :=
 oD T.g sc (i:=40) rfl λ_ _ _ _ _ _ _ hr=>(
 (ag (nq PassesOwn.never rfl rfl T.n_range (bq (AV rfl) HZ rfl T.n_max PyProof.Rows.Boot.«max» (af aj (af (bq (AU rfl) HY rfl T.n_min PyProof.Rows.Boot.«min» (af (bq bU df rfl T.n_len PyProof.Rows.Boot.«len» (af (dv 0) az)) (af aj az))) az))) (cf (i:=1) (nd 40) rfl (Or.inl rfl)) cL
 (rX (i:=2) (vb T) hr (E4 (rF (nZ T) hr (af (dv 0) (af (dv 1) az))) (af aj (af aj az))) (nd 40) rfl (Or.inl rfl)
 (ag (bJ (bS (bI (rC (jb T) hr (af (dv 2) az))))
 (ag (aM fV)
 ak)
 ak)
 (ag (bJ (aZ (gu hr.units) jR (aq (dv 2) aj) (da az) nm)
 (ag (HF (i:=2) rfl (Or.inl rfl))
 (ag (bJ (bS (bI (rC (jb T) hr (af (dv 2) az))))
 (ag (aM fV)
 ak)
 ak)
 ak))
 ak)
 ak))))
 (ag (aM fV)
 ak)))
end
def txt_mk{h:Heap}(X:K.In h)(G:h.Ns mainGlobals mg)(qs:QAs K rows [a0,a1,a2,a3,a4,a5,a6,a7,a8,a9,a10,a11,a12,a13,a14,a15,a16,a17,a18,a19,a20,a21,a22,a23,a24,a25,a26,a27,a28,a29,a30,a31,a32,a33,a34,a35,a36,a37,a38,a39,a40])
  (z_abs:W.nsIn K mainGlobals "abs"=some none)
  (z_all:W.nsIn K mainGlobals "all"=some none)
  (z_bool:W.nsIn K mainGlobals "bool"=some none)
  (z_enumerate:W.nsIn K mainGlobals "enumerate"=some none)
  (z_int:W.nsIn K mainGlobals "int"=some none)
  (z_isinstance:W.nsIn K mainGlobals "isinstance"=some none)
  (A7:W.nsIn K mainGlobals "len"=some none)
  (z_list:W.nsIn K mainGlobals "list"=some none)
  (z_max:W.nsIn K mainGlobals "max"=some none)
  (z_min:W.nsIn K mainGlobals "min"=some none)
  (z_range:W.nsIn K mainGlobals "range"=some none)
  (z_repr:W.nsIn K mainGlobals "repr"=some none)
  (z_str:W.nsIn K mainGlobals "str"=some none)
  (z_tuple:W.nsIn K mainGlobals "tuple"=some none)
  (mN:W.nsIn K mainGlobals "FEWEST_PLACES"=some (some (.int 2 A3)))
  (DR:W.nsIn K mainGlobals "FIRST"=some (some (.int 2 Kv)))
  (Gf:W.nsIn K mainGlobals "LAST"=some (some (.int 3 KS)))
  (Ba:W.nsIn K mainGlobals "LENGTH"=some (some (.int 3 IL)))
  (zY:W.nsIn K mainGlobals "LETTERS"=some (some (.str "abcdefghijklmnopqrstuvwxyz" Iw)))
  (nD:W.nsIn K mainGlobals "LONGEST_NAME"=some (some (.int 8 Bi)))
  (qE:W.nsIn K mainGlobals "MOST_PLACES"=some (some (.int 7 Dy)))
  (uy:W.nsIn K mainGlobals "MOST_TIES"=some (some (.int 14 Fz)))
  (IG:W.nsIn K mainGlobals "ONE"=some (some (.int 0 LQ)))
  (DQ:W.nsIn K mainGlobals "OTHER"=some (some (.int 1 Ku)))
  (A9:W.nsIn K mainGlobals "PLACES"=some (some (.int 0 IK)))
  (Ge:W.nsIn K mainGlobals "TIES"=some (some (.int 1 KR)))
  (Gd:W.nsIn K mainGlobals "WORD"=some (some (.int 2 KQ)))
  (DP:W.nsIn K mainGlobals "WORDS"=some (some (.ref El)))(DY:K.lookup El=some EJ)(D3:∃od its n sl vs,EJ=⟨.type "tuple",od,.seq its n,sl⟩/\ba vs its.toList/\its.size<=sizeLine/\∀H,Reps K H [.str "one",.str "both"] vs)
  (DN:W.nsIn K mainGlobals "WORTH"=some (some (.int 4 Kt))) :
  ∃t:Adr,Txt K mg t/\t.A 40=a40/\∃kV doc pm an cdv ct,t.Q 40=W.fnOf "law" "law" (defArgs (top 70)) (defBody (top 70)) (defScope (top 70)) .none kV doc pm an cdv ct:=by
 obtain⟨Q,hQ⟩:=Fy X G bn qs;have D_law:=(hQ 40 _ rfl).2;refine⟨⟨λi=>[a0,a1,a2,a3,a4,a5,a6,a7,a8,a9,a10,a11,a12,a13,a14,a15,a16,a17,a18,a19,a20,a21,a22,a23,a24,a25,a26,a27,a28,a29,a30,a31,a32,a33,a34,a35,a36,a37,a38,a39,a40].getD i 0,Q⟩,⟨λi r h=>(hQ i r h).1,W.mg_none_of X G z_abs,W.mg_none_of X G z_all,W.mg_none_of X G z_bool,W.mg_none_of X G z_enumerate,W.mg_none_of X G z_int,W.mg_none_of X G z_isinstance,W.mg_none_of X G A7,W.mg_none_of X G z_list,W.mg_none_of X G z_max,W.mg_none_of X G z_min,W.mg_none_of X G z_range,W.mg_none_of X G z_repr,W.mg_none_of X G z_str,W.mg_none_of X G z_tuple,?eF,?lr,?jy,?lp,?l4,?fg,?fK,?iC,?qe,?gH,?ff,?l3,?qd,?uo,?um⟩,rfl,D_law⟩
 case eF=>exact c5 (W.mg_of X G mN)
 case lr=>exact c5 (W.mg_of X G DR)
 case jy=>exact c5 (W.mg_of X G Gf)
 case lp=>exact c5 (W.mg_of X G Ba)
 case l4=>exact EX (W.mg_of X G zY)
 case fg=>exact c5 (W.mg_of X G nD)
 case fK=>exact c5 (W.mg_of X G qE)
 case iC=>exact c5 (W.mg_of X G uy)
 case qe=>exact c5 (W.mg_of X G IG)
 case gH=>exact c5 (W.mg_of X G DQ)
 case ff=>exact c5 (W.mg_of X G A9)
 case l3=>exact c5 (W.mg_of X G Ge)
 case qd=>exact c5 (W.mg_of X G Gd)
 case uo=>
  obtain⟨od,its,n,sl,vs,rfl,h1,h2,h3⟩:=D3;exact EW (W.mg_of X G DP) DY h1 h2 h3
 case um=>exact c5 (W.mg_of X G DN)
def txt_wr{R:Adr->Prop}(h:∃t:Adr,Txt K mg t/\t.A 40=a/\R t):∃t:Adr,Txt K mg t/\mg "law"=some (.ref (t.A 40))/\R t:=h.elim λt ⟨T,_,r⟩=>⟨t,T,(T.g 40 _ rfl).g,r⟩
end K18
namespace K20
open PySem L2 DL
abbrev aX:ac->ai D:=Cod.aX
abbrev bx:ac->ai D:=Bfd.bx
abbrev bM:ac->ai D:=Bfd.bM
abbrev bo:ac->ai D:=Bfd.bo
end K20
namespace Bfd
open PySem L2 DL Com Bor Pth Vlu
open K11 (d6 ways pr there oS)
open K51 (Bd pl)
noncomputable abbrev hB:am :=
 (aw (bE 8 (au (ah (ae 6) (ah (ae 7) aG)) bp))
 (aw (dH (gE (aa (ae 5) (ae 1) cX) (gE (aa (ae 8) (dC (.non)) iA) (aa (ae 7) (ae 2) pT)))
 (aw (nJ 9 (au (ah (aa (ae 2) (ae 7) dP) (ah (aa (ae 6) (dC (.int 3)) aP) aG)) bN))
 (aw (dH (jf (aa (ae 8) (ae 2) ef) (au (ah (ae 9) (ah (aa (ae 2) (ae 8) dP) aG)) bX))
 (aw (mf 2 (ae 9) (ae 8))
 (aw (bE 4 (dC (.bl false)))
 ao))
 ao)
 ao))
 ao)
 ao))
abbrev tB:am :=
 (aw (bE 6 (aa (aa (ae 0) (dC (.int 1)) aP) (ae 5) aP))
 (aw (i9 (Ae (AQ (ae 6) eG (er (dC (.int 2))))) (bF 7)
 hB)
 ao))
abbrev rB:am :=
 (aw (bE 4 (dC (.bl true)))
 (aw (nK (au (ah (aa (ae 0) (dC (.int 1)) aP) aG) (m1 dE)) (bF 5)
 tB)
 (aw (dH (ae 4)
 (aw (bB (ae 2))
 ao)
 ao)
 ao)))
def Pl(x:Sl):Prop:=x=.no∨∃d,x=.sh d
def gX(w:gh)(tk:bi)(S:BS)(c:Bool)(x3 x5 x6 x7 x8 x9:Sl):Ev:=[.sh (bA w),.sh (cH tk),.ow (dD w S),x3,.sh (.bl (!c)),x5,x6,x7,x8,x9]
def zf(zs:List Int)(tk:bi)(n:Nat)(t:wG)(z:Str)(r:BS×Bool):BS×Bool:=if n∈tk then r else match there t z with
 |none=>r
 |some b=>((fv zs ⟨n,z,b⟩ r.1).1,r.2||(fv zs ⟨n,z,b⟩ r.1).2)
section
variable {w:gh}(W:cK w) (hw:∀t∈w.ts,dU t) {tk:bi}
include W hw
theorem ze{n:Nat}(ht:w.ts[n]?=some t){S:BS}(K:dB w tk S)(h3:Pl x3)(h9:Pl x9) :
  ∃y8 y9,hB (gX w tk S c x3 (.sh (.int (n:Int))) (.sh (bu t)) (.sh (.str z)) x8 x9)=.ok (.nx (gX w tk (zf (lz w) tk n t z (S,c)).1 (zf (lz w) tk n t z (S,c)).2 x3 (.sh (.int (n:Int))) (.sh (bu t)) (.sh (.str z)) y8 y9))/\Pl y8/\Pl y9:=by
 have hth:=K11.there_ok (t:=t) (z:=z);have hni:=K11.notIn_nums (ks:=tk) (n:=n);have hni:cX (.int (n:Int)) (cH tk)=.ok (.bl (!(decide (n∈tk)))):=hni;have i3:aP (bu t) (.int 3)=.ok (fr t.l):=rfl;unfold zf
 by_cases hk:n∈tk
 .rw[decide_eq_true hk]at hni
  refine⟨.sh (oS (there t z)),x9,?_,.inr ⟨_,rfl⟩,h9⟩;rw[if_pos hk];unfold gX;open_line with[hth,hni]
 .rw[decide_eq_false hk]at hni
  simp only[if_neg hk];cases hz:there t z with
  |none=>
   rw[hz]at hth;have hth:bp [bu t,.str z]=.ok .non:=hth;refine⟨.sh .non,x9,?_,.inr ⟨_,rfl⟩,h9⟩;unfold gX;open_line with[hth,hni]
  |some b=>
   rw[hz]at hth;have hth:bp [bu t,.str z]=.ok (.str b):=hth;have hin:=HL (w:=w) (S:=S) (p:=z);have hN:iA (.str b) .non=.ok (.bl true):=rfl;unfold fv;simp only
   by_cases ha:z∈S.ks
   .rw[decide_eq_true ha]at hin
    have hg:=zM (w:=w) ha;obtain⟨z0,z1⟩:=yi W hw K ha;obtain⟨n0,n1⟩:=Hl W hw n;have n1:cG (lz w) n<=wJ:=n1;have hpl:=K51.lplus_bd (A8 W hw z0 (by omega)) (HB (W.ts t (List.mem_of_getElem? ht)).l) (by decide);rw[GY W hw ht]at hpl;have hpl:bN [fr (bT (S.Z z) (lB w)),fr t.l]=.ok (fr (bT (S.Z z+cG (lz w) n) (lB w))):=hpl;have hnd:nd (fr (bT (S.Z z+cG (lz w) n) (lB w)))=true:=rfl;have hoD:∀d8:D,nV (gX w tk S c x3 (.sh (.int (n:Int))) (.sh (bu t)) (.sh (.str z)) (.sh d8) x9)=true:=by
     intro d8;rcases h3 with rfl|⟨_,rfl⟩<;>rcases h9 with rfl|⟨_,rfl⟩<;>rfl
    have hoD:=hoD (.str b);unfold gX at hoD;have hnb:=AM (w:=w) (S:=S) (p:=b);have hlen:decide (S.ks.length<=900)=true:=decide_eq_true (by have:=Cod.nodup_le K.nd K.pl;have:=W.n7;omega);have hput:=E6 (w:=w) (S:=S) (b:=b) (z:=S.Z z+cG (lz w) n);have hp1:∀(f k:al) (ρ:Ev),BK 2 f k ρ (some (.ow (dD w S)))=(f ρ).bind (BJ 2 k ρ S.ks (S.ks.map λp=>fr (bT (S.Z p) (lB w)))):=λ_ _ _=>nj
    by_cases hb:b∈S.ks
    .rw[decide_eq_true hb]at hnb
     have hgb:=zM (w:=w) hb;obtain⟨b0,b1⟩:=yi W hw K hb;have hls:=K51.lless_bd (A8 W hw (z:=S.Z z+cG (lz w) n) (by omega) (by omega)) (A8 W hw b0 (by omega)) (by decide) (by decide);rw[EZ W hw]at hls;have hls:bX [fr (bT (S.Z z+cG (lz w) n) (lB w)),fr (bT (S.Z b) (lB w))]=.ok (.bl (decide (S.Z z+cG (lz w) n<S.Z b))):=hls
     by_cases hlt:S.Z z+cG (lz w) n<S.Z b
     .rw[decide_eq_true hlt]at hls
      rw[if_pos ⟨ha,.inr hlt⟩];refine⟨.sh (.str b),.sh (fr (bT (S.Z z+cG (lz w) n) (lB w))),?_,.inr ⟨_,rfl⟩,.inr ⟨_,rfl⟩⟩;unfold gX;open_line with[hth,hni,hN,hin,hg,i3,hpl,pA,kW hnd hoD,hnb,hgb,hls,pC,hp1,kY,kX hlen,hput,Bool.or_true]
     .rw[decide_eq_false hlt]at hls
      rw[if_neg (by rintro⟨_,h|h⟩;exact h hb;exact hlt h)];refine⟨.sh (.str b),.sh (fr (bT (S.Z z+cG (lz w) n) (lB w))),?_,.inr ⟨_,rfl⟩,.inr ⟨_,rfl⟩⟩;unfold gX;open_line with[hth,hni,hN,hin,hg,i3,hpl,pA,kW hnd hoD,hnb,hgb,hls,Bool.or_false]
    .rw[decide_eq_false hb]at hnb
     rw[if_pos ⟨ha,.inl hb⟩];refine⟨.sh (.str b),.sh (fr (bT (S.Z z+cG (lz w) n) (lB w))),?_,.inr ⟨_,rfl⟩,.inr ⟨_,rfl⟩⟩;unfold gX;open_line with[hth,hni,hN,hin,hg,i3,hpl,pA,kW hnd hoD,hnb,pC,hp1,kY,kX hlen,hput,Bool.or_true]
   .rw[decide_eq_false ha]at hin
    rw[if_neg (λh=>ha h.1)];refine⟨.sh (.str b),x9,?_,.inr ⟨_,rfl⟩,h9⟩;unfold gX;open_line with[hth,hni,hN,hin,Bool.or_false]
theorem AI(ht:w.ts[n]?=some t)(hz:z=t.a∨z=t.b){S:BS}(K:dB w tk S):dB w tk (zf (lz w) tk n t z (S,c)).1:=by
 unfold zf;split
 .exact K
 .rename_i hk
  split
  .exact K
  .rename_i b hb
   have hs:(⟨n,z,b⟩:qS)∈aW w tk:=by
    refine dy.mpr ⟨t,ht,hk,?_⟩;unfold there at hb;show(z,b)∈ways t;unfold ways;have T:=W.ts t (List.mem_of_getElem? ht);split at hb
    .rename_i e
     cases hb;rw[←e];split<;>simp
    .split at hb
     .rename_i e
      cases hb;have:t.w≠"one":=by rw[e.2];decide
      rw[if_neg this,←e.1];simp
     .cases hb
   exact(uL W hw K hs).1
theorem Hz(ht:w.ts[n]?=some t):zf (lz w) tk n t t.b (zf (lz w) tk n t t.a r)=c9 (lz w) (bR tk n t) r:=by
 have T:=W.ts t (List.mem_of_getElem? ht);obtain⟨S,c⟩:=r;unfold bR zf
 by_cases hk:n∈tk
 .simp only[if_pos hk];rfl
 .simp only[if_neg hk]
  have h1:there t t.a=some t.b:=by unfold there;rw[if_pos rfl]
  have hne:t.a≠t.b:=T.ne;rw[h1];unfold ways;rcases T.w with e|e
  .have h2:there t t.b=none:=by unfold there;rw[if_neg hne,if_neg (by rw[e];rintro⟨_,h⟩;exact absurd h (by decide))]
   rw[h2,if_pos e];rfl
  .have h2:there t t.b=some t.a:=by unfold there;rw[if_neg hne,if_pos ⟨rfl,e⟩]
   rw[h2,if_neg (by rw[e];decide)];rfl
theorem Gp{n:Nat}(ht:w.ts[n]?=some t){S:BS}(K:dB w tk S)(h3:Pl x3)(h9:Pl x9) :
  ∃y6 y7 y8 y9,tB (gX w tk S c x3 (.sh (.int (n:Int))) x6 x7 x8 x9)=.ok (.nx (gX w tk (c9 (lz w) (bR tk n t) (S,c)).1 (c9 (lz w) (bR tk n t) (S,c)).2 x3 (.sh (.int (n:Int))) y6 y7 y8 y9))/\Pl y9:=by
 have i1:aP (bA w) (.int 1)=.ok (.lst (w.ts.map bu)):=rfl;have hix:=Gq ht;obtain⟨a8,a9,e1,_,p9⟩:=ze W hw ht (z:=t.a) (c:=c) K (x3:=x3) (x8:=x8) (x9:=x9) h3 h9;have K1:=AI W hw ht (z:=t.a) (.inl rfl) (c:=c) K;obtain⟨b8,b9,e2,_,q9⟩:=ze W hw ht (z:=t.b) (c:=(zf (lz w) tk n t t.a (S,c)).2) K1 (x3:=x3) (x8:=a8) (x9:=a9) h3 p9;have hg:zf (lz w) tk n t t.b ((zf (lz w) tk n t t.a (S,c)).1,(zf (lz w) tk n t t.a (S,c)).2)=c9 (lz w) (bR tk n t) (S,c):=Hz W hw ht;rw[hg]at e2;refine⟨.sh (bu t),.sh (.str t.b),b8,b9,?_,q9⟩;have hsl:Br (bu t) none (some 2)=.ok (.tup [.str t.a,.str t.b]):=(oA (by rfl)).trans rfl;have hl:bK (bF 7) hB [.str t.a,.str t.b] (gX w tk S c x3 (.sh (.int (n:Int))) (.sh (bu t)) x7 x8 x9)=.ok (.nx (gX w tk (c9 (lz w) (bR tk n t) (S,c)).1 (c9 (lz w) (bR tk n t) (S,c)).2 x3 (.sh (.int (n:Int))) (.sh (bu t)) (.sh (.str t.b)) b8 b9)):=by
  rw[c6 (ρ1:=gX w tk S c x3 (.sh (.int (n:Int))) (.sh (bu t)) (.sh (.str t.a)) x8 x9) rfl e1,c6 (ρ1:=gX w tk (zf (lz w) tk n t t.a (S,c)).1 (zf (lz w) tk n t t.a (S,c)).2 x3 (.sh (.int (n:Int))) (.sh (bu t)) (.sh (.str t.b)) a8 a9) rfl e2];rfl
 unfold gX at hl ⊢;open_line with[i1,hix,hsl,hl]
theorem mZ:∀(ts:List wG) (n:Nat) {S:BS}{c:Bool},(∀j t,ts[j]?=some t->w.ts[n+j]?=some t)->dB w tk S->∀{x3 x5 x6 x7 x8 x9:Sl},Pl x3->Pl x9 ->
  ∃y5 y6 y7 y8 y9,bK (bF 5) tB (DL.intsFrom (n:Int) ts.length) (gX w tk S c x3 x5 x6 x7 x8 x9)=.ok (.nx (gX w tk (c9 (lz w) (cj tk n ts) (S,c)).1 (c9 (lz w) (cj tk n ts) (S,c)).2 x3 y5 y6 y7 y8 y9))/\Pl y9
 |[],n,S,c,_,K,x3,x5,x6,x7,x8,x9,h3,h9=>⟨x5,x6,x7,x8,x9,rfl,h9⟩
 |t::ts,n,S,c,ht,K,x3,x5,x6,x7,x8,x9,h3,h9=>by
  have h0:w.ts[n]?=some t:=ht 0 t rfl;obtain⟨y6,y7,y8,y9,e1,p9⟩:=Gp W hw h0 (c:=c) K (x6:=x6) (x7:=x7) (x8:=x8) h3 h9;have hsub:∀s∈bR tk n t,s∈aW w tk:=by
   intro s hs;unfold bR at hs;split at hs
   .cases hs
   .rename_i hk
    obtain⟨p,hp,rfl⟩:=List.mem_map.mp hs;exact dy.mpr ⟨t,h0,hk,hp⟩
  have K1:=(iN W hw (bR tk n t) hsub (c:=c) K).1;obtain⟨z5,z6,z7,z8,z9,e2,q9⟩:=mZ ts (n+1) (S:=(c9 (lz w) (bR tk n t) (S,c)).1) (c:=(c9 (lz w) (bR tk n t) (S,c)).2) (λj u hj=>by
   have:=ht (j+1) u (by simpa using hj);rw[show n+1+j=n+(j+1) by omega];exact this) K1 (x3:=x3) (x5:=.sh (.int (n:Int))) (x6:=y6) (x7:=y7) (x8:=y8) h3 p9
  refine⟨z5,z6,z7,z8,z9,?_,q9⟩;have hI:DL.intsFrom (n:Int) (t::ts).length=.int (n:Int)::DL.intsFrom ((n+1:Nat):Int) ts.length:=by
   unfold DL.intsFrom;rw[List.length_cons,List.range_succ_eq_map,List.map_cons,List.map_map];simp;intro a _;omega
  rw[hI,c6 (ρ1:=gX w tk S c x3 (.sh (.int (n:Int))) x6 x7 x8 x9) rfl e1,e2,cj,uU]
theorem BD{S:BS}(K:dB w tk S)(h3:Pl x3)(h9:Pl x9) :
  ((c9 (lz w) (aW w tk) (S,false)).2=false/\rB (gX w tk S c x3 x5 x6 x7 x8 x9)=.ok (.rt (dD w S))) ∨
  ((c9 (lz w) (aW w tk) (S,false)).2=true/\∃y5 y6 y7 y8 y9,rB (gX w tk S c x3 x5 x6 x7 x8 x9)=.ok (.nx (gX w tk (c9 (lz w) (aW w tk) (S,false)).1 true x3 y5 y6 y7 y8 y9))/\Pl y9):=by
 have t14:=W.t14;have i1:aP (bA w) (.int 1)=.ok (.lst (w.ts.map bu)):=rfl;have hlen:dE (.lst (w.ts.map bu))=.ok (.int w.ts.length):=by rw[dq,List.length_map]
 obtain⟨y5,y6,y7,y8,y9,e,p9⟩:=mZ W hw w.ts 0 (S:=S) (c:=false) (λj t h=>by rw[Nat.zero_add];exact h) K (x3:=x3) (x5:=x5) (x6:=x6) (x7:=x7) (x8:=x8) h3 h9;have hL:cj tk 0 w.ts=aW w tk:=rfl;rw[hL]at e;have hfr:=jY (tg:=bF 5) (s:=tB) (ρ:=gX w tk S false x3 x5 x6 x7 x8 x9) (k:=w.ts.length) (by omega);have e:bK (bF 5) tB (DL.intsFrom 0 w.ts.length) (gX w tk S false x3 x5 x6 x7 x8 x9)=.ok (.nx (gX w tk (c9 (lz w) (aW w tk) (S,false)).1 (c9 (lz w) (aW w tk) (S,false)).2 x3 y5 y6 y7 y8 y9)):=e;cases hc:(c9 (lz w) (aW w tk) (S,false)).2 with
 |false=>
  have hS:=((iN W hw (aW w tk) (λs h=>h) (c:=false) K).2.2.2 hc).2;rw[hc,hS]at e;refine .inl ⟨rfl,?_⟩;unfold gX at hfr e ⊢;simp only[Bool.not_false,Bool.not_true]at hfr e ⊢;open_line with[i1,hlen,hfr,e]
 |true=>
  rw[hc]at e;refine .inr ⟨rfl,y5,y6,y7,y8,y9,?_,p9⟩;unfold gX at hfr e ⊢;simp only[Bool.not_false,Bool.not_true]at hfr e ⊢;open_line with[i1,hlen,hfr,e]
end
open K11 (d6 ways pr there oS)
open K51 (Bd pl)
def Ln(hb:0<b):bT 0 b=(0,1):=by
 refine vn (cQ hb) ⟨by decide,by decide⟩ ?_;show(bT 0 b).1*1=0*(bT 0 b).2;unfold bT;simp
section
variable {w:gh}(W:cK w) (hw:∀t∈w.ts,dU t) {tk:bi}
include W hw
theorem rh:∀(m r:Nat) {S:BS}{c:Bool}(i:Int),dB w tk S->Rd w tk r S->∀{x3 x5 x6 x7 x8 x9:Sl},Pl x9 ->
  (∃S',dB w tk S'/\(∀k,Rd w tk k S')/\bK (bF 3) rB (DL.intsFrom i m) (gX w tk S c x3 x5 x6 x7 x8 x9)=.ok (.rt (dD w S'))) ∨
  (∃S' c' y3 y5 y6 y7 y8 y9,dB w tk S'/\Rd w tk (r+m) S'/\bK (bF 3) rB (DL.intsFrom i m) (gX w tk S c x3 x5 x6 x7 x8 x9)=.ok (.nx (gX w tk S' c' y3 y5 y6 y7 y8 y9)))
 |0,r,S,c,i,K,R,x3,x5,x6,x7,x8,x9,h9=>.inr ⟨S,c,x3,x5,x6,x7,x8,x9,K,R,rfl⟩
 |m+1,r,S,c,i,K,R,x3,x5,x6,x7,x8,x9,h9=>by
  have hI:DL.intsFrom i (m+1)=.int i::DL.intsFrom (i+1) m:=by
   unfold DL.intsFrom;rw[List.range_succ_eq_map,List.map_cons,List.map_map];simp;intro a _;omega
  rw[hI];have hg:bF 3 (gX w tk S c x3 x5 x6 x7 x8 x9) (.int i)=.ok (gX w tk S c (.sh (.int i)) x5 x6 x7 x8 x9):=rfl;rcases BD W hw (c:=c) K (x3:=.sh (.int i)) (x5:=x5) (x6:=x6) (x7:=x7) (x8:=x8) (x9:=x9) (.inr ⟨_,rfl⟩) h9 with⟨hc,e⟩|⟨hc,y5,y6,y7,y8,y9,e,p9⟩
  .refine .inl ⟨S,K,λk=>Ej W hw K hc k,?_⟩
   unfold bK;rw[hg,fz,e,fz]
  .have K1:=(iN W hw (aW w tk) (λs h=>h) (c:=false) K).1
   have R1:=Ei W hw (c:=false) K R;rcases rh m (r+1) (S:=(c9 (lz w) (aW w tk) (S,false)).1) (c:=true) (i+1) K1 R1 (x3:=.sh (.int i)) (x5:=y5) (x6:=y6) (x7:=y7) (x8:=y8) p9 with⟨S',a1,a2,a3⟩|⟨S',c',z3,z5,z6,z7,z8,z9,a1,a2,a3⟩
   .exact .inl ⟨S',a1,a2,by rw[c6 hg e];exact a3⟩
   .refine .inr ⟨S',c',z3,z5,z6,z7,z8,z9,a1,?_,by rw[c6 hg e];exact a3⟩
    rw[show r+(m+1)=r+1+m by omega];exact a2
theorem HC:∃S,dB w tk S/\Rd w tk w.ps.length S/\bx [bA w,cH tk]=.ok (dD w S):=by
 have n7:=W.n7;have i0:aP (bA w) (.int 0)=.ok (.lst (w.ps.map D.str)):=rfl;have i2:aP (bA w) (.int 2)=.ok (.str w.fi):=rfl;have hlen:dE (.lst (w.ps.map D.str))=.ok (.int w.ps.length):=by rw[dq,List.length_map]
 have K0:dB w tk ⟨[w.fi],λ_=>0⟩:=⟨by simp,λp hp=>by rw[List.mem_singleton]at hp;subst hp;exact W.fi,by simp,Int.le_refl _,λp hp=>by
  rw[List.mem_singleton]at hp;subst hp;exact⟨[],.nil,rfl⟩,λp _=>by show(0:Int)<=((1:Int)-1)*wJ;simp⟩
 have hd:D.dic [w.fi] [.tup [.int 0,.int 1]]=dD w ⟨[w.fi],λ_=>0⟩:=by
  unfold dD;rw[List.map_cons,List.map_nil,Ln (jV W).1];rfl
 have hown:∀ρ:Ev,yF 2 ρ (dD w ⟨[w.fi],λ_=>0⟩)=.ok (.nx (ρ.set 2 (.ow (dD w ⟨[w.fi],λ_=>0⟩)))):=λ_=>nk;have hfr:=jY (tg:=bF 3) (s:=rB) (ρ:=[.sh (bA w),.sh (cH tk),.ow (dD w ⟨[w.fi],λ_=>0⟩),.no,.no,.no,.no,.no,.no,.no]) (k:=w.ps.length) (by omega);have hr:∀(d3:D) (x4 x4':Sl),rB [.sh (bA w),.sh (cH tk),.ow (dD w ⟨[w.fi],λ_=>0⟩),.sh d3,x4,.no,.no,.no,.no,.no]=rB [.sh (bA w),.sh (cH tk),.ow (dD w ⟨[w.fi],λ_=>0⟩),.sh d3,x4',.no,.no,.no,.no,.no]:=λ_ _ _=>rfl;have start:∀(d:D) (ds:ac),bK (bF 3) rB (d::ds) [.sh (bA w),.sh (cH tk),.ow (dD w ⟨[w.fi],λ_=>0⟩),.no,.no,.no,.no,.no,.no,.no]=bK (bF 3) rB (d::ds) (gX w tk ⟨[w.fi],λ_=>0⟩ false .no .no .no .no .no .no):=by
  intro d ds
  conv=>lhs;unfold bK
  conv=>rhs;unfold bK
  rw[show bF 3 [.sh (bA w),.sh (cH tk),.ow (dD w ⟨[w.fi],λ_=>0⟩),.no,.no,.no,.no,.no,.no,.no] d=.ok [.sh (bA w),.sh (cH tk),.ow (dD w ⟨[w.fi],λ_=>0⟩),.sh d,.no,.no,.no,.no,.no,.no] from rfl,show bF 3 (gX w tk ⟨[w.fi],λ_=>0⟩ false .no .no .no .no .no .no) d=.ok [.sh (bA w),.sh (cH tk),.ow (dD w ⟨[w.fi],λ_=>0⟩),.sh d,.sh (.bl true),.no,.no,.no,.no,.no] from rfl,fz,fz,hr d .no (.sh (.bl true))]
 obtain⟨m,hm⟩:∃m,w.ps.length=m+1:=⟨w.ps.length-1,by have:=W.n2;omega⟩
 have hI:DL.intsFrom 0 w.ps.length=.int 0::DL.intsFrom (0+1) m:=by
  rw[hm];unfold DL.intsFrom;rw[List.range_succ_eq_map,List.map_cons,List.map_map];simp;intro a _;omega
 rcases rh W hw w.ps.length 0 (c:=false) 0 K0 (Eh W hw K0) (x3:=.no) (x5:=.no) (x6:=.no) (x7:=.no) (x8:=.no) (x9:=.no) (.inl rfl) with⟨S',a1,a2,a3⟩|⟨S',c',z3,z5,z6,z7,z8,z9,a1,a2,a3⟩
 .rw[hI,←start,←hI]at a3
  refine⟨S',a1,a2 _,?_⟩;open_line with[bx,jB,pE,tY,pF,i2,hd,hown,i0,hlen,hfr,a3]
 .rw[hI,←start,←hI]at a3
  rw[Nat.zero_add]at a2;refine⟨S',a1,a2,?_⟩;unfold gX at a3;open_line with[bx,jB,pE,tY,pF,i2,hd,hown,i0,hlen,hfr,a3]
theorem E1:∃S,bx [bA w,cH tk]=.ok (dD w S)/\∀{F:List gV}{m:Int},nz w tk (lz w) F m->wH w tk F->∀(g:al) (ρ:Ev),g ρ=.ok (.str w.la)->rE g ρ (dD w S)=.ok (eV w F):=by
 obtain⟨S,K,R,e⟩:=HC W hw (tk:=tk);refine⟨S,e,λRF SF g ρ hg=>?_⟩;have h:=GL W hw K R RF SF w.la;have ha:=ue (w:=w) (S:=S) (p:=w.la);unfold eV;cases hF:get _ w.la with
 |none=>
  rw[hF]at h
  by_cases hp:w.la∈S.ks
  .rw[if_pos hp]at h;cases h
  .rw[if_neg hp]at ha
   unfold rE dD;show(g ρ).bind _=_;rw[hg,fz];unfold uh;simp only[ha];rfl
 |some e=>
  rw[hF]at h
  by_cases hp:w.la∈S.ks
  .rw[if_pos hp]at h ha
   have hz:S.Z w.la=e.z:=Option.some.inj h;rw[hz]at ha;unfold rE dD;show(g ρ).bind _=_;rw[hg,fz];unfold uh;simp only[ha];rfl
  .rw[if_neg hp]at h;cases h
end
end Bfd
namespace Vlx
open PySem L2 DL Com Bor Pth Vlu Bfd
open K51 (Bd pl)
section
variable {w:gh}(W:cK w)
noncomputable def FF(ks:bi):List gV:=Classical.choose (Pth.shortest_ok W (ks:=ks))
theorem zW(ks:bi):∃m,nz w ks (lz w) (FF W ks) m/\wH w ks (FF W ks)/\K17.m_shortest [bA w,cH ks]=.ok (xl w (FF W ks)):=Classical.choose_spec (Pth.shortest_ok W (ks:=ks))
noncomputable def gQ(ks:bi):Option Int:=(get (FF W ks) w.la).map (·.z)
def pD(w:gh):Option Int->D
 |none=>.non
 |some z=>fr (bT z (lB w))
def vD(w:gh):Option Int->Option Int->D
 |none,_=>.str "none"
 |some _,none=>.str "cut"
 |some z,some z'=>fr (bT (z' - z) (lB w))
theorem BR(ks:bi):eV w (FF W ks)=pD w (gQ W ks):=by
 unfold eV gQ;cases get (FF W ks) w.la<;>rfl
include W in
theorem Cr{z z':Int}:mi (bT z' (lB w)) (bT z (lB w))=bT (z' - z) (lB w):=by
 have hB:=(jV W).1;have q1:=(cQ (a:=z) hB).q1;have q2:=(cQ (a:=z') hB).q1;refine uB (cQ (Int.mul_pos (by omega) (by omega))) (cQ hB) ?_;have e:mi (bT z' (lB w)) (bT z (lB w))=bT ((bT z' (lB w)).1*(bT z (lB w)).2-(bT z (lB w)).1*(bT z' (lB w)).2) ((bT z' (lB w)).2*(bT z (lB w)).2):=rfl;rw[e,eL (Int.mul_pos (by omega) (by omega)),eL hB];have h1:=eL (a:=z) hB;have h2:=eL (a:=z') hB;unfold val at h1 h2;have p1:=cy (show 0<(bT z (lB w)).2 by omega);have p2:=cy (show 0<(bT z' (lB w)).2 by omega);have p3:=cy hB;rw[Rat.intCast_sub,Rat.intCast_mul,Rat.intCast_mul,Rat.intCast_mul,Rat.intCast_sub]
 grind
theorem Gi(k:Nat):D4 w (FF W []) (FF W [k])=vD w (gQ W []) (gQ W [k]):=by
 unfold D4 gQ;cases get (FF W []) w.la with
 |none=>rfl
 |some e=>
  cases get (FF W [k]) w.la with|none=>rfl|some e'=>show fr (mi _ _)=fr (bT _ _);rw[Cr W]
theorem rK(hw:∀t∈w.ts,dU t)(h:gQ W ks=some z):0<=z/\z<=7*wJ:=by
 obtain⟨m,R,S,_⟩:=zW W ks;unfold gQ at h;cases hg:get (FF W ks) w.la with
 |none=>rw[hg]at h;cases h
 |some e=>
  rw[hg]at h;have hz:e.z=z:=Option.some.inj h;obtain⟨h1,_⟩:=di hg;obtain⟨w1,w2,_,w4⟩:=R.wy e h1;have hl:=R.len W;obtain⟨s0,s1⟩:=nC W hw e.y;rw[←w2,hz]at s0 s1;have:(e.y.length:Int)*(1000000000000*60 ^ 14)<=7*(1000000000000*60 ^ 14):=Int.mul_le_mul_of_nonneg_right (by omega) (by decide);exact⟨s0,Int.le_trans s1 this⟩
end
end Vlx
namespace K17
open PySem L2 DL Com Bor Pth
def rp_tup{n k:Nat}(h:Rp (.tup ds) n k)(hn:n<=sizeLine)(hk:k<=100):∃z,pR (.tup ds)=.ok (.str z):=by
 obtain⟨p,h1,h2,h3,h4⟩:=h;refine⟨p.shown,?_⟩;unfold pR;rw[h1];show(if _ then _ else _)=_;have hs:me p=true:=by
  unfold me;rw[h2,decide_eq_true (Nat.le_trans h3 hk),decide_eq_true (Nat.le_trans h4 hn)];rfl
 rw[if_pos ⟨rfl,hs⟩]
end K17
namespace K20
open PySem L2 DL Com Bor Pth Vlu Bfd Vlx
open K51 (Bd pl)
abbrev rng(n:Nat):bi:=List.range n
section
variable {w:gh}(W:cK w) (hw:∀t∈w.ts,dU t)
include W hw
theorem nE(o o':Option Int)(h:∀z,o=some z->0<=z/\z<=7*wJ)(h':∀z,o'=some z->0<=z/\z<=7*wJ):bo [pD w o,pD w o']=.ok (vD w o o'):=by
 cases o with
 |none=>
  show bo [.non,pD w o']=.ok (.str "none");open_line with[Bfd.bo,Bfd.eO]
 |some z=>
  cases o' with
  |none=>
   show bo [fr (bT z (lB w)),.non]=.ok (.str "cut");open_line with[Bfd.bo,Bfd.eO,tP]
  |some z'=>
   obtain⟨a0,a1⟩:=h z rfl;obtain⟨b0,b1⟩:=h' z' rfl;have hx:=A8 W hw b0 b1;have hy:=A8 W hw a0 a1;have b1:=hx.c60 (by decide);have b2:=hy.c60 (by decide);have hy':Bd (-(bT z (lB w)).1,(bT z (lB w)).2) 130:=⟨hy.q0,by show(-(bT z (lB w)).1).natAbs<_;rw[Int.natAbs_neg];exact hy.a,hy.b⟩
   have hp:=K51.un_bd hx hy';have hc:=hp.c13 (by decide);have e:(bT z' (lB w)).1*(bT z (lB w)).2 + -(bT z (lB w)).1*(bT z' (lB w)).2=(bT z' (lB w)).1*(bT z (lB w)).2-(bT z (lB w)).1*(bT z' (lB w)).2:=by rw[Int.neg_mul];omega
   have hlo:aX [.int ((bT z' (lB w)).1*(bT z (lB w)).2-(bT z (lB w)).1*(bT z' (lB w)).2),.int ((bT z' (lB w)).2*(bT z (lB w)).2)]=.ok (fr (mi (bT z' (lB w)) (bT z (lB w)))):=by
    have h1:=hc.1;have h2:=hc.2;unfold un at h1 h2;simp only[e]at h1;exact Cod.low_ok hp.q0 h1 h2
   rw[Cr W]at hlo;have m1:=bW (dM b1.1 b2.2);have m2:=bW (dM b2.1 b1.2);have m3:=bW (dM b1.2 b2.2);have i0:∀z:gN,aP (fr z) (.int 0)=.ok (.int z.1):=λ_=>rfl;have i1:∀z:gN,aP (fr z) (.int 1)=.ok (.int z.2):=λ_=>rfl;show bo [fr (bT z (lB w)),fr (bT z' (lB w))]=.ok (fr (bT (z' - z) (lB w)));open_line with[Bfd.bo,Bfd.eO,tP,i0,i1,m1,m2,m3,gW,hlo]
theorem tU(tk:bi):∃S,bx [bA w,cH tk]=.ok (dD w S)/\∀(g:al) (ρ:Ev),g ρ=.ok (.str w.la)->rE g ρ (dD w S)=.ok (pD w (gQ W tk)):=by
 obtain⟨S,e,h⟩:=E1 W hw (tk:=tk);obtain⟨m,R,SF,_⟩:=zW W tk;exact⟨S,e,λg ρ hg=>by rw[h R SF g ρ hg,BR W]⟩
theorem gY:bM [bA w]=.ok (.lst ((rng w.ts.length).map λk=>pD w (gQ W [k]))):=by
 have t14:=W.t14;have i1:aP (bA w) (.int 1)=.ok (.lst (w.ts.map bu)):=rfl;have hlen:dE (.lst (w.ts.map bu))=.ok (.int w.ts.length):=by rw[dq,List.length_map]
 have hsrc:=Wex.srcR1_nat (k:=w.ts.length) (by omega);have hc:fB 1 [0] (bF 0) mYes (pS (au (ah (ae 1) (ah (au (ah (ae 0) aG) du) aG)) bx) (aa (ae 1) (dC (.int 3)) aP)) [.sh (bA w)] (DL.intsFrom 0 w.ts.length)=.ok (.lst (((rng w.ts.length).filter λ_=>true).map λk=>pD w (gQ W [k]))) :=
  Wex.comp_rng (by omega) λk hk=>by
   obtain⟨S,e,hg⟩:=tU W hw [k];refine⟨[.sh (.int (k:Int)),.sh (bA w)],rfl,rfl,λ_=>?_⟩;have e:bx [bA w,.lst [.int (k:Int)]]=.ok (dD w S):=e;have:=hg (aa (ae 1) (dC (.int 3)) aP) [.sh (.int (k:Int)),.sh (bA w)] rfl;have h1:(au (ah (ae 1) (ah (au (ah (ae 0) aG) du) aG)) bx) [.sh (.int (k:Int)),.sh (bA w)]=.ok (dD w S):=by
    open_line with[e]
   unfold pS;rw[h1,fz,this]
 rw[List.filter_eq_self.mpr λ_ _=>rfl]at hc;open_line with[Bfd.bM,Bfd.gU,iU,Wex.ev_srcR1,i1,hlen,hsrc,hc]
omit hw in
end
open K51 (Bd pl)
section
variable {w:gh}(W:cK w) (hw:∀t∈w.ts,dU t)
theorem zo(hx:aY 40 x=true)(hy:aY 40 y=true):lG x y=.ok (.bl (cn x y)):=by
 unfold lG;rw[if_pos ⟨hx,hy⟩]
end
end K20
namespace K18
open PySem L2 DL Com Bor Pth Vlu Bfd Vlx
open K20 (tU gY nE rng zo)
def CY:pS f g ρ=(f ρ).bind (rE g ρ):=aF rfl
def C0(h:-1<=i/\i<=1000):mz [.int i,.int (-1),.int (-1)]=.ok (.lst (fU (i+1).toNat i)):=by
 unfold mz;exact if_pos ⟨rfl,rfl,h.1,h.2⟩
section
variable {w:gh}(W:cK w) (hw:∀t∈w.ts,dU t)
include W hw
theorem D7{k:Nat}(hk:k<w.ts.length):eZ [bA w,.int (k:Int)]=.ok (vD w (gQ W []) (gQ W [k])):=by
 have hW:m_look_at_web [bA w]=.ok .non:=Gh W;obtain⟨m,R,S,e0⟩:=zW W [];have e0:m_shortest [bA w,.lst []]=.ok (xl w (FF W [])):=e0;obtain⟨m',R',S',e1⟩:=zW W [k];have e1:m_shortest [bA w,.lst [.int (k:Int)]]=.ok (xl w (FF W [k])):=e1;have hv:=uA W hw R R';rw[Gi W]at hv;have hv:m_value_by [eV w (FF W []),eV w (FF W [k])]=.ok (vD w (gQ W []) (gQ W [k])):=hv;have ht:m_is_tie_number [bA w,.int (k:Int)]=.ok (.bl true):=ve hk;open_line with[eZ,qi,hW,ht,e0,e1,JD,hv]
omit W hw in
theorem JV(o o':Option Int):cM [vD w o o',vD w o o']=.ok (.bl true):=by
 have he:∀z:Str,lG (.str z) (.str z)=.ok (.bl true):=λz=>by rw[zo rfl rfl,cn,beq_self_eq_true]
 have i1:∀z:Str,fq "str" (.str z)=.ok (.bl true):=λ_=>rfl;cases o with
 |none=>
  show cM [.str "none",.str "none"]=.ok (.bl true);open_line with[cM,iY,i1,he]
 |some z=>
  cases o' with
  |none=>
   show cM [.str "cut",.str "cut"]=.ok (.bl true);open_line with[cM,iY,i1,he]
  |some z'=>
   show cM [fr (bT (z' - z) (lB w)),fr (bT (z' - z) (lB w))]=.ok (.bl true);generalize bT (z' - z) (lB w)=x;have j1:fq "str" (fr x)=.ok (.bl false):=rfl;have j2:fq "tuple" (fr x)=.ok (.bl true):=rfl;have j3:dE (fr x)=.ok (.int 2):=rfl;have j4:iW (.int 2) (.int 2)=.ok (.bl false):=rfl;have j5:iW (fr x) (fr x)=.ok (.bl false):=JL;have hc:fB 1 [] (bF 0) (jf (cm (ae 0) (fq "bool")) (cF (cm (ae 0) (fq "int")))) (ae 0) [.sh (fr x),.sh (fr x)] [.int x.1,.int x.2]=.ok (.lst []):=rfl;have hs:Bm (fr x)=.ok [.int x.1,.int x.2]:=rfl;have j6:lG (.lst []) (.lst [])=.ok (.bl true):=rfl;open_line with[cM,iY,j1,j2,j3,j4,j5,iU,j7,hs,hc,j6]
abbrev vB:am :=
 (aw (dH (cF (au (ah (au (ah (ae 0) (ah (ae 4) aG)) eZ) (ah (au (ah (ae 2) (ah (aa (ae 3) (ae 4) aP) aG)) bo) aG)) cM))
 (aw (bB (dC (.bl false)))
 ao)
 ao)
 ao)
theorem zZ(L:ac)(h:∀d∈L,∃k:Nat,k<w.ts.length/\d=.int (k:Int))(d1:D)(x:Sl) :
  ∃y,bK (bF 4) vB L [.sh (bA w),.sh d1,.sh (pD w (gQ W [])),.sh (.lst ((rng w.ts.length).map λk=>pD w (gQ W [k]))),x]=.ok (.nx [.sh (bA w),.sh d1,.sh (pD w (gQ W [])),.sh (.lst ((rng w.ts.length).map λk=>pD w (gQ W [k]))),y]):=by
 obtain⟨ρ',e,y,rfl⟩:=zj (tg:=bF 4) (body:=vB) (λρ=>∃y,ρ=[.sh (bA w),.sh d1,.sh (pD w (gQ W [])),.sh (.lst ((rng w.ts.length).map λk=>pD w (gQ W [k]))),y]) (ds:=L) (by
  rintro d hd ρ ⟨y,rfl⟩;obtain⟨k,hk,rfl⟩:=h d hd;refine⟨[.sh (bA w),.sh d1,.sh (pD w (gQ W [])),.sh (.lst ((rng w.ts.length).map λk=>pD w (gQ W [k]))),.sh (.int (k:Int))],[.sh (bA w),.sh d1,.sh (pD w (gQ W [])),.sh (.lst ((rng w.ts.length).map λk=>pD w (gQ W [k]))),.sh (.int (k:Int))],rfl,?_,_,rfl⟩;have h1:=D7 W hw hk;have h2:=nE W hw (gQ W []) (gQ W [k]) (λz hz=>rK W hw hz) (λz hz=>rK W hw hz);have h3:aP (.lst ((rng w.ts.length).map λk=>pD w (gQ W [k]))) (.int (k:Int))=.ok (pD w (gQ W [k])):=oj (by unfold rng;rw[List.getElem?_map,List.getElem?_range hk];rfl);have h4:=JV (w:=w) (gQ W []) (gQ W [k]);open_line with[h1,h2,h3,h4]) _ ⟨x,rfl⟩
 exact⟨y,e⟩
omit W hw in
theorem v5:∀(n:Nat) (m:Nat),n<=m+1->∀d∈fU n ((m:Int)),∃k:Nat,k<=m/\d=.int (k:Int)
 |0,_,_,d,hd=>nomatch hd
 |n+1,m,h,d,hd=>by
  unfold fU at hd;rcases List.mem_cons.mp hd with rfl|hd
  .exact⟨m,Nat.le_refl _,rfl⟩
  .cases n with
   |zero=>exact nomatch hd
   |succ n=>
    cases m with
    |zero=>omega
    |succ m=>
     have e:((m+1:Nat):Int)-1=(m:Int):=by omega
     rw[e]at hd;obtain⟨k,h1,h2⟩:=v5 (n+1) m (by omega) d hd;exact⟨k,by omega,h2⟩
omit W hw in
theorem v7:∀(n:Nat) (i:Int),(fU n i).length=n
 |0,_=>rfl
 |n+1,i=>by unfold fU;rw[List.length_cons,v7 n]
theorem uK:bP [bA w]=.ok (.bl true):=by
 have t14:=W.t14;obtain⟨z,hz⟩:∃z,pR (bA w)=.ok (.str z):=K17.rp_tup (GI W) (by decide) (by decide);obtain⟨S,hfar,hget⟩:=tU W hw [];have hfar:bx [bA w,.lst []]=.ok (dD w S):=hfar;have hget:=hget (aa (ae 0) (dC (.int 3)) aP) [.sh (bA w),.sh (.str z),.no,.no,.no] rfl;have hwi:=gY W hw;have hwl:dE (.lst ((rng w.ts.length).map λk=>pD w (gQ W [k])))=.ok (.int w.ts.length):=by rw[dq];unfold rng;simp
 have hn1:Df (.int 1)=.ok (.int (-1)):=rfl;have hdn:mz [.int ((w.ts.length:Int)-1),.int (-1),.int (-1)]=.ok (.lst (fU w.ts.length ((w.ts.length:Int)-1))):=by
  have h:=C0 (i:=(w.ts.length:Int)-1) ⟨by omega,by omega⟩;rw[show((w.ts.length:Int)-1+1).toNat=w.ts.length by omega]at h;exact h
 have hez:lG (.str z) (.str z)=.ok (.bl true):=by rw[zo rfl rfl,cn,beq_self_eq_true]
 by_cases h0:w.ts.length=0
 .have hne:iW (.lst ((rng w.ts.length).map λk=>pD w (gQ W [k]))) (.lst [])=.ok (.bl false):=by rw[h0];rfl
  have hrp:wo (.lst [.int 0]) (.int 0)=.ok (.lst []):=rfl;have had:cb (.lst (fU w.ts.length ((w.ts.length:Int)-1))) (.lst [])=.ok (.lst []):=by rw[h0];rfl
  have hfo:∀ρ,bK (bF 4) vB [] ρ=.ok (.nx ρ):=λ_=>rfl;unfold vB at hfo;open_line with[bP,gK,hz,CY,hfar,hget,hwi,hwl,gW,hn1,hdn,hne,hrp,had,hfo,hez]
 .have hsh:aY 40 (.lst ((rng w.ts.length).map λk=>pD w (gQ W [k])))=true:=List.all_eq_true.mpr λd hd=>by
   obtain⟨k,_,rfl⟩:=List.mem_map.mp hd;cases gQ W [k]<;>rfl
  have hne:iW (.lst ((rng w.ts.length).map λk=>pD w (gQ W [k]))) (.lst [])=.ok (.bl true):=by
   have h2:iW (.lst ((rng w.ts.length).map λk=>pD w (gQ W [k]))) (.lst [])=.ok (.bl (!(cn (.lst ((rng w.ts.length).map λk=>pD w (gQ W [k]))) (.lst [])))):=if_pos ⟨hsh,rfl⟩;have hl:((rng w.ts.length).map λk=>pD w (gQ W [k])).length=w.ts.length:=by unfold rng;rw[List.length_map,List.length_range]
   rw[h2,nh,ix _ _ (by rw[hl];simpa using h0)];rfl
  have hrp:wo (.lst [.int 0]) (.int 1)=.ok (.lst [.int 0]):=rfl;have had:cb (.lst (fU w.ts.length ((w.ts.length:Int)-1))) (.lst [.int 0])=.ok (.lst (fU w.ts.length ((w.ts.length:Int)-1)++[.int 0])):=if_pos (by rw[v7];simp;exact Nat.le_trans (show w.ts.length+1<=15 by omega) (by decide));obtain⟨y,hfo⟩:=zZ W hw (fU w.ts.length ((w.ts.length:Int)-1)++[.int 0]) (λd hd=>by
   rcases List.mem_append.mp hd with hd|hd
   .obtain⟨m,hm⟩:∃m,w.ts.length=m+1:=⟨w.ts.length-1,by omega⟩
    rw[hm,show((m+1:Nat):Int)-1=(m:Int) by omega]at hd;obtain⟨k,k1,k2⟩:=v5 (m+1) m (by omega) d hd;exact⟨k,by omega,k2⟩
   .exact⟨0,by omega,by simpa using hd⟩) (.str z) .no
  unfold vB at hfo;open_line with[bP,gK,hz,CY,hfar,hget,hwi,hwl,gW,hn1,hdn,hne,hrp,had,hfo,hez]
end
open K20 (tU gY nE rng zo)
section
variable {s t:Ev->ac->ai c8}{ρ:Ev}{st ds es:ac}{d d0:D}{n i:Nat}{a:Addr}{f0:al}{fa:Ev->ai (ac)}
def Je(es:ac)(fa:Ev->ai (ac))(ρ:Ev)(st:ac)(d0:D):ai c8:=(fa ρ).bind λds=>if ds.length+2<=line then .ok (.rt (.tup (d0::.lst es::ds)) st) else .stuck
def Jd(es:ac)(st:ac)(d0:D)(ds:ac):ai c8:=if ds.length+2<=line then .ok (.rt (.tup (d0::.lst es::ds)) st) else .stuck
def Cn:uI n b a st ds=(b a (.pt a::ds.map Sl.sh++List.replicate (n-(ds.length+1)) .no) st).bind wZ:=aF rfl
def yN:wZ (.rt (.tup ds) st)=.ok (.tup ds,st):=aF rfl
def Cm:jd s t ρ st=(s ρ st).bind (xx t):=aF rfl
def yM:xx t (.nx ρ st)=t ρ st:=aF rfl
def Co:yU i f0 fa ρ st=yq f0 fa ρ st ρ[i]?:=aF rfl
def yQ:yq f0 fa ρ st (some (.ow (.lst es)))=(f0 ρ).bind (Je es fa ρ st):=aF rfl
def yP:Je es fa ρ st d0=(fa ρ).bind (Jd es st d0):=aF rfl
def yO:Jd es st d0 [x,y]=.ok (.rt (.tup [d0,.lst es,x,y]) st):=aF rfl
end
def II(a:Addr){p q:Nat}(hp:2<=p/\p<=7)(hq:q<=14)(h:St st):∃(w:gh) (st':ac),cS a st [.int (p:Int),.int (q:Int)]=.ok (bA w,st')/\cK w/\(∀t∈w.ts,dU t)/\St st':=by
 obtain⟨m,st1,t1,m0,m1,S1⟩:=bV a (n:=(p:Int)-1) (by omega) (by omega) h;obtain⟨m,rfl⟩:=Int.eq_ofNat_of_zero_le m0;obtain⟨css,st2,t2,hcl,hnd,hall,S2⟩:=Cj a (n:=2+m) (by omega) S1;have hnm:Cod.nmsD css=(css.map Cod.S).map D.str:=by unfold Cod.nmsD;rw[List.map_map];rfl
 have hzl:(css.map Cod.S).length=2+m:=by rw[List.length_map,hcl]
 have nd:(css.map Cod.S).Nodup:=by
  rw[List.nodup_iff_pairwise_ne,List.pairwise_map];exact List.Pairwise.imp (λh z=>h (Cod.S_inj z)) (List.nodup_iff_pairwise_ne.mp hnd)
 have nm:lD (css.map Cod.S):=⟨nd,λz hz=>by
  obtain⟨cs,hc,rfl⟩:=List.mem_map.mp hz;exact(hall cs hc).nameB⟩
 rw[hnm]at t2;generalize css.map Cod.S=zs at *;have hlen:dE (.lst (zs.map D.str))=.ok (.int zs.length):=by rw[dq,List.length_map]
 have hn0:((zs.length:Int)==0)=false:=beq_eq_false_iff_ne.mpr (by omega);obtain⟨c,st3,t3,c0,c1,S3⟩:=bV a (n:=(q:Int)+1) (by omega) (by omega) S2;obtain⟨c,rfl⟩:=Int.eq_ofNat_of_zero_le c0;have hlenI:(DL.intsFrom 0 c).length=c:=by unfold DL.intsFrom;simp
 obtain⟨ρ2,st4,hl,ts,x6,rfl,htl,hts,S4⟩:=vz (tg:=bF 6) (body:=(b7 (Cv 5 (cg 0 a (bO (mP (ae 3)) (bO (mP (ae 6)) dh)) cp))
 dN))
  (λj ρ st=>∃(ts:List wG) (x6:Sl),ρ=[.pt a,.sh (.int (p:Int)),.sh (.int (q:Int)),.sh (.lst (zs.map D.str)),.sh (.int (zs.length:Int)),.ow (.lst (ts.map bu)),x6,.no,.no]/\ts.length=j/\(∀t∈ts,qp zs t/\dU t)/\St st) (DL.intsFrom 0 c) (by
   rintro j d ρ st hj ⟨ts,x6,rfl,rfl,hts,S⟩;have hjt:ts.length<c:=by have:=(List.getElem?_eq_some_iff.mp hj).1;omega
   have hd:d=.int (ts.length:Int):=by
    unfold DL.intsFrom at hj;rw[List.getElem?_map,List.getElem?_range hjt]at hj;simp at hj;exact hj.symm
   subst hd;obtain⟨t,st',tt,tk,ta,S'⟩:=D8 a (zs:=zs) (k:=ts.length) (by omega) (by omega) nd S;have hap:decide ((ts.map bu).length<=999)=true:=decide_eq_true (by rw[List.length_map];omega);refine⟨_,[.pt a,.sh (.int (p:Int)),.sh (.int (q:Int)),.sh (.lst (zs.map D.str)),.sh (.int (zs.length:Int)),.ow (.lst ((ts++[t]).map bu)),.sh (.int (ts.length:Int)),.no,.no],st',rfl,.inl ?_,ts++[t],_,rfl,by simp,λu hu=>?_,S'⟩
   .open_line with[tt,tW hap,List.map_append]
   .rw[List.mem_append]at hu
    rcases hu with hu|hu
    .exact hts u hu
    .have:u=t:=by simpa using hu
     subst this;exact⟨tk,ta⟩) 0 [.pt a,.sh (.int (p:Int)),.sh (.int (q:Int)),.sh (.lst (zs.map D.str)),.sh (.int (zs.length:Int)),.ow (.lst []),.no,.no,.no] st3 (Nat.zero_le _) ⟨[],_,rfl,rfl,λt ht=>by simp at ht,S3⟩
 rw[List.drop_zero]at hl;rw[hlenI]at htl;have hsr:tJ (.int (c:Int),st3)=.ok (DL.intsFrom 0 c,st3):=pz (by omega);have h2m:(2:Int)+(m:Int)=((2+m:Nat):Int):=by omega
 rw[←h2m]at t2;obtain⟨g,st5,t5,g0,g1,S5⟩:=bV a (n:=2) (by decide) (by decide) S4;cases hg:(g==0) with
 |true=>
  obtain⟨d,st6,t6,d0,d1,S6⟩:=bV a (n:=(zs.length:Int)) (by omega) (by omega) S5;obtain⟨e,st7,t7,e0,e1,S7⟩:=bV a (n:=(zs.length:Int)-1) (by omega) (by omega) S6;obtain⟨hr,hne⟩:=sL (n:=(zs.length:Int)) (d:=d) (e:=e) (by omega) d0 d1 e0 e1;obtain⟨z1,k1,j1⟩:=lJ (zs:=zs) d0 d1;obtain⟨z2,k2,j2⟩:=lJ (zs:=zs) hr.1 hr.2;have hz12:z1≠z2:=jT nd k1 k2 (by omega);refine⟨⟨zs,ts,z1,z2⟩,st7,?_,⟨by show 2<=zs.length;omega,by show zs.length<=7;omega,nm,by show ts.length<=14;omega,λt ht=>(hts t ht).1,List.mem_of_getElem? k1,List.mem_of_getElem? k2,hz12⟩,λt ht=>(hts t ht).2,S7⟩;open_line with[cS,jA,Cn,yN,Cm,yM,Co,yQ,yP,yO,gW,t1,t2,hlen,t3,hsr,hl,t5,hg,t6,t7,hn0,j1,j2,bA]
 |false=>
  obtain⟨z1,k1,j1⟩:=lJ (zs:=zs) (k:=0) (by decide) (by omega);obtain⟨z2,k2,j2⟩:=lJ (zs:=zs) (k:=(zs.length:Int)-1) (by omega) (by omega);have hz12:z1≠z2:=jT nd k1 k2 (by omega);refine⟨⟨zs,ts,z1,z2⟩,st5,?_,⟨by show 2<=zs.length;omega,by show zs.length<=7;omega,nm,by show ts.length<=14;omega,λt ht=>(hts t ht).1,List.mem_of_getElem? k1,List.mem_of_getElem? k2,hz12⟩,λt ht=>(hts t ht).2,S5⟩;open_line with[cS,jA,Cn,yN,Cm,yM,Co,yQ,yP,yO,gW,t1,t2,hlen,t3,hsr,hl,t5,hg,j1,j2,bA]
def turn(w:gh):gh:={ w with ts:=w.ts.drop 1++w.ts.take 1 }
def uD:t∈(turn w).ts↔t∈w.ts:=by
 show t∈w.ts.drop 1++w.ts.take 1↔_;rw[List.mem_append,Or.comm,←List.mem_append,List.take_append_drop]
def Bf:(turn w).ts.length=w.ts.length:=by
 show(w.ts.drop 1++w.ts.take 1).length=_;rw[List.length_append,Nat.add_comm,←List.length_append,List.take_append_drop]
def sT(W:cK w):cK (turn w):={ W with t14:=by rw[Bf];exact W.t14,ts:=λt ht=>W.ts t (uD.mp ht) }
abbrev wl(w:gh):ac:=[.lst (w.ps.map D.str),.lst (w.ts.map bu),.str w.fi,.str w.la]
noncomputable abbrev oB:am :=
 (aw (dH (cF (au (ah (ae 2) aG) bP))
 (aw (bB (dC (.bl false)))
 ao)
 ao)
 (aw (dH (aa (aa (ae 2) (dC (.int 1)) aP) (au aG du) iW)
 (aw (Bx 2)
 (aw (dH (cF (au (ah (ae 2) aG) bP))
 (aw (bB (dC (.bl false)))
 ao)
 ao)
 ao))
 ao)
 ao))
def Bg(W:cK w)(hw:∀t∈w.ts,dU t)(d0 d1:D):∃ds,oB [.sh d0,.sh d1,.ox 1 (wl w)]=.ok (.nx [.sh d0,.sh d1,.ox 1 ds]):=by
 have h1:bP [.tup (wl w)]=.ok (.bl true):=uK W hw;have i1:aP (.tup (wl w)) (.int 1)=.ok (.lst (w.ts.map bu)):=rfl;cases hts:w.ts with
 |nil=>
  have hne:iW (.lst (w.ts.map bu)) (.lst [])=.ok (.bl false):=by rw[hts];rfl
  refine⟨wl w,?_⟩;open_line with[h1,i1,hne]
 |cons t ts=>
  have hne:iW (.lst (w.ts.map bu)) (.lst [])=.ok (.bl true):=by
   have hsh:aY 40 (.lst (w.ts.map bu))=true:=List.all_eq_true.mpr λd hd=>by
    obtain⟨u,_,rfl⟩:=List.mem_map.mp hd;unfold bu;cases u.o<;>rfl
   have h2:iW (.lst (w.ts.map bu)) (.lst [])=.ok (.bl (!(cn (.lst (w.ts.map bu)) (.lst [])))):=if_pos ⟨hsh,rfl⟩;rw[h2,nh,ix _ _ (by rw[hts];simp)];rfl
  have h3:bP [.tup (wl (turn w))]=.ok (.bl true):=uK (sT W) λu hu=>hw u (uD.mp hu);have t14:=W.t14;have hro:Bx 2 [.sh d0,.sh d1,.ox 1 (wl w)]=.ok (.nx [.sh d0,.sh d1,.ox 1 (wl (turn w))]):=by
   have e:wl (turn w)=(wl w).set 1 (.lst (ts.map bu++[bu t])):=by
    show[_,D.lst ((w.ts.drop 1++w.ts.take 1).map bu),_,_]=_;rw[hts,List.map_append];rfl
   rw[e];show GK 2 [.sh d0,.sh d1,.ox 1 (wl w)] (wl w) (some (.lst (w.ts.map bu)))=_;rw[hts,List.map_cons];exact if_pos (by rw[List.length_map];rw[hts,List.length_cons]at t14;exact Nat.lt_of_lt_of_le (show ts.length<14 by omega) (by decide))
  refine⟨wl (turn w),?_⟩;open_line with[h1,i1,hne,hro,h3]
def Cw(ns:List Int)(hn:ns.length<=63):m_law [.lst (ns.map D.int)]=.ok (.bl true):=by
 obtain⟨q,m,hm,h1,hq⟩:∃(q:Int) (m:Nat),m<=2/\Fe (.int ns.length) (.int 2)=.ok (.int q)/\(if q > 1 then q else 1)=(m:Int):=by
  have h1:Fe (.int ns.length) (.int 2)=.ok (.int (if(2:Int)<ns.length then 2 else ns.length)):=rfl;refine⟨_,(if(if(2:Int)<ns.length then 2 else(ns.length:Int)) > 1 then(if(2:Int)<ns.length then 2 else(ns.length:Int)) else 1).toNat,?_,h1,?_⟩
  .split<;>split<;>omega
  .split<;>split<;>omega
 have hstep:∀k,k<m->∀ρ:Ev,(∃s,ρ=[.sh (.lst (ns.map D.int)),s,.no]) ->
   ∃ρ2,(fu 2 (Ds (au (ah (ae 0) (ah (ae 1) aG)) bH) (ah (dC (.int 7)) (ah (dC (.int 14)) aG))) cS oB) (ρ.set 1 (.sh (.int (k:Int))))=.ok (.nx ρ2)/\∃s,ρ2=[.sh (.lst (ns.map D.int)),s,.no]:=by
  rintro k hk ρ ⟨s,rfl⟩;obtain⟨st,hb,S⟩:=Dp ns k (by omega) hn;refine⟨[.sh (.lst (ns.map D.int)),.sh (.int (k:Int)),.no],?_,_,rfl⟩;have h1:(au (ah (ae 0) (ah (ae 1) aG)) bH) [.sh (.lst (ns.map D.int)),.sh (.int (k:Int)),.no]=.ok (.lst st):=by
   open_line with[hb]
  have h2:(Ds (au (ah (ae 0) (ah (ae 1) aG)) bH) (ah (dC (.int 7)) (ah (dC (.int 14)) aG))) [.sh (.lst (ns.map D.int)),.sh (.int (k:Int)),.no]=.ok [.lst st,.int 7,.int 14]:=by
   unfold Ds;rw[h1,fz];rfl
  show fu 2 _ _ _ [.sh (.lst (ns.map D.int)),.sh (.int (k:Int)),.no]=_;unfold fu;rw[h2,fz];unfold ni;show(if Aw 2 [.sh (.lst (ns.map D.int)),.sh (.int (k:Int)),.no]=true then _ else _)=_;rw[if_pos (show Aw 2 [.sh (.lst (ns.map D.int)),.sh (.int (k:Int)),.no]=true from rfl)];refine ER λa=>?_;obtain⟨w,st1,t1,W,hw,S1⟩:=II a (p:=7) (q:=14) ⟨by decide,by decide⟩ (by decide) S;have t1:cS a st [.int 7,.int 14]=.ok (bA w,st1):=t1;obtain⟨ds,e⟩:=Bg W hw (.lst (ns.map D.int)) (.int (k:Int));rw[t1];show Dh 2 (oB [.sh (.lst (ns.map D.int)),.sh (.int (k:Int)),.ox 1 (wl w)])=_;rw[e];rfl
 obtain⟨ρ',hf,s,rfl⟩:=zh (i:=1) (body:=(fu 2 (Ds (au (ah (ae 0) (ah (ae 1) aG)) bH) (ah (dC (.int 7)) (ah (dC (.int 14)) aG))) cS oB)) (λ_ ρ=>∃s,ρ=[.sh (.lst (ns.map D.int)),s,.no]) (n:=m) hstep (ρ:=[.sh (.lst (ns.map D.int)),.no,.no]) ⟨.no,rfl⟩;have hfr:=λs:am=>jY (tg:=bF 1) (s:=s) (ρ:=[.sh (.lst (ns.map D.int)),.no,.no]) (k:=m) (by omega);unfold m_law F9;open_line with[List.length_map,h1,hq,hfr,hf]
end K18
namespace K18
open PySem L2 DL
def sp_law(K:W.Frag)(H:Hp)(a:Addr)(ns:List Int)(hl:ns.length<=63)(hS:d9 K H a (ns.map V.int)):spD K 1 m_law [.ref a] H (λv _=>v=.bl true) λ_ _ _=>False:=by
 refine⟨rfl,H,[.lst (ns.map D.int)],aA.refl _,Reps.cons (aE.mpr ⟨a,_,rfl,hS,sP ns⟩) Reps.nil,?_⟩;rw[Cw ns hl];exact λv H' Ha' _ r=>aH.mp r
end K18
structure PySem.W.Fast:Prop where(tw17700762748109648062 tw8080645039943121352 tw15459620113907997554 tw16007306971604773692 tw11036664358486700915 tw5481396202125914061 tw16720019121150819751 tw16786499139097880045 tw16285030029380262649 tw800815171431235852 tw18286375745967083315 tw10931291541934578609 tw8616666017137218724 tw16735559326590200140 tw16423134036336010317 tw12111319369827017361 tw11831921559970858802 tw13252273532124193511 tw1728281971092422093 tw2806469096510957149 tw6616040110509162824 tw7671687897829093274 tw6049983664834287224 tw15244511918990530975 tw2462310988154157153 tw4610731267380871140 tw6530536969728424170 tw16122757239862113111 tw3683345265476713476 tw12857396169626070830 tw3603741358866203083 tw6799313852346270083 tw6552645223530139083 tw8297052904801507634 tw16481251944369252665 tw8274411776812879034 tw3481735880434816258 tw167710649008600912 tw8151296361966057581 tw11382322183346912849 tw12291835358991644368 tw111729635623121225 tw6263038800257774310 tw2899161044620744486 tw16074278679341329642 tw6700680367472371240 tw18414390963796222397 tw18214523890011255050 tw14042932392445187667 tw11964595159333323111 tw11883662239481762584 tw15906003015111393671 tw15096949099407517501 tw7795418448273644221 tw5763400684468613609 tw14729467709891534648 tw354872986915881120 tw7202931533386755851 tw11721594129575148346 tw16022773706155782222 tw517365075386045742 tw2350363135878821971 tw14085434881411045040 tw7941023075237570211 tw18381818606012517399 tw17866903189859398950 tw12389607075554996371 tw6220075424887207695 tw14838193433301744195 tw6456130952869145797 tw6338773457487284236 tw16895361367594211788 tw14024213005866621472 tw17053940947147148817 tw12797006462569159846 tw7609380608982317297 tw18231429223603077454 tw263178021960899806 tw3832394192100489842 tw16109028643044235692 tw12158612633316142022 tw951412455014025631 tw18261326761972825940 tw3200134524921741826 tw17779815121989809867 tw16866437534306325291 tw14606921108810474081 tw11628452078826130917 tw8515820606260538849 tw16555125979762836043 tw17883533624525061066 tw8927230930796210796 tw7549350739629106182 tw9192144067204662667 tw868579357574148195 tw16049397351073585702 tw8368898809986832716 tw14118327818489358540 tw10181009664666850797 tw970039889753638069 tw2774059259434674997 tw15251305376238536588 tw15723857831217263103 tw7808023141613864466 tw10326427248183653702 tw6851580482400482535:True)
open PySem PySem.W PyProof.Rows
set_option maxRecDepth 100000 in
set_option maxHeartbeats 0 in
theorem PySem.Challenge.cw_farthestcut_k18_values_one_by_one_holds : PySem.Challenge.rw_farthestcut_k18_values_one_by_one.Holds := by
 w_on;o_law;k_head;(case hw=>w_witness2)
 k_fill
 refine L2.walk_ofK (l:=PySem.Challenge.rw_farthestcut_k18_values_one_by_one) (n:=63) (k:=9) (x:="_law_script") (CX:=L2.CX0) (sp:=fun K=>DL.spD K 1 K18.m_law) ?I rfl (by decide) rfl ⟨rfl,by decide,by decide,rfl⟩ (fun w h Y=>W.kIn_of Y) ?F ?S ?C
 case S=>exact fun K H a ns hl _ hS=>K18.sp_law K H a ns hl hS
 case C=>exact fun _ _ _ _ h=>h
 case I=>rfl
 case F =>
  intro w mg fa h KX G hmg;have T:∃ t:K18.Adr,K18.Txt (L2.KOf KX) mg t/\mg "law"=some (.ref (t.A 40))/\∃ kV doc pm an cdv ct,t.Q 40=W.fnOf "law" "law" (L2.defArgs (K18.top 70)) (L2.defBody (K18.top 70)) (L2.defScope (K18.top 70)) .none kV doc pm an cdv ct:=by
   dsimp only[L2.KOf];refine' K18.txt_wr (K18.txt_mk KX G ?QS ?_ ?_ ?_ ?_ ?_ ?_ ?_ ?_ ?_ ?_ ?_ ?_ ?_ ?_ ?_ ?_ ?_ ?_ ?_ ?_ ?_ ?_ ?_ ?_ ?_ ?_ ?_ ?_ ?_ ?_ ?_)
   case' QS=>iterate 41 refine DL.QAs.cons ⟨by k_is,by k_is,_,_,_,_,_,_,_,_,_,by k_is,by k_is⟩ ?_
   case QS=>trivial
   all_goals try first |k_is |k_exc |rfl
   exact⟨_,_,_,_,[.str "one",.str "both"],rfl,.cons ⟨_,rfl⟩ (.cons ⟨_,rfl⟩ (.nil)),by decide,fun H=>DL.Reps.cons (DL.Rep.str_iff.mpr rfl) (DL.Reps.cons (DL.Rep.str_iff.mpr rfl) (DL.Reps.nil))⟩
  obtain⟨t,T,e0,kV,doc,pm,an,cdv,ct,ed⟩:=T;have e1:=hmg.symm.trans e0;cases e1;refine⟨t.Q 40,fun s u=>?_,fun base kb nb=>(K18.ok_law T).F⟩;rw[ed];exact .of_eq rfl
